import Derived.Test.YtbocpmcodlceoaaGreatMI
namespace Go.Proofs.YtbocpmcodlceoaaGreat
open Go.RowKit Go.Shelf

/-- a sum over the sixteen numbers -/
def tot (f : Nat → Int) : Int := f 0 + f 1 + f 2 + f 3 + f 4 + f 5 + f 6 + f 7 + f 8 + f 9 + f 10 + f 11 + f 12 + f 13 + f 14 + f 15
theorem tot_congr {f g : Nat → Int} (h : ∀ j, j < 16 → g j = f j) : tot g = tot f := by
  unfold tot
  rw [h 0 (by omega), h 1 (by omega), h 2 (by omega), h 3 (by omega), h 4 (by omega), h 5 (by omega), h 6 (by omega), h 7 (by omega), h 8 (by omega), h 9 (by omega), h 10 (by omega), h 11 (by omega), h 12 (by omega), h 13 (by omega), h 14 (by omega), h 15 (by omega)]
theorem tot_pos {f : Nat → Int} (h : ∀ j, j < 16 → 0 ≤ f j) : 0 ≤ tot f := by
  unfold tot
  have h0 := h 0 (by omega)
  have h1 := h 1 (by omega)
  have h2 := h 2 (by omega)
  have h3 := h 3 (by omega)
  have h4 := h 4 (by omega)
  have h5 := h 5 (by omega)
  have h6 := h 6 (by omega)
  have h7 := h 7 (by omega)
  have h8 := h 8 (by omega)
  have h9 := h 9 (by omega)
  have h10 := h 10 (by omega)
  have h11 := h 11 (by omega)
  have h12 := h 12 (by omega)
  have h13 := h 13 (by omega)
  have h14 := h 14 (by omega)
  have h15 := h 15 (by omega)
  omega
theorem tot_upd {f g : Nat → Int} {i : Nat} (hi : i < 16) (h : ∀ j, j < 16 → j ≠ i → g j = f j) : tot g = tot f - f i + g i := by
  have hi' : i = 0 ∨ i = 1 ∨ i = 2 ∨ i = 3 ∨ i = 4 ∨ i = 5 ∨ i = 6 ∨ i = 7 ∨ i = 8 ∨ i = 9 ∨ i = 10 ∨ i = 11 ∨ i = 12 ∨ i = 13 ∨ i = 14 ∨ i = 15 := by omega
  unfold tot
  rcases hi' with rfl | rfl | rfl | rfl | rfl | rfl | rfl | rfl | rfl | rfl | rfl | rfl | rfl | rfl | rfl | rfl
  · have h1 := h 1 (by omega) (by omega)
    have h2 := h 2 (by omega) (by omega)
    have h3 := h 3 (by omega) (by omega)
    have h4 := h 4 (by omega) (by omega)
    have h5 := h 5 (by omega) (by omega)
    have h6 := h 6 (by omega) (by omega)
    have h7 := h 7 (by omega) (by omega)
    have h8 := h 8 (by omega) (by omega)
    have h9 := h 9 (by omega) (by omega)
    have h10 := h 10 (by omega) (by omega)
    have h11 := h 11 (by omega) (by omega)
    have h12 := h 12 (by omega) (by omega)
    have h13 := h 13 (by omega) (by omega)
    have h14 := h 14 (by omega) (by omega)
    have h15 := h 15 (by omega) (by omega)
    omega
  · have h0 := h 0 (by omega) (by omega)
    have h2 := h 2 (by omega) (by omega)
    have h3 := h 3 (by omega) (by omega)
    have h4 := h 4 (by omega) (by omega)
    have h5 := h 5 (by omega) (by omega)
    have h6 := h 6 (by omega) (by omega)
    have h7 := h 7 (by omega) (by omega)
    have h8 := h 8 (by omega) (by omega)
    have h9 := h 9 (by omega) (by omega)
    have h10 := h 10 (by omega) (by omega)
    have h11 := h 11 (by omega) (by omega)
    have h12 := h 12 (by omega) (by omega)
    have h13 := h 13 (by omega) (by omega)
    have h14 := h 14 (by omega) (by omega)
    have h15 := h 15 (by omega) (by omega)
    omega
  · have h0 := h 0 (by omega) (by omega)
    have h1 := h 1 (by omega) (by omega)
    have h3 := h 3 (by omega) (by omega)
    have h4 := h 4 (by omega) (by omega)
    have h5 := h 5 (by omega) (by omega)
    have h6 := h 6 (by omega) (by omega)
    have h7 := h 7 (by omega) (by omega)
    have h8 := h 8 (by omega) (by omega)
    have h9 := h 9 (by omega) (by omega)
    have h10 := h 10 (by omega) (by omega)
    have h11 := h 11 (by omega) (by omega)
    have h12 := h 12 (by omega) (by omega)
    have h13 := h 13 (by omega) (by omega)
    have h14 := h 14 (by omega) (by omega)
    have h15 := h 15 (by omega) (by omega)
    omega
  · have h0 := h 0 (by omega) (by omega)
    have h1 := h 1 (by omega) (by omega)
    have h2 := h 2 (by omega) (by omega)
    have h4 := h 4 (by omega) (by omega)
    have h5 := h 5 (by omega) (by omega)
    have h6 := h 6 (by omega) (by omega)
    have h7 := h 7 (by omega) (by omega)
    have h8 := h 8 (by omega) (by omega)
    have h9 := h 9 (by omega) (by omega)
    have h10 := h 10 (by omega) (by omega)
    have h11 := h 11 (by omega) (by omega)
    have h12 := h 12 (by omega) (by omega)
    have h13 := h 13 (by omega) (by omega)
    have h14 := h 14 (by omega) (by omega)
    have h15 := h 15 (by omega) (by omega)
    omega
  · have h0 := h 0 (by omega) (by omega)
    have h1 := h 1 (by omega) (by omega)
    have h2 := h 2 (by omega) (by omega)
    have h3 := h 3 (by omega) (by omega)
    have h5 := h 5 (by omega) (by omega)
    have h6 := h 6 (by omega) (by omega)
    have h7 := h 7 (by omega) (by omega)
    have h8 := h 8 (by omega) (by omega)
    have h9 := h 9 (by omega) (by omega)
    have h10 := h 10 (by omega) (by omega)
    have h11 := h 11 (by omega) (by omega)
    have h12 := h 12 (by omega) (by omega)
    have h13 := h 13 (by omega) (by omega)
    have h14 := h 14 (by omega) (by omega)
    have h15 := h 15 (by omega) (by omega)
    omega
  · have h0 := h 0 (by omega) (by omega)
    have h1 := h 1 (by omega) (by omega)
    have h2 := h 2 (by omega) (by omega)
    have h3 := h 3 (by omega) (by omega)
    have h4 := h 4 (by omega) (by omega)
    have h6 := h 6 (by omega) (by omega)
    have h7 := h 7 (by omega) (by omega)
    have h8 := h 8 (by omega) (by omega)
    have h9 := h 9 (by omega) (by omega)
    have h10 := h 10 (by omega) (by omega)
    have h11 := h 11 (by omega) (by omega)
    have h12 := h 12 (by omega) (by omega)
    have h13 := h 13 (by omega) (by omega)
    have h14 := h 14 (by omega) (by omega)
    have h15 := h 15 (by omega) (by omega)
    omega
  · have h0 := h 0 (by omega) (by omega)
    have h1 := h 1 (by omega) (by omega)
    have h2 := h 2 (by omega) (by omega)
    have h3 := h 3 (by omega) (by omega)
    have h4 := h 4 (by omega) (by omega)
    have h5 := h 5 (by omega) (by omega)
    have h7 := h 7 (by omega) (by omega)
    have h8 := h 8 (by omega) (by omega)
    have h9 := h 9 (by omega) (by omega)
    have h10 := h 10 (by omega) (by omega)
    have h11 := h 11 (by omega) (by omega)
    have h12 := h 12 (by omega) (by omega)
    have h13 := h 13 (by omega) (by omega)
    have h14 := h 14 (by omega) (by omega)
    have h15 := h 15 (by omega) (by omega)
    omega
  · have h0 := h 0 (by omega) (by omega)
    have h1 := h 1 (by omega) (by omega)
    have h2 := h 2 (by omega) (by omega)
    have h3 := h 3 (by omega) (by omega)
    have h4 := h 4 (by omega) (by omega)
    have h5 := h 5 (by omega) (by omega)
    have h6 := h 6 (by omega) (by omega)
    have h8 := h 8 (by omega) (by omega)
    have h9 := h 9 (by omega) (by omega)
    have h10 := h 10 (by omega) (by omega)
    have h11 := h 11 (by omega) (by omega)
    have h12 := h 12 (by omega) (by omega)
    have h13 := h 13 (by omega) (by omega)
    have h14 := h 14 (by omega) (by omega)
    have h15 := h 15 (by omega) (by omega)
    omega
  · have h0 := h 0 (by omega) (by omega)
    have h1 := h 1 (by omega) (by omega)
    have h2 := h 2 (by omega) (by omega)
    have h3 := h 3 (by omega) (by omega)
    have h4 := h 4 (by omega) (by omega)
    have h5 := h 5 (by omega) (by omega)
    have h6 := h 6 (by omega) (by omega)
    have h7 := h 7 (by omega) (by omega)
    have h9 := h 9 (by omega) (by omega)
    have h10 := h 10 (by omega) (by omega)
    have h11 := h 11 (by omega) (by omega)
    have h12 := h 12 (by omega) (by omega)
    have h13 := h 13 (by omega) (by omega)
    have h14 := h 14 (by omega) (by omega)
    have h15 := h 15 (by omega) (by omega)
    omega
  · have h0 := h 0 (by omega) (by omega)
    have h1 := h 1 (by omega) (by omega)
    have h2 := h 2 (by omega) (by omega)
    have h3 := h 3 (by omega) (by omega)
    have h4 := h 4 (by omega) (by omega)
    have h5 := h 5 (by omega) (by omega)
    have h6 := h 6 (by omega) (by omega)
    have h7 := h 7 (by omega) (by omega)
    have h8 := h 8 (by omega) (by omega)
    have h10 := h 10 (by omega) (by omega)
    have h11 := h 11 (by omega) (by omega)
    have h12 := h 12 (by omega) (by omega)
    have h13 := h 13 (by omega) (by omega)
    have h14 := h 14 (by omega) (by omega)
    have h15 := h 15 (by omega) (by omega)
    omega
  · have h0 := h 0 (by omega) (by omega)
    have h1 := h 1 (by omega) (by omega)
    have h2 := h 2 (by omega) (by omega)
    have h3 := h 3 (by omega) (by omega)
    have h4 := h 4 (by omega) (by omega)
    have h5 := h 5 (by omega) (by omega)
    have h6 := h 6 (by omega) (by omega)
    have h7 := h 7 (by omega) (by omega)
    have h8 := h 8 (by omega) (by omega)
    have h9 := h 9 (by omega) (by omega)
    have h11 := h 11 (by omega) (by omega)
    have h12 := h 12 (by omega) (by omega)
    have h13 := h 13 (by omega) (by omega)
    have h14 := h 14 (by omega) (by omega)
    have h15 := h 15 (by omega) (by omega)
    omega
  · have h0 := h 0 (by omega) (by omega)
    have h1 := h 1 (by omega) (by omega)
    have h2 := h 2 (by omega) (by omega)
    have h3 := h 3 (by omega) (by omega)
    have h4 := h 4 (by omega) (by omega)
    have h5 := h 5 (by omega) (by omega)
    have h6 := h 6 (by omega) (by omega)
    have h7 := h 7 (by omega) (by omega)
    have h8 := h 8 (by omega) (by omega)
    have h9 := h 9 (by omega) (by omega)
    have h10 := h 10 (by omega) (by omega)
    have h12 := h 12 (by omega) (by omega)
    have h13 := h 13 (by omega) (by omega)
    have h14 := h 14 (by omega) (by omega)
    have h15 := h 15 (by omega) (by omega)
    omega
  · have h0 := h 0 (by omega) (by omega)
    have h1 := h 1 (by omega) (by omega)
    have h2 := h 2 (by omega) (by omega)
    have h3 := h 3 (by omega) (by omega)
    have h4 := h 4 (by omega) (by omega)
    have h5 := h 5 (by omega) (by omega)
    have h6 := h 6 (by omega) (by omega)
    have h7 := h 7 (by omega) (by omega)
    have h8 := h 8 (by omega) (by omega)
    have h9 := h 9 (by omega) (by omega)
    have h10 := h 10 (by omega) (by omega)
    have h11 := h 11 (by omega) (by omega)
    have h13 := h 13 (by omega) (by omega)
    have h14 := h 14 (by omega) (by omega)
    have h15 := h 15 (by omega) (by omega)
    omega
  · have h0 := h 0 (by omega) (by omega)
    have h1 := h 1 (by omega) (by omega)
    have h2 := h 2 (by omega) (by omega)
    have h3 := h 3 (by omega) (by omega)
    have h4 := h 4 (by omega) (by omega)
    have h5 := h 5 (by omega) (by omega)
    have h6 := h 6 (by omega) (by omega)
    have h7 := h 7 (by omega) (by omega)
    have h8 := h 8 (by omega) (by omega)
    have h9 := h 9 (by omega) (by omega)
    have h10 := h 10 (by omega) (by omega)
    have h11 := h 11 (by omega) (by omega)
    have h12 := h 12 (by omega) (by omega)
    have h14 := h 14 (by omega) (by omega)
    have h15 := h 15 (by omega) (by omega)
    omega
  · have h0 := h 0 (by omega) (by omega)
    have h1 := h 1 (by omega) (by omega)
    have h2 := h 2 (by omega) (by omega)
    have h3 := h 3 (by omega) (by omega)
    have h4 := h 4 (by omega) (by omega)
    have h5 := h 5 (by omega) (by omega)
    have h6 := h 6 (by omega) (by omega)
    have h7 := h 7 (by omega) (by omega)
    have h8 := h 8 (by omega) (by omega)
    have h9 := h 9 (by omega) (by omega)
    have h10 := h 10 (by omega) (by omega)
    have h11 := h 11 (by omega) (by omega)
    have h12 := h 12 (by omega) (by omega)
    have h13 := h 13 (by omega) (by omega)
    have h15 := h 15 (by omega) (by omega)
    omega
  · have h0 := h 0 (by omega) (by omega)
    have h1 := h 1 (by omega) (by omega)
    have h2 := h 2 (by omega) (by omega)
    have h3 := h 3 (by omega) (by omega)
    have h4 := h 4 (by omega) (by omega)
    have h5 := h 5 (by omega) (by omega)
    have h6 := h 6 (by omega) (by omega)
    have h7 := h 7 (by omega) (by omega)
    have h8 := h 8 (by omega) (by omega)
    have h9 := h 9 (by omega) (by omega)
    have h10 := h 10 (by omega) (by omega)
    have h11 := h 11 (by omega) (by omega)
    have h12 := h 12 (by omega) (by omega)
    have h13 := h 13 (by omega) (by omega)
    have h14 := h 14 (by omega) (by omega)
    omega
theorem tot_le {f : Nat → Int} {i : Nat} (hi : i < 16) (h : ∀ j, j < 16 → 0 ≤ f j) : f i ≤ tot f := by
  have h1 := tot_upd (f := fun j => if j = i then 0 else f j) (g := f) hi (fun j _ hj => by simp [hj])
  have h2 := tot_pos (f := fun j => if j = i then 0 else f j) (fun j hj => by split; omega; exact h j hj)
  simp at h1
  omega
section
variable {rs rs' : List (Option Er)} {last : Int}
/-- what stands of a number but for what changes -/
def core (rs : List (Option Er)) (i : Nat) : Option (Int × Int × Qt) := (look rs (i : Int)).map (fun r => (r.se, r.pa, r.qu))
theorem core_at {i : Nat} {r : Er} (h : rs[i]? = some (some r)) : core rs i = some (r.se, r.pa, r.qu) := by unfold core; rw [look_nat, h]; rfl
theorem lv_core {i : Nat} : Lv rs i ↔ (core rs i).isSome = true := by
  unfold Lv core
  rw [look_nat]
  cases h : rs[i]? with
  | none => simp
  | some o => cases o <;> simp
/-- what a child costs -/
def prc (rs : List (Option Er)) (i : Nat) : Qt := match core rs i with | some (_, _, q) => q.plus Qt.one | none => Qt.zero
theorem kid_core {e : Int} {i : Nat} : kid rs e i = match core rs i with | some (_, p, _) => decide (p = e) | none => false := by
  unfold kid core
  rw [look_nat]
  cases h : rs[i]? with
  | none => rfl
  | some o => cases o <;> rfl
theorem ser_core {i : Nat} : ser rs i = match core rs i with | some (s, _, _) => s | none => 0 := by
  unfold ser core
  rw [look_nat]
  cases h : rs[i]? with
  | none => rfl
  | some o => cases o <;> rfl
/-- the same but for what changes -/
def Same (rs rs' : List (Option Er)) : Prop := rs'.length = rs.length ∧ ∀ i, core rs' i = core rs i
theorem Same.set {k : Nat} {r r' : Er} (h : rs[k]? = some (some r)) (h1 : r'.se = r.se) (h2 : r'.pa = r.pa) (h3 : r'.qu = r.qu) : Same rs (rs.set k (some r')) := by
  refine ⟨by simp, fun i => ?_⟩
  by_cases e : i = k
  · subst e
    rw [core_at h, core_at (r := r') (by rw [List.getElem?_set_self (List.getElem?_eq_some_iff.1 h).1]), h1, h2, h3]
  · unfold core
    rw [look_nat, look_nat, List.getElem?_set_ne (fun e' => e e'.symm)]
theorem Same.kid (h : Same rs rs') (e : Int) (i : Nat) : kid rs' e i = kid rs e i := by rw [kid_core, kid_core, h.2 i]
theorem Same.ser (h : Same rs rs') (i : Nat) : ser rs' i = ser rs i := by rw [ser_core, ser_core, h.2 i]
theorem Same.prc (h : Same rs rs') (i : Nat) : prc rs' i = prc rs i := by unfold Go.Proofs.YtbocpmcodlceoaaGreat.prc; rw [h.2 i]
theorem Same.lv (h : Same rs rs') (i : Nat) : Lv rs' i ↔ Lv rs i := by rw [lv_core, lv_core, h.2 i]
theorem none_core {i : Nat} (hi : i < rs.length) : rs[i]? = some none ↔ core rs i = none := by
  unfold core
  rw [look_nat, List.getElem?_eq_getElem hi]
  cases rs[i] <;> simp
theorem Same.fsts (h : Same rs rs') : (prs rs' 0).map Prod.fst = (prs rs 0).map Prod.fst := by
  unfold prs
  refine prsL_same _ _ _ (by simp [h.1]) (fun i => ?_)
  simp only [List.drop_zero]
  by_cases hi : i < rs.length
  · rw [none_core (by rw [h.1]; exact hi), none_core hi, h.2 i]
  · rw [List.getElem?_eq_none (by rw [h.1]; omega), List.getElem?_eq_none (by omega)]
theorem Same.kids (h : Same rs rs') (e : Int) : kids rs' e = kids rs e := by
  have h1 : kidsU rs' e = kidsU rs e := by
    unfold kidsU fitK
    rw [h.fsts]
    congr 1
    funext i; exact h.kid e i
  unfold Go.Proofs.YtbocpmcodlceoaaGreat.kids
  rw [h1]
  congr 1
  funext a b
  rw [h.ser, h.ser]
theorem Same.wk (h : Same rs rs') : ∀ n e, wk rs' n e = wk rs n e
  | 0, _ => rfl
  | n + 1, e => by
    simp only [Go.Proofs.YtbocpmcodlceoaaGreat.wk]
    rw [h.kids]
    congr 2
    funext c; exact h.wk n c
theorem Same.dp (h : Same rs rs') : ∀ n e, Dp rs n e → Dp rs' n e
  | 0, _, hd => hd
  | n + 1, e, hd => fun k hk => h.dp n k (hd k (by rw [← h.kids]; exact hk))
theorem Same.dis (h : Same rs rs') (hd : Dis rs) : Dis rs' := fun a b ha hb e => hd a b ((h.lv a).1 ha) ((h.lv b).1 hb) (by rw [← h.ser, ← h.ser]; exact e)
end
end Go.Proofs.YtbocpmcodlceoaaGreat

namespace Go.Proofs.YtbocpmcodlceoaaGreat
open Go.RowKit Go.Shelf

/-- the tree: the root, parents that live and are older, no two serials alike -/
structure Tr (rs : List (Option Er)) (last : Int) : Prop where
  len : rs.length = 16
  root : ∃ r, rs[0]? = some (some r) ∧ r.pa = -1
  par : ∀ k r, rs[k]? = some (some r) → k ≠ 0 → ∃ p : Nat, r.pa = (p : Int) ∧ Lv rs p ∧ ser rs p < ser rs k
  old : ∀ k, Lv rs k → ser rs k ≤ last
  dis : Dis rs
section
variable {rs rs' : List (Option Er)} {last : Int}
theorem lv_lt (h : Tr rs last) {k : Nat} (hk : Lv rs k) : k < 16 := by
  obtain ⟨r, hr⟩ := hk
  have := (List.getElem?_eq_some_iff.1 hr).1
  rw [h.len] at this; exact this
theorem kid_of {e : Int} {k : Nat} (h : kid rs e k = true) : ∃ r, rs[k]? = some (some r) ∧ r.pa = e := by
  obtain ⟨r, hr⟩ := kid_lv h
  rw [kid_at hr] at h
  exact ⟨r, hr, of_decide_eq_true h⟩
theorem kids_kid {e : Int} {k : Nat} (h : k ∈ kids rs e) : kid rs e k = true := by
  rw [kids_mem] at h
  unfold kidsU fitK at h
  exact (List.mem_filter.1 h).2
theorem kid_kids {e : Int} {k : Nat} (h : kid rs e k = true) : k ∈ kids rs e := by
  rw [kids_mem]
  unfold kidsU fitK
  refine List.mem_filter.2 ⟨?_, h⟩
  obtain ⟨r, hr⟩ := kid_lv h
  exact List.mem_map.2 ⟨(k, r), prs_mem.2 hr, rfl⟩
/-- a child of a number is younger, and not the root -/
theorem kid_ser (h : Tr rs last) {e k : Nat} (hk : kid rs (e : Int) k = true) : ser rs e < ser rs k ∧ k ≠ 0 ∧ Lv rs e := by
  obtain ⟨r, hr, hp⟩ := kid_of hk
  have h0 : k ≠ 0 := fun e0 => by
    subst e0
    obtain ⟨r0, h1, h2⟩ := h.root
    rw [hr] at h1; cases h1
    rw [hp] at h2; omega
  obtain ⟨p, h1, h2, h3⟩ := h.par k r hr h0
  obtain rfl : e = p := by rw [hp] at h1; omega
  exact ⟨h3, h0, h2⟩
theorem wk_lv : ∀ (n : Nat) {e c : Nat}, Lv rs e → c ∈ wk rs n e → Lv rs c
  | 0, e, c, h, hc => by simp [wk] at hc; subst hc; exact h
  | n + 1, e, c, h, hc => by
    simp only [wk, List.mem_cons, List.mem_flatMap] at hc
    rcases hc with rfl | ⟨k, hk, hc⟩
    · exact h
    · exact wk_lv n (kid_lv (kids_kid hk)) hc
theorem wk_ser (h : Tr rs last) : ∀ (n : Nat) {e c : Nat}, c ∈ wk rs n e → c = e ∨ ser rs e < ser rs c
  | 0, e, c, hc => by simp [wk] at hc; exact .inl hc
  | n + 1, e, c, hc => by
    simp only [wk, List.mem_cons, List.mem_flatMap] at hc
    rcases hc with rfl | ⟨k, hk, hc⟩
    · exact .inl rfl
    · have h1 := (kid_ser h (kids_kid hk)).1
      rcases wk_ser h n hc with rfl | h2
      · exact .inr h1
      · exact .inr (by omega)
/-- c is a or below it -/
def AncN (rs : List (Option Er)) (a : Nat) : Nat → Nat → Prop
  | 0, c => c = a
  | n + 1, c => ∃ q : Nat, kid rs (q : Int) c = true ∧ AncN rs a n q
def Anc (rs : List (Option Er)) (a c : Nat) : Prop := ∃ n, AncN rs a n c
theorem Anc.refl {a : Nat} : Anc rs a a := ⟨0, Eq.refl a⟩
theorem Anc.step {a c q : Nat} (h : kid rs (q : Int) c = true) (hq : Anc rs a q) : Anc rs a c := by
  obtain ⟨n, hn⟩ := hq
  exact ⟨n + 1, q, h, hn⟩
theorem anc_cases {a c : Nat} (h : Anc rs a c) : c = a ∨ ∃ q : Nat, kid rs (q : Int) c = true ∧ Anc rs a q := by
  obtain ⟨n, hn⟩ := h
  cases n with
  | zero => exact .inl hn
  | succ n =>
    obtain ⟨q, h1, h2⟩ := hn
    exact .inr ⟨q, h1, n, h2⟩
theorem anc_ind {a : Nat} {P : Nat → Prop} (h0 : P a) (hs : ∀ c q : Nat, kid rs (q : Int) c = true → Anc rs a q → P q → P c) {c : Nat} (h : Anc rs a c) : P c := by
  obtain ⟨n, hn⟩ := h
  induction n generalizing c with
  | zero => obtain rfl : c = a := hn; exact h0
  | succ n ih =>
    obtain ⟨q, h1, h2⟩ := hn
    exact hs c q h1 ⟨n, h2⟩ (ih h2)
theorem Anc.top {a b c : Nat} (hk : kid rs (a : Int) b = true) (h : Anc rs b c) : Anc rs a c := by
  exact anc_ind (P := fun c => Anc rs a c) (Anc.step hk Anc.refl) (fun _ _ h1 _ ih => Anc.step h1 ih) h
theorem wk_anc : ∀ (n : Nat) {e c : Nat}, c ∈ wk rs n e → Anc rs e c
  | 0, e, c, hc => by simp [wk] at hc; subst hc; exact .refl
  | n + 1, e, c, hc => by
    simp only [wk, List.mem_cons, List.mem_flatMap] at hc
    rcases hc with rfl | ⟨k, hk, hc⟩
    · exact .refl
    · exact (wk_anc n hc).top (kids_kid hk)
theorem Anc.ser (h : Tr rs last) {a c : Nat} (ha : Anc rs a c) : ser rs a ≤ ser rs c := by
  refine anc_ind (P := fun c => Go.Proofs.YtbocpmcodlceoaaGreat.ser rs a ≤ Go.Proofs.YtbocpmcodlceoaaGreat.ser rs c) (Int.le_refl _) (fun c q hk _ ih => ?_) ha
  have := (kid_ser h hk).1
  omega
theorem kid_one {c p q : Nat} (h1 : kid rs (p : Int) c = true) (h2 : kid rs (q : Int) c = true) : p = q := by
  obtain ⟨r, hr, h3⟩ := kid_of h1
  obtain ⟨r', hr', h4⟩ := kid_of h2
  rw [hr] at hr'; cases hr'
  omega
theorem anc_one (h : Tr rs last) {e a b c : Nat} (ha : kid rs (e : Int) a = true) (hb : kid rs (e : Int) b = true) (h1 : Anc rs a c) : Anc rs b c → a = b := by
  have la := (kid_ser h ha).1
  have lb := (kid_ser h hb).1
  refine anc_ind (P := fun c => Anc rs b c → a = b) (fun h2 => ?_) (fun c q hk hq ih h2 => ?_) h1
  · rcases anc_cases h2 with h3 | ⟨q, hk, hq⟩
    · exact h3
    · obtain rfl := kid_one ha hk
      have := hq.ser h
      omega
  · rcases anc_cases h2 with rfl | ⟨q2, hk2, hq2⟩
    · obtain rfl := kid_one hb hk
      have := hq.ser h
      omega
    · obtain rfl := kid_one hk hk2
      exact ih hq2
theorem prsL_nodup {α : Type} (l : List (Option α)) (s : Nat) : ((prsL s l).map Prod.fst).Nodup := by
  refine List.Pairwise.map _ (fun a b hab => ?_) (prsL_sorted l s)
  omega
theorem kids_nodup (e : Int) : (kids rs e).Nodup := by
  have h1 : (kidsU rs e).Nodup := by
    unfold kidsU fitK
    exact List.Pairwise.filter _ (prsL_nodup _ _)
  exact (List.mergeSort_perm (kidsU rs e) _).nodup_iff.2 h1
theorem wk_nodup (h : Tr rs last) : ∀ (n e : Nat), (wk rs n e).Nodup
  | 0, e => by simp [wk]
  | n + 1, e => by
    simp only [wk]
    refine List.nodup_cons.2 ⟨fun hc => ?_, ?_⟩
    · obtain ⟨k, hk, hc⟩ := List.mem_flatMap.1 hc
      have h1 := (kid_ser h (kids_kid hk)).1
      rcases wk_ser h n hc with h2 | h2
      · rw [h2] at h1; omega
      · omega
    · refine List.pairwise_flatMap.2 ⟨fun k _ => wk_nodup h n k, ?_⟩
      refine List.Pairwise.imp_of_mem (fun {a b} ha hb hab => ?_) (kids_nodup (rs := rs) (e : Int))
      intro x hx y hy e0
      subst e0
      exact hab (anc_one h (kids_kid ha) (kids_kid hb) (wk_anc n hx) (wk_anc n hy))
theorem nodup_le {α : Type} [BEq α] [LawfulBEq α] : ∀ (l m : List α), l.Nodup → (∀ x ∈ l, x ∈ m) → l.length ≤ m.length
  | [], _, _, _ => Nat.zero_le _
  | x :: l, m, hn, hs => by
    obtain ⟨h1, h2⟩ := List.nodup_cons.1 hn
    have hx : x ∈ m := hs x List.mem_cons_self
    have h3 := nodup_le l (m.erase x) h2 (fun y hy => (List.mem_erase_of_ne (by rintro rfl; exact h1 hy)).2 (hs y (List.mem_cons_of_mem _ hy)))
    rw [List.length_erase_of_mem hx] at h3
    have := List.length_pos_of_mem hx
    rw [List.length_cons]
    omega
theorem nodup_le16 {l : List Nat} (hn : l.Nodup) (hl : ∀ x ∈ l, x < 16) : l.length ≤ 16 := by
  have h := nodup_le l (List.range 16) hn (fun x hx => List.mem_range.2 (hl x hx))
  simpa using h
theorem wk_len (h : Tr rs last) (n : Nat) {e : Nat} (he : Lv rs e) : (wk rs n e).length ≤ 16 := nodup_le16 (wk_nodup h n e) (fun _ hx => lv_lt h (wk_lv n he hx))
theorem wk_len' (h : Tr rs last) : ∀ (n e : Nat), (wk rs n e).length ≤ 4096
  | n, e => by
    by_cases he : Lv rs e
    · have := wk_len h n he; omega
    · have hk : kids rs (e : Int) = [] := by
        rcases hq : kids rs (e : Int) with _ | ⟨k, l⟩
        · rfl
        · exact absurd (kid_ser h (kids_kid (rs := rs) (e := (e : Int)) (k := k) (by rw [hq]; simp))).2.2 he
      cases n with
      | zero => simp [wk]
      | succ n => simp [wk, hk]
theorem kids_len (h : Tr rs last) (e : Int) : (kids rs e).length ≤ 4096 := by
  have := nodup_le16 (kids_nodup (rs := rs) e) (fun x hx => lv_lt h (kid_lv (kids_kid hx)))
  omega
/-- those that are younger -/
def yng (rs : List (Option Er)) (e : Nat) : List Nat := (List.range 16).filter (fun i => (core rs i).isSome && decide (ser rs e < ser rs i))
theorem yng_lt (h : Tr rs last) {e k : Nat} (hk : kid rs (e : Int) k = true) : (yng rs k).length < (yng rs e).length := by
  have h1 := (kid_ser h hk).1
  have hkl := lv_lt h (kid_lv hk)
  have hnd : (k :: yng rs k).Nodup := List.nodup_cons.2 ⟨fun hc => by
    unfold yng at hc
    have := (List.mem_filter.1 hc).2
    simp at this, List.Pairwise.filter _ List.nodup_range⟩
  have := nodup_le (k :: yng rs k) (yng rs e) hnd (fun x hx => by
    unfold yng
    rcases List.mem_cons.1 hx with rfl | hx
    · exact List.mem_filter.2 ⟨List.mem_range.2 hkl, by simp [lv_core.1 (kid_lv hk), h1]⟩
    · unfold yng at hx
      obtain ⟨q1, q2⟩ := List.mem_filter.1 hx
      simp at q2
      exact List.mem_filter.2 ⟨q1, by simp [q2.1]; omega⟩)
  simp at this
  omega
theorem dp_of (h : Tr rs last) : ∀ (n e : Nat), (yng rs e).length < n → Dp rs n e
  | 0, _, hl => by omega
  | n + 1, e, hl => fun k hk => dp_of h n k (by have := yng_lt h (kids_kid hk); omega)
theorem dp17 (h : Tr rs last) (e : Nat) : Dp rs 17 e := dp_of h 17 e (by
  have : (yng rs e).length ≤ (List.range 16).length := List.length_filter_le _ _
  simp at this; omega)
/-- what is below one that is in a walk is in it too -/
theorem wk_closed : ∀ (n : Nat) {e c d : Nat}, Dp rs n e → c ∈ wk rs n e → kid rs (c : Int) d = true → d ∈ wk rs n e
  | 0, _, _, _, hd, _, _ => hd.elim
  | n + 1, e, c, d, hd, hc, hk => by
    simp only [wk, List.mem_cons, List.mem_flatMap] at hc ⊢
    rcases hc with rfl | ⟨k, hk', hc⟩
    · refine .inr ⟨d, kid_kids hk, ?_⟩
      cases n with
      | zero => exact (hd d (kid_kids hk)).elim
      | succ n => simp [wk]
    · exact .inr ⟨k, hk', wk_closed n (hd k hk') hc hk⟩
theorem wk_up : ∀ (n : Nat) {e c : Nat}, c ∈ wk rs n e → c = e ∨ ∃ q, q ∈ wk rs n e ∧ kid rs (q : Int) c = true
  | 0, e, c, hc => by simp [wk] at hc; exact .inl hc
  | n + 1, e, c, hc => by
    simp only [wk, List.mem_cons, List.mem_flatMap] at hc
    rcases hc with rfl | ⟨k, hk, hc⟩
    · exact .inl rfl
    · rcases wk_up n hc with rfl | ⟨q, h1, h2⟩
      · exact .inr ⟨e, by simp [wk], kids_kid hk⟩
      · exact .inr ⟨q, by simp only [wk, List.mem_cons, List.mem_flatMap]; exact .inr ⟨k, hk, h1⟩, h2⟩
theorem wk_self (n e : Nat) : e ∈ wk rs n e := by cases n <;> simp [wk]
theorem Tr.same (h : Tr rs last) (hs : Same rs rs') : Tr rs' last := by
  refine ⟨hs.1.trans h.len, ?_, fun k r hr h0 => ?_, fun k hk => by rw [hs.ser]; exact h.old k ((hs.lv k).1 hk), hs.dis h.dis⟩
  · obtain ⟨r, h1, h2⟩ := h.root
    obtain ⟨r', h3⟩ := (hs.lv 0).2 ⟨r, h1⟩
    refine ⟨r', h3, ?_⟩
    have := hs.2 0
    rw [core_at h1, core_at h3] at this
    simp at this
    rw [this.2.1]; exact h2
  · obtain ⟨r', h3⟩ := (hs.lv k).1 ⟨r, hr⟩
    have := hs.2 k
    rw [core_at hr, core_at h3] at this
    simp at this
    obtain ⟨p, h4, h5, h6⟩ := h.par k r' h3 h0
    exact ⟨p, by rw [this.2.1]; exact h4, (hs.lv p).2 h5, by rw [hs.ser, hs.ser]; exact h6⟩
end
end Go.Proofs.YtbocpmcodlceoaaGreat

namespace Go.Proofs.YtbocpmcodlceoaaGreat
open Go.RowKit Go.Shelf

/-- a child's part of what is carved -/
def tm (s : Qt → Int) (rs : List (Option Er)) (e : Nat) (i : Nat) : Int := if kid rs (e : Int) i = true then s (prc rs i) else 0
/-- what the children carve -/
def cv (rs : List (Option Er)) (e : Nat) : Qt := ⟨tot (tm Qt.f rs e), tot (tm Qt.e rs e), tot (tm Qt.x rs e)⟩
def Qt.nn (q : Qt) : Prop := 0 ≤ q.f ∧ 0 ≤ q.e ∧ 0 ≤ q.x
structure Qk (rs : List (Option Er)) (k : Nat) (r : Er) : Prop where
  good : r.qu.good
  pd : r.pd.nn
  le : r.le.nn
  sum : r.qu = (r.pd.plus r.le).plus (cv rs k)
structure Iv (rs : List (Option Er)) (last : Int) : Prop where
  tr : Tr rs last
  q : ∀ k r, rs[k]? = some (some r) → Qk rs k r
section
variable {rs rs' : List (Option Er)} {last : Int}
theorem Same.cv (h : Same rs rs') (e : Nat) : cv rs' e = cv rs e := by
  have h1 : ∀ s : Qt → Int, tm s rs' e = tm s rs e := fun s => by
    funext i
    unfold tm
    rw [h.kid, h.prc]
  unfold Go.Proofs.YtbocpmcodlceoaaGreat.cv
  rw [h1, h1, h1]
theorem prc_at {i : Nat} {r : Er} (h : rs[i]? = some (some r)) : prc rs i = r.qu.plus Qt.one := by unfold prc; rw [core_at h]
theorem tm_pos (h : Iv rs last) (e i : Nat) : 0 ≤ tm Qt.f rs e i ∧ 0 ≤ tm Qt.e rs e i ∧ 0 ≤ tm Qt.x rs e i := by
  unfold tm
  by_cases hk : kid rs (e : Int) i = true
  · obtain ⟨r, hr⟩ := kid_lv hk
    obtain ⟨g1, g2, g3⟩ := good_bounds (h.q i r hr).good
    rw [if_pos hk, if_pos hk, if_pos hk, prc_at hr]
    simp only [Qt.plus, Qt.one]
    omega
  · rw [if_neg hk, if_neg hk, if_neg hk]; omega
theorem cv_nn (h : Iv rs last) (e : Nat) : (cv rs e).nn := ⟨tot_pos (fun j _ => (tm_pos h e j).1), tot_pos (fun j _ => (tm_pos h e j).2.1), tot_pos (fun j _ => (tm_pos h e j).2.2)⟩
theorem Qk.parts {k : Nat} {r : Er} (h : Qk rs k r) : r.qu.f = r.pd.f + r.le.f + (cv rs k).f ∧ r.qu.e = r.pd.e + r.le.e + (cv rs k).e ∧ r.qu.x = r.pd.x + r.le.x + (cv rs k).x := by
  have := h.sum
  simp only [Qt.plus] at this
  exact ⟨congrArg Qt.f this, congrArg Qt.e this, congrArg Qt.x this⟩
theorem Iv.oks (h : Iv rs last) {k : Nat} {r : Er} (hr : rs[k]? = some (some r)) : r.le.ok ∧ r.pd.ok ∧ r.qu.ok := by
  have hq := h.q k r hr
  obtain ⟨g1, g2, g3⟩ := good_bounds hq.good
  obtain ⟨p1, p2, p3⟩ := hq.parts
  obtain ⟨a1, a2, a3⟩ := hq.pd
  obtain ⟨b1, b2, b3⟩ := hq.le
  obtain ⟨c1, c2, c3⟩ := cv_nn h k
  unfold Qt.ok
  omega
/-- what a child costs fits into its parent's quota -/
theorem Iv.price (h : Iv rs last) {k p : Nat} {r : Er} (hr : rs[k]? = some (some r)) (hpa : r.pa = (p : Int)) :
    (r.qu.f ≤ (cv rs p).f ∧ r.qu.e + 1 ≤ (cv rs p).e ∧ r.qu.x ≤ (cv rs p).x) := by
  have hk : kid rs (p : Int) k = true := by rw [kid_at hr]; simp [hpa]
  have hkl := lv_lt h.tr ⟨r, hr⟩
  have t1 := tot_le hkl (fun j _ => (tm_pos h p j).1)
  have t2 := tot_le hkl (fun j _ => (tm_pos h p j).2.1)
  have t3 := tot_le hkl (fun j _ => (tm_pos h p j).2.2)
  simp only [tm, hk, if_true, prc_at hr, Qt.plus, Qt.one] at t1 t2 t3
  show r.qu.f ≤ tot (tm Qt.f rs p) ∧ r.qu.e + 1 ≤ tot (tm Qt.e rs p) ∧ r.qu.x ≤ tot (tm Qt.x rs p)
  omega
theorem Iv.priceOk (h : Iv rs last) {k p : Nat} {r rp : Er} (hr : rs[k]? = some (some r)) (hp : rs[p]? = some (some rp)) (hpa : r.pa = (p : Int)) : (r.qu.plus Qt.one).ok := by
  obtain ⟨q1, q2, q3⟩ := h.price hr hpa
  have hq := h.q p rp hp
  obtain ⟨g1, g2, g3⟩ := good_bounds hq.good
  obtain ⟨k1, k2, k3⟩ := good_bounds (h.q k r hr).good
  obtain ⟨p1, p2, p3⟩ := hq.parts
  obtain ⟨a1, a2, a3⟩ := hq.pd
  obtain ⟨b1, b2, b3⟩ := hq.le
  simp only [Qt.ok, Qt.plus, Qt.one]
  omega
/-- a record that is changed in what may change -/
theorem Iv.upd (h : Iv rs last) {k : Nat} {r r' : Er} (hr : rs[k]? = some (some r)) (h1 : r'.se = r.se) (h2 : r'.pa = r.pa) (h3 : r'.qu = r.qu) (h4 : r'.pd.nn) (h5 : r'.le.nn) (h6 : r'.pd.plus r'.le = r.pd.plus r.le) : Iv (rs.set k (some r')) last := by
  have hs := Same.set hr h1 h2 h3
  refine ⟨h.tr.same hs, fun j rj hj => ?_⟩
  by_cases e : j = k
  · subst e
    rw [List.getElem?_set_self (List.getElem?_eq_some_iff.1 hr).1] at hj
    cases hj
    have hq := h.q j r hr
    exact ⟨by rw [h3]; exact hq.good, h4, h5, by rw [h3, h6, hs.cv]; exact hq.sum⟩
  · rw [List.getElem?_set_ne (fun e' => e e'.symm)] at hj
    have hq := h.q j rj hj
    exact ⟨hq.good, hq.pd, hq.le, by rw [hs.cv]; exact hq.sum⟩
theorem Iv.keepq (h : Iv rs last) {k : Nat} {r r' : Er} (hr : rs[k]? = some (some r)) (h1 : r'.se = r.se) (h2 : r'.pa = r.pa) (h3 : r'.qu = r.qu) (h4 : r'.pd = r.pd) (h5 : r'.le = r.le) : Iv (rs.set k (some r')) last :=
  h.upd hr h1 h2 h3 (by rw [h4]; exact (h.q k r hr).pd) (by rw [h5]; exact (h.q k r hr).le) (by rw [h4, h5])
theorem qt_ext {a b : Qt} (h1 : a.f = b.f) (h2 : a.e = b.e) (h3 : a.x = b.x) : a = b := by cases a; cases b; simp_all
theorem Iv.pay (h : Iv rs last) (e : Int) (q : Qt) : Iv (payS rs e q) last := by
  unfold payS
  cases hl : look rs e with
  | none => exact h
  | some r =>
    obtain ⟨k, rfl, hr⟩ := look_some hl
    simp only []
    by_cases hg : q.good
    · rw [if_pos hg]
      by_cases hf : q.le r.le
      · rw [if_pos hf]
        obtain ⟨g1, g2, g3⟩ := good_bounds hg
        obtain ⟨f1, f2, f3⟩ := hf
        obtain ⟨a1, a2, a3⟩ := (h.q k r hr).pd
        refine h.upd hr rfl rfl rfl ?_ ?_ (qt_ext ?_ ?_ ?_) <;> simp only [Qt.nn, Qt.plus, Qt.less] <;> omega
      · rw [if_neg hf]; exact h
    · rw [if_neg hg]; exact h
theorem Iv.refund (h : Iv rs last) (e : Int) (q : Qt) : Iv (refS rs e q) last := by
  unfold refS
  cases hl : look rs e with
  | none => exact h
  | some r =>
    obtain ⟨k, rfl, hr⟩ := look_some hl
    simp only []
    by_cases hc : q.good ∧ q.le r.pd
    · rw [if_pos hc]
      obtain ⟨g1, g2, g3⟩ := good_bounds hc.1
      obtain ⟨f1, f2, f3⟩ := hc.2
      obtain ⟨a1, a2, a3⟩ := (h.q k r hr).le
      refine h.upd hr rfl rfl rfl ?_ ?_ (qt_ext ?_ ?_ ?_) <;> simp only [Qt.nn, Qt.plus, Qt.less] <;> omega
    · rw [if_neg hc]; exact h
end
end Go.Proofs.YtbocpmcodlceoaaGreat

namespace Go.Proofs.YtbocpmcodlceoaaGreat
open Go.RowKit Go.Shelf

section
variable {rs : List (Option Er)} {last : Int}
theorem core_set {i : Nat} (hi : i < rs.length) (o : Option Er) (j : Nat) : core (rs.set i o) j = if j = i then o.map (fun r => (r.se, r.pa, r.qu)) else core rs j := by
  unfold core
  rw [look_nat, look_nat]
  by_cases e : j = i
  · subst e; rw [if_pos rfl, List.getElem?_set_self hi]; cases o <;> rfl
  · rw [if_neg e, List.getElem?_set_ne (fun e' => e e'.symm)]
theorem kid_dead (h : Tr rs last) {i : Nat} (hi : ¬ Lv rs i) (j : Nat) : kid rs (i : Int) j = false := by
  cases hk : kid rs (i : Int) j with
  | false => rfl
  | true => exact absurd (kid_ser h hk).2.2 hi
theorem not_lv {i : Nat} (h : rs[i]? = some none) : ¬ Lv rs i := by rintro ⟨r, hr⟩; rw [h] at hr; cases hr
theorem kid_no {i : Nat} (h : ¬ Lv rs i) (e : Int) : kid rs e i = false := by
  cases hk : kid rs e i with
  | false => rfl
  | true => exact absurd (kid_lv hk) h
/-- a new one at a free place -/
theorem Iv.create (h : Iv rs last) {i k : Nat} {r : Er} (hi : rs[i]? = some none) (hr : rs[k]? = some (some r)) {serial : Int} (hs : last < serial) {q : Qt} (hg : q.good) (hf : (q.plus Qt.one).le r.le) :
    Iv ((rs.set i (some (Er.new serial k q))).set k (some { r with le := r.le.less (q.plus Qt.one) })) serial := by
  have hil := (List.getElem?_eq_some_iff.1 hi).1
  have hi16 : i < 16 := by rw [← h.tr.len]; exact hil
  have hki : k ≠ i := fun e => by rw [e, hi] at hr; cases hr
  have hid := not_lv hi
  obtain ⟨rs1, hrs1⟩ : ∃ rs1, rs1 = rs.set i (some (Er.new serial k q)) := ⟨_, rfl⟩
  have hr1 : rs1[k]? = some (some r) := by rw [hrs1, List.getElem?_set_ne (fun e => hki e.symm)]; exact hr
  have hi1 : rs1[i]? = some (some (Er.new serial k q)) := by rw [hrs1, List.getElem?_set_self hil]
  have ho : ∀ j, j ≠ i → rs1[j]? = rs[j]? := fun j hj => by rw [hrs1, List.getElem?_set_ne (fun e => hj e.symm)]
  have hcore : ∀ j, j ≠ i → core rs1 j = core rs j := fun j hj => by rw [hrs1, core_set hil, if_neg hj]
  have hkid : ∀ (e : Int) j, j ≠ i → kid rs1 e j = kid rs e j := fun e j hj => by rw [kid_core, kid_core, hcore j hj]
  have hser : ∀ j, j ≠ i → ser rs1 j = ser rs j := fun j hj => by rw [ser_core, ser_core, hcore j hj]
  have hprc : ∀ j, j ≠ i → prc rs1 j = prc rs j := fun j hj => by unfold prc; rw [hcore j hj]
  have hlv : ∀ j, j ≠ i → (Lv rs1 j ↔ Lv rs j) := fun j hj => by rw [lv_core, lv_core, hcore j hj]
  have hsi : ser rs1 i = serial := by rw [ser_at hi1]; rfl
  have hki1 : kid rs1 (k : Int) i = true := by rw [kid_at hi1]; simp [Er.new]
  have hkie : ∀ e : Nat, e ≠ k → kid rs1 (e : Int) i = false := fun e he => by rw [kid_at hi1]; exact decide_eq_false (fun e9 => he (by have e8 : ((k : Nat) : Int) = (e : Int) := e9; omega))
  have htm : ∀ (s : Qt → Int) (e : Nat), tot (tm s rs1 e) = tot (tm s rs e) + (if e = k then s (q.plus Qt.one) else 0) := fun s e => by
    have h1 := tot_upd (f := tm s rs e) (g := tm s rs1 e) hi16 (fun j _ hj => by unfold tm; rw [hkid _ j hj, hprc j hj])
    have h2 : tm s rs e i = 0 := by unfold tm; rw [kid_no hid]; rfl
    have h3 : tm s rs1 e i = if e = k then s (q.plus Qt.one) else 0 := by
      unfold tm
      by_cases he : e = k
      · subst he; rw [if_pos hki1, if_pos rfl, prc_at hi1]; rfl
      · rw [hkie e he, if_neg he]; rfl
    rw [h1, h2, h3]; omega
  have hS : Same rs1 (rs1.set k (some { r with le := r.le.less (q.plus Qt.one) })) := Same.set hr1 rfl rfl rfl
  have hT1 : Tr rs1 serial := by
    refine ⟨by rw [hrs1]; simpa using h.tr.len, ?_, fun j rj hj h0 => ?_, fun j hj => ?_, fun a b ha hb e => ?_⟩
    · obtain ⟨r0, h1, h2⟩ := h.tr.root
      exact ⟨r0, by rw [ho 0 (fun e => by rw [← e] at hi; rw [h1] at hi; cases hi)]; exact h1, h2⟩
    · by_cases e : j = i
      · subst e
        rw [hi1] at hj; cases hj
        exact ⟨k, rfl, ⟨r, hr1⟩, by rw [hsi, hser k hki]; have := h.tr.old k ⟨r, hr⟩; omega⟩
      · rw [ho j e] at hj
        obtain ⟨p, h1, h2, h3⟩ := h.tr.par j rj hj h0
        have hpi : p ≠ i := fun e' => hid (e' ▸ h2)
        exact ⟨p, h1, (hlv p hpi).2 h2, by rw [hser p hpi, hser j e]; exact h3⟩
    · by_cases e : j = i
      · subst e; rw [hsi]; exact Int.le_refl _
      · rw [hser j e]; have := h.tr.old j ((hlv j e).1 hj); omega
    · by_cases ea : a = i
      · by_cases eb : b = i
        · rw [ea, eb]
        · rw [ea, hsi, hser b eb] at e
          have := h.tr.old b ((hlv b eb).1 hb); omega
      · by_cases eb : b = i
        · rw [eb, hsi, hser a ea] at e
          have := h.tr.old a ((hlv a ea).1 ha); omega
        · rw [hser a ea, hser b eb] at e
          exact h.tr.dis a b ((hlv a ea).1 ha) ((hlv b eb).1 hb) e
  rw [← hrs1]
  refine ⟨hT1.same hS, fun j rj hj => ?_⟩
  obtain ⟨f1, f2, f3⟩ := hf
  simp only [Qt.plus, Qt.one] at f1 f2 f3
  by_cases ek : j = k
  · subst ek
    rw [List.getElem?_set_self (List.getElem?_eq_some_iff.1 hr1).1] at hj
    cases hj
    have hq := h.q j r hr
    obtain ⟨p1, p2, p3⟩ := hq.parts
    refine ⟨hq.good, hq.pd, ?_, ?_⟩
    · simp only [Qt.nn, Qt.less, Qt.plus, Qt.one]; omega
    · rw [hS.cv]
      refine qt_ext ?_ ?_ ?_ <;> simp only [Qt.plus, Qt.less, cv, htm, if_true, Qt.one] at p1 p2 p3 ⊢ <;> omega
  · rw [List.getElem?_set_ne (fun e' => ek e'.symm)] at hj
    by_cases ei : j = i
    · subst ei
      rw [hi1] at hj; cases hj
      refine ⟨hg, ⟨Int.le_refl _, Int.le_refl _, Int.le_refl _⟩, ?_, ?_⟩
      · obtain ⟨g1, g2, g3⟩ := good_bounds hg
        exact ⟨g1.1, g2.1, g3.1⟩
      · have hz : ∀ s : Qt → Int, tot (tm s rs j) = 0 := fun s => by
          rw [tot_congr (f := fun _ => 0) (fun x _ => by unfold tm; rw [kid_dead h.tr hid]; rfl)]; rfl
        rw [hS.cv]
        refine qt_ext ?_ ?_ ?_ <;> simp only [Er.new, Qt.plus, Qt.zero, cv, htm, hz, if_neg ek] <;> omega
    · rw [ho j ei] at hj
      have hq := h.q j rj hj
      refine ⟨hq.good, hq.pd, hq.le, ?_⟩
      rw [hS.cv]
      have e1 : cv rs1 j = cv rs j := by unfold cv; rw [htm, htm, htm, if_neg ek, if_neg ek, if_neg ek, Int.add_zero, Int.add_zero, Int.add_zero]
      rw [e1]; exact hq.sum
end
end Go.Proofs.YtbocpmcodlceoaaGreat

namespace Go.Proofs.YtbocpmcodlceoaaGreat
open Go.RowKit Go.Shelf

section
variable {rs : List (Option Er)} {last : Int}
/-- one that ended, with all below it -/
theorem Iv.destroy (h : Iv rs last) {k p : Nat} {r rp : Er} (hr : rs[k]? = some (some r)) (hk0 : k ≠ 0) (hpa : r.pa = (p : Int)) (hp : rs[p]? = some (some rp)) :
    Iv (drops (rs.set p (some { rp with le := rp.le.plus (r.qu.plus Qt.one) })) (wk rs 17 k)) last := by
  have hT := h.tr
  have hDp := dp17 hT k
  have hkp : kid rs (p : Int) k = true := by rw [kid_at hr]; simp [hpa]
  have hself := wk_self (rs := rs) 17 k
  have hlive : ∀ c ∈ wk rs 17 k, Lv rs c := fun c hc => wk_lv 17 ⟨r, hr⟩ hc
  have hsp := (kid_ser hT hkp).1
  have hpl : p ∉ wk rs 17 k := fun hc => by
    rcases wk_ser hT 17 hc with e | e
    · rw [e] at hsp; omega
    · omega
  have h0l : 0 ∉ wk rs 17 k := fun hc => by
    rcases wk_up 17 hc with e | ⟨q, _, e⟩
    · exact hk0 e.symm
    · exact (kid_ser hT e).2.1 rfl
  have hcl : ∀ c d, c ∈ wk rs 17 k → kid rs (c : Int) d = true → d ∈ wk rs 17 k := fun c d hc hd => wk_closed 17 hDp hc hd
  have hup : ∀ j, j ∈ wk rs 17 k → j = k ∨ ∃ q, q ∈ wk rs 17 k ∧ kid rs (q : Int) j = true := fun j hj => wk_up 17 hj
  generalize wk rs 17 k = l at *
  obtain ⟨rs1, hrs1⟩ : ∃ rs1, rs1 = rs.set p (some { rp with le := rp.le.plus (r.qu.plus Qt.one) }) := ⟨_, rfl⟩
  have hS : Same rs rs1 := by rw [hrs1]; exact Same.set hp rfl rfl rfl
  have hT1 := hT.same hS
  have hp1 : rs1[p]? = some (some { rp with le := rp.le.plus (r.qu.plus Qt.one) }) := by rw [hrs1, List.getElem?_set_self (List.getElem?_eq_some_iff.1 hp).1]
  have ho1 : ∀ x, x ≠ p → rs1[x]? = rs[x]? := fun x hx => by rw [hrs1, List.getElem?_set_ne (fun e => hx e.symm)]
  rw [← hrs1]
  have hlen2 : (drops rs1 l).length = 16 := by rw [drops_len]; exact hT1.len
  have hout : ∀ x, x ∉ l → (drops rs1 l)[x]? = rs1[x]? := fun x hx => drops_other l rs1 x hx
  have hin : ∀ x, x ∈ l → (drops rs1 l)[x]? = some none := fun x hx => drops_gone l rs1 x hx (by rw [hT1.len]; exact lv_lt hT (hlive x hx))
  generalize drops rs1 l = rs2 at *
  have hc_out : ∀ x, x ∉ l → core rs2 x = core rs x := fun x hx => by
    rw [← hS.2 x]
    unfold core
    rw [look_nat, look_nat, hout x hx]
  have hnl : ∀ x, Lv rs2 x → x ∉ l := fun x hx hm => not_lv (hin x hm) hx
  have hlv : ∀ x, x ∉ l → (Lv rs2 x ↔ Lv rs x) := fun x hx => by rw [lv_core, lv_core, hc_out x hx]
  have hse : ∀ x, x ∉ l → ser rs2 x = ser rs x := fun x hx => by rw [ser_core, ser_core, hc_out x hx]
  have hkd : ∀ (e : Int) x, x ∉ l → kid rs2 e x = kid rs e x := fun e x hx => by rw [kid_core, kid_core, hc_out x hx]
  have hpr : ∀ x, x ∉ l → prc rs2 x = prc rs x := fun x hx => by unfold prc; rw [hc_out x hx]
  have hkin : ∀ (e : Int) x, x ∈ l → kid rs2 e x = false := fun e x hx => kid_no (not_lv (hin x hx)) e
  refine ⟨⟨hlen2, ?_, fun x rx hx h0 => ?_, fun x hx => ?_, fun a b ha hb e => ?_⟩, fun x rx hx => ?_⟩
  · obtain ⟨r0, h1, h2⟩ := hT1.root
    exact ⟨r0, by rw [hout 0 h0l]; exact h1, h2⟩
  · have hxl := hnl x ⟨rx, hx⟩
    rw [hout x hxl] at hx
    obtain ⟨q, h1, h2, h3⟩ := hT1.par x rx hx h0
    have hkx : kid rs (q : Int) x = true := by rw [← hS.kid, kid_at hx]; simp [h1]
    have hql : q ∉ l := fun hq => hxl (hcl q x hq hkx)
    exact ⟨q, h1, (hlv q hql).2 ((hS.lv q).1 h2), by rw [hse q hql, hse x hxl, ← hS.ser, ← hS.ser]; exact h3⟩
  · have hxl := hnl x hx
    rw [hse x hxl]; exact hT.old x ((hlv x hxl).1 hx)
  · have hal := hnl a ha
    have hbl := hnl b hb
    rw [hse a hal, hse b hbl] at e
    exact hT.dis a b ((hlv a hal).1 ha) ((hlv b hbl).1 hb) e
  · have hxl := hnl x ⟨rx, hx⟩
    rw [hout x hxl] at hx
    by_cases exp : x = p
    · subst exp
      rw [hp1] at hx; cases hx
      have hq := h.q x rp hp
      obtain ⟨p1, p2, p3⟩ := hq.parts
      obtain ⟨b1, b2, b3⟩ := hq.le
      obtain ⟨k1, k2, k3⟩ := good_bounds (h.q k r hr).good
      have htm : ∀ s : Qt → Int, tot (tm s rs2 x) = tot (tm s rs x) - s (r.qu.plus Qt.one) := fun s => by
        have h1 := tot_upd (f := tm s rs x) (g := tm s rs2 x) (i := k) (lv_lt hT ⟨r, hr⟩) (fun j _ hj => by
          unfold tm
          by_cases hjl : j ∈ l
          · have hkf : kid rs (x : Int) j = false := by
              cases hkj : kid rs (x : Int) j with
              | false => rfl
              | true =>
                rcases hup j hjl with e | ⟨q, hq1, hq2⟩
                · exact absurd e hj
                · exact absurd (kid_one hkj hq2 ▸ hq1) hpl
            rw [hkin _ j hjl, hkf]; rfl
          · rw [hkd _ j hjl, hpr j hjl])
        have h2 : tm s rs x k = s (r.qu.plus Qt.one) := by unfold tm; rw [if_pos hkp, prc_at hr]
        have h3 : tm s rs2 x k = 0 := by unfold tm; rw [hkin _ k hself]; rfl
        rw [h1, h2, h3]; omega
      refine ⟨hq.good, hq.pd, ?_, ?_⟩
      · simp only [Qt.nn, Qt.plus, Qt.one]; omega
      · refine qt_ext ?_ ?_ ?_ <;> simp only [Qt.plus, cv, htm, Qt.one] at p1 p2 p3 ⊢ <;> omega
    · rw [ho1 x exp] at hx
      have hq := h.q x rx hx
      refine ⟨hq.good, hq.pd, hq.le, ?_⟩
      have htm : ∀ s : Qt → Int, tot (tm s rs2 x) = tot (tm s rs x) := fun s => tot_congr (fun j _ => by
        unfold tm
        by_cases hjl : j ∈ l
        · have hkf : kid rs (x : Int) j = false := by
            cases hkj : kid rs (x : Int) j with
            | false => rfl
            | true =>
              rcases hup j hjl with e | ⟨q, hq1, hq2⟩
              · subst e; exact absurd (kid_one hkj hkp) exp
              · exact absurd (kid_one hkj hq2 ▸ hq1) hxl
          rw [hkin _ j hjl, hkf]; rfl
        · rw [hkd _ j hjl, hpr j hjl])
      have e1 : cv rs2 x = cv rs x := by unfold cv; rw [htm, htm, htm]
      rw [e1]; exact hq.sum
end
end Go.Proofs.YtbocpmcodlceoaaGreat

namespace Go.Proofs.YtbocpmcodlceoaaGreat
open Go.RowKit Go.Shelf

/-- what Destroy answers -/
def dsE (rs : List (Option Er)) (e : Int) : Int := match look rs e with | none => 90 | some _ => if e = 0 then 92 else 0
def dsL (rs : List (Option Er)) (e : Int) : List Nat := if dsE rs e = 0 then wk rs 17 e.toNat else []
def dsP (rs : List (Option Er)) (r : Er) : List (Option Er) := match look rs r.pa with | none => rs | some rp => rs.set r.pa.toNat (some { rp with le := rp.le.plus (r.qu.plus Qt.one) })
def dsS (rs : List (Option Er)) (e : Int) : List (Option Er) := match look rs e with | none => rs | some r => if e = 0 then rs else drops (dsP rs r) (wk rs 17 e.toNat)
/-- what Create answers -/
def crE (rs : List (Option Er)) (last e s : Int) (q : Qt) : Int := match look rs e with | none => 90 | some r => if q.good ∧ last < s ∧ s ≤ 4611686018427387903 then (if (q.plus Qt.one).le r.le ∧ ff rs < 16 then 0 else 2) else 1
def crN (rs : List (Option Er)) (last e s : Int) (q : Qt) : Int := if crE rs last e s q = 0 then ((ff rs : Nat) : Int) else -1
def crS (rs : List (Option Er)) (last e s : Int) (q : Qt) : List (Option Er) := match look rs e with | none => rs | some r => if crE rs last e s q = 0 then (rs.set (ff rs) (some (Er.new s e q))).set e.toNat (some { r with le := r.le.less (q.plus Qt.one) }) else rs
def crL (rs : List (Option Er)) (last e s : Int) (q : Qt) : Int := if crE rs last e s q = 0 then s else last
section
variable {w : World} {F : Nat → Prop} {T : Nat} {rs : List (Option Er)} {last : Int}
theorem own_nil (w : World) (b : Nat) : w.ownsRow b 3 1 (.slice none 0 0) 0 (numN []) := ⟨rfl, .inl ⟨rfl, rfl⟩⟩
theorem par_of (h : Iv rs last) {k : Nat} {r : Er} (hr : rs[k]? = some (some r)) (hk : k ≠ 0) : ∃ (p : Nat) (rp : Er), r.pa = (p : Int) ∧ rs[p]? = some (some rp) ∧ p ≠ k := by
  obtain ⟨p, h1, ⟨rp, h2⟩, h3⟩ := h.tr.par k r hr hk
  exact ⟨p, rp, h1, h2, fun e => by rw [e] at h3; omega⟩
theorem dsP_at {r rp : Er} {p : Nat} (h1 : r.pa = (p : Int)) (h2 : rs[p]? = some (some rp)) : dsP rs r = rs.set p (some { rp with le := rp.le.plus (r.qu.plus Qt.one) }) := by
  unfold dsP
  rw [h1, look_nat, h2]
  rfl
theorem Iv.dsS (h : Iv rs last) (e : Int) : Iv (dsS rs e) last := by
  unfold Go.Proofs.YtbocpmcodlceoaaGreat.dsS
  cases hl : look rs e with
  | none => exact h
  | some r =>
    obtain ⟨k, rfl, hr⟩ := look_some hl
    simp only []
    by_cases hk : (k : Int) = 0
    · rw [if_pos hk]; exact h
    · rw [if_neg hk]
      obtain ⟨p, rp, h1, h2, _⟩ := par_of h hr (by omega)
      rw [dsP_at h1 h2]
      exact h.destroy hr (by omega) h1 h2
theorem destroy_any (h : Et w F T rs last) (iv : Iv rs last) (e : Int) : Calls Tryz.prog 16 #[.pointer (some ⟨T, 0, none⟩), .int .i64 e] w fun x w' => ∃ v, x = .returned (.tuple #[v, .int .i64 (dsE rs e)]) ∧ Et w' F T (dsS rs e) last ∧ w'.ownsRow w.heap.size 3 1 v (dsL rs e).length (numN (dsL rs e)) ∧ Mod F w w' := by
  unfold dsL dsE dsS
  cases hl : look rs e with
  | none =>
    refine (destroyNone_any w F T rs last h e hl).mono ?_
    rintro x w' ⟨rfl, rfl⟩
    exact ⟨_, rfl, h, own_nil _ _, Mod.refl _ _⟩
  | some r =>
    obtain ⟨k, rfl, hr⟩ := look_some hl
    simp only []
    by_cases hk : (k : Int) = 0
    · rw [if_pos hk, if_pos hk]
      obtain rfl : k = 0 := by omega
      refine (destroyZero_any w F T rs last h r hr).mono ?_
      rintro x w' ⟨rfl, rfl⟩
      exact ⟨_, rfl, h, own_nil _ _, Mod.refl _ _⟩
    · rw [if_neg hk, if_neg hk, if_pos rfl]
      obtain ⟨p, rp, h1, h2, h3⟩ := par_of iv hr (by omega)
      obtain ⟨rs1, hrs1⟩ : ∃ rs1, rs1 = rs.set p (some { rp with le := rp.le.plus (r.qu.plus Qt.one) }) := ⟨_, rfl⟩
      have hS : Same rs rs1 := by rw [hrs1]; exact Same.set h2 rfl rfl rfl
      have hT1 := iv.tr.same hS
      have := destroyOk_any w F T rs last h k p r rp hr (by omega) h1 h2 h3 (iv.oks hr).2.2 (iv.priceOk hr h2 h1) (iv.oks h2).1 rs1 hrs1 hT1.dis (fun n e => wk_len' hT1 n e) (fun e => kids_len hT1 e) 17 (dp17 hT1 k) (wk_nodup hT1 17 k) (fun c hc => wk_lv 17 ((hS.lv k).2 ⟨r, hr⟩) hc)
      rw [hS.wk, hrs1] at this
      rw [dsP_at h1 h2]
      exact this
theorem ff_none (h : Tr rs last) (hf : ff rs < 16) : rs[ff rs]? = some none := ff_free (by rw [h.len]; exact hf)
theorem Iv.crS (h : Iv rs last) (e s : Int) (q : Qt) : Iv (crS rs last e s q) (crL rs last e s q) := by
  unfold Go.Proofs.YtbocpmcodlceoaaGreat.crS crL
  cases hl : look rs e with
  | none =>
    have : crE rs last e s q = 90 := by unfold crE; rw [hl]
    rw [this]; exact h
  | some r =>
    obtain ⟨k, rfl, hr⟩ := look_some hl
    simp only []
    by_cases hc : crE rs last (k : Int) s q = 0
    · rw [if_pos hc, if_pos hc]
      unfold crE at hc
      rw [hl] at hc
      simp only [] at hc
      by_cases h1 : q.good ∧ last < s ∧ s ≤ 4611686018427387903
      · rw [if_pos h1] at hc
        by_cases h2 : (q.plus Qt.one).le r.le ∧ ff rs < 16
        · exact h.create (ff_none h.tr h2.2) hr h1.2.1 h1.1 h2.1
        · rw [if_neg h2] at hc; cases hc
      · rw [if_neg h1] at hc; cases hc
    · rw [if_neg hc, if_neg hc]; exact h
theorem create_any (h : Et w F T rs last) (iv : Iv rs last) (e s : Int) (q : Qt) : Calls Tryz.prog 12 #[.pointer (some ⟨T, 0, none⟩), .int .i64 e, .int .i64 s, q.val] w fun x w' => x = .returned (.tuple #[.int .i64 (crN rs last e s q), .int .i64 (crE rs last e s q)]) ∧ ∃ F', Et w' F' T (crS rs last e s q) (crL rs last e s q) ∧ Ext F w F' w' := by
  have bel : ∀ {w' : World}, Below w.heap.size w w' → ∃ F', Et w' F' T rs last ∧ Ext F w F' w' := fun hb => ⟨F, h.below hb, ⟨Mod.of_below hb, fun _ h => .inl h⟩⟩
  unfold crN crS crL
  cases hl : look rs e with
  | none =>
    have hE : crE rs last e s q = 90 := by unfold crE; rw [hl]
    rw [hE]
    refine (createNone_any w F T rs last h e hl s q).mono ?_
    rintro x w' ⟨rfl, hb⟩
    exact ⟨rfl, bel hb⟩
  | some r =>
    obtain ⟨k, rfl, hr⟩ := look_some hl
    by_cases h1 : q.good ∧ last < s ∧ s ≤ 4611686018427387903
    · by_cases h2 : (q.plus Qt.one).le r.le
      · by_cases h3 : ff rs < 16
        · have hE : crE rs last (k : Int) s q = 0 := by unfold crE; rw [hl]; simp only []; rw [if_pos h1, if_pos ⟨h2, h3⟩]
          rw [hE]
          exact createOk_any w F T rs last h k r hr s q h1.1 h1.2.1 h1.2.2 h2 (iv.oks hr).1 h3
        · have hE : crE rs last (k : Int) s q = 2 := by unfold crE; rw [hl]; simp only []; rw [if_pos h1, if_neg (fun h9 => h3 h9.2)]
          rw [hE]
          refine (createRoom_any w F T rs last h k r hr s q h1.1 h1.2.1 h1.2.2 h2 (by have := ff_le rs; rw [iv.tr.len] at this; omega)).mono ?_
          rintro x w' ⟨rfl, hb⟩
          exact ⟨rfl, bel hb⟩
      · have hE : crE rs last (k : Int) s q = 2 := by unfold crE; rw [hl]; simp only []; rw [if_pos h1, if_neg (fun h9 => h2 h9.1)]
        rw [hE]
        refine (createFull_any w F T rs last h k r hr s q h1.1 h1.2.1 h1.2.2 h2).mono ?_
        rintro x w' ⟨rfl, hb⟩
        exact ⟨rfl, bel hb⟩
    · have hE : crE rs last (k : Int) s q = 1 := by unfold crE; rw [hl]; simp only []; rw [if_neg h1]
      rw [hE]
      by_cases hg : q.good
      · by_cases hs : s ≤ last
        · refine (createBad2_any w F T rs last h k r hr s q hg hs).mono ?_
          rintro x w' ⟨rfl, hb⟩
          exact ⟨rfl, bel hb⟩
        · refine (createBad3_any w F T rs last h k r hr s q hg (by omega) (by
            by_cases hx : s ≤ 4611686018427387903
            · exact absurd ⟨hg, by omega, hx⟩ h1
            · omega)).mono ?_
          rintro x w' ⟨rfl, hb⟩
          exact ⟨rfl, bel hb⟩
      · refine (createBad1_any w F T rs last h k r hr s q hg).mono ?_
        rintro x w' ⟨rfl, hb⟩
        exact ⟨rfl, bel hb⟩
end
end Go.Proofs.YtbocpmcodlceoaaGreat

namespace Go.Proofs.YtbocpmcodlceoaaGreat
open Go.RowKit Go.Shelf

section
variable (w : World) (F : Nat → Prop) (T : Nat) (rs : List (Option Er)) (last : Int)
set_option maxHeartbeats 800000 in
theorem setBitsBad_any (h : Et w F T rs last) (k : Nat) (r : Er) (hr : rs[k]? = some (some r)) (n : Int) (hn : ¬ (0 ≤ n ∧ n ≤ 4294967295)) : Calls Tryz.prog 27 #[.pointer (some ⟨T, 0, none⟩), .int .i64 (k : Int), .int .i64 n] w fun x w' => x = .returned (.int .i64 1) ∧ w' = w := by
  obtain ⟨S, G, m, h⟩ := h
  have c0 := h.cell.1
  have HG := hide (getL_any _ G S m h.tab (k : Int))
  rcases h.cases (k : Int) with ⟨_, h1⟩ | ⟨k', b, r', e1, hm, h3, h4, _, hR⟩
  · rw [look_nat, hr] at h1; cases h1
  · obtain rfl : k = k' := by omega
    rw [hr] at h3; cases h3
    rw [h4] at HG
    simp only [ptr, Option.isSome_some] at HG
    have HI := hide (isWord_any w n)
    rw [show decide (0 ≤ n ∧ n ≤ 4294967295) = false by simpa using hn] at HI
    clear h h4 hR hn
    go_enter Tryz.func27, Tryz.ntmps27
    go_wp2_with fail
    refine HG.out.mono ?_
    rintro e1 w1 ⟨rfl, rfl⟩
    go_wp2_with fail
    refine HI.out.mono ?_
    rintro e1 w1 ⟨rfl, rfl⟩
    go_wp2
    go_ret
    exact ⟨rfl, rfl⟩
set_option maxHeartbeats 800000 in
theorem setStateBad1_any (h : Et w F T rs last) (k : Nat) (r : Er) (hr : rs[k]? = some (some r)) (st co : Int) (hs : st < 0) : Calls Tryz.prog 25 #[.pointer (some ⟨T, 0, none⟩), .int .i64 (k : Int), .int .i64 st, .int .i64 co] w fun x w' => x = .returned (.int .i64 1) ∧ w' = w := by
  obtain ⟨S, G, m, h⟩ := h
  have c0 := h.cell.1
  have HG := hide (getL_any _ G S m h.tab (k : Int))
  rcases h.cases (k : Int) with ⟨_, h1⟩ | ⟨k', b, r', e1, hm, h3, h4, _, hR⟩
  · rw [look_nat, hr] at h1; cases h1
  · obtain rfl : k = k' := by omega
    rw [hr] at h3; cases h3
    rw [h4] at HG
    simp only [ptr, Option.isSome_some] at HG
    clear h h4 hR
    go_enter Tryz.func25, Tryz.ntmps25
    go_wp2_with fail
    refine HG.out.mono ?_
    rintro e1 w1 ⟨rfl, rfl⟩
    go_wp2
    go_ret
    exact ⟨rfl, rfl⟩
set_option maxHeartbeats 800000 in
theorem setStateBad2_any (h : Et w F T rs last) (k : Nat) (r : Er) (hr : rs[k]? = some (some r)) (st co : Int) (hs : 4 < st) : Calls Tryz.prog 25 #[.pointer (some ⟨T, 0, none⟩), .int .i64 (k : Int), .int .i64 st, .int .i64 co] w fun x w' => x = .returned (.int .i64 1) ∧ w' = w := by
  obtain ⟨S, G, m, h⟩ := h
  have c0 := h.cell.1
  have HG := hide (getL_any _ G S m h.tab (k : Int))
  rcases h.cases (k : Int) with ⟨_, h1⟩ | ⟨k', b, r', e1, hm, h3, h4, _, hR⟩
  · rw [look_nat, hr] at h1; cases h1
  · obtain rfl : k = k' := by omega
    rw [hr] at h3; cases h3
    rw [h4] at HG
    simp only [ptr, Option.isSome_some] at HG
    have hs1 : ¬ st < 0 := by omega
    clear h h4 hR
    go_enter Tryz.func25, Tryz.ntmps25
    go_wp2_with fail
    refine HG.out.mono ?_
    rintro e1 w1 ⟨rfl, rfl⟩
    go_wp2
    go_ret
    exact ⟨rfl, rfl⟩
set_option maxHeartbeats 800000 in
theorem setStateBad3_any (h : Et w F T rs last) (k : Nat) (r : Er) (hr : rs[k]? = some (some r)) (st co : Int) (hs : 0 ≤ st ∧ st ≤ 4) (hc : ¬ (0 ≤ co ∧ co ≤ 4294967295)) : Calls Tryz.prog 25 #[.pointer (some ⟨T, 0, none⟩), .int .i64 (k : Int), .int .i64 st, .int .i64 co] w fun x w' => x = .returned (.int .i64 1) ∧ w' = w := by
  obtain ⟨S, G, m, h⟩ := h
  have c0 := h.cell.1
  have HG := hide (getL_any _ G S m h.tab (k : Int))
  rcases h.cases (k : Int) with ⟨_, h1⟩ | ⟨k', b, r', e1, hm, h3, h4, _, hR⟩
  · rw [look_nat, hr] at h1; cases h1
  · obtain rfl : k = k' := by omega
    rw [hr] at h3; cases h3
    rw [h4] at HG
    simp only [ptr, Option.isSome_some] at HG
    have HI := hide (isWord_any w co)
    rw [show decide (0 ≤ co ∧ co ≤ 4294967295) = false by simpa using hc] at HI
    have hs1 : ¬ st < 0 := by omega
    have hs2 : ¬ 4 < st := by omega
    clear h h4 hR hc hs
    go_enter Tryz.func25, Tryz.ntmps25
    go_wp2_with fail
    refine HG.out.mono ?_
    rintro e1 w1 ⟨rfl, rfl⟩
    go_wp2_with fail
    refine HI.out.mono ?_
    rintro e1 w1 ⟨rfl, rfl⟩
    go_wp2
    go_ret
    exact ⟨rfl, rfl⟩
set_option maxRecDepth 8000 in
set_option maxHeartbeats 1600000 in
theorem setRegsNone_any (h : Et w F T rs last) (e : Int) (hn : look rs e = none) (g : Nat → Nat) (pc : Nat) : Calls Tryz.prog 23 #[.pointer (some ⟨T, 0, none⟩), .int .i64 e, .agg (regsL g pc).toArray] w fun x w' => x = .returned (.int .i64 90) ∧ Below w.heap.size w w' := by
  have hb1 := (Below.refl w.heap.size w).alloc (Nat.le_refl _) (.cells (regsL g pc).toArray 35)
  obtain ⟨S, G, m, h⟩ := h
  have h1 := h.below hb1
  have c0 := h1.cell.1
  have HG := hide (getL_any _ G S m h1.tab e)
  have HB := hide hb1
  rcases h.cases e with ⟨h2, _⟩ | ⟨k', b, r', e1, hm, h3, h4, h5, hR⟩
  · rw [h2] at HG
    simp only [ptr, Option.isSome_none] at HG
    clear h h1 h2 hb1
    unfold regsL at *
    go_enter Tryz.func23, Tryz.ntmps23
    go_wp2_with fail
    refine HG.out.mono ?_
    rintro e1 w1 ⟨rfl, rfl⟩
    go_wp2
    go_ret
    exact ⟨rfl, HB.out⟩
  · rw [hn] at h5; cases h5
end
/-- the same but for states, registers, notices, flags -/
def KQ (rs rs' : List (Option Er)) : Prop := Same rs rs' ∧ ∀ (i : Nat) (r' : Er), rs'[i]? = some (some r') → ∃ r : Er, rs[i]? = some (some r) ∧ r'.pd = r.pd ∧ r'.le = r.le
section
variable {w : World} {F : Nat → Prop} {T : Nat} {rs : List (Option Er)} {last : Int}
theorem KQ.refl (rs : List (Option Er)) : KQ rs rs := ⟨⟨rfl, fun _ => rfl⟩, fun _ r h => ⟨r, h, rfl, rfl⟩⟩
theorem KQ.set {k : Nat} {r r' : Er} (h : rs[k]? = some (some r)) (h1 : r'.se = r.se) (h2 : r'.pa = r.pa) (h3 : r'.qu = r.qu) (h4 : r'.pd = r.pd) (h5 : r'.le = r.le) : KQ rs (rs.set k (some r')) := by
  refine ⟨Same.set h h1 h2 h3, fun i ri hi => ?_⟩
  by_cases e : i = k
  · subst e
    rw [List.getElem?_set_self (List.getElem?_eq_some_iff.1 h).1] at hi
    cases hi
    exact ⟨r, h, h4, h5⟩
  · rw [List.getElem?_set_ne (fun e' => e e'.symm)] at hi
    exact ⟨ri, hi, rfl, rfl⟩
/-- notices are words -/
def Wd (rs : List (Option Er)) : Prop := ∀ (k : Nat) (r : Er), rs[k]? = some (some r) → 0 ≤ r.bi ∧ r.bi ≤ 4294967295
theorem Wd.set (h : Wd rs) {k : Nat} {r' : Er} (hb : 0 ≤ r'.bi ∧ r'.bi ≤ 4294967295) : Wd (rs.set k (some r')) := by
  intro j rj hj
  by_cases e : j = k
  · subst e
    by_cases hl : j < rs.length
    · rw [List.getElem?_set_self hl] at hj; cases hj; exact hb
    · rw [List.getElem?_eq_none (by simp; omega)] at hj; cases hj
  · rw [List.getElem?_set_ne (fun e' => e e'.symm)] at hj; exact h j rj hj
/-- what a setting call leaves -/
def Qu (w : World) (F : Nat → Prop) (T : Nat) (rs : List (Option Er)) (last : Int) (rs' : List (Option Er)) (w' : World) : Prop := Et w' F T rs' last ∧ Mod F w w' ∧ Iv rs' last ∧ Wd rs' ∧ KQ rs rs'
theorem Qu.same (h : Et w F T rs last) (iv : Iv rs last) (wd : Wd rs) : Qu w F T rs last rs w := ⟨h, Mod.refl _ _, iv, wd, KQ.refl _⟩
theorem Qu.bel (h : Et w F T rs last) (iv : Iv rs last) (wd : Wd rs) {w' : World} (hb : Below w.heap.size w w') : Qu w F T rs last rs w' := ⟨h.below hb, Mod.of_below hb, iv, wd, KQ.refl _⟩
theorem Qu.at (iv : Iv rs last) (wd : Wd rs) {k : Nat} {r r' : Er} (hr : rs[k]? = some (some r)) {w' : World} (h : Et w' F T (rs.set k (some r')) last) (hm : Mod F w w') (h1 : r'.se = r.se) (h2 : r'.pa = r.pa) (h3 : r'.qu = r.qu) (h4 : r'.pd = r.pd) (h5 : r'.le = r.le) (h6 : 0 ≤ r'.bi ∧ r'.bi ≤ 4294967295) : Qu w F T rs last (rs.set k (some r')) w' :=
  ⟨h, hm, iv.keepq hr h1 h2 h3 h4 h5, wd.set h6, KQ.set hr h1 h2 h3 h4 h5⟩
/-- one record changed -/
def atE (rs : List (Option Er)) (e : Int) (f : Er → Er) : List (Option Er) := match look rs e with | none => rs | some r => rs.set e.toNat (some (f r))
theorem atE_none {e : Int} {f : Er → Er} (hl : look rs e = none) : atE rs e f = rs := by unfold atE; rw [hl]
theorem atE_some {k : Nat} {r : Er} {f : Er → Er} (hl : look rs (k : Int) = some r) : atE rs (k : Int) f = rs.set k (some (f r)) := by unfold atE; rw [hl]; rfl
def rgS (rs : List (Option Er)) (e : Int) (g : Nat → Nat) (pc : Nat) : List (Option Er) := atE rs e (fun r => { r with rg := g, pc := pc })
def stS (rs : List (Option Er)) (e st co : Int) : List (Option Er) := if (0 ≤ st ∧ st ≤ 4) ∧ (0 ≤ co ∧ co ≤ 4294967295) then atE rs e (fun r => { r with st := st, co := co }) else rs
def btS (rs : List (Option Er)) (e n : Int) : List (Option Er) := if 0 ≤ n ∧ n ≤ 4294967295 then atE rs e (fun r => { r with bi := n }) else rs
def noS (rs : List (Option Er)) (e n : Int) : List (Option Er) := if 0 ≤ n ∧ n ≤ 4294967295 then atE rs e (fun r => noticed r n) else rs
def waS (rs : List (Option Er)) (e : Int) : List (Option Er) := atE rs e waited
def frS (rs : List (Option Er)) (e : Int) (on : Bool) : List (Option Er) := atE rs e (fun r => { r with fz := on })
theorem stS_none {e st co : Int} (hl : look rs e = none) : stS rs e st co = rs := by unfold stS; rw [atE_none hl]; split <;> rfl
theorem btS_none {e n : Int} (hl : look rs e = none) : btS rs e n = rs := by unfold btS; rw [atE_none hl]; split <;> rfl
theorem noS_none {e n : Int} (hl : look rs e = none) : noS rs e n = rs := by unfold noS; rw [atE_none hl]; split <;> rfl
theorem setRegs_q (h : Et w F T rs last) (iv : Iv rs last) (wd : Wd rs) (e : Int) (g : Nat → Nat) (pc : Nat) : Calls Tryz.prog 23 #[.pointer (some ⟨T, 0, none⟩), .int .i64 e, .agg (regsL g pc).toArray] w fun x w' => (∃ c, x = .returned (.int .i64 c)) ∧ Qu w F T rs last (rgS rs e g pc) w' := by
  cases hl : look rs e with
  | none =>
    rw [show (rgS rs e g pc) = rs from by unfold rgS; exact atE_none hl]
    exact (setRegsNone_any w F T rs last h e hl g pc).mono (fun x w' ⟨h1, h2⟩ => ⟨⟨_, h1⟩, Qu.bel h iv wd h2⟩)
  | some r =>
    obtain ⟨k, rfl, hr⟩ := look_some hl
    rw [show (rgS rs (k : Int) g pc) = rs.set k (some { r with rg := g, pc := pc }) by unfold rgS; rw [atE_some hl]]
    exact (setRegs_any w F T rs last h k r hr g pc).mono (fun x w' ⟨h1, h2, h3⟩ => ⟨⟨_, h1⟩, Qu.at iv wd hr h2 h3 rfl rfl rfl rfl rfl (wd k r hr)⟩)
theorem setState_q (h : Et w F T rs last) (iv : Iv rs last) (wd : Wd rs) (e st co : Int) : Calls Tryz.prog 25 #[.pointer (some ⟨T, 0, none⟩), .int .i64 e, .int .i64 st, .int .i64 co] w fun x w' => (∃ c, x = .returned (.int .i64 c)) ∧ Qu w F T rs last (stS rs e st co) w' := by
  have same : ∀ {c : Int} {x : Ending} {w' : World}, (x = .returned (.int .i64 c) ∧ w' = w) → (∃ c, x = .returned (.int .i64 c)) ∧ Qu w F T rs last rs w' := fun ⟨h1, h2⟩ => ⟨⟨_, h1⟩, by rw [h2]; exact Qu.same h iv wd⟩
  cases hl : look rs e with
  | none =>
    rw [show (stS rs e st co) = rs from stS_none hl]
    exact (setStateNone_any w F T rs last h e hl st co).mono (fun x w' hh => same hh)
  | some r =>
    obtain ⟨k, rfl, hr⟩ := look_some hl
    by_cases h1 : st < 0
    · rw [show (stS rs (k : Int) st co) = rs by unfold stS; rw [if_neg (by omega)]]
      exact (setStateBad1_any w F T rs last h k r hr st co h1).mono (fun x w' hh => same hh)
    by_cases h2 : 4 < st
    · rw [show (stS rs (k : Int) st co) = rs by unfold stS; rw [if_neg (by omega)]]
      exact (setStateBad2_any w F T rs last h k r hr st co h2).mono (fun x w' hh => same hh)
    by_cases h3 : 0 ≤ co ∧ co ≤ 4294967295
    · rw [show (stS rs (k : Int) st co) = rs.set k (some { r with st := st, co := co }) by unfold stS; rw [if_pos ⟨by omega, h3⟩, atE_some hl]]
      exact (setState_any w F T rs last h k r hr st co ⟨by omega, by omega⟩ h3).mono (fun x w' ⟨h1, h2, h3⟩ => ⟨⟨_, h1⟩, Qu.at iv wd hr h2 h3 rfl rfl rfl rfl rfl (wd k r hr)⟩)
    · rw [show (stS rs (k : Int) st co) = rs by unfold stS; rw [if_neg (fun h9 => h3 h9.2)]]
      exact (setStateBad3_any w F T rs last h k r hr st co ⟨by omega, by omega⟩ h3).mono (fun x w' hh => same hh)
theorem setBits_q (h : Et w F T rs last) (iv : Iv rs last) (wd : Wd rs) (e n : Int) : Calls Tryz.prog 27 #[.pointer (some ⟨T, 0, none⟩), .int .i64 e, .int .i64 n] w fun x w' => (∃ c, x = .returned (.int .i64 c)) ∧ Qu w F T rs last (btS rs e n) w' := by
  cases hl : look rs e with
  | none =>
    rw [show (btS rs e n) = rs from btS_none hl]
    exact (setBitsNone_any w F T rs last h e hl n).mono (fun x w' ⟨h1, h2⟩ => ⟨⟨_, h1⟩, by rw [h2]; exact Qu.same h iv wd⟩)
  | some r =>
    obtain ⟨k, rfl, hr⟩ := look_some hl
    by_cases h3 : 0 ≤ n ∧ n ≤ 4294967295
    · have hn := h3
      rw [show (btS rs (k : Int) n) = rs.set k (some { r with bi := n }) by unfold btS; rw [if_pos hn, atE_some hl]]
      exact (setBits_any w F T rs last h k r hr n h3).mono (fun x w' ⟨h1, h2, h3⟩ => ⟨⟨_, h1⟩, Qu.at iv wd hr h2 h3 rfl rfl rfl rfl rfl hn⟩)
    · rw [show (btS rs (k : Int) n) = rs by unfold btS; rw [if_neg h3]]
      exact (setBitsBad_any w F T rs last h k r hr n h3).mono (fun x w' ⟨h1, h2⟩ => ⟨⟨_, h1⟩, by rw [h2]; exact Qu.same h iv wd⟩)
theorem noticed_keeps (r : Er) (n : Int) : (noticed r n).se = r.se ∧ (noticed r n).pa = r.pa ∧ (noticed r n).qu = r.qu ∧ (noticed r n).pd = r.pd ∧ (noticed r n).le = r.le := by
  unfold noticed
  split <;> exact ⟨rfl, rfl, rfl, rfl, rfl⟩
theorem waited_keeps (r : Er) : (waited r).se = r.se ∧ (waited r).pa = r.pa ∧ (waited r).qu = r.qu ∧ (waited r).pd = r.pd ∧ (waited r).le = r.le := by
  unfold waited
  split <;> exact ⟨rfl, rfl, rfl, rfl, rfl⟩
theorem or_word (a n : Int) (ha : 0 ≤ a ∧ a ≤ 4294967295) (hn : 0 ≤ n ∧ n ≤ 4294967295) : 0 ≤ bits .or .i64 a n ∧ bits .or .i64 a n ≤ 4294967295 := by
  obtain ⟨x, rfl⟩ := Int.eq_ofNat_of_zero_le ha.1
  obtain ⟨y, rfl⟩ := Int.eq_ofNat_of_zero_le hn.1
  have h1 := bits_or_i64 x y (by omega) (by omega)
  have h2 := or_lt x y (by omega) (by omega)
  rw [h1]; omega
theorem notify_q (h : Et w F T rs last) (iv : Iv rs last) (wd : Wd rs) (e n : Int) : Calls Tryz.prog 29 #[.pointer (some ⟨T, 0, none⟩), .int .i64 e, .int .i64 n] w fun x w' => (∃ c, x = .returned (.int .i64 c)) ∧ Qu w F T rs last (noS rs e n) w' := by
  cases hl : look rs e with
  | none =>
    rw [show (noS rs e n) = rs from noS_none hl]
    exact (notifyNone_any w F T rs last h e hl n).mono (fun x w' ⟨h1, h2⟩ => ⟨⟨_, h1⟩, by rw [h2]; exact Qu.same h iv wd⟩)
  | some r =>
    obtain ⟨k, rfl, hr⟩ := look_some hl
    by_cases hn : 0 ≤ n ∧ n ≤ 4294967295
    · obtain ⟨q1, q2, q3, q4, q5⟩ := noticed_keeps r n
      have hz := or_word r.bi n (wd k r hr) hn
      have q6 : 0 ≤ (noticed r n).bi ∧ (noticed r n).bi ≤ 4294967295 := by unfold noticed; split <;> first | exact hz | exact (show (0 : Int) ≤ 0 ∧ (0 : Int) ≤ 4294967295 from ⟨by decide, by decide⟩)
      rw [show (noS rs (k : Int) n) = rs.set k (some (noticed r n)) by unfold noS; rw [if_pos hn, atE_some hl]]
      exact (notify_any w F T rs last h k r hr n hn hz).mono (fun x w' ⟨h1, h2, h3⟩ => ⟨⟨_, h1⟩, Qu.at iv wd hr h2 h3 q1 q2 q3 q4 q5 q6⟩)
    · rw [show (noS rs (k : Int) n) = rs by unfold noS; rw [if_neg hn]]
      exact (notifyBad_any w F T rs last h k r hr n hn).mono (fun x w' ⟨h1, h2⟩ => ⟨⟨_, h1⟩, by rw [h2]; exact Qu.same h iv wd⟩)
theorem wait_q (h : Et w F T rs last) (iv : Iv rs last) (wd : Wd rs) (e : Int) : Calls Tryz.prog 31 #[.pointer (some ⟨T, 0, none⟩), .int .i64 e] w fun x w' => (∃ c d, x = .returned (.tuple #[.int .i64 c, .int .i64 d])) ∧ Qu w F T rs last (waS rs e) w' := by
  cases hl : look rs e with
  | none =>
    rw [show (waS rs e) = rs from by unfold waS; exact atE_none hl]
    exact (waitNone_any w F T rs last h e hl).mono (fun x w' ⟨h1, h2⟩ => ⟨⟨_, _, h1⟩, by rw [h2]; exact Qu.same h iv wd⟩)
  | some r =>
    obtain ⟨k, rfl, hr⟩ := look_some hl
    obtain ⟨q1, q2, q3, q4, q5⟩ := waited_keeps r
    have q6 : 0 ≤ (waited r).bi ∧ (waited r).bi ≤ 4294967295 := by unfold waited; split <;> exact (show (0 : Int) ≤ 0 ∧ (0 : Int) ≤ 4294967295 from ⟨by decide, by decide⟩)
    rw [show (waS rs (k : Int)) = rs.set k (some (waited r)) by unfold waS; rw [atE_some hl]]
    exact (waitSome_any w F T rs last h k r hr).mono (fun x w' ⟨h1, h2, h3⟩ => ⟨⟨_, _, h1⟩, Qu.at iv wd hr h2 h3 q1 q2 q3 q4 q5 q6⟩)
theorem freeze_q (h : Et w F T rs last) (iv : Iv rs last) (wd : Wd rs) (e : Int) (on : Bool) : Calls Tryz.prog 33 #[.pointer (some ⟨T, 0, none⟩), .int .i64 e, .bool on] w fun x w' => (∃ c, x = .returned (.int .i64 c)) ∧ Qu w F T rs last (frS rs e on) w' := by
  cases hl : look rs e with
  | none =>
    rw [show (frS rs e on) = rs from by unfold frS; exact atE_none hl]
    exact (freezeNone_any w F T rs last h e hl on).mono (fun x w' ⟨h1, h2⟩ => ⟨⟨_, h1⟩, by rw [h2]; exact Qu.same h iv wd⟩)
  | some r =>
    obtain ⟨k, rfl, hr⟩ := look_some hl
    rw [show (frS rs (k : Int) on) = rs.set k (some { r with fz := on }) by unfold frS; rw [atE_some hl]]
    exact (freeze_any w F T rs last h k r hr on).mono (fun x w' ⟨h1, h2, h3⟩ => ⟨⟨_, h1⟩, Qu.at iv wd hr h2 h3 rfl rfl rfl rfl rfl (wd k r hr)⟩)
end
end Go.Proofs.YtbocpmcodlceoaaGreat
