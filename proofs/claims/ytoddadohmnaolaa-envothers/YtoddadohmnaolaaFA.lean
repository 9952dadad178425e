import Derived.Test.YtoddadohmnaolaaEY
namespace Go.Proofs.Ytoddadohmnaolaa
open Go.RowKit Go.Shelf

/-- a sum over the sixteen numbers -/
def tot (f : Nat → Int) : Int := f 0 + f 1 + f 2 + f 3 + f 4 + f 5 + f 6 + f 7 + f 8 + f 9 + f 10 + f 11 + f 12 + f 13 + f 14 + f 15
theorem tot_congr {f g : Nat → Int} (h : ∀ j, j < 16 → g j = f j) : tot g = tot f := by
  unfold tot
  rw [h 0 (by omega), h 1 (by omega), h 2 (by omega), h 3 (by omega), h 4 (by omega), h 5 (by omega), h 6 (by omega), h 7 (by omega), h 8 (by omega), h 9 (by omega), h 10 (by omega), h 11 (by omega), h 12 (by omega), h 13 (by omega), h 14 (by omega), h 15 (by omega)]
theorem tot_pos {f : Nat → Int} (h : ∀ j, j < 16 → 0 ≤ f j) : 0 ≤ tot f := by
  unfold tot
  have h0 := h 0 (by omega)
  have h1 := h 1 (by omega)
  have h2 := h 2 (by omega)
  have h3 := h 3 (by omega)
  have h4 := h 4 (by omega)
  have h5 := h 5 (by omega)
  have h6 := h 6 (by omega)
  have h7 := h 7 (by omega)
  have h8 := h 8 (by omega)
  have h9 := h 9 (by omega)
  have h10 := h 10 (by omega)
  have h11 := h 11 (by omega)
  have h12 := h 12 (by omega)
  have h13 := h 13 (by omega)
  have h14 := h 14 (by omega)
  have h15 := h 15 (by omega)
  omega
theorem tot_upd {f g : Nat → Int} {i : Nat} (hi : i < 16) (h : ∀ j, j < 16 → j ≠ i → g j = f j) : tot g = tot f - f i + g i := by
  have hi' : i = 0 ∨ i = 1 ∨ i = 2 ∨ i = 3 ∨ i = 4 ∨ i = 5 ∨ i = 6 ∨ i = 7 ∨ i = 8 ∨ i = 9 ∨ i = 10 ∨ i = 11 ∨ i = 12 ∨ i = 13 ∨ i = 14 ∨ i = 15 := by omega
  unfold tot
  rcases hi' with rfl | rfl | rfl | rfl | rfl | rfl | rfl | rfl | rfl | rfl | rfl | rfl | rfl | rfl | rfl | rfl
  · have h1 := h 1 (by omega) (by omega)
    have h2 := h 2 (by omega) (by omega)
    have h3 := h 3 (by omega) (by omega)
    have h4 := h 4 (by omega) (by omega)
    have h5 := h 5 (by omega) (by omega)
    have h6 := h 6 (by omega) (by omega)
    have h7 := h 7 (by omega) (by omega)
    have h8 := h 8 (by omega) (by omega)
    have h9 := h 9 (by omega) (by omega)
    have h10 := h 10 (by omega) (by omega)
    have h11 := h 11 (by omega) (by omega)
    have h12 := h 12 (by omega) (by omega)
    have h13 := h 13 (by omega) (by omega)
    have h14 := h 14 (by omega) (by omega)
    have h15 := h 15 (by omega) (by omega)
    omega
  · have h0 := h 0 (by omega) (by omega)
    have h2 := h 2 (by omega) (by omega)
    have h3 := h 3 (by omega) (by omega)
    have h4 := h 4 (by omega) (by omega)
    have h5 := h 5 (by omega) (by omega)
    have h6 := h 6 (by omega) (by omega)
    have h7 := h 7 (by omega) (by omega)
    have h8 := h 8 (by omega) (by omega)
    have h9 := h 9 (by omega) (by omega)
    have h10 := h 10 (by omega) (by omega)
    have h11 := h 11 (by omega) (by omega)
    have h12 := h 12 (by omega) (by omega)
    have h13 := h 13 (by omega) (by omega)
    have h14 := h 14 (by omega) (by omega)
    have h15 := h 15 (by omega) (by omega)
    omega
  · have h0 := h 0 (by omega) (by omega)
    have h1 := h 1 (by omega) (by omega)
    have h3 := h 3 (by omega) (by omega)
    have h4 := h 4 (by omega) (by omega)
    have h5 := h 5 (by omega) (by omega)
    have h6 := h 6 (by omega) (by omega)
    have h7 := h 7 (by omega) (by omega)
    have h8 := h 8 (by omega) (by omega)
    have h9 := h 9 (by omega) (by omega)
    have h10 := h 10 (by omega) (by omega)
    have h11 := h 11 (by omega) (by omega)
    have h12 := h 12 (by omega) (by omega)
    have h13 := h 13 (by omega) (by omega)
    have h14 := h 14 (by omega) (by omega)
    have h15 := h 15 (by omega) (by omega)
    omega
  · have h0 := h 0 (by omega) (by omega)
    have h1 := h 1 (by omega) (by omega)
    have h2 := h 2 (by omega) (by omega)
    have h4 := h 4 (by omega) (by omega)
    have h5 := h 5 (by omega) (by omega)
    have h6 := h 6 (by omega) (by omega)
    have h7 := h 7 (by omega) (by omega)
    have h8 := h 8 (by omega) (by omega)
    have h9 := h 9 (by omega) (by omega)
    have h10 := h 10 (by omega) (by omega)
    have h11 := h 11 (by omega) (by omega)
    have h12 := h 12 (by omega) (by omega)
    have h13 := h 13 (by omega) (by omega)
    have h14 := h 14 (by omega) (by omega)
    have h15 := h 15 (by omega) (by omega)
    omega
  · have h0 := h 0 (by omega) (by omega)
    have h1 := h 1 (by omega) (by omega)
    have h2 := h 2 (by omega) (by omega)
    have h3 := h 3 (by omega) (by omega)
    have h5 := h 5 (by omega) (by omega)
    have h6 := h 6 (by omega) (by omega)
    have h7 := h 7 (by omega) (by omega)
    have h8 := h 8 (by omega) (by omega)
    have h9 := h 9 (by omega) (by omega)
    have h10 := h 10 (by omega) (by omega)
    have h11 := h 11 (by omega) (by omega)
    have h12 := h 12 (by omega) (by omega)
    have h13 := h 13 (by omega) (by omega)
    have h14 := h 14 (by omega) (by omega)
    have h15 := h 15 (by omega) (by omega)
    omega
  · have h0 := h 0 (by omega) (by omega)
    have h1 := h 1 (by omega) (by omega)
    have h2 := h 2 (by omega) (by omega)
    have h3 := h 3 (by omega) (by omega)
    have h4 := h 4 (by omega) (by omega)
    have h6 := h 6 (by omega) (by omega)
    have h7 := h 7 (by omega) (by omega)
    have h8 := h 8 (by omega) (by omega)
    have h9 := h 9 (by omega) (by omega)
    have h10 := h 10 (by omega) (by omega)
    have h11 := h 11 (by omega) (by omega)
    have h12 := h 12 (by omega) (by omega)
    have h13 := h 13 (by omega) (by omega)
    have h14 := h 14 (by omega) (by omega)
    have h15 := h 15 (by omega) (by omega)
    omega
  · have h0 := h 0 (by omega) (by omega)
    have h1 := h 1 (by omega) (by omega)
    have h2 := h 2 (by omega) (by omega)
    have h3 := h 3 (by omega) (by omega)
    have h4 := h 4 (by omega) (by omega)
    have h5 := h 5 (by omega) (by omega)
    have h7 := h 7 (by omega) (by omega)
    have h8 := h 8 (by omega) (by omega)
    have h9 := h 9 (by omega) (by omega)
    have h10 := h 10 (by omega) (by omega)
    have h11 := h 11 (by omega) (by omega)
    have h12 := h 12 (by omega) (by omega)
    have h13 := h 13 (by omega) (by omega)
    have h14 := h 14 (by omega) (by omega)
    have h15 := h 15 (by omega) (by omega)
    omega
  · have h0 := h 0 (by omega) (by omega)
    have h1 := h 1 (by omega) (by omega)
    have h2 := h 2 (by omega) (by omega)
    have h3 := h 3 (by omega) (by omega)
    have h4 := h 4 (by omega) (by omega)
    have h5 := h 5 (by omega) (by omega)
    have h6 := h 6 (by omega) (by omega)
    have h8 := h 8 (by omega) (by omega)
    have h9 := h 9 (by omega) (by omega)
    have h10 := h 10 (by omega) (by omega)
    have h11 := h 11 (by omega) (by omega)
    have h12 := h 12 (by omega) (by omega)
    have h13 := h 13 (by omega) (by omega)
    have h14 := h 14 (by omega) (by omega)
    have h15 := h 15 (by omega) (by omega)
    omega
  · have h0 := h 0 (by omega) (by omega)
    have h1 := h 1 (by omega) (by omega)
    have h2 := h 2 (by omega) (by omega)
    have h3 := h 3 (by omega) (by omega)
    have h4 := h 4 (by omega) (by omega)
    have h5 := h 5 (by omega) (by omega)
    have h6 := h 6 (by omega) (by omega)
    have h7 := h 7 (by omega) (by omega)
    have h9 := h 9 (by omega) (by omega)
    have h10 := h 10 (by omega) (by omega)
    have h11 := h 11 (by omega) (by omega)
    have h12 := h 12 (by omega) (by omega)
    have h13 := h 13 (by omega) (by omega)
    have h14 := h 14 (by omega) (by omega)
    have h15 := h 15 (by omega) (by omega)
    omega
  · have h0 := h 0 (by omega) (by omega)
    have h1 := h 1 (by omega) (by omega)
    have h2 := h 2 (by omega) (by omega)
    have h3 := h 3 (by omega) (by omega)
    have h4 := h 4 (by omega) (by omega)
    have h5 := h 5 (by omega) (by omega)
    have h6 := h 6 (by omega) (by omega)
    have h7 := h 7 (by omega) (by omega)
    have h8 := h 8 (by omega) (by omega)
    have h10 := h 10 (by omega) (by omega)
    have h11 := h 11 (by omega) (by omega)
    have h12 := h 12 (by omega) (by omega)
    have h13 := h 13 (by omega) (by omega)
    have h14 := h 14 (by omega) (by omega)
    have h15 := h 15 (by omega) (by omega)
    omega
  · have h0 := h 0 (by omega) (by omega)
    have h1 := h 1 (by omega) (by omega)
    have h2 := h 2 (by omega) (by omega)
    have h3 := h 3 (by omega) (by omega)
    have h4 := h 4 (by omega) (by omega)
    have h5 := h 5 (by omega) (by omega)
    have h6 := h 6 (by omega) (by omega)
    have h7 := h 7 (by omega) (by omega)
    have h8 := h 8 (by omega) (by omega)
    have h9 := h 9 (by omega) (by omega)
    have h11 := h 11 (by omega) (by omega)
    have h12 := h 12 (by omega) (by omega)
    have h13 := h 13 (by omega) (by omega)
    have h14 := h 14 (by omega) (by omega)
    have h15 := h 15 (by omega) (by omega)
    omega
  · have h0 := h 0 (by omega) (by omega)
    have h1 := h 1 (by omega) (by omega)
    have h2 := h 2 (by omega) (by omega)
    have h3 := h 3 (by omega) (by omega)
    have h4 := h 4 (by omega) (by omega)
    have h5 := h 5 (by omega) (by omega)
    have h6 := h 6 (by omega) (by omega)
    have h7 := h 7 (by omega) (by omega)
    have h8 := h 8 (by omega) (by omega)
    have h9 := h 9 (by omega) (by omega)
    have h10 := h 10 (by omega) (by omega)
    have h12 := h 12 (by omega) (by omega)
    have h13 := h 13 (by omega) (by omega)
    have h14 := h 14 (by omega) (by omega)
    have h15 := h 15 (by omega) (by omega)
    omega
  · have h0 := h 0 (by omega) (by omega)
    have h1 := h 1 (by omega) (by omega)
    have h2 := h 2 (by omega) (by omega)
    have h3 := h 3 (by omega) (by omega)
    have h4 := h 4 (by omega) (by omega)
    have h5 := h 5 (by omega) (by omega)
    have h6 := h 6 (by omega) (by omega)
    have h7 := h 7 (by omega) (by omega)
    have h8 := h 8 (by omega) (by omega)
    have h9 := h 9 (by omega) (by omega)
    have h10 := h 10 (by omega) (by omega)
    have h11 := h 11 (by omega) (by omega)
    have h13 := h 13 (by omega) (by omega)
    have h14 := h 14 (by omega) (by omega)
    have h15 := h 15 (by omega) (by omega)
    omega
  · have h0 := h 0 (by omega) (by omega)
    have h1 := h 1 (by omega) (by omega)
    have h2 := h 2 (by omega) (by omega)
    have h3 := h 3 (by omega) (by omega)
    have h4 := h 4 (by omega) (by omega)
    have h5 := h 5 (by omega) (by omega)
    have h6 := h 6 (by omega) (by omega)
    have h7 := h 7 (by omega) (by omega)
    have h8 := h 8 (by omega) (by omega)
    have h9 := h 9 (by omega) (by omega)
    have h10 := h 10 (by omega) (by omega)
    have h11 := h 11 (by omega) (by omega)
    have h12 := h 12 (by omega) (by omega)
    have h14 := h 14 (by omega) (by omega)
    have h15 := h 15 (by omega) (by omega)
    omega
  · have h0 := h 0 (by omega) (by omega)
    have h1 := h 1 (by omega) (by omega)
    have h2 := h 2 (by omega) (by omega)
    have h3 := h 3 (by omega) (by omega)
    have h4 := h 4 (by omega) (by omega)
    have h5 := h 5 (by omega) (by omega)
    have h6 := h 6 (by omega) (by omega)
    have h7 := h 7 (by omega) (by omega)
    have h8 := h 8 (by omega) (by omega)
    have h9 := h 9 (by omega) (by omega)
    have h10 := h 10 (by omega) (by omega)
    have h11 := h 11 (by omega) (by omega)
    have h12 := h 12 (by omega) (by omega)
    have h13 := h 13 (by omega) (by omega)
    have h15 := h 15 (by omega) (by omega)
    omega
  · have h0 := h 0 (by omega) (by omega)
    have h1 := h 1 (by omega) (by omega)
    have h2 := h 2 (by omega) (by omega)
    have h3 := h 3 (by omega) (by omega)
    have h4 := h 4 (by omega) (by omega)
    have h5 := h 5 (by omega) (by omega)
    have h6 := h 6 (by omega) (by omega)
    have h7 := h 7 (by omega) (by omega)
    have h8 := h 8 (by omega) (by omega)
    have h9 := h 9 (by omega) (by omega)
    have h10 := h 10 (by omega) (by omega)
    have h11 := h 11 (by omega) (by omega)
    have h12 := h 12 (by omega) (by omega)
    have h13 := h 13 (by omega) (by omega)
    have h14 := h 14 (by omega) (by omega)
    omega
theorem tot_le {f : Nat → Int} {i : Nat} (hi : i < 16) (h : ∀ j, j < 16 → 0 ≤ f j) : f i ≤ tot f := by
  have h1 := tot_upd (f := fun j => if j = i then 0 else f j) (g := f) hi (fun j _ hj => by simp [hj])
  have h2 := tot_pos (f := fun j => if j = i then 0 else f j) (fun j hj => by split; omega; exact h j hj)
  simp at h1
  omega
section
variable {rs rs' : List (Option Er)} {last : Int}
/-- what stands of a number but for what changes -/
def core (rs : List (Option Er)) (i : Nat) : Option (Int × Int × Qt) := (look rs (i : Int)).map (fun r => (r.se, r.pa, r.qu))
theorem core_at {i : Nat} {r : Er} (h : rs[i]? = some (some r)) : core rs i = some (r.se, r.pa, r.qu) := by unfold core; rw [look_nat, h]; rfl
theorem lv_core {i : Nat} : Lv rs i ↔ (core rs i).isSome = true := by
  unfold Lv core
  rw [look_nat]
  cases h : rs[i]? with
  | none => simp
  | some o => cases o <;> simp
/-- what a child costs -/
def prc (rs : List (Option Er)) (i : Nat) : Qt := match core rs i with | some (_, _, q) => q.plus Qt.one | none => Qt.zero
theorem kid_core {e : Int} {i : Nat} : kid rs e i = match core rs i with | some (_, p, _) => decide (p = e) | none => false := by
  unfold kid core
  rw [look_nat]
  cases h : rs[i]? with
  | none => rfl
  | some o => cases o <;> rfl
theorem ser_core {i : Nat} : ser rs i = match core rs i with | some (s, _, _) => s | none => 0 := by
  unfold ser core
  rw [look_nat]
  cases h : rs[i]? with
  | none => rfl
  | some o => cases o <;> rfl
/-- the same but for what changes -/
def Same (rs rs' : List (Option Er)) : Prop := rs'.length = rs.length ∧ ∀ i, core rs' i = core rs i
theorem Same.set {k : Nat} {r r' : Er} (h : rs[k]? = some (some r)) (h1 : r'.se = r.se) (h2 : r'.pa = r.pa) (h3 : r'.qu = r.qu) : Same rs (rs.set k (some r')) := by
  refine ⟨by simp, fun i => ?_⟩
  by_cases e : i = k
  · subst e
    rw [core_at h, core_at (r := r') (by rw [List.getElem?_set_self (List.getElem?_eq_some_iff.1 h).1]), h1, h2, h3]
  · unfold core
    rw [look_nat, look_nat, List.getElem?_set_ne (fun e' => e e'.symm)]
theorem Same.kid (h : Same rs rs') (e : Int) (i : Nat) : kid rs' e i = kid rs e i := by rw [kid_core, kid_core, h.2 i]
theorem Same.ser (h : Same rs rs') (i : Nat) : ser rs' i = ser rs i := by rw [ser_core, ser_core, h.2 i]
theorem Same.prc (h : Same rs rs') (i : Nat) : prc rs' i = prc rs i := by unfold Go.Proofs.Ytoddadohmnaolaa.prc; rw [h.2 i]
theorem Same.lv (h : Same rs rs') (i : Nat) : Lv rs' i ↔ Lv rs i := by rw [lv_core, lv_core, h.2 i]
theorem none_core {i : Nat} (hi : i < rs.length) : rs[i]? = some none ↔ core rs i = none := by
  unfold core
  rw [look_nat, List.getElem?_eq_getElem hi]
  cases rs[i] <;> simp
theorem Same.fsts (h : Same rs rs') : (prs rs' 0).map Prod.fst = (prs rs 0).map Prod.fst := by
  unfold prs
  refine prsL_same _ _ _ (by simp [h.1]) (fun i => ?_)
  simp only [List.drop_zero]
  by_cases hi : i < rs.length
  · rw [none_core (by rw [h.1]; exact hi), none_core hi, h.2 i]
  · rw [List.getElem?_eq_none (by rw [h.1]; omega), List.getElem?_eq_none (by omega)]
theorem Same.kids (h : Same rs rs') (e : Int) : kids rs' e = kids rs e := by
  have h1 : kidsU rs' e = kidsU rs e := by
    unfold kidsU fitK
    rw [h.fsts]
    congr 1
    funext i; exact h.kid e i
  unfold Go.Proofs.Ytoddadohmnaolaa.kids
  rw [h1]
  congr 1
  funext a b
  rw [h.ser, h.ser]
theorem Same.wk (h : Same rs rs') : ∀ n e, wk rs' n e = wk rs n e
  | 0, _ => rfl
  | n + 1, e => by
    simp only [Go.Proofs.Ytoddadohmnaolaa.wk]
    rw [h.kids]
    congr 2
    funext c; exact h.wk n c
theorem Same.dp (h : Same rs rs') : ∀ n e, Dp rs n e → Dp rs' n e
  | 0, _, hd => hd
  | n + 1, e, hd => fun k hk => h.dp n k (hd k (by rw [← h.kids]; exact hk))
theorem Same.dis (h : Same rs rs') (hd : Dis rs) : Dis rs' := fun a b ha hb e => hd a b ((h.lv a).1 ha) ((h.lv b).1 hb) (by rw [← h.ser, ← h.ser]; exact e)
end
end Go.Proofs.Ytoddadohmnaolaa
