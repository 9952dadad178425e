import Derived.Test.YtngmnlmagbfijaaM3
namespace Go.Proofs.Ytngmnlmagbfijaa
open Go.RowKit
/-- v is a slice of shares, in blocks of S -/
def ShR (S : Nat → Prop) (w : World) (v : Value) (l : List Sh) : Prop :=
  ∃ ao cap, v = .slice ao l.length cap ∧ l.length ≤ cap ∧ ∀ i x, l[i]? = some x → ∃ a, ao = some a ∧ S a.block ∧ w.cell? (a.add (i * 3)) = some (.int .i64 x.s) ∧ w.cell? (a.add (i * 3 + 1)) = some (.int .i64 x.w) ∧ w.cell? (a.add (i * 3 + 2)) = some (.int .i64 x.p)
theorem shs_get : ∀ (l : List Sh) (i : Nat) (x : Sh), l[i]? = some x → (shs l)[i * 3]? = some (.int .i64 x.s) ∧ (shs l)[i * 3 + 1]? = some (.int .i64 x.w) ∧ (shs l)[i * 3 + 2]? = some (.int .i64 x.p)
  | [], _, _, h => by simp at h
  | b :: cs, 0, x, h => by simp at h; subst h; exact ⟨rfl, rfl, rfl⟩
  | b :: cs, i + 1, x, h => by
    have := shs_get cs i x (by simpa using h)
    rw [show (i + 1) * 3 = i * 3 + 3 by omega, show i * 3 + 3 + 1 = i * 3 + 1 + 3 by omega, show i * 3 + 3 + 2 = i * 3 + 2 + 3 by omega]
    simpa [shs, shL] using this
theorem Os.shr {w : World} {base : Nat} {v : Value} {l : List Sh} (h : Os w base v l) : ShR (fun b => base ≤ b ∧ b < w.heap.size) w v l := by
  have h' := h
  obtain ⟨hl, ⟨rfl, h0⟩ | ⟨g, cap, cur, rfl, hb, hg, hn, hm, hs, ht⟩⟩ := h
  · have : l = [] := List.eq_nil_of_length_eq_zero h0
    subst this
    exact ⟨none, 0, rfl, Nat.le_refl _, fun i c hc => by simp at hc⟩
  · refine ⟨_, cap, rfl, hn, fun i x hx => ?_⟩
    obtain ⟨d0, d1, d2⟩ := shs_get l i x hx
    exact ⟨_, rfl, ⟨(World.ownsRow.lt h' g rfl).1, (World.ownsRow.lt h' g rfl).2⟩, World.ownsRow.cells h' rfl _ _ d0, World.ownsRow.cells h' rfl _ _ d1, World.ownsRow.cells h' rfl _ _ d2⟩
theorem ShR.keep {S : Nat → Prop} {w w' : World} {v : Value} {l : List Sh} (h : ShR S w v l) (hb : ∀ b, S b → w'.heap[b]? = w.heap[b]?) : ShR S w' v l := by
  obtain ⟨ao, cap, h1, h2, h3⟩ := h
  refine ⟨ao, cap, h1, h2, fun i x hx => ?_⟩
  obtain ⟨a, e, hS, c0, c1, c2⟩ := h3 i x hx
  have hk := hb _ hS
  exact ⟨a, e, hS, cell_keep c0 hk, cell_keep c1 hk, cell_keep c2 hk⟩
theorem ShR.mono {S S' : Nat → Prop} {w : World} {v : Value} {l : List Sh} (h : ShR S w v l) (hb : ∀ b, S b → S' b) : ShR S' w v l := by
  obtain ⟨ao, cap, h1, h2, h3⟩ := h
  refine ⟨ao, cap, h1, h2, fun i x hx => ?_⟩
  obtain ⟨a, e, hS, c⟩ := h3 i x hx
  exact ⟨a, e, hb _ hS, c⟩
theorem ShR.at {S : Nat → Prop} {w : World} {ao : Option Addr} {n cap : Nat} {l : List Sh} (h : ShR S w (.slice ao n cap) l) {i : Nat} {x : Sh} (hx : l[i]? = some x) :
    ∃ a, ao = some a ∧ S a.block ∧ w.cell? (a.add (i * 3)) = some (.int .i64 x.s) ∧ w.cell? ⟨(a.add (i * 3)).block, (a.add (i * 3)).off + 1, none⟩ = some (.int .i64 x.w) ∧ w.cell? ⟨(a.add (i * 3)).block, (a.add (i * 3)).off + 2, none⟩ = some (.int .i64 x.p) := by
  obtain ⟨ao', cap', h1, h2, h3⟩ := h
  cases h1
  obtain ⟨a, e, hS, c0, c1, c2⟩ := h3 i x hx
  have ea : ∀ j, a.add (i * 3 + (j + 1)) = (⟨(a.add (i * 3)).block, (a.add (i * 3)).off + (j + 1), none⟩ : Addr) := fun j => by rw [← Addr.add_add]; simp [Addr.add]
  rw [ea 0] at c1
  rw [ea 1] at c2
  exact ⟨a, e, hS, c0, c1, c2⟩
def wOf (l : List Sh) (k : Int) : Int := match l.find? (fun x => x.s == k) with | some x => x.w | none => 0
def pOf (l : List Sh) (k : Int) : Int := match l.find? (fun x => x.s == k) with | some x => x.p | none => -1
theorem find_first {l : List Sh} {i : Nat} {x : Sh} (hx : l[i]? = some x) (h : ∀ (j : Nat) (y : Sh), j < i → l[j]? = some y → y.s ≠ x.s) : l.find? (fun y => y.s == x.s) = some x := by
  obtain ⟨h1, h2⟩ := List.getElem?_eq_some_iff.1 hx
  rw [List.find?_eq_some_iff_getElem]
  refine ⟨by simp, i, h1, h2, fun j hj => ?_⟩
  have := h j _ hj (List.getElem?_eq_getElem (by omega))
  simpa using this
theorem find_nothing {l : List Sh} {a : Int} (h : ∀ (j : Nat) (y : Sh), l[j]? = some y → y.s ≠ a) : l.find? (fun y => y.s == a) = none := by
  rw [List.find?_eq_none]
  intro x hx
  obtain ⟨i, hi, rfl⟩ := List.getElem_of_mem hx
  simpa using h i _ (List.getElem?_eq_getElem hi)
theorem wOf_first {l : List Sh} {i : Nat} {x : Sh} (hx : l[i]? = some x) (h : ∀ (j : Nat) (y : Sh), j < i → l[j]? = some y → y.s ≠ x.s) : wOf l x.s = x.w := by unfold wOf; rw [find_first hx h]
theorem pOf_first {l : List Sh} {i : Nat} {x : Sh} (hx : l[i]? = some x) (h : ∀ (j : Nat) (y : Sh), j < i → l[j]? = some y → y.s ≠ x.s) : pOf l x.s = x.p := by unfold pOf; rw [find_first hx h]
theorem wOf_none {l : List Sh} {a : Int} (h : ∀ (j : Nat) (y : Sh), l[j]? = some y → y.s ≠ a) : wOf l a = 0 := by unfold wOf; rw [find_nothing h]
theorem pOf_none {l : List Sh} {a : Int} (h : ∀ (j : Nat) (y : Sh), l[j]? = some y → y.s ≠ a) : pOf l a = -1 := by unfold pOf; rw [find_nothing h]
theorem told_find (s : Pl) {ks : List Int} {k : Int} (hk : k ∈ ks) : (told s ks).find? (fun x => x.s == k) = some ⟨k, val s.wt k, psv s k⟩ := by
  unfold told
  induction ks with
  | nil => simp at hk
  | cons a t ih =>
    rw [List.map_cons, List.find?_cons]
    by_cases h : a = k
    · subst h; simp
    · have h2 : (a == k) = false := by simpa using h
      simp only [h2]
      exact ih (by simpa [Ne.symm h] using hk)
theorem wOf_told (s : Pl) {ks : List Int} {k : Int} (hk : k ∈ ks) : wOf (told s ks) k = val s.wt k := by unfold wOf; rw [told_find s hk]
theorem pOf_told (s : Pl) {ks : List Int} {k : Int} (hk : k ∈ ks) : pOf (told s ks) k = psv s k := by unfold pOf; rw [told_find s hk]
section
variable (w : World)
set_option maxRecDepth 100000 in
set_option maxHeartbeats 4000000 in
theorem wOf_any (S : Nat → Prop) (v : Value) (l : List Sh) (hO : ShR S w v l) (hl : l.length ≤ 4194304) (a : Int) :
    Calls Try.prog 14 #[v, .int .i64 a] w fun e w' => e = .returned (.int .i64 (wOf l a)) ∧ w' = w := by
  have HO := hide hO
  obtain ⟨ao, cap, rfl, hcap, _⟩ := hO
  obtain ⟨m, hm⟩ : ∃ m, l.length = m := ⟨_, rfl⟩
  have HLn := hide hm
  rw [hm] at hcap HO hl ⊢
  obtain ⟨res, hres⟩ : ∃ r, wOf l a = r := ⟨_, rfl⟩
  have HV := hide hres
  rw [hres]
  clear hm hres
  go_enter Try.func14, Try.ntmps14
  go_upto_region 2 with fail
  go_loopw [5] (fun i wr => ∃ k : Nat, k ≤ m ∧ i = .int .i64 (k : Nat) ∧ Hid (∀ (j : Nat) (x : Sh), j < k → l[j]? = some x → x.s ≠ a) ∧ wr = w) (fun i _ => m - (RowKit.intOf i).toNat)
  case atStart => exact ⟨0, by omega, rfl, hide (fun j x hj => by omega), rfl⟩
  case round =>
    obtain ⟨k, hk, rfl, HD, rfl⟩ := hrel
    by_cases hlt : k < m
    · obtain ⟨x, hx⟩ : ∃ x, l[k]? = some x := ⟨l[k]'(by rw [HLn.out]; exact hlt), List.getElem?_eq_getElem _⟩
      have HX := hide hx
      obtain ⟨y, rfl, hSy, c0, c1, c2⟩ := HO.out.at hx
      have hki : (k : Int) < m := by omega
      obtain ⟨xs, xw, xp⟩ := x
      dsimp only at c0 c1 c2
      clear hx hSy
      by_cases hab : xs = a
      · subst hab
        have hr := wOf_first HX.out (fun j x hj hx => HD.out j x hj hx)
        rw [HV.out] at hr
        have hr2 : res = xw := hr
        subst hr2
        clear hr
        go_wp2
        go_ret
        exact ⟨rfl, rfl⟩
      · have hab2 : (xs == a) = false := by simpa using hab
        have HD2 : Hid (∀ (j : Nat) (x : Sh), j < k + 1 → l[j]? = some x → x.s ≠ a) := hide (fun j x hj hx => by
          by_cases hjk : j = k
          · subst hjk; rw [HX.out] at hx; cases hx; exact hab
          · exact HD.out j x (by omega) hx)
        clear HD
        go_wp2
        go_roundw
        case rel => exact ⟨k + 1, by omega, by go_num, HD2, trivial⟩
        case measure => simp [RowKit.intOf]; omega
    · obtain rfl : k = m := by omega
      have hr := wOf_none (l := l) (a := a) (fun j x hx => HD.out j x (by rw [← HLn.out]; exact (List.getElem?_eq_some_iff.1 hx).1) hx)
      rw [HV.out] at hr
      subst hr
      go_wp2
      go_ret
      exact ⟨rfl, rfl⟩
set_option maxRecDepth 100000 in
set_option maxHeartbeats 4000000 in
theorem pOf_any (S : Nat → Prop) (v : Value) (l : List Sh) (hO : ShR S w v l) (hl : l.length ≤ 4194304) (a : Int) :
    Calls Try.prog 15 #[v, .int .i64 a] w fun e w' => e = .returned (.int .i64 (pOf l a)) ∧ w' = w := by
  have HO := hide hO
  obtain ⟨ao, cap, rfl, hcap, _⟩ := hO
  obtain ⟨m, hm⟩ : ∃ m, l.length = m := ⟨_, rfl⟩
  have HLn := hide hm
  rw [hm] at hcap HO hl ⊢
  obtain ⟨res, hres⟩ : ∃ r, pOf l a = r := ⟨_, rfl⟩
  have HV := hide hres
  rw [hres]
  clear hm hres
  go_enter Try.func15, Try.ntmps15
  go_upto_region 2 with fail
  go_loopw [5] (fun i wr => ∃ k : Nat, k ≤ m ∧ i = .int .i64 (k : Nat) ∧ Hid (∀ (j : Nat) (x : Sh), j < k → l[j]? = some x → x.s ≠ a) ∧ wr = w) (fun i _ => m - (RowKit.intOf i).toNat)
  case atStart => exact ⟨0, by omega, rfl, hide (fun j x hj => by omega), rfl⟩
  case round =>
    obtain ⟨k, hk, rfl, HD, rfl⟩ := hrel
    by_cases hlt : k < m
    · obtain ⟨x, hx⟩ : ∃ x, l[k]? = some x := ⟨l[k]'(by rw [HLn.out]; exact hlt), List.getElem?_eq_getElem _⟩
      have HX := hide hx
      obtain ⟨y, rfl, hSy, c0, c1, c2⟩ := HO.out.at hx
      have hki : (k : Int) < m := by omega
      obtain ⟨xs, xw, xp⟩ := x
      dsimp only at c0 c1 c2
      clear hx hSy
      by_cases hab : xs = a
      · subst hab
        have hr := pOf_first HX.out (fun j x hj hx => HD.out j x hj hx)
        rw [HV.out] at hr
        have hr2 : res = xp := hr
        subst hr2
        clear hr
        go_wp2
        go_ret
        exact ⟨rfl, rfl⟩
      · have hab2 : (xs == a) = false := by simpa using hab
        have HD2 : Hid (∀ (j : Nat) (x : Sh), j < k + 1 → l[j]? = some x → x.s ≠ a) := hide (fun j x hj hx => by
          by_cases hjk : j = k
          · subst hjk; rw [HX.out] at hx; cases hx; exact hab
          · exact HD.out j x (by omega) hx)
        clear HD
        go_wp2
        go_roundw
        case rel => exact ⟨k + 1, by omega, by go_num, HD2, trivial⟩
        case measure => simp [RowKit.intOf]; omega
    · obtain rfl : k = m := by omega
      have hr := pOf_none (l := l) (a := a) (fun j x hx => HD.out j x (by rw [← HLn.out]; exact (List.getElem?_eq_some_iff.1 hx).1) hx)
      rw [HV.out] at hr
      subst hr
      go_wp2
      go_ret
      exact ⟨rfl, rfl⟩
end
end Go.Proofs.Ytngmnlmagbfijaa
