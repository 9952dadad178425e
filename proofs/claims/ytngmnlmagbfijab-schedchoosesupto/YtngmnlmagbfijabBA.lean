import Derived.Test.YtngmnlmagbfijabB9
namespace Go.Proofs.Ytngmnlmagbfijab
open Go.RowKit
/-- a box with one value -/
def Bx (w : World) (b : Nat) (t : TypeId) (v : Value) : Prop := w.heap[b]? = some (.cells #[v] t (0, 0))
theorem Bx.cell {w : World} {b : Nat} {t : TypeId} {v : Value} (h : Bx w b t v) : w.cell? ⟨b, 0, none⟩ = some v := by
  have c0 := cell_of_row _ _ 0 _ _ _ h
  simpa using c0
theorem Bx.lt {w : World} {b : Nat} {t : TypeId} {v : Value} (h : Bx w b t v) : b < w.heap.size := (Array.getElem?_eq_some_iff.1 h).1
theorem Bx.new (w : World) (t : TypeId) (v : Value) : Bx (w.alloc (.cells #[v] t)) w.heap.size t v := heap_alloc_last _ _
theorem Bx.keep {w w' : World} {b : Nat} {t : TypeId} {v : Value} (h : Bx w b t v) (hb : w'.heap[b]? = w.heap[b]?) : Bx w' b t v := by unfold Bx; rw [hb]; exact h
section
variable (w : World)
theorem isNaN_any (a : Int) : Calls Try.prog 53 #[.int .i64 a] w fun e w' => e = .returned (.bool false) ∧ w' = w := by
  go_enter Try.func53, Try.ntmps53
  go_wp2
  go_ret
  exact ⟨by simp, rfl⟩
/-- how two ints compare -/
def cm (a b : Int) : Int := if a < b then -1 else if b < a then 1 else 0
set_option maxRecDepth 100000 in
set_option maxHeartbeats 1000000 in
theorem compare_any (a b : Int) : Calls Try.prog 82 #[.int .i64 a, .int .i64 b] w fun e w' => e = .returned (.int .i64 (cm a b)) ∧ w' = w := by
  have hc : Hid ((a < b → cm a b = -1) ∧ (b ≤ a → b < a → cm a b = 1) ∧ (b ≤ a → a ≤ b → cm a b = 0)) := hide (by
    unfold cm
    exact ⟨fun h => if_pos h, fun h h2 => by rw [if_neg (by omega), if_pos h2], fun h h2 => by rw [if_neg (by omega), if_neg (by omega)]⟩)
  generalize cm a b = c at *
  go_enter Try.func82, Try.ntmps82
  go_wp2_with fail
  refine (isNaN_any _ a).mono ?_
  rintro e w1 ⟨rfl, rfl⟩
  go_wp2_with fail
  refine (isNaN_any _ b).mono ?_
  rintro e w1 ⟨rfl, rfl⟩
  by_cases h1 : a < b
  · have := hc.out.1 h1
    subst this
    go_wp2
    go_ret
    exact ⟨rfl, rfl⟩
  by_cases h2 : b < a
  · have := hc.out.2.1 (by omega) h2
    subst this
    go_wp2
    go_ret
    exact ⟨rfl, rfl⟩
  have := hc.out.2.2 (by omega) (by omega)
  subst this
  go_wp2
  go_ret
  exact ⟨rfl, rfl⟩
theorem above_any (bx q : Nat) (k l : Int) (hb : Bx w bx 76 (.pointer (some ⟨q, 0, none⟩))) (hq : w.heap[q]? = some (.cells #[.int .i64 l] 78 (0, 0))) :
    Calls Try.prog 75 #[.int .i64 k, .pointer (some ⟨bx, 0, none⟩)] w fun e w' => e = .returned (.bool (decide (l < k))) ∧ w' = w := by
  have c0 := cell_of_row _ _ 0 _ _ _ hq
  simp only [List.getElem?_toArray, List.getElem?_cons_zero] at c0
  have d0 := hb.cell
  clear hb hq
  go_enter Try.func75, Try.ntmps75
  go_wp2
  go_ret
  exact ⟨rfl, rfl⟩
/-- i is the first place of one above l, or -1 -/
def IxF (R : List Int) (l i : Int) : Prop := (i = -1 ∧ ∀ x ∈ R, ¬ l < x) ∨ ∃ k : Nat, i = k ∧ k < R.length ∧ l < R.getD k 0 ∧ ∀ j, j < k → ¬ l < R.getD j 0
set_option maxRecDepth 100000 in
set_option maxHeartbeats 1000000 in
/-- the first place of one that is above l, or -1 -/
theorem index_any (S : Nat → Prop) (v : Value) (R : List Int) (hR : Rd S w v R) (hl : R.length ≤ 1048576) (bx q : Nat) (l : Int) (hb : Bx w bx 76 (.pointer (some ⟨q, 0, none⟩))) (hq : w.heap[q]? = some (.cells #[.int .i64 l] 78 (0, 0))) :
    Calls Try.prog 74 #[v, .func (.func 75) #[] #[.pointer (some ⟨bx, 0, none⟩)]] w fun e w' => (∃ i : Int, e = .returned (.int .i64 i) ∧ IxF R l i) ∧ w' = w := by
  have HR := hide hR
  have HB := hide hb
  have HQ := hide hq
  obtain ⟨ao, cap, rfl, hcap⟩ := hR.len
  obtain ⟨m, hm⟩ : ∃ m, R.length = m := ⟨_, rfl⟩
  have HLn := hide hm
  rw [hm] at hl hcap HR ⊢
  clear hR hb hq hm
  go_enter Try.func74, Try.ntmps74
  go_upto_region 2 with fail
  go_loopw [8] (fun i wr => ∃ k : Nat, k ≤ m ∧ i = .int .i64 (k : Nat) ∧ Hid (∀ i, i < k → R.getD i 0 ≤ l) ∧ wr = w) (fun i _ => m - (RowKit.intOf i).toNat)
  case atStart => exact ⟨0, by omega, rfl, hide (fun i hi => by omega), rfl⟩
  case round =>
    obtain ⟨k, hk, rfl, HD, rfl⟩ := hrel
    by_cases hlt : k < m
    · obtain ⟨x, rfl, hS, hc⟩ := HR.out.some_of (by rw [HLn.out]; omega)
      have d0 := hc k (by rw [HLn.out]; omega)
      have hki : (k : Int) < m := by omega
      obtain ⟨a, ha⟩ : ∃ a, R.getD k 0 = a := ⟨_, rfl⟩
      have HA := hide ha
      rw [ha] at d0
      clear hc hS ha
      go_wp2_with fail
      refine (above_any _ bx q a l HB.out HQ.out).mono ?_
      rintro e w1 ⟨rfl, rfl⟩
      by_cases h : l < a
      · rw [decide_eq_true h]
        clear d0
        go_wp2
        go_ret
        exact ⟨⟨k, rfl, .inr ⟨k, rfl, by rw [HLn.out]; exact hlt, by rw [HA.out]; exact h, fun j hj => by have := HD.out j hj; omega⟩⟩, rfl⟩
      · rw [decide_eq_false h]
        have HD2 : Hid (∀ i, i < k + 1 → R.getD i 0 ≤ l) := hide (fun i hi => by
          by_cases hik : i = k
          · subst hik; rw [HA.out]; omega
          · exact HD.out i (by omega))
        clear d0 HD
        go_wp2
        go_roundw
        case rel => exact ⟨k + 1, by omega, by go_num, HD2, trivial⟩
        case measure => simp [RowKit.intOf]; omega
    · obtain rfl : k = m := by omega
      go_wp2
      go_ret
      refine ⟨⟨-1, rfl, .inl ⟨rfl, fun x hx => ?_⟩⟩, rfl⟩
      obtain ⟨i, hi, rfl⟩ := List.getElem_of_mem hx
      have := HD.out i (by rw [← HLn.out]; exact hi)
      rw [List.getD_eq_getElem?_getD, List.getElem?_eq_getElem hi, Option.getD_some] at this
      omega
end
end Go.Proofs.Ytngmnlmagbfijab
