import Derived.Test.YtngmnlmagbfijaaM5
namespace Go.Proofs.Ytngmnlmagbfijaa
open Go.RowKit
theorem drop_rev {R : List Int} {k : Nat} (h : k < R.length) : (R.drop (k + 1)).reverse ++ [R.getD k 0] = (R.drop k).reverse := by
  rw [List.getD_eq_getElem?_getD, List.getElem?_eq_getElem h, Option.getD_some, List.drop_eq_getElem_cons h, List.reverse_cons]
section
variable (w : World)
set_option maxRecDepth 100000 in
set_option maxHeartbeats 1000000 in
theorem rest_any (x : Int) : Calls Try.prog 18 #[.int .i64 x, .int .i64 3] w fun e w' => ∃ z : Nat, e = .returned (.int .i64 (z : Nat)) ∧ z ≤ 2 ∧ w' = w := by
  have h1 := Int.lt_tmod_of_pos x (b := 3) (by omega)
  have h2 := Int.tmod_lt_of_pos x (b := 3) (by omega)
  go_enter Try.func18, Try.ntmps18
  have hw1 : IntKind.i64.wrap (Int.tmod x 3) = Int.tmod x 3 := wi _ (by omega) (by omega)
  have hw2 : IntKind.i64.wrap (Int.tmod x 3 + 3) = Int.tmod x 3 + 3 := wi _ (by omega) (by omega)
  by_cases h : Int.tmod x 3 < 0
  · go_wp2
    go_ret
    exact ⟨(Int.tmod x 3 + 3).toNat, by rw [show (((Int.tmod x 3 + 3).toNat : Nat) : Int) = Int.tmod x 3 + 3 by omega]; rfl, by omega, rfl⟩
  · go_wp2
    go_ret
    exact ⟨(Int.tmod x 3).toNat, by rw [show (((Int.tmod x 3).toNat : Nat) : Int) = Int.tmod x 3 by omega]; rfl, by omega, rfl⟩
set_option maxRecDepth 100000 in
set_option maxHeartbeats 4000000 in
theorem turned_any (S : Nat → Prop) (v : Value) (R : List Int) (hR : Rd S w v R) (hS : ∀ b, S b → b < w.heap.size) (hl : R.length ≤ 1048576) : Calls Try.prog 19 #[v] w fun e w' => ∃ r, e = .returned r ∧ Oi w' w.heap.size r R.reverse ∧ Below w.heap.size w w' := by
  obtain ⟨i3, hi, hz, hs, hb⟩ := info3'
  have HR := hide hR
  have HS := hide hS
  obtain ⟨ao, cap, rfl, hcap⟩ := hR.len
  obtain ⟨m, hm⟩ : ∃ m, R.length = m := ⟨_, rfl⟩
  have HLn := hide hm
  have HT : Hid (R.drop m = []) := hide (by rw [← hm]; exact List.drop_length)
  rw [hm] at hl hcap HR ⊢
  clear hR hm hS
  have hw0 : IntKind.i64.wrap ((m : Int) - 1) = (m : Int) - 1 := wi _ (by omega) (by omega)
  go_enter Try.func19, Try.ntmps19
  go_upto_region 3 with fail
  go_loopw [3, 4] (fun v i wr => ∃ (k : Nat) (z : Int), k ≤ m ∧ z = (k : Int) - 1 ∧ i = .int .i64 z ∧ Hid (Oi wr w.heap.size v (R.drop k).reverse) ∧ Hid (Below w.heap.size w wr)) (fun _ i _ => (RowKit.intOf i + 1).toNat)
  case atStart => exact ⟨m, _, by omega, rfl, rfl, hide (by rw [HT.out]; exact ⟨by simp, .inl ⟨rfl, rfl⟩⟩), hide (Below.refl _ _)⟩
  case round =>
    obtain ⟨k, z, hk, hz9, rfl, HO, HB⟩ := hrel
    cases k with
    | succ k =>
      obtain rfl : z = (k : Int) := by omega
      have HRk := HR.out.keep (w' := wr) (fun b hb => HB.out.block b (HS.out b hb))
      obtain ⟨x, rfl, _, hc⟩ := HRk.some_of (by rw [HLn.out]; omega)
      have d0 := hc k (by rw [HLn.out]; omega)
      have hki : (k : Int) < m := by omega
      have hk0 : (0 : Int) ≤ k := by omega
      have hwk : IntKind.i64.wrap ((k : Int) - 1) = (k : Int) - 1 := wi _ (by omega) (by omega)
      have hN := drop_rev (R := R) (k := k) (by rw [HLn.out]; omega)
      obtain ⟨e, he⟩ : ∃ e, m - (k + 1) = e := ⟨_, rfl⟩
      have hlk : (R.drop (k + 1)).reverse.length = e := by rw [List.length_reverse, List.length_drop, HLn.out]; exact he
      have HO2 : Hid (wr.ownsRow w.heap.size 3 1 _ e ((R.drop (k + 1)).reverse.map Zi)) := hide (by have := HO.out; unfold Oi at this; rw [hlk] at this; exact this)
      obtain ⟨av, cv, rfl⟩ := own_shape HO2.out
      have hel : e ≤ 1048576 := by omega
      have hLk := hide hlk
      have HNk := hide hN
      clear hc hN hlk HO he hz9 HRk
      generalize R.getD k 0 = a at *
      go_wp2_with (refine wpList_append_own _ rfl (.tmp 12) (.tmp 17) 28 rfl w.heap.size 3 i3 (.int .i64 0) 1 8 Try.underlying28 hi hz hs hb rfl (by decide) _ e _ rfl (World.ownsRow.alloc HO2.out _) (⟨wr.heap.size, 0, none⟩) 1 1 [.int .i64 a] rfl rfl (cell_one_new _ _ _) (by simp [Value.oneCell']) (by unfold maxLen; omega) (by omega) (by have := HB.out.size; simp; omega) ?_; intro v' w6 hown hg6 _)
      have HB6 : Hid (Below w.heap.size w w6) := hide ((HB.out.alloc HB.out.size _).grown hg6 (by have := HB.out.size; simp; omega) (fun j hj => (World.ownsRow.lt HO2.out j hj).1))
      have HO6 := hide hown
      clear hg6 hown
      go_roundw
      case rel =>
        refine ⟨k, _, by omega, rfl, rfl, hide ?_, HB6⟩
        have h9 := HO6.out
        unfold Oi
        rw [← HNk.out, List.map_append, List.length_append, hLk.out]
        exact h9
      case measure => first | (simp [RowKit.intOf]; done) | (simp [RowKit.intOf]; omega)
    | zero =>
      have hzl : ¬ 0 ≤ z := by omega
      clear hz9
      go_wp2
      go_ret
      have := HO.out
      simp only [List.drop_zero] at this
      exact ⟨_, rfl, this, HB.out⟩
set_option maxRecDepth 100000 in
set_option maxHeartbeats 4000000 in
theorem sameShares_any (S : Nat → Prop) (v v2 : Value) (l : List Sh) (hO : ShR S w v l) (hO2 : ShR S w v2 l) (hl : l.length ≤ 4194304) :
    Calls Try.prog 22 #[v, v2] w fun e w' => e = .returned (.bool true) ∧ Drews w w' := by
  have HO := hide hO
  have HO2 := hide hO2
  obtain ⟨ao, cap, rfl, hcap, _⟩ := hO
  obtain ⟨ao2, cap2, rfl, hcap2, _⟩ := hO2
  obtain ⟨m, hm⟩ : ∃ m, l.length = m := ⟨_, rfl⟩
  have HLn := hide hm
  rw [hm] at hcap hcap2 HO HO2 hl ⊢
  clear hm
  go_enter Try.func22, Try.ntmps22
  go_upto_region 4 with fail
  go_loopw [5] (fun i wr => ∃ k : Nat, k ≤ m ∧ i = .int .i64 (k : Nat) ∧ Hid (Drews w wr)) (fun i _ => m - (RowKit.intOf i).toNat)
  case atStart => exact ⟨0, by omega, rfl, hide (Drews.refl _)⟩
  case round =>
    obtain ⟨k, hk, rfl, HD⟩ := hrel
    by_cases hlt : k < m
    · obtain ⟨x, hx⟩ : ∃ x, l[k]? = some x := ⟨l[k]'(by rw [HLn.out]; exact hlt), List.getElem?_eq_getElem _⟩
      obtain ⟨y, rfl, _, c0, c1, c2⟩ := (HO.out.keep (w' := wr) (fun b _ => by rw [HD.out.heap])).at hx
      obtain ⟨y2, rfl, _, d0, d1, d2⟩ := (HO2.out.keep (w' := wr) (fun b _ => by rw [HD.out.heap])).at hx
      have hki : (k : Int) < m := by omega
      obtain ⟨xs, xw, xp⟩ := x
      dsimp only at c0 c1 c2 d0 d1 d2
      clear hx
      go_upto_region 6 with fail
      go_quiet (fail)
      have HD2 : Hid (Drews w (wr.drewN nq)) := hide (HD.out.trans ⟨nq, rfl⟩)
      go_wp2
      go_roundw
      case rel => exact ⟨k + 1, by omega, by go_num, HD2⟩
      case measure => simp [RowKit.intOf]; omega
    · obtain rfl : k = m := by omega
      go_wp2
      go_ret
      exact ⟨rfl, HD.out⟩
end
end Go.Proofs.Ytngmnlmagbfijaa
