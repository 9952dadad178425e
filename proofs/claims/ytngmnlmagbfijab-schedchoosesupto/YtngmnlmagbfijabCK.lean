import Derived.Test.YtngmnlmagbfijabCH
namespace Go.Proofs.Ytngmnlmagbfijab
open Go.RowKit
section
variable (w : World)
set_option maxHeartbeats 4000000 in
theorem New_bad (k : Int) (h : ¬ (1 ≤ k ∧ k ≤ 3)) : Calls Try.prog 8 #[.int .i64 k] w fun e w' => e = .returned (.tuple #[.pointer none, .int .i64 1]) ∧ w' = w := by
  have HH := hide h
  clear h
  go_enter Try.func8, Try.ntmps8
  go_wp2_with fail
  refine (wayOf_any w k).mono ?_
  rintro e w1 (⟨hk1, rfl, rfl⟩ | ⟨hk2, rfl, rfl⟩ | ⟨hk3, rfl, rfl⟩ | ⟨h1, h2, h3, rfl, rfl⟩)
  · exact absurd hk1 (by have := HH.out; omega)
  · exact absurd hk2 (by have := HH.out; omega)
  · exact absurd hk3 (by have := HH.out; omega)
  · go_wp2
    go_ret2
    exact ⟨rfl, rfl⟩
set_option maxRecDepth 100000 in
set_option maxHeartbeats 1000000 in
theorem roomy_any (S : Nat → Prop) (v : Value) (R : List Int) (hR : Rd S w v R) (hS : ∀ b, S b → b < w.heap.size) (hl : R.length ≤ 1048576) : Calls Try.prog 13 #[v] w fun e w' => ∃ r, e = .returned r ∧ Oi w' w.heap.size r (R ++ List.replicate 9 (-7171)) ∧ Below w.heap.size w w' := by
  obtain ⟨i3, hi, hz, hs, hb⟩ := info3'
  have HI := hide (And.intro hi (And.intro hz (And.intro hs hb)))
  clear hi hz hs hb
  obtain ⟨m, hm⟩ : ∃ m, R.length = m := ⟨_, rfl⟩
  have HM := hide hm
  go_enter Try.func13, Try.ntmps13
  go_wp2_with fail
  refine (ownInts_any w S v R hR hS hl).mono ?_
  rintro e w1 ⟨r, rfl, ho, hb1⟩
  have HO0 : Hid (w1.ownsRow w.heap.size 3 1 r (m + 0) ((R ++ List.replicate 0 (-7171)).map Zi)) := hide (by rw [← hm]; simpa [Oi] using ho)
  have HB0 := hide hb1
  rw [hm] at hl
  clear ho hb1 hR hS hm
  go_upto_region 3 with fail
  go_loopw [3, 4] (fun v i wr => ∃ q : Nat, q ≤ 9 ∧ i = .int .i64 (q : Nat) ∧ Hid (wr.ownsRow w.heap.size 3 1 v (m + q) ((R ++ List.replicate q (-7171)).map Zi)) ∧ Hid (Below w.heap.size w wr)) (fun _ i _ => 9 - (RowKit.intOf i).toNat)
  case atStart => exact ⟨0, by omega, rfl, HO0, HB0⟩
  case round =>
    obtain ⟨q, hq, rfl, HO, HB⟩ := hrel
    by_cases hlt : q < 9
    · have hqi : (q : Int) < 9 := by omega
      have hwz := HB.out.size
      obtain ⟨av, cv, rfl⟩ := own_shape HO.out
      have HT : Hid ((R ++ List.replicate q (-7171)).map Zi ++ [.int .i64 (-7171)] = (R ++ List.replicate (q + 1) (-7171)).map Zi) := hide (by rw [List.replicate_succ', ← List.append_assoc, List.map_append (l₁ := R ++ List.replicate q (-7171))]; rfl)
      go_wp2_with (refine wpList_append_own _ rfl (.tmp 11) (.tmp 12) 31 rfl w.heap.size 3 i3 (.int .i64 0) 1 8 Try.underlying31 HI.out.1 HI.out.2.1 HI.out.2.2.1 HI.out.2.2.2 rfl (by decide) _ (m + q) _ rfl (World.ownsRow.alloc HO.out _) (⟨wr.heap.size, 0, none⟩) 1 1 [.int .i64 (-7171)] rfl rfl (cell_one_new _ _ _) (by simp [Value.oneCell']) (by unfold maxLen; omega) (by omega) (by simp; omega) ?_; intro v' w6 hown hg6 _)
      have HB6 : Hid (Below w.heap.size w w6) := hide ((HB.out.alloc HB.out.size _).grown hg6 (by simp; omega) (fun j hj => (World.ownsRow.lt HO.out j hj).1))
      have HO6 := hide hown
      clear hg6 hown HO
      go_roundw
      case rel => exact ⟨q + 1, by omega, by go_num, hide (by rw [← HT.out]; exact HO6.out), HB6⟩
      case measure => simp [RowKit.intOf]; omega
    · obtain rfl : q = 9 := by omega
      have HF : Hid (Oi wr w.heap.size u3 (R ++ List.replicate 9 (-7171))) := hide (by
        have h9 := HO.out
        unfold Oi
        rw [List.length_append, List.length_replicate, HM.out]
        exact h9)
      go_wp2
      go_ret
      exact ⟨_, rfl, HF.out, HB.out⟩
set_option maxRecDepth 100000 in
set_option maxHeartbeats 4000000 in
theorem sameInts_any (S : Nat → Prop) (v v2 : Value) (l : List Int) (hO : Rd S w v l) (hO2 : Rd S w v2 l) (hl : l.length ≤ 4194304) :
    Calls Try.prog 28 #[v, v2] w fun e w' => e = .returned (.bool true) ∧ Drews w w' := by
  have HO := hide hO
  have HO2 := hide hO2
  obtain ⟨ao, cap, rfl, hcap⟩ := hO.len
  obtain ⟨ao2, cap2, rfl, hcap2⟩ := hO2.len
  obtain ⟨m, hm⟩ : ∃ m, l.length = m := ⟨_, rfl⟩
  have HLn := hide hm
  rw [hm] at hcap hcap2 HO HO2 hl ⊢
  clear hm hO hO2
  go_enter Try.func28, Try.ntmps28
  go_upto_region 4 with fail
  go_loopw [5] (fun i wr => ∃ k : Nat, k ≤ m ∧ i = .int .i64 (k : Nat) ∧ Hid (Drews w wr)) (fun i _ => m - (RowKit.intOf i).toNat)
  case atStart => exact ⟨0, by omega, rfl, hide (Drews.refl _)⟩
  case round =>
    obtain ⟨k, hk, rfl, HD⟩ := hrel
    by_cases hlt : k < m
    · obtain ⟨x, rfl, _, hc⟩ := (HO.out.keep (w' := wr) (fun b _ => by rw [HD.out.heap])).some_of (by rw [HLn.out]; omega)
      obtain ⟨y, rfl, _, hc2⟩ := (HO2.out.keep (w' := wr) (fun b _ => by rw [HD.out.heap])).some_of (by rw [HLn.out]; omega)
      have c0 := hc k (by rw [HLn.out]; exact hlt)
      have d0 := hc2 k (by rw [HLn.out]; exact hlt)
      have hki : (k : Int) < m := by omega
      have hk0 : (0 : Int) ≤ k := by omega
      generalize l.getD k 0 = a at *
      clear hc hc2
      go_upto_region 6 with fail
      go_quiet (fail)
      have HD2 : Hid (Drews w (wr.drewN nq)) := hide (HD.out.trans ⟨nq, rfl⟩)
      go_wp2
      go_roundw
      case rel => exact ⟨k + 1, by omega, by go_num, HD2⟩
      case measure => simp [RowKit.intOf]; omega
    · obtain rfl : k = m := by omega
      go_wp2
      go_ret
      exact ⟨rfl, HD.out⟩
set_option maxRecDepth 100000 in
set_option maxHeartbeats 4000000 in
theorem intact_any (S : Nat → Prop) (v v2 : Value) (R : List Int) (hO : Rd S w v (R ++ List.replicate 9 (-7171))) (hO2 : Rd S w v2 R) (hS : ∀ b, S b → b < w.heap.size) (hl : R.length ≤ 1048576) :
    Calls Try.prog 16 #[v, v2] w fun e w' => e = .returned (.bool true) ∧ Below w.heap.size w w' := by
  have HO := hide hO
  go_enter Try.func16, Try.ntmps16
  go_wp2_with fail
  refine (roomy_any w S v2 R hO2 hS hl).mono ?_
  rintro e w1 ⟨r, rfl, ho, hb1⟩
  have HR := hide (ho.rd.mono (S' := fun b => b < w1.heap.size) (fun b hb => hb.2.1))
  have HB := hide hb1
  have hbz := hb1.size
  have HV := hide ((HO.out.keep (w' := w1) (fun b hb => hb1.block b (hS b hb))).mono (S' := fun b => b < w1.heap.size) (fun b hb => by have := hS b hb; omega))
  clear ho hb1
  go_wp2_with fail
  refine (sameInts_any w1 _ _ _ _ HV.out HR.out (by simp; omega)).mono ?_
  rintro e w2 ⟨rfl, hd⟩
  have HB2 := hide (HB.out.trans (hd.below _))
  clear hd
  go_wp2
  go_ret
  exact ⟨rfl, HB2.out⟩
end
end Go.Proofs.Ytngmnlmagbfijab
