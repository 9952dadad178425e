import Derived.Test.YtngmnlmagbfijaaBJ
namespace Go.Proofs.Ytngmnlmagbfijaa
open Go.RowKit
section
variable (w : World)
set_option maxRecDepth 100000 in
set_option maxHeartbeats 1000000 in
theorem in_any (S : Nat → Prop) (v : Value) (R : List Int) (hR : Rd S w v R) (hl : R.length ≤ 4611686018427387904) (a : Int) : Calls Try.prog 23 #[v, .int .i64 a] w fun e w' => e = .returned (.bool (decide (a ∈ R))) ∧ w' = w := by
  have HR := hide hR
  obtain ⟨ao, cap, rfl, hcap⟩ := hR.len
  obtain ⟨m, hm⟩ : ∃ m, R.length = m := ⟨_, rfl⟩
  have HLn := hide hm
  rw [hm] at hl hcap HR ⊢
  obtain ⟨res, hres⟩ : ∃ r, decide (a ∈ R) = r := ⟨_, rfl⟩
  have HV : Hid ((a ∈ R → res = true) ∧ (a ∉ R → res = false)) := hide ⟨fun h => by rw [← hres]; exact decide_eq_true h, fun h => by rw [← hres]; exact decide_eq_false h⟩
  rw [hres]
  clear hR hm hres
  go_enter Try.func23, Try.ntmps23
  go_upto_region 2 with fail
  go_loopw [5] (fun i wr => ∃ k : Nat, k ≤ m ∧ i = .int .i64 (k : Nat) ∧ Hid (∀ j, j < k → R.getD j 0 ≠ a) ∧ wr = w) (fun i _ => m - (RowKit.intOf i).toNat)
  case atStart => exact ⟨0, by omega, rfl, hide (fun i hi => by omega), rfl⟩
  case round =>
    obtain ⟨k, hk, rfl, HD, rfl⟩ := hrel
    by_cases hlt : k < m
    · obtain ⟨x, rfl, _, hc⟩ := HR.out.some_of (by rw [HLn.out]; omega)
      have d0 := hc k (by rw [HLn.out]; omega)
      have hki : (k : Int) < m := by omega
      obtain ⟨b, hb⟩ : ∃ b, R.getD k 0 = b := ⟨_, rfl⟩
      have HB := hide hb
      rw [hb] at d0
      clear hc hb
      by_cases hab : b = a
      · subst hab
        have hmem : b ∈ R := by
          rw [← HB.out, List.getD_eq_getElem?_getD, List.getElem?_eq_getElem (by rw [HLn.out]; exact hlt), Option.getD_some]
          exact List.getElem_mem _
        have hr := HV.out.1 hmem
        subst hr
        clear hmem
        go_wp2
        go_ret
        exact ⟨rfl, rfl⟩
      · have hab2 : (b == a) = false := by simpa using hab
        have HD2 : Hid (∀ j, j < k + 1 → R.getD j 0 ≠ a) := hide (fun j hj => by
          by_cases hjk : j = k
          · subst hjk; rw [HB.out]; exact hab
          · exact HD.out j (by omega))
        clear HD
        go_wp2
        go_roundw
        case rel => exact ⟨k + 1, by omega, by go_num, HD2, trivial⟩
        case measure => simp [RowKit.intOf]; omega
    · obtain rfl : k = m := by omega
      have hmem : a ∉ R := fun h => by
        obtain ⟨i, hi, hi2⟩ := List.getElem_of_mem h
        have := HD.out i (by rw [← HLn.out]; exact hi)
        rw [List.getD_eq_getElem?_getD, List.getElem?_eq_getElem hi, Option.getD_some] at this
        exact this hi2
      have hr := HV.out.2 hmem
      subst hr
      clear hmem
      go_wp2
      go_ret
      exact ⟨rfl, rfl⟩
set_option maxRecDepth 100000 in
set_option maxHeartbeats 1000000 in
theorem ownInts_any (S : Nat → Prop) (v : Value) (R : List Int) (hR : Rd S w v R) (hS : ∀ b, S b → b < w.heap.size) (hl : R.length ≤ 1048576) : Calls Try.prog 21 #[v] w fun e w' => ∃ r, e = .returned r ∧ Oi w' w.heap.size r R ∧ Below w.heap.size w w' := by
  obtain ⟨i3, hi, hz, hs, hb⟩ := info3'
  have HR := hide hR
  have HS := hide hS
  obtain ⟨ao, cap, rfl, hcap⟩ := hR.len
  obtain ⟨m, hm⟩ : ∃ m, R.length = m := ⟨_, rfl⟩
  have HLn := hide hm
  have HT : Hid (R.take m = R) := hide (by rw [← hm]; exact List.take_length)
  have HN : Hid (∀ k, k < m → R.take k ++ [R.getD k 0] = R.take (k + 1)) := hide (by
    intro k hk
    have hk' : k < R.length := by omega
    rw [List.getD_eq_getElem?_getD, List.getElem?_eq_getElem hk', Option.getD_some, List.take_succ_eq_append_getElem hk'])
  rw [hm] at hl hcap HR ⊢
  clear hR hm hS
  go_enter Try.func21, Try.ntmps21
  go_upto_region 3 with fail
  go_loopw [3, 4] (fun v i wr => ∃ k : Nat, k ≤ m ∧ i = .int .i64 (k : Nat) ∧ Hid (Oi wr w.heap.size v (R.take k)) ∧ Hid (Below w.heap.size w wr)) (fun _ i _ => m - (RowKit.intOf i).toNat)
  case atStart => exact ⟨0, by omega, rfl, hide ⟨by simp, .inl ⟨rfl, rfl⟩⟩, hide (Below.refl _ _)⟩
  case round =>
    obtain ⟨k, hk, rfl, HO, HB⟩ := hrel
    by_cases hlt : k < m
    · have HRk := HR.out.keep (w' := wr) (fun b hb => HB.out.block b (HS.out b hb))
      obtain ⟨x, rfl, _, hc⟩ := HRk.some_of (by rw [HLn.out]; omega)
      have d0 := hc k (by rw [HLn.out]; omega)
      have hki : (k : Int) < m := by omega
      have hN := HN.out k hlt
      have hlk : (R.take k).length = k := by rw [List.length_take, HLn.out]; omega
      have HO2 : Hid (wr.ownsRow w.heap.size 3 1 _ k ((R.take k).map Zi)) := hide (by have := HO.out; unfold Oi at this; rw [hlk] at this; exact this)
      obtain ⟨av, cv, rfl⟩ := own_shape HO2.out
      have hLk := hide hlk
      have HNk := hide hN
      have HRk := hide HRk
      clear hc hN hlk HO
      generalize R.getD k 0 = a at *
      go_wp2_with (refine wpList_append_own _ rfl (.tmp 11) (.tmp 16) 28 rfl w.heap.size 3 i3 (.int .i64 0) 1 8 Try.underlying28 hi hz hs hb rfl (by decide) _ k _ rfl (World.ownsRow.alloc HO2.out _) (⟨wr.heap.size, 0, none⟩) 1 1 [.int .i64 a] rfl rfl (cell_one_new _ _ _) (by simp [Value.oneCell']) (by unfold maxLen; omega) (by omega) (by have := HB.out.size; simp; omega) ?_; intro v' w6 hown hg6 _)
      have HB6 : Hid (Below w.heap.size w w6) := hide ((HB.out.alloc HB.out.size _).grown hg6 (by have := HB.out.size; simp; omega) (fun j hj => (World.ownsRow.lt HO2.out j hj).1))
      have HO6 := hide hown
      clear hg6 hown
      go_roundw
      case rel =>
        refine ⟨k + 1, by omega, by go_num, hide ?_, HB6⟩
        have h9 := HO6.out
        unfold Oi
        rw [← HNk.out, List.map_append, List.length_append, hLk.out]
        exact h9
      case measure => simp [RowKit.intOf]; omega
    · obtain rfl : k = m := by omega
      go_wp2
      go_ret
      have := HO.out
      rw [HT.out] at this
      exact ⟨_, rfl, this, HB.out⟩
/-- a list that may be handed to Next, but for none -/
def prB (R : List Int) : Bool := R.all (fun z => decide (1 ≤ z)) && decide R.Nodup
theorem prB_take {R : List Int} {k : Nat} (hk : k < R.length) : (R.getD k 0 < 1 ∨ R.getD k 0 ∈ R.take k) → prB R = false := by
  have hg : R.getD k 0 = R[k] := by rw [List.getD_eq_getElem?_getD, List.getElem?_eq_getElem hk, Option.getD_some]
  rw [hg]
  unfold prB
  rintro (h | h)
  · have : R.all (fun z => decide (1 ≤ z)) = false := by
      rw [List.all_eq_false]
      exact ⟨R[k], List.getElem_mem _, by simp; omega⟩
    rw [this]; rfl
  · have : ¬ R.Nodup := fun hn => by
      rw [← List.take_append_drop k R, List.drop_eq_getElem_cons hk, List.nodup_append] at hn
      exact hn.2.2 _ h _ (List.mem_cons_self ..) rfl
    simp [this]
theorem prB_all {R : List Int} (h : ∀ k, k < R.length → 1 ≤ R.getD k 0 ∧ R.getD k 0 ∉ R.take k) : prB R = true := by
  unfold prB
  rw [Bool.and_eq_true, List.all_eq_true, decide_eq_true_iff]
  refine ⟨fun x hx => ?_, ?_⟩
  · obtain ⟨i, hi, rfl⟩ := List.getElem_of_mem hx
    have := (h i hi).1
    rw [List.getD_eq_getElem?_getD, List.getElem?_eq_getElem hi, Option.getD_some] at this
    simpa using this
  · rw [List.Nodup, List.pairwise_iff_getElem]
    intro i j hi hj hij e
    have := (h j hj).2
    rw [List.getD_eq_getElem?_getD, List.getElem?_eq_getElem hj, Option.getD_some] at this
    apply this
    rw [← e, List.mem_take_iff_getElem]
    exact ⟨i, by omega, rfl⟩
set_option maxRecDepth 100000 in
set_option maxHeartbeats 1000000 in
theorem proper_any (S : Nat → Prop) (v : Value) (R : List Int) (hR : Rd S w v R) (hl : R.length ≤ 1048576) : Calls Try.prog 20 #[v] w fun e w' => e = .returned (.bool (prB R)) ∧ Drews w w' := by
  have HR := hide hR
  obtain ⟨ao, cap, rfl, hcap⟩ := hR.len
  obtain ⟨m, hm⟩ : ∃ m, R.length = m := ⟨_, rfl⟩
  have HLn := hide hm
  have HI := hide (fun w S v R h1 h2 a => in_any w S v R h1 h2 a)
  rw [hm] at hl hcap HR ⊢
  obtain ⟨res, hres⟩ : ∃ r, prB R = r := ⟨_, rfl⟩
  have HV := hide hres
  rw [hres]
  clear hR hm hres
  go_enter Try.func20, Try.ntmps20
  go_upto_region 2 with fail
  go_loopw [3] (fun i wr => ∃ k : Nat, k ≤ m ∧ i = .int .i64 (k : Nat) ∧ Hid (∀ j, j < k → 1 ≤ R.getD j 0 ∧ R.getD j 0 ∉ R.take j) ∧ Hid (Drews w wr)) (fun i _ => m - (RowKit.intOf i).toNat)
  case atStart => exact ⟨0, by omega, rfl, hide (fun i hi => by omega), hide (Drews.refl _)⟩
  case round =>
    obtain ⟨k, hk, rfl, HD, HW⟩ := hrel
    by_cases hlt : k < m
    · have hRr := HR.out.keep (w' := wr) (fun b _ => by rw [HW.out.heap])
      obtain ⟨x, rfl, _, hc⟩ := hRr.some_of (by rw [HLn.out]; omega)
      have d0 := hc k (by rw [HLn.out]; omega)
      have hki : (k : Int) < m := by omega
      have hkm : (k : Int) ≤ cap := by omega
      have hk0 : (0 : Int) ≤ k := by omega
      have hbad := prB_take (R := R) (k := k) (by rw [HLn.out]; exact hlt)
      have HTk : Hid (Rd S wr (.slice (some x) k cap) (R.take k)) := hide (by
        rcases hRr with ⟨h0, _⟩ | ⟨x', cap', h0, h1, h2⟩
        · cases h0
        · cases h0
          refine .inr ⟨x, cap, by rw [List.length_take, HLn.out, Nat.min_eq_left hk], by rw [List.length_take, HLn.out]; omega, fun i u hu => h2 i u ?_⟩
          rw [List.map_take] at hu
          exact List.getElem?_take_of_lt (by
            rcases Nat.lt_or_ge i k with h | h
            · exact h
            · rw [List.getElem?_take_eq_none (by omega)] at hu; cases hu) ▸ hu)
      obtain ⟨b, hb⟩ : ∃ b, R.getD k 0 = b := ⟨_, rfl⟩
      have HB := hide hb
      rw [hb] at d0 hbad
      clear hc hb hRr
      by_cases hab : b < 1
      · have hr := hbad (.inl hab)
        rw [HV.out] at hr
        subst hr
        clear hbad
        go_upto_region 4 with fail
        go_quiet (fail)
        go_wp2
        go_ret
        exact ⟨rfl, HW.out.trans ⟨nq, rfl⟩⟩
      · have HIn : Hid (∀ n, Calls Try.prog 23 #[.slice (some x) k cap, .int .i64 b] (wr.drewN n) fun e w' => e = .returned (.bool (decide (b ∈ R.take k))) ∧ w' = wr.drewN n) := hide (fun n => HI.out (wr.drewN n) S _ _ (HTk.out.keep (w' := wr.drewN n) (fun _ _ => rfl)) (by rw [List.length_take]; omega) b)
        have hab2 : decide (b < 1) = false := by simpa using hab
        have HBk : Hid (1 ≤ b) := hide (by omega)
        clear hab
        cases hd : decide (b ∈ R.take k) with
        | true =>
          rw [hd] at HIn
          have hr := hbad (.inr (by simpa using hd))
          rw [HV.out] at hr
          subst hr
          clear hbad hd
          go_upto_region 4 with fail
          go_quiet (first | (go_at_call 23; exact Calls.quiet_of_same (HIn.out _)))
          go_wp2
          go_ret
          exact ⟨rfl, HW.out.trans ⟨nq, rfl⟩⟩
        | false =>
          rw [hd] at HIn
          have HD2 : Hid (∀ j, j < k + 1 → 1 ≤ R.getD j 0 ∧ R.getD j 0 ∉ R.take j) := hide (fun j hj => by
            by_cases hjk : j = k
            · subst hjk; rw [HB.out]; exact ⟨HBk.out, by simpa using hd⟩
            · exact HD.out j (by omega))
          clear hbad hd HD
          go_upto_region 4 with fail
          go_quiet (first | (go_at_call 23; exact Calls.quiet_of_same (HIn.out _)))
          have HW2 : Hid (Drews w (wr.drewN nq)) := hide (HW.out.trans ⟨nq, rfl⟩)
          clear HIn HTk d0
          go_wp2
          go_roundw
          case rel => exact ⟨k + 1, by omega, by go_num, HD2, HW2⟩
          case measure => simp [RowKit.intOf]; omega
    · obtain rfl : k = m := by omega
      have hr := prB_all (R := R) (by rw [HLn.out]; exact HD.out)
      rw [HV.out] at hr
      subst hr
      go_wp2
      go_ret
      exact ⟨rfl, HW.out⟩
end
end Go.Proofs.Ytngmnlmagbfijaa
