import Derived.Test.YtngmnlmagbfijaaPV
namespace Go.Proofs.Ytngmnlmagbfijaa
open Go.RowKit
theorem runC_mem : ∀ (l : List Og) (s : Pl) (b : Bool), ∀ c ∈ runC s b l, ∃ o ∈ l, c.R = o.R
  | [], _, _, c, h => by simp [runC] at h
  | o :: t, s, b, c, h => by
    rw [runC, List.mem_append] at h
    rcases h with h | h
    · unfold oneC at h
      split at h
      · simp at h; subst h; exact ⟨o, List.mem_cons_self .., rfl⟩
      · simp at h
    · obtain ⟨o', h1, h2⟩ := runC_mem t _ _ c h
      exact ⟨o', List.mem_cons_of_mem _ h1, h2⟩
theorem runC_rsum : ∀ (l : List Og) (s : Pl) (b : Bool), rsum (runC s b l) ≤ cost l
  | [], _, _ => by simp [runC, rsum]
  | o :: t, s, b => by
    have h1 := runC_rsum t (stepS s o) (setsS b o)
    have h2 : ∀ (a c : List Cz), rsum (a ++ c) = rsum a + rsum c := by
      intro a c
      induction a with
      | nil => simp [rsum]
      | cons x t ih => simp only [List.cons_append, rsum, ih]; omega
    rw [runC, h2, cost]
    have h3 : rsum (oneC s b o) ≤ o.R.length := by unfold oneC; split <;> simp [rsum]
    omega
theorem rsum_drop : ∀ (l : List Cz) (k : Nat), rsum (l.drop k) ≤ rsum l
  | [], k => by simp
  | a :: t, 0 => by simp
  | a :: t, k + 1 => by simp only [List.drop_succ_cons, rsum]; have := rsum_drop t k; omega
section
variable (w : World)
set_option maxRecDepth 100000 in
set_option maxHeartbeats 8000000 in
theorem schedTurns_walk (v : Value) (os : List Og) (hO : OpR (fun b => b < w.heap.size) w v os) (hF : Fit os) (hc : cost os ≤ 1048576) :
    Calls Try.prog 3 #[v] w fun e w' => e = .returned (.bool true) ∧ Below w.heap.size w w' := by
  have HO := hide hO
  have HF := hide hF
  obtain ⟨ao, cap, rfl, hcap, _⟩ := hO
  generalize os.length = ol at *
  clear hF
  go_enter Try.func3, Try.ntmps3
  go_wp2_with fail
  refine (plan_any w 1 (by omega)).mono ?_
  rintro e w1 ⟨g, X, rfl, h1, h2, h3⟩
  have HP := hide h1
  have HX := hide h2
  have HB := hide h3
  clear h1 h2 h3
  go_wp2_with fail
  refine (chosen_any w1 g 0 X (fun b => b < w.heap.size) _ HP.out _ os (HO.out.keep (fun b hb => HB.out.block b hb)) (fun b hb => ⟨fun h => by have := HX.out b h; omega, Nat.lt_of_lt_of_le hb HB.out.size⟩) HF.out (by omega) hc).mono ?_
  rintro e w2 ⟨r, X2, rfl, h1, h2, h3⟩
  have hrl := runC_rsum os (start 1) false
  have hll := runC_len os (start 1) false
  have hol := cost_len os
  have HL : Hid (∀ a who, NS ((runC (start 1) false os).drop a) who) := hide (turns_ns os)
  generalize hl : runC (start 1) false os = l at *
  have HC := hide h2.chr
  have HB2 : Hid (Below w.heap.size w w2) := hide (HB.out.trans (h3.mod.below (fun b hb => HX.out b hb) HB.out.size))
  clear hl h1 h2 h3 HP HX HB
  obtain ⟨al, cl, hr, hcl, _⟩ := HC.out
  subst hr
  obtain ⟨m, hm⟩ : ∃ m, l.length = m := ⟨_, rfl⟩
  have HLn := hide hm
  rw [hm] at hll hcl HC ⊢
  clear hm
  go_upto_region 8 with fail
  go_loopw [6] (fun i wr => ∃ k : Nat, k ≤ m ∧ i = .int .i64 (k : Nat) ∧ Hid (Below w2.heap.size w2 wr)) (fun i _ => m - (RowKit.intOf i).toNat)
  case atStart => exact ⟨0, by omega, rfl, hide (Below.refl _ _)⟩
  case round =>
    obtain ⟨k, hk, rfl, HBr⟩ := hrel
    by_cases hlt : k < m
    · obtain ⟨c, hc9⟩ : ∃ c, l[k]? = some c := ⟨l[k]'(by rw [HLn.out]; exact hlt), List.getElem?_eq_getElem _⟩
      have HCk := hide hc9
      obtain ⟨x, au, cu, hx, _, _, _, _, _⟩ := HC.out.at hc9
      subst hx
      have hcR : c.R.length ≤ 1048576 := by have := rsum_mem l k c hc9; omega
      obtain ⟨rl, hrl9⟩ : ∃ rl, c.R.length = rl := ⟨_, rfl⟩
      have HRl := hide hrl9
      have hrlb : rl ≤ 1048576 := by omega
      have hki : (k : Int) < m := by omega
      clear hc9 hrl9
      go_upto_region 11 with fail
      go_loopw [7] (fun i wr => ∃ q : Nat, q ≤ rl ∧ i = .int .i64 (q : Nat) ∧ Hid (Below w2.heap.size w2 wr)) (fun i _ => rl - (RowKit.intOf i).toNat)
      case atStart => exact ⟨0, by omega, rfl, HBr⟩
      case round =>
        obtain ⟨q, hq, rfl, HBq⟩ := hrel
        have HCq := hide (HC.out.keep (w' := wr) (fun b hb => HBq.out.block b hb.2.2))
        obtain ⟨x', au', cu', hx', hS', c0, _, _, c5⟩ := HCq.out.at HCk.out
        cases hx'
        rw [HRl.out] at c0 c5
        clear hS'
        by_cases hql : q < rl
        · have hqi : (q : Int) < rl := by omega
          obtain ⟨y, rfl, _, hy⟩ := c5.some_of (by rw [HRl.out]; omega)
          have d0 := hy q (by rw [HRl.out]; omega)
          generalize c.R.getD q 0 = who at *
          have hkc : (k : Int) ≤ cl := by omega
          have hk0 : (0 : Int) ≤ k := by omega
          have HT : Hid (ChR (fun b => w1.heap.size ≤ b ∧ ¬ X2 b ∧ b < w2.heap.size) wr (.slice (some (x.add (k * 3))) (m - k) (cl - k)) (l.drop k)) := hide (by
            have := HCq.out.tail rfl (i := k) (c := cl - k) (by rw [HLn.out]; omega)
            rw [HLn.out] at this
            exact this)
          have HSt : Hid (∀ W, Below wr.heap.size wr W → Calls Try.prog 11 #[.slice (some (x.add (k * 3))) (m - k) (cl - k), .int .i64 who] W fun e w' => e = .returned (.bool false) ∧ Below W.heap.size W w') := hide (fun W hW => by
            exact starved_any W _ _ _ (HT.out.keep (fun b hb => hW.block b (by have := HBq.out.size; omega))) (fun b hb => by have := HBq.out.size; have := hW.size; omega) (by rw [List.length_drop, HLn.out]; omega) (by have := rsum_drop l k; omega) who (HL.out k who))
          clear hy c5
          have hkc2 : ¬ cl = k := by omega
          go_upto_region 13 with fail
          go_region_with (refine (HSt.out _ ((Below.refl _ _).drew)).mono ?_; rintro e9 w9 ⟨rfl, hb9⟩)
          all_goals
            have HB9 : Hid (Below w2.heap.size w2 w9) := hide (HBq.out.drew.trans (hb9.mono HBq.out.size))
            clear hb9
            go_wp2
            go_roundw
            case rel => exact ⟨q + 1, by omega, by go_num, HB9⟩
            case measure => simp [RowKit.intOf]; omega
        · obtain rfl : q = rl := by omega
          go_wp2
          go_roundw
          case rel => exact ⟨k + 1, by omega, by go_num, HBq⟩
          case measure => simp [RowKit.intOf]; omega
    · obtain rfl : k = m := by omega
      go_wp2
      go_ret
      exact ⟨rfl, HB2.out.trans (HBr.out.mono HB2.out.size)⟩
set_option maxRecDepth 100000 in
set_option maxHeartbeats 8000000 in
theorem schedRanks_walk (v : Value) (os : List Og) (hO : OpR (fun b => b < w.heap.size) w v os) (hF : Fit os) (hc : cost os ≤ 1048576) :
    Calls Try.prog 4 #[v] w fun e w' => e = .returned (.bool true) ∧ Below w.heap.size w w' := by
  have HO := hide hO
  have HF := hide hF
  obtain ⟨ao, cap, rfl, hcap, _⟩ := hO
  generalize os.length = ol at *
  clear hF
  go_enter Try.func4, Try.ntmps4
  go_wp2_with fail
  refine (plan_any w 3 (by omega)).mono ?_
  rintro e w1 ⟨g, X, rfl, h1, h2, h3⟩
  have HP := hide h1
  have HX := hide h2
  have HB := hide h3
  clear h1 h2 h3
  go_wp2_with fail
  refine (chosen_any w1 g 0 X (fun b => b < w.heap.size) _ HP.out _ os (HO.out.keep (fun b hb => HB.out.block b hb)) (fun b hb => ⟨fun h => by have := HX.out b h; omega, Nat.lt_of_lt_of_le hb HB.out.size⟩) HF.out (by omega) hc).mono ?_
  rintro e w2 ⟨r, X2, rfl, h1, h2, h3⟩
  have hrl := runC_rsum os (start 3) false
  have hll := runC_len os (start 3) false
  have hol := cost_len os
  have HL : Hid (∀ a who, NR ((runC (start 3) false os).drop a) who) := hide (ranks_nr os)
  generalize hl : runC (start 3) false os = l at *
  have HC := hide h2.chr
  have HB2 : Hid (Below w.heap.size w w2) := hide (HB.out.trans (h3.mod.below (fun b hb => HX.out b hb) HB.out.size))
  clear hl h1 h2 h3 HP HX HB
  obtain ⟨al, cl, hr, hcl, _⟩ := HC.out
  subst hr
  obtain ⟨m, hm⟩ : ∃ m, l.length = m := ⟨_, rfl⟩
  have HLn := hide hm
  rw [hm] at hll hcl HC ⊢
  clear hm
  go_upto_region 8 with fail
  go_loopw [6] (fun i wr => ∃ k : Nat, k ≤ m ∧ i = .int .i64 (k : Nat) ∧ Hid (Below w2.heap.size w2 wr)) (fun i _ => m - (RowKit.intOf i).toNat)
  case atStart => exact ⟨0, by omega, rfl, hide (Below.refl _ _)⟩
  case round =>
    obtain ⟨k, hk, rfl, HBr⟩ := hrel
    by_cases hlt : k < m
    · obtain ⟨c, hc9⟩ : ∃ c, l[k]? = some c := ⟨l[k]'(by rw [HLn.out]; exact hlt), List.getElem?_eq_getElem _⟩
      have HCk := hide hc9
      obtain ⟨x, au, cu, hx, _, _, _, _, _⟩ := HC.out.at hc9
      subst hx
      have hcR : c.R.length ≤ 1048576 := by have := rsum_mem l k c hc9; omega
      obtain ⟨rl, hrl9⟩ : ∃ rl, c.R.length = rl := ⟨_, rfl⟩
      have HRl := hide hrl9
      have hrlb : rl ≤ 1048576 := by omega
      have hki : (k : Int) < m := by omega
      clear hc9 hrl9
      go_upto_region 11 with fail
      go_loopw [7] (fun i wr => ∃ q : Nat, q ≤ rl ∧ i = .int .i64 (q : Nat) ∧ Hid (Below w2.heap.size w2 wr)) (fun i _ => rl - (RowKit.intOf i).toNat)
      case atStart => exact ⟨0, by omega, rfl, HBr⟩
      case round =>
        obtain ⟨q, hq, rfl, HBq⟩ := hrel
        have HCq := hide (HC.out.keep (w' := wr) (fun b hb => HBq.out.block b hb.2.2))
        obtain ⟨x', au', cu', hx', hS', c0, _, _, c5⟩ := HCq.out.at HCk.out
        cases hx'
        rw [HRl.out] at c0 c5
        clear hS'
        by_cases hql : q < rl
        · have hqi : (q : Int) < rl := by omega
          obtain ⟨y, rfl, _, hy⟩ := c5.some_of (by rw [HRl.out]; omega)
          have d0 := hy q (by rw [HRl.out]; omega)
          generalize c.R.getD q 0 = who at *
          have hkc : (k : Int) ≤ cl := by omega
          have hk0 : (0 : Int) ≤ k := by omega
          have HT : Hid (ChR (fun b => w1.heap.size ≤ b ∧ ¬ X2 b ∧ b < w2.heap.size) wr (.slice (some (x.add (k * 3))) (m - k) (cl - k)) (l.drop k)) := hide (by
            have := HCq.out.tail rfl (i := k) (c := cl - k) (by rw [HLn.out]; omega)
            rw [HLn.out] at this
            exact this)
          have HSt : Hid (∀ W, Below wr.heap.size wr W → Calls Try.prog 12 #[.slice (some (x.add (k * 3))) (m - k) (cl - k), .int .i64 who] W fun e w' => e = .returned (.bool false) ∧ Below W.heap.size W w') := hide (fun W hW => by
            refine (passed_any W _ _ _ (HT.out.keep (fun b hb => hW.block b (by have := HBq.out.size; omega))) (by rw [List.length_drop, HLn.out]; omega) (by have := rsum_drop l k; omega) who (HL.out k who)).mono ?_
            rintro e w' ⟨h1, rfl⟩
            exact ⟨h1, Below.refl _ _⟩)
          clear hy c5
          have hkc2 : ¬ cl = k := by omega
          go_upto_region 13 with fail
          go_region_with (refine (HSt.out _ ((Below.refl _ _).drew)).mono ?_; rintro e9 w9 ⟨rfl, hb9⟩)
          all_goals
            have HB9 : Hid (Below w2.heap.size w2 w9) := hide (HBq.out.drew.trans (hb9.mono HBq.out.size))
            clear hb9
            go_wp2
            go_roundw
            case rel => exact ⟨q + 1, by omega, by go_num, HB9⟩
            case measure => simp [RowKit.intOf]; omega
        · obtain rfl : q = rl := by omega
          go_wp2
          go_roundw
          case rel => exact ⟨k + 1, by omega, by go_num, HBq⟩
          case measure => simp [RowKit.intOf]; omega
    · obtain rfl : k = m := by omega
      go_wp2
      go_ret
      exact ⟨rfl, HB2.out.trans (HBr.out.mono HB2.out.size)⟩
end
end Go.Proofs.Ytngmnlmagbfijaa
