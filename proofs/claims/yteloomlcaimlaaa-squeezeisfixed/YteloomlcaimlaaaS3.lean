import Derived.Test.YteloomlcaimlaaaS2
namespace Go.Proofs.Yteloomlcaimlaaa
open Go.RowKit
section
variable (w : World)
set_option maxRecDepth 100000 in
set_option maxHeartbeats 1000000 in
theorem greedy_copy (v : Value) (b : List Nat) (i n d B : Nat) (hv : Rb w B v b) (hl : b.length ≤ 65536) (hi : i < b.length) (hc : cp b i = (n, d)) (hn : n ≠ 0) :
    Calls Try.prog 17 #[v, .int .i64 (i : Nat), .int .i64 (n : Nat), .int .i64 (d : Nat)] w fun e w' => e = .returned (.bool true) ∧ ∃ t, w' = w.drewN t := by
  have HV := hide hv
  obtain ⟨ao, cap, rfl, hcap⟩ := hv.len
  have hs := cp_spec b i
  rw [hc] at hs
  rcases hs with ⟨h0, _⟩ | ⟨h4, h1, h2, h3, h5, h6⟩
  · exact absurd h0 hn
  simp only at h4 h1 h2 h3 h5 h6
  have H5 := hide h5
  have H6 := hide h6
  have H3 := hide h3
  obtain ⟨bl, hbl⟩ : ∃ n, b.length = n := ⟨_, rfl⟩
  have HLn := hide hbl
  rw [hbl] at hl hi hcap HV ⊢
  have hn131 : n ≤ 131 := by rw [← h3]; exact Nat.le_trans (mt_le _ _ _) (mst_le _ _)
  have hdi : ¬ (i : Int) < (d : Int) := by omega
  have hd0 : ((d : Int) == 0) = false := by simp; omega
  have hd1 : (0 : Int) < (d : Int) := by omega
  have hn4 : (4 : Int) ≤ (n : Int) := by omega
  clear hv hc h5 h6 h3 hbl hn
  go_enter Try.func17, Try.ntmps17
  go_upto_region 4 with fail
  go_loopw [9] (fun ev wr => ∃ e : Nat, ev = .int .i64 (e : Nat) ∧ 1 ≤ e ∧ e ≤ i + 1 ∧ ∃ t, wr = w.drewN t) (fun ev _ => i + 1 - (intOf ev).toNat)
  case atStart => exact ⟨1, rfl, Nat.le_refl _, by omega, 0, drewN_zero w⟩
  case round =>
    obtain ⟨e, rfl, he1, he2, t0, rfl⟩ := hrel
    have HVt : Hid (Rb (w.drewN t0) B (.slice ao bl cap) b) := HV
    by_cases hei : e ≤ i
    · have heI : (e : Int) ≤ (i : Int) := by omega
      go_wp2_with fail
      refine (agrq_any (w.drewN t0) _ b i e _ HVt.out (by rw [HLn.out]; exact hl) (by rw [HLn.out]; exact hi) hei).mono ?_
      rintro x w2 ⟨rfl, t1, rfl⟩
      have hle := H5.out e he1 hei
      have hlt := fun h => H6.out e he1 h
      generalize mt b i e = m at *
      rw [drewN_add]
      have c1 : ¬ (n : Int) < (m : Int) := by omega
      by_cases hmn : m = n
      · have hde : d ≤ e := by
          rcases Nat.lt_or_ge e d with h | h
          · have := hlt h; omega
          · exact h
        have c2 : ((m : Int) == (n : Int)) = true := eqN _ _ hmn
        have c3 : ¬ (e : Int) < (d : Int) := by omega
        clear hlt hmn
        go_wp2
        go_roundw
        case rel => exact ⟨e + 1, by go_num, by omega, by omega, _, rfl⟩
        case measure => simp [intOf]; omega
      · have c2 : ((m : Int) == (n : Int)) = false := neN _ _ hmn
        clear hlt
        go_wp2
        go_roundw
        case rel => exact ⟨e + 1, by go_num, by omega, by omega, _, rfl⟩
        case measure => simp [intOf]; omega
    · have heI : ¬ (e : Int) ≤ (i : Int) := by omega
      go_wp2_with fail
      refine (agrq_any (w.drewN t0) _ b i d _ HVt.out (by rw [HLn.out]; exact hl) (by rw [HLn.out]; exact hi) h2).mono ?_
      rw [H3.out]
      rintro x w2 ⟨rfl, t1, rfl⟩
      go_wp2
      go_ret
      exact ⟨rfl, _, rfl⟩
set_option maxRecDepth 100000 in
set_option maxHeartbeats 1000000 in
theorem greedy_none (v : Value) (b : List Nat) (i B : Nat) (hv : Rb w B v b) (hl : b.length ≤ 65536) (hi : i < b.length) (hc : (cp b i).1 = 0) :
    Calls Try.prog 17 #[v, .int .i64 (i : Nat), .int .i64 0, .int .i64 0] w fun e w' => e = .returned (.bool true) ∧ ∃ t, w' = w.drewN t := by
  have HV := hide hv
  obtain ⟨ao, cap, rfl, hcap⟩ := hv.len
  have hs := cp_spec b i
  rw [cp_none hc] at hs
  have h5 : ∀ e, 1 ≤ e → e ≤ i → mt b i e < 4 := by
    rcases hs with ⟨_, _, h5⟩ | ⟨h4, _⟩
    · exact h5
    · simp at h4
  have H5 := hide h5
  obtain ⟨bl, hbl⟩ : ∃ n, b.length = n := ⟨_, rfl⟩
  have HLn := hide hbl
  rw [hbl] at hl hi hcap HV ⊢
  have hdi : ¬ (i : Int) < 0 := by omega
  clear hv hc h5 hbl hs
  go_enter Try.func17, Try.ntmps17
  go_upto_region 4 with fail
  go_loopw [9] (fun ev wr => ∃ e : Nat, ev = .int .i64 (e : Nat) ∧ 1 ≤ e ∧ e ≤ i + 1 ∧ ∃ t, wr = w.drewN t) (fun ev _ => i + 1 - (intOf ev).toNat)
  case atStart => exact ⟨1, rfl, Nat.le_refl _, by omega, 0, drewN_zero w⟩
  case round =>
    obtain ⟨e, rfl, he1, he2, t0, rfl⟩ := hrel
    have HVt : Hid (Rb (w.drewN t0) B (.slice ao bl cap) b) := HV
    by_cases hei : e ≤ i
    · have heI : (e : Int) ≤ (i : Int) := by omega
      go_wp2_with fail
      refine (agrq_any (w.drewN t0) _ b i e _ HVt.out (by rw [HLn.out]; exact hl) (by rw [HLn.out]; exact hi) hei).mono ?_
      rintro x w2 ⟨rfl, t1, rfl⟩
      have hle := H5.out e he1 hei
      generalize mt b i e = m at *
      rw [drewN_add]
      have c1 : ¬ (4 : Int) ≤ (m : Int) := by omega
      go_wp2
      go_roundw
      case rel => exact ⟨e + 1, by go_num, by omega, by omega, _, rfl⟩
      case measure => simp [intOf]; omega
    · have heI : ¬ (e : Int) ≤ (i : Int) := by omega
      go_wp2
      go_ret
      exact ⟨rfl, _, rfl⟩
end
end Go.Proofs.Yteloomlcaimlaaa
