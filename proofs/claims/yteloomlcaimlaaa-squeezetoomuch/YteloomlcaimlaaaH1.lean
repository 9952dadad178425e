import Derived.Test.YteloomlcaimlaaaG1
namespace Go.Proofs.Yteloomlcaimlaaa
open Go.RowKit
theorem rep_get {n c x : Nat} (h : x < n) : (List.replicate n c).getD x 0 = c := by
  simp [List.getD_eq_getElem?_getD, h]
theorem rep_mt {n c i e : Nat} (he : e ≤ i) : mt (List.replicate n c) i e = mst (List.replicate n c) i := by
  have hm := mst_le2 (List.replicate n c) i
  rw [List.length_replicate] at hm
  unfold mt
  exact agr_uniq _ (Nat.le_refl _) (fun j hj => by rw [rep_get (by omega), rep_get (by omega)]) (fun h => by omega)
theorem rep_cp {n c i : Nat} (hi : 1 ≤ i) (h4 : 4 ≤ mst (List.replicate n c) i) : cp (List.replicate n c) i = (mst (List.replicate n c) i, 1) :=
  cp_uniq (.inr ⟨h4, Nat.le_refl _, hi, rep_mt hi, fun e _ h => by rw [rep_mt h]; exact Nat.le_refl _, fun e h1 h2 => by omega⟩)
theorem cp_zero (b : List Nat) : cp b 0 = (0, 0) := rfl
theorem rep_mst {c k j : Nat} (hj : j < k) : mst (List.replicate (131 * k + 1) c) (1 + 131 * j) = 131 := by
  unfold mst
  rw [List.length_replicate]
  omega
theorem gr_rep {c k : Nat} : ∀ {ts : List Tok} {j o : Nat}, Gr (List.replicate (131 * k + 1) c) (1 + 131 * j) o ts → j ≤ k → ts.length = k - j ∧ (encs ts).length = 3 * (k - j)
  | [], j, o, h, hj => by
    have h : 1 + 131 * j = (List.replicate (131 * k + 1) c).length := h
    rw [List.length_replicate] at h
    simp [encs]
    omega
  | .inl r :: ts, j, o, h, hj => by
    obtain ⟨h1, h2, h3, h4, h5, h6, h7⟩ := h
    have hp : 0 < r.length := List.length_pos_iff.2 h1
    rw [List.length_replicate] at h4
    have hjk : j < k := by omega
    have := h6 0 hp
    rw [show 1 + 131 * j + 0 = 1 + 131 * j from rfl, rep_cp (by omega) (by rw [rep_mst hjk]; omega), rep_mst hjk] at this
    simp at this
  | .inr c' :: ts, j, o, h, hj => by
    obtain ⟨h1, h2, h3, h4⟩ := h
    rw [List.length_replicate] at h1
    have hjk : j < k := by omega
    rw [rep_cp (by omega) (by rw [rep_mst hjk]; omega), rep_mst hjk] at h2
    subst h2
    simp only at h4
    rw [show 1 + 131 * j + 131 = 1 + 131 * (j + 1) by omega] at h4
    have ih := gr_rep h4 (by omega)
    rw [encs_cons, List.length_append]
    simp only [List.length_cons, enc, List.length_nil]
    omega
theorem rep_all {c k : Nat} (hk : 1 ≤ k) : (tks (List.replicate (131 * k + 1) c) 0 0).length = k + 1 ∧ (pkd (List.replicate (131 * k + 1) c)).length = 6 + 3 * k := by
  have hg := gr_all (List.replicate (131 * k + 1) c)
  unfold pkd
  generalize tks (List.replicate (131 * k + 1) c) 0 0 = ts at *
  match ts, hg with
  | [], h =>
    have h : 0 = (List.replicate (131 * k + 1) c).length := h
    simp at h
  | .inr c' :: ts, h =>
    obtain ⟨h1, h2, h3, h4⟩ := h
    rw [cp_zero] at h2
    subst h2
    exact absurd rfl h3
  | .inl r :: ts, h =>
    obtain ⟨h1, h2, h3, h4, h5, h6, h7⟩ := h
    have hp : 0 < r.length := List.length_pos_iff.2 h1
    have hr : r.length = 1 := by
      rcases Nat.lt_or_ge 1 r.length with h | h
      · have := h6 1 h
        have e := rep_mst (c := c) (k := k) (j := 0) (by omega)
        rw [show 1 + 131 * 0 = 0 + 1 from rfl] at e
        rw [rep_cp (by omega) (by rw [e]; omega), e] at this
        simp at this
      · omega
    rw [hr] at h7
    have h8 : Gr (List.replicate (131 * k + 1) c) (1 + 131 * 0) 1 ts := h7
    have ih := gr_rep h8 (Nat.zero_le _)
    rw [encs_cons, List.length_append, List.length_append]
    simp only [List.length_cons, enc, List.length_nil, hd]
    omega
theorem made_bytes (n : Nat) : (madeCells (Value.int .u8 0).cells (n * 1)).toList = (List.replicate n (0 : Nat)).map By := by
  rw [Nat.mul_one]
  show (madeCells #[Value.int .u8 0] n).toList = _
  rw [toList_madeCells_one]
  simp [By]
theorem rep_set {n c k : Nat} (hk : k < n) : (List.replicate k c ++ List.replicate (n - k) 0).set k c = List.replicate (k + 1) c ++ List.replicate (n - (k + 1)) (0 : Nat) := by
  rw [List.set_append_right _ _ (by simp), List.length_replicate, Nat.sub_self, show n - k = (n - (k + 1)) + 1 by omega, List.replicate_succ, List.set_cons_zero, List.replicate_succ', List.append_assoc]
  rfl
theorem bys_rep {n c : Nat} (h : c < 256) : Bys (List.replicate n c) := fun x hx => by rw [(List.mem_replicate.1 hx).2]; exact h
section
variable (w : World)
set_option maxRecDepth 100000 in
set_option maxHeartbeats 2000000 in
theorem small_walk (v : Value) (b : List Nat) (c : Nat) (ki : Int) (hv : Rb w w.heap.size v b) (hy : Bys b) (hl : b.length ≤ 140737488351232) (hc : c < 256) (_hk : -9223372036854775808 ≤ ki) (_hk' : ki ≤ 9223372036854775807) :
    Calls Try.prog 3 #[v, .int .u8 (c : Nat), .int .i64 ki] w fun e w' => e = .returned (.bool true) ∧ Below w.heap.size w w' := by
  obtain ⟨i5, hi5, hz5, hsz5, hb5⟩ := info5'
  have HV := hide hv
  have HY := hide hy
  obtain ⟨ao, cap, rfl, hcap⟩ := hv.len
  obtain ⟨n, hn⟩ : ∃ n, b.length = n := ⟨_, rfl⟩
  have HLn := hide hn
  rw [hn] at hl HV hcap ⊢
  clear hv hy hn
  by_cases h6 : 65536 < n
  · have h6I : (65536 : Int) < (n : Int) := by omega
    go_enter Try.func3, Try.ntmps3
    go_wp2
    go_ret
    exact ⟨rfl, Below.refl _ _⟩
  have h6I : ¬ (65536 : Int) < (n : Int) := by omega
  have hbl : b.length ≤ 65536 := by rw [HLn.out]; omega
  have HBl := hide hbl
  clear hbl
  go_enter Try.func3, Try.ntmps3
  go_wp2_with fail
  refine (Pack_ok w _ b HV.out HY.out HBl.out).mono ?_
  rintro e w1 ⟨r1, rfl, hO1, hb1⟩
  have HB1 := hide hb1
  have hs1 := hb1.size
  obtain ⟨a1, k1, c1, rfl, HK1, _⟩ := hO1.len2
  have hk4 : 4 ≤ k1 := by have := pkd_four b; rw [HK1.out] at this; exact this
  have hkl : k1 ≤ 4 + n + (n + 127) / 128 := by have := pkd_len b; rw [HK1.out, HLn.out] at this; exact this
  obtain ⟨q, hq⟩ : ∃ q, (n + 127) / 128 = q := ⟨_, rfl⟩
  rw [hq] at hkl
  have hqI : ((n : Int) + 127).tdiv 128 = (q : Nat) := by rw [← hq]; exact (Int.ofNat_tdiv (n + 127) 128).symm ▸ rfl
  have hqI2 : ((n : Int) + 127) / 128 = (q : Nat) := by omega
  have hq2 : q ≤ 513 := by omega
  have hkI : ¬ (4 + (n : Int) + (q : Int)) < (k1 : Int) := by omega
  have hk4I : ¬ (k1 : Int) < 4 := by omega
  clear hO1 hb1 HV hq
  by_cases hk1 : ki < 1
  · go_wp2
    go_ret
    exact ⟨rfl, HB1.out⟩
  · by_cases hk2 : 499 < ki
    · go_wp2
      go_ret
      exact ⟨rfl, HB1.out⟩
    · obtain ⟨k, rfl⟩ := Int.eq_ofNat_of_zero_le (show 0 ≤ ki by omega)
      obtain ⟨m, hm⟩ : ∃ m, 131 * k + 1 = m := ⟨_, rfl⟩
      have hmI : 131 * (k : Int) + 1 = (m : Int) := by omega
      have hm2 : m ≤ 65536 := by omega
      go_upto_region 9 with (refine wpList_make_full _ rfl _ _ 22 rfl w1.heap.size 5 i5 (.int .u8 0) 1 Try.underlying22 hi5 hz5 hsz5 .i64 .i64 _ _ m rfl rfl rfl rfl (by rw [hb5]; omega) (by unfold maxLen; omega) (Nat.le_refl _) ?_; intro w2 ho hg)
      have HO2 : Hid (Ow w2 w1.heap.size (.slice (some ⟨w1.heap.size, 0, none⟩) m m) (List.replicate m 0)) := hide (by
        unfold Ow
        rw [made_bytes] at ho
        simpa using ho)
      have HB2 := hide (HB1.out.trans ((Below.refl w.heap.size w1).grown hg hs1 (fun k hk => by cases hk)))
      clear ho hg HB1
      go_upto_region 10 with fail
      go_loopw [10] (fun iv wr => ∃ j : Nat, iv = .int .i64 (j : Nat) ∧ j ≤ m ∧ Ow wr w1.heap.size (.slice (some ⟨w1.heap.size, 0, none⟩) m m) (List.replicate j c ++ List.replicate (m - j) 0) ∧ Below w.heap.size w wr) (fun iv _ => m - (intOf iv).toNat)
      case atStart => exact ⟨0, rfl, Nat.zero_le _, by simpa using HO2.out, HB2.out⟩
      case round =>
        obtain ⟨j, rfl, hj, hO, hB⟩ := hrel
        clear HO2 HB2
        by_cases hlt : j < m
        · have hjI : (j : Int) < (m : Int) := by omega
          obtain ⟨d1, d2⟩ := hO.cell (j := j) (by simp; omega)
          have HO3 := hide (hO.set (j := j) (z := c))
          rw [rep_set hlt] at HO3
          have HB3 := hide (hB.setCell (p := ⟨w1.heap.size, j, none⟩) hs1 (.int .u8 (c : Nat)))
          clear hO hB
          generalize (List.replicate j c ++ List.replicate (m - j) 0).getD j 0 = old at *
          go_wp2
          go_roundw
          case rel => exact ⟨j + 1, by go_num, by omega, HO3.out, HB3.out⟩
          case measure => simp [intOf]; omega
        · obtain rfl : j = m := by omega
          have HO3 : Hid (Ow wr w1.heap.size (.slice (some ⟨w1.heap.size, 0, none⟩) j j) (List.replicate j c)) := hide (by simpa using hO)
          have HB3 := hide hB
          have hs3 := hB.size
          have HR := hide (rep_all (c := c) (k := k) (by omega))
          rw [hm] at HR
          clear hO hB
          go_wp2_with fail
          refine (Pack_ok wr _ _ HO3.out.rb (bys_rep hc) (by simp; exact hm2)).mono ?_
          rintro e w4 ⟨r4, rfl, hO4, hb4⟩
          have HO4 := hide hO4
          have HB4 := hide (HB3.out.trans (hb4.mono hs3))
          have hs4 := HB4.out.size
          obtain ⟨a4, k4, c4, rfl, HK4, _⟩ := hO4.len2
          clear hO4 hb4 HO3 HB3
          go_wp2_with fail
          refine (Tokens_pkd w4 _ _ HO4.out.rb (bys_rep hc) (by simp; exact hm2)).mono ?_
          rw [HR.out.1]
          rintro e w5 ⟨rfl, hb5'⟩
          have HB5 := hide (HB4.out.trans (hb5'.mono hs4))
          have e4 : k4 = 6 + 3 * k := by rw [← HK4.out]; exact HR.out.2
          have f1 : ((k4 : Int) == 6 + 3 * (k : Int)) = true := by simp; omega
          have f2 : (((k + 1 : Nat) : Int) == (k : Int) + 1) = true := by simp
          have HE4 := hide e4
          obtain ⟨k9, h9⟩ : ∃ k9, k + 1 = k9 := ⟨_, rfl⟩
          rw [h9] at f2 ⊢
          clear hb5' HB4 HO4 e4 h9
          go_wp2
          go_ret
          exact ⟨rfl, HB5.out⟩
end
end Go.Proofs.Yteloomlcaimlaaa
