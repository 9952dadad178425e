import Derived.Test.YteloomlcaimlaabA7
namespace Go.Proofs.Yteloomlcaimlaab
open Go.RowKit
theorem pkd_len (b : List Nat) : (pkd b).length ≤ 4 + b.length + (b.length + 127) / 128 := by
  have := gr_len (gr_all b) (Nat.zero_le _)
  simp only [Nat.sub_zero] at this
  unfold pkd
  rw [List.length_append]
  simp only [hd, List.length_cons, List.length_nil]
  split at this <;> omega
theorem four_new (w : World) (a b c d : Nat) : Ow (w.alloc (.cells #[.int .u8 (a : Nat), .int .u8 (b : Nat), .int .u8 (c : Nat), .int .u8 (d : Nat)] 5)) w.heap.size (.slice (some ⟨w.heap.size, 0, none⟩) 4 4) [a, b, c, d] :=
  ⟨rfl, .inr ⟨_, _, _, rfl, Nat.le_refl _, heap_alloc_last _ _, Nat.le_refl _, by unfold maxLen; omega, rfl, rfl⟩⟩
section
variable (w : World)
set_option maxRecDepth 100000 in
set_option maxHeartbeats 1000000 in
theorem pack_any (v : Value) (b : List Nat) (hv : Rb w w.heap.size v b) (hy : Bys b) (hl : b.length ≤ 65536) :
    Calls Try.prog 16 #[v] w fun e w' => ∃ r, e = .returned r ∧ Ow w' w.heap.size r (pkd b) ∧ Below w.heap.size w w' := by
  have HV := hide hv
  have HY := hide hy
  obtain ⟨ao, cap, rfl, hcap⟩ := hv.len
  obtain ⟨n, hn⟩ : ∃ n, b.length = n := ⟨_, rfl⟩
  have HLn := hide hn
  have HPL := hide (pkd_len b)
  obtain ⟨t0, h0⟩ : ∃ t, n % 256 = t := ⟨_, rfl⟩
  obtain ⟨t1, h1⟩ : ∃ t, n / 256 % 256 = t := ⟨_, rfl⟩
  obtain ⟨t2, h2⟩ : ∃ t, n / 65536 % 256 = t := ⟨_, rfl⟩
  obtain ⟨t3, h3⟩ : ∃ t, n / 16777216 % 256 = t := ⟨_, rfl⟩
  have HP0 : Hid (pkd b = [t0, t1, t2, t3] ++ encs (tks b 0 0)) := hide (by subst h0 h1 h2 h3 hn; rfl)
  rw [hn] at hl HV hcap HPL ⊢
  obtain ⟨q1, g1⟩ : ∃ t, n / 256 = t := ⟨_, rfl⟩
  obtain ⟨q2, g2⟩ : ∃ t, n / 65536 = t := ⟨_, rfl⟩
  obtain ⟨q3, g3⟩ : ∃ t, n / 16777216 = t := ⟨_, rfl⟩
  have e1 : (n : Int) / 256 = (q1 : Nat) := by omega
  have e2 : (n : Int) / 65536 = (q2 : Nat) := by omega
  have e3 : (n : Int) / 16777216 = (q3 : Nat) := by omega
  have w0 : IntKind.u8.wrap (n : Int) = (t0 : Nat) := by simp [IntKind.wrap, IntKind.signed, IntKind.bits]; omega
  have w1 : IntKind.u8.wrap (q1 : Int) = (t1 : Nat) := by simp [IntKind.wrap, IntKind.signed, IntKind.bits]; omega
  have w2 : IntKind.u8.wrap (q2 : Int) = (t2 : Nat) := by simp [IntKind.wrap, IntKind.signed, IntKind.bits]; omega
  have w3 : IntKind.u8.wrap (q3 : Int) = (t3 : Nat) := by simp [IntKind.wrap, IntKind.signed, IntKind.bits]; omega
  clear hv hy hn h0 h1 h2 h3 g1 g2 g3
  go_enter Try.func16, Try.ntmps16
  go_upto_region 3 with fail
  have HO0 := hide (four_new w t0 t1 t2 t3)
  have HK0 := hide (al_kp (w := w) (Nat.le_refl _) (.cells #[.int .u8 (t0 : Nat), .int .u8 (t1 : Nat), .int .u8 (t2 : Nat), .int .u8 (t3 : Nat)] 5))
  clear w0 w1 w2 w3 e1 e2 e3
  generalize w.alloc (.cells #[.int .u8 (t0 : Nat), .int .u8 (t1 : Nat), .int .u8 (t2 : Nat), .int .u8 (t3 : Nat)] 5) = w1 at *
  have HV1 := hide ((HV.out.keep HK0.out.1).mono HK0.out.1.size)
  go_wp2_with fail
  have hsb := sameBefore_any w1 _ b HV1.out HY.out (by rw [HLn.out]; exact hl)
  rw [HLn.out] at hsb
  refine hsb.mono ?_
  clear hsb
  rintro e w2 ⟨cb, is, rfl, hil, hoi, hbf, hb2⟩
  have HOi := hide hoi
  have HBf := hide hbf
  have HO1 := hide (HO0.out.keep hb2 (Nat.le_refl _))
  have HK1 := hide (HK0.out.trans (Kp.of hb2 HK0.out.1.size))
  clear hoi hbf hb2 HO0 HK0 HV1
  go_upto_region 6 with fail
  go_loopw [4, 6, 7] (fun ov pv iv wr => ∃ (o : List Nat) (op i : Nat), Ow wr w.heap.size ov o ∧ pv = .int .i64 (op : Nat) ∧ iv = .int .i64 (i : Nat) ∧ op ≤ i ∧ i ≤ n ∧ pkd b = o ++ encs (tks b i op) ∧ Oi wr w1.heap.size (.slice (some ⟨w1.heap.size, 0, none⟩) n cb) is ∧ Kp w.heap.size w wr) (fun _ _ iv _ => n - (intOf iv).toNat)
  case atStart => exact ⟨_, 0, 0, HO1.out, rfl, rfl, Nat.le_refl _, Nat.zero_le _, HP0.out, HOi.out, HK1.out⟩
  case round =>
    obtain ⟨o, op, i, hO, rfl, rfl, hop, hin, hE, hoi, hK⟩ := hrel
    have hol : o.length ≤ 200000 := by
      have h1 := congrArg List.length hE
      have h2 := HPL.out
      rw [List.length_append] at h1
      omega
    have HO := hide hO
    have HE := hide hE
    have HI := hide hoi
    have HK := hide hK
    obtain ⟨oa, ok, oc, rfl, HKo, _⟩ := hO.len2
    have HVr := hide (HV.out.keep hK.1)
    have hsz := hK.1.size
    clear hO hE hoi hK HO1 HK1 HOi HP0
    by_cases hlt : i < n
    · have hI0 : (i : Int) < n := by omega
      obtain ⟨x, rfl, _, _⟩ := HV.out.some_of (by rw [HLn.out]; omega)
      go_wp2_with fail
      have hlg := longest_any wr _ b i _ cb _ is (HVr.out.mono hsz) HY.out (by rw [HLn.out]; exact hl) (by rw [HLn.out]; exact hlt) (by rw [HLn.out]; exact HI.out) (by rw [HLn.out]; exact hil) (by rw [HLn.out]; exact HBf.out)
      rw [HLn.out] at hlg
      refine hlg.mono ?_
      clear hlg
      rintro e w3 ⟨rfl, hb3⟩
      have HO3 := hide (HO.out.keep hb3 (Nat.le_refl _))
      have HI3 := hide (HI.out.keep hb3 (Nat.le_refl _))
      have HK3 := hide (HK.out.trans (Kp.of hb3 hsz))
      have HV3 := hide (HV.out.keep HK3.out.1)
      have hsz3 := HK3.out.1.size
      have HT1 := hide (fun h => tks_one (b := b) (i := i) op (by rw [HLn.out]; exact hlt) h)
      have HTc := hide (fun h => tks_copy (b := b) (i := i) op (by rw [HLn.out]; exact hlt) h)
      have HC4 := hide (cp_four b i)
      have HCm := hide (Nat.le_trans (cp_le b i) (mst_le b i))
      have HCn := hide (Nat.le_trans (cp_le b i) (mst_le2 b i))
      clear hb3 HO HI HK HVr
      by_cases hc0 : (cp b i).1 = 0
      · have HE3 := hide (HE.out.trans (by rw [HT1.out hc0]))
        have hcz : (((cp b i).1 : Nat) : Int) = 0 := by omega
        rw [hcz]
        clear HT1 HTc HC4 HCm HCn HE
        generalize (cp b i).2 = dd at *
        go_wp2
        go_roundw
        case rel => exact ⟨o, op, i + 1, HO3.out, rfl, by go_num, by omega, by omega, HE3.out, HI3.out, HK3.out⟩
        case measure => simp [intOf]; omega
      · have HE3 := hide (HE.out.trans (by rw [HTc.out hc0, encs_app, encs_cons]))
        obtain ⟨g4, g5, g6⟩ := HC4.out hc0
        have g7 := HCm.out
        have g8 := HCn.out
        rw [HLn.out] at g8
        have HPr : Hid (cp b i = ((cp b i).1, (cp b i).2)) := hide rfl
        have HE4 : Hid (pkd b = o ++ encs (rns (cut b op i)) ++ enc (.inr ((cp b i).1, (cp b i).2)) ++ encs (tks b (i + (cp b i).1) (i + (cp b i).1))) := hide (by
          rw [HE3.out]; simp)
        clear HT1 HTc HC4 HCm HCn HE HE3 HPr
        generalize (cp b i).1 = m at *
        generalize (cp b i).2 = dd at *
        have hmz : ((m : Int) == 0) = false := by simp; omega
        have HCut := hide (HV3.out.sub (lo := op) (hi := i) hop (by rw [HLn.out]; omega) (i - op) (cap - op) rfl (by omega))
        have i1 : (op : Int) ≤ (i : Int) := by omega
        have i2 : (i : Int) ≤ (cap : Int) := by omega
        have hcl : (cut b op i).length = i - op := cut_len hop (by rw [HLn.out]; omega)
        go_wp2_with fail
        refine (layRuns_any w3 _ _ w.heap.size o (cut b op i) HO3.out HCut.out hsz3 (by rw [hcl]; omega)).mono ?_
        rintro e w4 ⟨r4, rfl, hO4, hK4⟩
        have hol4 : (o ++ encs (rns (cut b op i))).length ≤ 200000 := by
          have h1 := congrArg List.length HE4.out
          have h2 := HPL.out
          rw [List.length_append, List.length_append] at h1
          omega
        have HO4 := hide hO4
        have HI4 := hide (HI3.out.kp hK4)
        have HK4 := hide (HK3.out.trans hK4)
        have hsz4 := HK4.out.1.size
        obtain ⟨a4, k4, c4, rfl, HKo4, _⟩ := hO4.len2
        clear hO4 hK4 HO3 HI3 HK3 HCut HV3 hcl
        go_wp2_with fail
        refine (layCopy_any w4 _ w.heap.size m dd _ HO4.out hsz4 (by omega) g4 g7 g5 (by omega)).mono ?_
        rintro e w5 ⟨r5, rfl, hO5, hK5⟩
        have HO5 := hide hO5
        have HI5 := hide (HI4.out.kp hK5)
        have HK5 := hide (HK4.out.trans hK5)
        obtain ⟨a5, k5, c5, rfl, HKo5, _⟩ := hO5.len2
        clear hO5 hK5 HO4 HI4 HK4
        go_wp2
        go_roundw
        case rel => exact ⟨_, i + m, i + m, HO5.out, by go_num, by go_num, Nat.le_refl _, by omega, HE4.out, HI5.out, HK5.out⟩
        case measure => simp [intOf]; omega
    · obtain rfl : i = n := by omega
      have HE2 := hide (HE.out.trans (by rw [tks_end op (by rw [HLn.out]; exact Nat.le_refl _)]))
      have i1 : (op : Int) ≤ (i : Int) := by omega
      clear HE HI
      cases ao with
      | none =>
        have hb0 : b = [] := by
          rcases HV.out with ⟨_, h⟩ | ⟨x, c, h, _⟩
          · exact h
          · cases h
        have hi0 : i = 0 := by have := HLn.out; rw [hb0] at this; simpa using this.symm
        have hc0 : cap = 0 := by
          rcases HV.out with ⟨h, _⟩ | ⟨x, c, h, _⟩
          · cases h; rfl
          · cases h
        have HR : Hid (Rb wr w.heap.size (.slice none 0 0) (b.drop op)) := hide (.inl ⟨rfl, by rw [hb0]; simp⟩)
        obtain rfl : op = 0 := by omega
        subst hi0 hc0
        clear hb0
        go_wp2_with fail
        refine (layRuns_any wr _ _ w.heap.size o _ HO.out HR.out hsz (by have := HLn.out; simp; omega)).mono ?_
        rintro e w4 ⟨r4, rfl, hO4, hK4⟩
        have HO4 := hide hO4
        have HK4 := hide (HK.out.trans hK4)
        clear hO4 hK4
        go_wp2
        go_ret
        rw [HE2.out]
        exact ⟨_, rfl, HO4.out, HK4.out.1⟩
      | some x =>
        by_cases hco : cap = op
        · obtain rfl : op = i := by omega
          subst hco
          have hdn : b.drop cap = [] := List.drop_of_length_le (by rw [HLn.out]; exact Nat.le_refl _)
          have HR : Hid (Rb wr w.heap.size (.slice (some x) 0 0) (b.drop cap)) := hide (by
            rw [hdn]
            exact .inr ⟨x, 0, rfl, Nat.le_refl _, fun i u hu => by simp at hu⟩)
          clear hdn
          go_wp2_with fail
          refine (layRuns_any wr _ _ w.heap.size o _ HO.out HR.out hsz (by have := HLn.out; simp; omega)).mono ?_
          rintro e w4 ⟨r4, rfl, hO4, hK4⟩
          have HO4 := hide hO4
          have HK4 := hide (HK.out.trans hK4)
          clear hO4 hK4
          go_wp2
          go_ret
          rw [HE2.out]
          exact ⟨_, rfl, HO4.out, HK4.out.1⟩
        · have HR := hide (HVr.out.tail (k := op) (d := i - op) (c := cap - op) (by rw [HLn.out]; exact hop) (by rw [HLn.out]) (by omega))
          go_wp2_with fail
          refine (layRuns_any wr _ _ w.heap.size o _ HO.out HR.out hsz (by have := HLn.out; simp; omega)).mono ?_
          rintro e w4 ⟨r4, rfl, hO4, hK4⟩
          have HO4 := hide hO4
          have HK4 := hide (HK.out.trans hK4)
          clear hO4 hK4
          go_wp2
          go_ret
          rw [HE2.out]
          exact ⟨_, rfl, HO4.out, HK4.out.1⟩
end
end Go.Proofs.Yteloomlcaimlaab
