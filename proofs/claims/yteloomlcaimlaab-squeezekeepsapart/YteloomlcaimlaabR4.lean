import Derived.Test.YteloomlcaimlaabR3
namespace Go.Proofs.Yteloomlcaimlaab
open Go.RowKit
theorem dj_nil (u : Value) : Dj (.slice none 0 0) u := fun k h => by cases h
/-- a row that was appended lies apart from the other as before -/
theorem Dj.app {w : World} {base : Nat} {v r u : Value} {zs : List Nat} (h : Dj v u) (hu : Ow w base u zs) (hr : ∀ k, r.ownBlock = some k → v.ownBlock = some k ∨ w.heap.size ≤ k) : Dj r u := by
  intro k h1 h2
  rcases hr k h1 with h3 | h3
  · exact h k h3 h2
  · have := (World.ownsRow.lt hu k h2).2
    omega
theorem hd_take {n k : Nat} (hk : k < 4) : (hd n).take (k + 1) = (hd n).take k ++ [n / 256 ^ k % 256] := by
  match k, hk with
  | 0, _ => simp [hd]
  | 1, _ => simp [hd]
  | 2, _ => simp [hd]
  | 3, _ => simp [hd]
theorem cut_snoc {b : List Nat} {op i : Nat} (h : op ≤ i) (hi : i < b.length) : cut b op (i + 1) = cut b op i ++ [b.getD i 0] := by
  unfold cut
  rw [List.take_add_one, List.getElem?_eq_getElem hi, List.drop_append_of_le_length (by simp; omega), List.getD_eq_getElem?_getD, List.getElem?_eq_getElem hi]
  rfl
theorem div_step (n k : Nat) : n / 256 ^ k / 256 = n / 256 ^ (k + 1) := by rw [Nat.div_div_eq_div_mul, Nat.pow_succ]
section
variable (w : World)
set_option maxHeartbeats 1000000 in
theorem RPack_big (v : Value) (b : List Nat) (B : Nat) (hv : Rb w B v b) (hl : ¬ b.length ≤ 65536) :
    Calls Try.prog 27 #[v] w fun e w' => e = .returned (.tuple #[.slice none 0 0, .int .i64 41]) ∧ w' = w := by
  obtain ⟨ao, cap, rfl, hcap⟩ := hv.len
  generalize b.length = n at *
  have hd : (65536 : Int) < (n : Int) := by omega
  clear hv
  go_enter Try.func27, Try.ntmps27
  go_wp2
  go_ret2
  exact ⟨rfl, rfl⟩
set_option maxRecDepth 100000 in
set_option maxHeartbeats 2000000 in
theorem RPack_ok (v : Value) (b : List Nat) (hv : Rb w w.heap.size v b) (hy : Bys b) (hl : b.length ≤ 65536) :
    Calls Try.prog 27 #[v] w fun e w' => ∃ r, e = .returned (.tuple #[r, .int .i64 0]) ∧ Ow w' w.heap.size r (pkd b) ∧ Below w.heap.size w w' := by
  have HV := hide hv
  have HY := hide hy
  obtain ⟨ao, cap, rfl, hcap⟩ := hv.len
  obtain ⟨n, hn⟩ : ∃ n, b.length = n := ⟨_, rfl⟩
  have HLn := hide hn
  have HPL := hide (pkd_small hl)
  have HP0 : Hid (pkd b = hd n ++ encs (tks b 0 0)) := hide (by rw [← hn]; rfl)
  rw [hn] at hl HV hcap ⊢
  have h6I : ¬ (65536 : Int) < (n : Int) := by omega
  clear hv hy hn
  go_enter Try.func27, Try.ntmps27
  go_upto_region 6 with fail
  go_loopw [4, 5, 6] (fun ov nv kv wr => ∃ k : Nat, k ≤ 4 ∧ kv = .int .i64 (k : Nat) ∧ nv = .int .i64 ((n / 256 ^ k : Nat) : Int) ∧ Ow wr w.heap.size ov ((hd n).take k) ∧ Kp w.heap.size w wr) (fun _ _ kv _ => 4 - (intOf kv).toNat)
  case atStart => exact ⟨0, by omega, rfl, by simp, ow_none _ _, Kp.refl _ _⟩
  case round =>
    obtain ⟨k, hk, rfl, rfl, hO, hK⟩ := hrel
    have HO := hide hO
    have HK := hide hK
    obtain ⟨oa, ok, oc, rfl, HKo, _⟩ := hO.len2
    have hokl : ok ≤ 4 := by rw [← HKo.out, List.length_take]; exact Nat.min_le_right k 4
    have hsz := hK.1.size
    clear hO hK
    by_cases hlt : k < 4
    · have hkI : (k : Int) < 4 := by omega
      have HT := hide (hd_take (n := n) hlt)
      have HDv := hide (div_step n k)
      have hq0 : n / 256 ^ k ≤ n := Nat.div_le_self _ _
      generalize n / 256 ^ k = q at *
      obtain ⟨t, ht⟩ : ∃ t, q % 256 = t := ⟨_, rfl⟩
      obtain ⟨q2, hq2⟩ : ∃ q2, q / 256 = q2 := ⟨_, rfl⟩
      have r1 : (q : Int).tmod 256 = (t : Nat) := by rw [← ht]; exact (Int.ofNat_tmod q 256).symm ▸ rfl
      have r2 : (q : Int) % 256 = (t : Nat) := by omega
      have r3 : (q : Int).tdiv 256 = (q2 : Nat) := by rw [← hq2]; exact (Int.ofNat_tdiv q 256).symm ▸ rfl
      have r4 : (q : Int) / 256 = (q2 : Nat) := by omega
      have r5 : IntKind.u8.wrap (t : Int) = (t : Nat) := wb t (by omega)
      have hq2l : q2 ≤ 65536 := by omega
      rw [ht] at HT
      rw [hq2] at HDv
      clear ht hq2
      go_upto_region 9 with (at_builtin; refine app_rd rfl _ _ rfl w.heap.size _ _ rfl (HO.out.alloc _) (by rw [al_size]; omega) _ _ [t] rfl (rb_one _ t) (by rw [HKo.out]; simp; omega) ?_; intro r2 w2 ho2 hg2 hk2; obtain ⟨a2, k2, c2, rfl, HK2, _⟩ := ho2.len2)
      have HO2 : Hid (Ow w2 w.heap.size (.slice a2 k2 c2) ((hd n).take (k + 1))) := hide (by rw [HT.out]; exact ho2)
      have HKp2 := hide (HK.out.trans ((al_kp hsz _).trans hk2))
      clear ho2 hg2 hk2 HO HK
      go_wp2
      go_roundw
      case rel => exact ⟨k + 1, by omega, by go_num, by rw [HDv.out], HO2.out, HKp2.out⟩
      case measure => simp [intOf]; omega
    · have hk4 : k = 4 := by omega
      have HO1 : Hid (Ow wr w.heap.size (.slice oa ok oc) (hd n)) := hide (by have := HO.out; rw [hk4] at this; exact this)
      have hkI : ¬ (k : Int) < 4 := by omega
      clear HO hk4
      generalize n / 256 ^ k = nz at *
      generalize wr = w1 at *
      go_upto_region 12 with fail
      go_loopw [4, 7, 8] (fun ov rv iv wr => ∃ (o r : List Nat) (i op : Nat), Ow wr w.heap.size ov o ∧ Ow wr w.heap.size rv r ∧ Dj rv ov ∧ iv = .int .i64 (i : Nat) ∧ op ≤ i ∧ i ≤ n ∧ i < op + 128 ∧ r = cut b op i ∧ pkd b = o ++ encs (tks b i op) ∧ Kp w.heap.size w wr) (fun _ _ iv _ => n - (intOf iv).toNat)
      case atStart => exact ⟨_, [], 0, 0, HO1.out, ow_none _ _, dj_nil _, rfl, Nat.le_refl _, Nat.zero_le _, by omega, rfl, HP0.out, HK.out⟩
      case round =>
        obtain ⟨o, r, i, op, hO, hR, hD, rfl, hop, hin, hi128, hrc, hE, hK2⟩ := hrel
        have hol : o.length ≤ 70000 := by
          have h1 := congrArg List.length hE
          have h2 := HPL.out
          rw [List.length_append] at h1
          omega
        have hrl : r.length = i - op := by rw [hrc, cut_len hop (by rw [HLn.out]; exact hin)]
        have HO := hide hO
        have HR := hide hR
        have HD := hide hD
        have HE := hide hE
        have HKr := hide hK2
        have HRc := hide hrc
        have HVr := hide (HV.out.keep hK2.1)
        have hsr := hK2.1.size
        obtain ⟨a1, k1, c1, rfl, HK1, _⟩ := hO.len2
        obtain ⟨a2, k2, c2, rfl, HK2, _⟩ := hR.len2
        rw [HK2.out] at hrl
        have hk2b : k2 ≤ 127 := by omega
        have HRl := hide hrl
        clear hO hR hD hE hK2 hrc HO1 HK HP0 hrl
        by_cases hlt : i < n
        · have hiI : (i : Int) < (n : Int) := by omega
          go_wp2_with fail
          refine (best_any wr _ b i (HVr.out.mono hsr) (by rw [HLn.out]; exact hl) (by rw [HLn.out]; exact hlt)).mono ?_
          rintro e w3 ⟨rfl, hb3⟩
          have HO3 := hide (HO.out.keep hb3 (Nat.le_refl _))
          have HR3 := hide (HR.out.keep hb3 (Nat.le_refl _))
          have HK3 := hide (HKr.out.trans (Kp.of hb3 hsr))
          have HV3 := hide (HV.out.keep HK3.out.1)
          have hs3 := HK3.out.1.size
          have HT1 := hide (fun h => tks_one (b := b) (i := i) op (by rw [HLn.out]; exact hlt) h)
          have HTc := hide (fun h => tks_copy (b := b) (i := i) op (by rw [HLn.out]; exact hlt) h)
          have HC4 := hide (cp_four b i)
          have HCm := hide (Nat.le_trans (cp_le b i) (mst_le b i))
          have HCn := hide (Nat.le_trans (cp_le b i) (mst_le2 b i))
          have HBc := hide (bs_cp b i)
          have hbl := bs_le b i i
          clear hb3 HO HR HKr HVr
          by_cases h4 : 4 ≤ (bs b i i).1
          · have hce := HBc.out.trans (if_pos h4)
            rw [hce] at HT1 HTc HC4 HCm HCn
            have HE3 := hide (HE.out.trans (by rw [HTc.out (by omega), encs_app, encs_cons]))
            obtain ⟨_, g5, g6⟩ := HC4.out (by omega)
            have g8 := HCn.out
            rw [HLn.out] at g8
            have HE4 : Hid (pkd b = (o ++ encs (rns r)) ++ enc (.inr ((bs b i i).1, (bs b i i).2)) ++ encs (tks b (i + (bs b i i).1) (i + (bs b i i).1))) := hide (by
              rw [HE3.out, HRc.out]; simp)
            clear HT1 HTc HC4 HCm HCn HBc HE3 hce HE
            generalize (bs b i i).1 = m at *
            generalize (bs b i i).2 = d at *
            have h4I : (4 : Int) ≤ (m : Int) := by omega
            go_wp2_with fail
            refine (plain_any w3 _ _ w.heap.size o r HO3.out HR3.out HD.out hs3 (by omega) (by rw [HK2.out]; omega)).mono ?_
            rintro e w4 ⟨r4, rfl, hO4, hK4⟩
            have HO4 := hide hO4
            have HK4 := hide (HK3.out.trans hK4)
            have hs4 := HK4.out.1.size
            have hol4 : (o ++ encs (rns r)).length ≤ 70000 := by
              have h1 := congrArg List.length HE4.out
              have h2 := HPL.out
              rw [List.length_append, List.length_append] at h1
              omega
            obtain ⟨a4, k4, c4, rfl, HKo4, _⟩ := hO4.len2
            rw [HKo4.out] at hol4
            clear hO4 hK4 HO3 HR3 HK3 HV3 HD
            obtain ⟨md, hmd⟩ : ∃ m, d - 1 = m := ⟨_, rfl⟩
            obtain ⟨t0, h0⟩ : ∃ t, 124 + m = t := ⟨_, rfl⟩
            obtain ⟨t1, h1⟩ : ∃ t, md % 256 = t := ⟨_, rfl⟩
            obtain ⟨t2, h2⟩ : ∃ t, md / 256 % 256 = t := ⟨_, rfl⟩
            have HEn : Hid (enc (.inr (m, d)) = [t0, t1, t2]) := hide (by subst h0 h1 h2 hmd; rfl)
            have e0 : IntKind.i64.wrap ((d : Int) - 1) = (md : Nat) := by rw [wi _ (by omega) (by omega)]; omega
            have w0 : IntKind.u8.wrap (128 + (m : Int) - 4) = (t0 : Nat) := by rw [show (128 + (m : Int) - 4) = (t0 : Nat) by omega]; exact wb t0 (by omega)
            have e1 : (md : Int).tmod 256 = (t1 : Nat) := by rw [← h1]; exact (Int.ofNat_tmod md 256).symm ▸ rfl
            have e1' : (md : Int) % 256 = (t1 : Nat) := by omega
            have e2 : (md : Int).tdiv 256 = (t2 : Nat) := by
              have : (md : Int).tdiv 256 = ((md / 256 : Nat) : Int) := (Int.ofNat_tdiv md 256).symm ▸ rfl
              rw [this]; omega
            have e2' : (md : Int) / 256 = (t2 : Nat) := by omega
            have w1 : IntKind.u8.wrap (t1 : Int) = (t1 : Nat) := wb t1 (by omega)
            have w2 : IntKind.u8.wrap (t2 : Int) = (t2 : Nat) := wb t2 (by omega)
            have hmdl : md ≤ 65535 := by omega
            clear h0 h1 h2 hmd
            go_upto_region 18 with (at_builtin; refine app_rd rfl _ _ rfl w.heap.size _ _ rfl (HO4.out.alloc _) (by rw [al_size]; omega) _ _ [t0, t1, t2] rfl (rb_three _ t0 t1 t2) (by rw [HKo4.out]; simp; omega) ?_; intro r5 w5 ho5 hg5 hk5; obtain ⟨a5, k5, c5, rfl, HKo5, _⟩ := ho5.len2)
            have HO5 := hide ho5
            have HK5 := hide (HK4.out.trans ((al_kp hs4 _).trans hk5))
            rw [HEn.out] at HE4
            clear ho5 hg5 hk5 HO4 HK4
            go_wp2
            go_roundw
            case rel => exact ⟨_, [], i + m, i + m, HO5.out, ow_none _ _, dj_nil _, by go_num, Nat.le_refl _, by omega, by omega, by (unfold cut; simp), HE4.out, HK5.out⟩
            case measure => simp [intOf]; omega
          · have hce := HBc.out.trans (if_neg h4)
            rw [hce] at HT1
            have HE3 := hide (HE.out.trans (by rw [HT1.out rfl]))
            clear HT1 HTc HC4 HCm HCn HBc hce HE
            generalize (bs b i i).1 = m at *
            generalize (bs b i i).2 = d at *
            have h4I : ¬ (4 : Int) ≤ (m : Int) := by omega
            obtain ⟨x, rfl, _, hc⟩ := HV3.out.some_of (by rw [HLn.out]; omega)
            have hci := hc i (by rw [HLn.out]; exact hlt)
            have HRs : Hid (cut b op (i + 1) = r ++ [b.getD i 0]) := hide (by rw [HRc.out]; exact cut_snoc hop (by rw [HLn.out]; exact hlt))
            clear hc
            generalize b.getD i 0 = cb at *
            go_upto_region 20 with (at_builtin; refine app_two rfl _ _ rfl w.heap.size _ r rfl (HR3.out.alloc _) (by rw [al_size]; omega) _ _ [cb] rfl (rb_one _ cb) (by rw [HK2.out]; simp; omega) ?_; intro r5 w5 ho5 hg5 hk5 hbl5; obtain ⟨a5, k5, c5, rfl, HKo5, _⟩ := ho5.len2)
            have HR5 := hide ho5
            have HD5 : Hid (Dj (.slice a5 k5 c5) (.slice a1 k1 c1)) := hide (HD.out.app (HO3.out.alloc _) hbl5)
            have HO5 : Hid (Ow w5 w.heap.size (.slice a1 k1 c1) o) := hide ((HO3.out.alloc _).kept hg5 (fun k g1 g2 => HD.out k g2 g1))
            have HK5 := hide (HK3.out.trans ((al_kp hs3 _).trans hk5))
            have hs5 := HK5.out.1.size
            have hk5l : Hid (k5 = i + 1 - op) := hide (by have := HRl.out; rw [← HKo5.out, List.length_append, HK2.out]; simp; omega)
            rw [← HRs.out] at HR5
            clear ho5 hg5 hk5 hbl5 HO3 HR3 HK3 HV3 HD
            have hk5b := hk5l.out
            by_cases h128 : k5 = 128
            · have HTf := hide (tks_full (b := b) (i := i + 1) (op := op) (by omega) (by rw [HLn.out]; omega))
              have HRn : Hid (encs (rns (cut b op (i + 1))) = enc (.inl ((b.drop op).take 128))) := hide (by
                have e : cut b op (i + 1) = (b.drop op).take 128 := by
                  unfold cut
                  rw [List.drop_take]
                  congr 1
                  omega
                have hl2 : (cut b op (i + 1)).length = 128 := by rw [cut_len (by omega) (by rw [HLn.out]; omega)]; omega
                rw [rns_one (by intro e; rw [e] at hl2; simp at hl2) (by omega), encs_cons, encs_nil, List.append_nil, e])
              have HE4 : Hid (pkd b = (o ++ encs (rns (cut b op (i + 1)))) ++ encs (tks b (i + 1) (i + 1))) := hide (by
                rw [HE3.out, HTf.out, encs_cons, HRn.out, show op + 128 = i + 1 by omega]; simp)
              have h128I : ((k5 : Int) == 128) = true := by simp; omega
              have hrl5 : (cut b op (i + 1)).length ≤ 128 := by rw [cut_len (by omega) (by rw [HLn.out]; omega)]; omega
              clear HTf HRn HE3 hk5b h128
              go_wp2_with fail
              refine (plain_any w5 _ _ w.heap.size o _ HO5.out HR5.out HD5.out hs5 (by omega) hrl5).mono ?_
              rintro e w6 ⟨r6, rfl, hO6, hK6⟩
              have HO6 := hide hO6
              have HK6 := hide (HK5.out.trans hK6)
              obtain ⟨a6, k6, c6, rfl, HKo6, _⟩ := hO6.len2
              clear hO6 hK6 HO5 HR5 HK5 HD5
              go_wp2
              go_roundw
              case rel => exact ⟨_, [], i + 1, i + 1, HO6.out, ow_none _ _, dj_nil _, by go_num, Nat.le_refl _, by omega, by omega, by (unfold cut; simp), HE4.out, HK6.out⟩
              case measure => simp [intOf]; omega
            · have h128I : ((k5 : Int) == 128) = false := by simp; omega
              have hi128' : i + 1 < op + 128 := by omega
              clear hk5b
              go_wp2
              go_roundw
              case rel => exact ⟨o, _, i + 1, op, HO5.out, HR5.out, HD5.out, by go_num, by omega, by omega, hi128', rfl, HE3.out, HK5.out⟩
              case measure => simp [intOf]; omega
        · obtain rfl : i = n := by omega
          have HE2 : Hid (pkd b = o ++ encs (rns r)) := hide (by
            rw [HE.out, tks_end op (by rw [HLn.out]; exact Nat.le_refl _), HRc.out, cut_all, HLn.out])
          clear HE
          go_wp2_with fail
          refine (plain_any wr _ _ w.heap.size o r HO.out HR.out HD.out hsr (by omega) (by rw [HK2.out]; omega)).mono ?_
          rintro e w4 ⟨r4, rfl, hO4, hK4⟩
          have HO4 := hide hO4
          have HK4 := hide (HKr.out.trans hK4)
          obtain ⟨a4, k4, c4, rfl, HKo4, _⟩ := hO4.len2
          clear hO4 hK4
          go_wp2
          go_ret2
          rw [HE2.out]
          exact ⟨_, rfl, HO4.out, HK4.out.1⟩
end
end Go.Proofs.Yteloomlcaimlaab
