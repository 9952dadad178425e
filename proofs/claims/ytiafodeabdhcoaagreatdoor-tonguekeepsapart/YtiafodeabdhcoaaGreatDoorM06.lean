import Derived.Test.YtiafodeabdhcoaaGreatDoorM05
namespace Go.Proofs.YtiafodeabdhcoaaGreatDoor
open Go.RowKit
set_option maxHeartbeats 2000000 in
set_option maxRecDepth 100000 in
theorem short_any (w0 : World) (g : Nat) (s : Cd) (d p q1 q2 : Nat) (X1 X2 : Nat → Prop) (k v : Nat) (vr : Vr) (op : Tx) (l r : Ex) (dp : Nat) (j : Tx) (z : Nat) (hj : (59 : UInt8) ∉ j) (hjl : j.length ≤ 10) (hz : z ≤ 1) (hpg : p < g)
    (hB : Blk w0 p 154 (exL k v vr op (.pointer (some ⟨q1, 0, none⟩)) (.pointer (some ⟨q2, 0, none⟩)) dp)) (hL : ExAt w0 l X1 q1) (hR : ExAt w0 r X2 q2) (hX1 : ∀ j, X1 j → j < g) (hX2 : ∀ j, X2 j → j < g) (hl : CxE l) (hr : CxE r)
    (h : CdAt w0 g s) (hG : Lyb g w0) (ho : (s.short (fun c => cxF l d c) (fun c => cxF r d c) j z).Ok) (hd1 : d + exN l ≤ 1000000000) (hd2 : d + exN r ≤ 1000000000) :
    Calls Tryz.prog 149 #[.pointer (some ⟨g, 0, none⟩), .pointer (some ⟨p, 0, none⟩), .int .i64 (d : Int), .string ⟨j.toArray⟩, .int .i64 (z : Int)] w0 (CdPost g (s.short (fun c => cxF l d c) (fun c => cxF r d c) j z) w0) := by
  have HB0 := hide hB
  have HL0 := hide hL
  have HR0 := hide hR
  have HX1 := hide hX1
  have HX2 := hide hX2
  have HEl := hide hl
  have HEr := hide hr
  have HC0 := hide h
  have HG0 := hide hG
  have HK0 := hide (Kc.refl g w0)
  obtain ⟨n, hn⟩ : ∃ n, s.name = n := ⟨_, rfl⟩
  obtain ⟨s1, e1⟩ : ∃ t, s.pair = t := ⟨_, rfl⟩
  obtain ⟨s2, e2⟩ : ∃ t, cxF l d s1 = t := ⟨_, rfl⟩
  obtain ⟨s3, e3⟩ : ∃ t, s2.put [j ++ ([32, 114, 52, 44, 32, 97] ++ n)] = t := ⟨_, rfl⟩
  obtain ⟨s4, e4⟩ : ∃ t, cxF r d s3 = t := ⟨_, rfl⟩
  obtain ⟨s5, e5⟩ : ∃ t, s4.put [j ++ ([32, 114, 52, 44, 32, 97] ++ n)] = t := ⟨_, rfl⟩
  obtain ⟨s6, e6⟩ : ∃ t, s5.put [[108, 105, 32, 114, 52, 44, 32] ++ nuT (1 - z), [106, 109, 112, 32, 98] ++ n] = t := ⟨_, rfl⟩
  obtain ⟨s7, e7⟩ : ∃ t, s6.lab ([97] ++ n) = t := ⟨_, rfl⟩
  obtain ⟨s8, e8⟩ : ∃ t, s7.put [[108, 105, 32, 114, 52, 44, 32] ++ nuT z] = t := ⟨_, rfl⟩
  obtain ⟨s9, e9⟩ : ∃ t, s8.lab ([98] ++ n) = t := ⟨_, rfl⟩
  have hfin : s.short (fun c => cxF l d c) (fun c => cxF r d c) j z = s9 := by
    unfold Cd.short
    simp only [hn, e1, e2, e3, e4, e5, e6, e7, e8, e9]
  rw [hfin] at ho ⊢
  have l9 : s8.Le s9 := by rw [← e9]; exact le_lab _ _
  have l8 : s7.Le s8 := by rw [← e8]; exact le_put _ _
  have l7 : s6.Le s7 := by rw [← e7]; exact le_lab _ _
  have l6 : s5.Le s6 := by rw [← e6]; exact le_put _ _
  have l5 : s4.Le s5 := by rw [← e5]; exact le_put _ _
  have l4 : s3.Le s4 := by rw [← e4]; exact le_cx _ _ _
  have l3 : s2.Le s3 := by rw [← e3]; exact le_put _ _
  have l2 : s1.Le s2 := by rw [← e2]; exact le_cx _ _ _
  have HO9 := hide ho
  have HO8 := hide (l9.ok HO9.out)
  have HO7 := hide (l8.ok HO8.out)
  have HO6 := hide (l7.ok HO7.out)
  have HO5 := hide (l6.ok HO6.out)
  have HO4 := hide (l5.ok HO5.out)
  have HO3 := hide (l4.ok HO4.out)
  have HO2 := hide (l3.ok HO3.out)
  have HO1 := hide (l2.ok HO2.out)
  have hnb : s.labels + 1 ≤ 1000000000 := by have := HO1.out.l; rw [← e1] at this; exact this
  have hnl : n.length ≤ 21 := by rw [← hn]; exact nuT_len _ (by omega)
  have hns : (59 : UInt8) ∉ n := by rw [← hn]; exact nuT_semi _ (by omega)
  have HNS := hide hns
  have HJS := hide hj
  have HN1 : Hid (Lib.itoa (1 - (z : Int)) = nuT (1 - z)) := hide (by rw [nuT_eq, show ((1 - z : Nat) : Int) = 1 - (z : Int) by omega])
  have HN2 := hide (nuT_eq z)
  have hl1 : (Lib.itoa (1 - (z : Int))).length ≤ 6 := itoa_len (by omega) (by omega)
  have hl2 : (Lib.itoa (z : Int)).length ≤ 6 := itoa_len (by omega) (by omega)
  have hwz : IntKind.i64.wrap (1 - (z : Int)) = 1 - (z : Int) := by rw [IntKind.wrap_i64]; omega
  have HE1 := hide e1
  have HE2 := hide e2
  have HE3 := hide e3
  have HE4 := hide e4
  have HE5 := hide e5
  have HE6 := hide e6
  have HE7 := hide e7
  have HE8 := hide e8
  have HE9 := hide e9
  have HNM := hide hn
  clear hfin l2 l3 l4 l5 l6 l7 l8 l9 e1 e2 e3 e4 e5 e6 e7 e8 e9 hB hL hR hX1 hX2 hl hr h hG ho hns hj hn
  go_enter Tryz.func149, Tryz.ntmps149
  go_wp2_with fail
  refine (pair_any w0 g s HC0.out HG0.out (HE1.out ▸ HO1.out)).mono ?_
  rintro e w1 ⟨rfl, h1, h2, h3⟩
  rw [HNM.out]
  have HC1 : Hid (CdAt w1 g s1) := hide (HE1.out ▸ h1)
  have HK1 := hide (HK0.out.trans h2)
  have HG1 := hide h3
  clear h1 h2 h3 HC0 HK0 HG0
  have b7 := (HB0.out.kc HK1.out hpg).get (j := 7) rfl
  have b8 := (HB0.out.kc HK1.out hpg).get (j := 8) rfl
  go_wp2_with fail
  refine (HEl.out w1 g s1 d q1 X1 (HL0.out.kc HK1.out HX1.out) HX1.out HC1.out HG1.out (HE2.out ▸ HO2.out) hd1).mono ?_
  clear b7 b8
  rintro e w2 ⟨rfl, h1, h2, h3⟩
  have HC2 := hide h1
  have HK2 := hide (HK1.out.trans h2)
  have HG2 := hide h3
  clear h1 h2 h3 HC1 HK1 HG1
  rw [HE2.out] at HC2
  go_wp2_with fail
  refine (putk_any w2 g s2 _ [j ++ ([32, 114, 52, 44, 32, 97] ++ n)] ?hb (by simp) (all_one (semi_app HJS.out (semi_app (semi_lit _ rfl) HNS.out))) HC2.out HG2.out (HE3.out ▸ HO3.out)).mono ?_
  case hb => simp [ByteArray.data_append, semJ]
  rintro e w3 ⟨rfl, h1, h2, h3⟩
  have HC3 := hide h1
  have HK3 := hide (HK2.out.trans h2)
  have HG3 := hide h3
  clear h1 h2 h3 HC2 HK2 HG2
  rw [HE3.out] at HC3
  have b7 := (HB0.out.kc HK3.out hpg).get (j := 7) rfl
  have b8 := (HB0.out.kc HK3.out hpg).get (j := 8) rfl
  go_wp2_with fail
  refine (HEr.out w3 g s3 d q2 X2 (HR0.out.kc HK3.out HX2.out) HX2.out HC3.out HG3.out (HE4.out ▸ HO4.out) hd2).mono ?_
  clear b7 b8
  rintro e w4 ⟨rfl, h1, h2, h3⟩
  have HC4 := hide h1
  have HK4 := hide (HK3.out.trans h2)
  have HG4 := hide h3
  clear h1 h2 h3 HC3 HK3 HG3
  rw [HE4.out] at HC4
  go_wp2_with fail
  refine (putk_any w4 g s4 _ [j ++ ([32, 114, 52, 44, 32, 97] ++ n)] ?hb (by simp) (all_one (semi_app HJS.out (semi_app (semi_lit _ rfl) HNS.out))) HC4.out HG4.out (HE5.out ▸ HO5.out)).mono ?_
  case hb => simp [ByteArray.data_append, semJ]
  rintro e w5 ⟨rfl, h1, h2, h3⟩
  have HC5 := hide h1
  have HK5 := hide (HK4.out.trans h2)
  have HG5 := hide h3
  clear h1 h2 h3 HC4 HK4 HG4
  rw [HE5.out] at HC5
  go_wp2_with fail
  refine (Tryz.itoa (1 - (z : Int)) (by omega) (by omega) _ HG5.out.lg.pw).mono ?_
  rintro e w6 ⟨rfl, hb⟩
  have hk := Kc.below (g := g) hb (by have := HC5.out.lt; omega)
  have HC6 := hide (HC5.out.below hb)
  have HG6 := hide (HG5.out.kc hk)
  have HK6 := hide (HK5.out.trans hk)
  clear hb hk HC5 HK5 HG5
  go_wp2_with fail
  refine (putk_any w6 g s5 _ [[108, 105, 32, 114, 52, 44, 32] ++ nuT (1 - z), [106, 109, 112, 32, 98] ++ n] ?hb (by simp) (all_two (semi_nu rfl (by omega)) (semi_app (semi_lit _ rfl) HNS.out)) HC6.out HG6.out (HE6.out ▸ HO6.out)).mono ?_
  case hb => rw [← HN1.out]; simp [ByteArray.data_append, semJ]
  rintro e w7 ⟨rfl, h1, h2, h3⟩
  have HC7 := hide h1
  have HK7 := hide (HK6.out.trans h2)
  have HG7 := hide h3
  clear h1 h2 h3 HC6 HK6 HG6
  rw [HE6.out] at HC7
  go_wp2_with fail
  refine (lab_any w7 g s6 _ ([97] ++ n) ?hb HC7.out HG7.out (HE7.out ▸ HO7.out)).mono ?_
  case hb => simp [ByteArray.data_append]
  rintro e w8 ⟨rfl, h1, h2, h3⟩
  have HC8 := hide h1
  have HK8 := hide (HK7.out.trans h2)
  have HG8 := hide h3
  clear h1 h2 h3 HC7 HK7 HG7
  rw [HE7.out] at HC8
  go_wp2_with fail
  refine (Tryz.itoa (z : Int) (by omega) (by omega) _ HG8.out.lg.pw).mono ?_
  rintro e w9 ⟨rfl, hb⟩
  have hk := Kc.below (g := g) hb (by have := HC8.out.lt; omega)
  have HC9 := hide (HC8.out.below hb)
  have HG9 := hide (HG8.out.kc hk)
  have HK9 := hide (HK8.out.trans hk)
  clear hb hk HC8 HK8 HG8
  go_wp2_with fail
  refine (putk_any w9 g s7 _ [[108, 105, 32, 114, 52, 44, 32] ++ nuT z] ?hb (by simp) (all_one (semi_nu rfl (by omega))) HC9.out HG9.out (HE8.out ▸ HO8.out)).mono ?_
  case hb => rw [← HN2.out]; simp [ByteArray.data_append, semJ]
  rintro e w10 ⟨rfl, h1, h2, h3⟩
  have HC10 := hide h1
  have HK10 := hide (HK9.out.trans h2)
  have HG10 := hide h3
  clear h1 h2 h3 HC9 HK9 HG9
  rw [HE8.out] at HC10
  go_wp2_with fail
  refine (lab_any w10 g s8 _ ([98] ++ n) ?hb HC10.out HG10.out (HE9.out ▸ HO9.out)).mono ?_
  case hb => simp [ByteArray.data_append]
  rintro e w11 ⟨rfl, h1, h2, h3⟩
  have HC11 := hide h1
  have HK11 := hide (HK10.out.trans h2)
  have HG11 := hide h3
  clear h1 h2 h3 HC10 HK10 HG10
  rw [HE9.out] at HC11
  go_wp2
  go_end0
  exact ⟨rfl, HC11.out, HK11.out, HG11.out⟩
end Go.Proofs.YtiafodeabdhcoaaGreatDoor

namespace Go.Proofs.YtiafodeabdhcoaaGreatDoor
open Go.RowKit
section
variable (w : World)
set_option maxRecDepth 100000 in
theorem signCode_any (s : Tx) : Calls Tryz.prog 123 #[.string ⟨s.toArray⟩] w fun e w' => e = .returned (.string ⟨(sgT s).toArray⟩) ∧ w' = w := by
  by_cases h1 : s = [45]
  · subst h1
    go_enter Tryz.func123, Tryz.ntmps123
    go_wp2
    go_ret
    exact ⟨rfl, rfl⟩
  · have b1 : (s == [45]) = false := by simpa using h1
    by_cases h2 : s = [126]
    · subst h2
      clear h1 b1
      go_enter Tryz.func123, Tryz.ntmps123
      go_wp2
      go_ret
      exact ⟨rfl, rfl⟩
    · have b2 : (s == [126]) = false := by simpa using h2
      by_cases h3 : s = [33]
      · subst h3
        clear h1 b1 h2 b2
        go_enter Tryz.func123, Tryz.ntmps123
        go_wp2
        go_ret
        exact ⟨rfl, rfl⟩
      · have b3 : (s == [33]) = false := by simpa using h3
        have HV : Hid (sgT s = []) := hide (by unfold sgT; rw [if_neg h1, if_neg h2, if_neg h3])
        clear h1 h2 h3
        go_enter Tryz.func123, Tryz.ntmps123
        go_wp2
        go_ret
        exact ⟨by rw [HV.out]; rfl, rfl⟩
theorem isSign_any (s : Tx) : Calls Tryz.prog 173 #[.string ⟨s.toArray⟩] w fun e w' => e = .returned (.bool (decide (sgT s ≠ []))) ∧ w' = w := by
  have H := hide (signCode_any w s)
  generalize sgT s = x at *
  by_cases hx : x = []
  · subst hx
    go_enter Tryz.func173, Tryz.ntmps173
    go_wp2_with fail
    refine H.out.mono ?_
    rintro e w1 ⟨rfl, rfl⟩
    go_wp2
    go_ret
    exact ⟨rfl, rfl⟩
  · have he : List.isEmpty x = false := by simpa using hx
    have HD : Hid (decide (x ≠ []) = true) := hide (by simpa using hx)
    clear hx
    go_enter Tryz.func173, Tryz.ntmps173
    go_wp2_with fail
    refine H.out.mono ?_
    rintro e w1 ⟨rfl, rfl⟩
    go_wp2
    go_ret
    exact ⟨by rw [HD.out]; rfl, rfl⟩
end
theorem info_vr : (Tryz.prog.info? 63).map (·.size) = some 4 := by kernel_rfl
theorem lookP {w : World} {m : Nat} {ps : List (Tx × Nat)} (h : MapIs w m KS pE ps) (a : Tx) : (Instr.lookup 74 (.map (some m)) (.string ⟨a.toArray⟩) true).run Tryz.prog w = .ok (.tuple #[((atK KS ps a).map pE).getD (.int .i64 0), .bool (atK KS ps a).isSome]) w :=
  run_look key_str Tryz.underlying74 Tryz.zeroValue3 h a
theorem Kp.alloc {g : Nat} {a b : World} (h : Kp g a b) (o : Obj) : Kp g a (b.alloc o) := h.trans (Kp.of (bel1 b o))
theorem Kp.drew {g : Nat} {a b : World} (h : Kp g a b) : Kp g a b.drew := h.trans (Kp.of ((Below.refl _ b).drew))
theorem Kp.putN {g N : Nat} {a b : World} (h : Kp g a b) (hN : a.heap.size ≤ N) (vs : List Value) (T : TypeId) : Kp g a (putB b N vs T) := ⟨h.os, h.tape, h.output, by rw [putB_size]; exact h.size, fun k hk hn => by rw [putB_other _ _ _ _ (by omega)]; exact h.block k hk hn⟩
theorem Blk.keepK {w w' : World} {g n : Nat} {T : TypeId} {vs : List Value} (h : Blk w n T vs) (hk : Kp g w w') (hn : n ≠ g) : Blk w' n T vs := h.keep (hk.block n h.lt hn)
theorem RdA.putN {w : World} {g N : Nat} {ts : List Tk} {F : Fx} {r : Rd} (h : RdA w g ts F r) (hN : N ≠ g) (hr : ∀ a, F.ao = some a → a.block ≠ N) (hv : ∀ a, F.av = some a → a.block ≠ N) (hm : F.mp ≠ N) (vs : List Value) (T : TypeId) : RdA (putB w N vs T) g ts F r :=
  have hk : Kp N w (putB w N vs T) := ⟨rfl, rfl, rfl, by rw [putB_size]; exact Nat.le_refl _, fun k _ hn => putB_other _ _ _ _ hn⟩
  { h with
    b := h.b.keep (putB_other _ _ _ _ (Ne.symm hN))
    ro := h.ro.keepK hk hr
    vo := h.vo.keepK hk hv
    mo := h.mo.keepK hk hm }
section
variable (w : World)
set_option maxRecDepth 100000 in
set_option maxHeartbeats 2000000 in
theorem named_any (g : Nat) (ts : List Tk) (F : Fx) (r : Rd) (hk4 : (r.see ts).kind = 4) (h : RdA w g ts F r) : Calls Tryz.prog 114 #[.pointer (some ⟨g, 0, none⟩)] w fun e w' => e = .returned (.agg (vrL (r.named ts).1).toArray) ∧ RdA w' g ts F (r.named ts).2 ∧ Kp g w w' := by
  have hm := (h.more (.inl (by omega))).1
  have hln := h.len
  have hgl := h.b.lt
  have hbA := bel1 w (.cells (vrL vr0).toArray 63)
  have hK0 := Blk.new w (vrL vr0) 63
  have HS := hide (see_any (w.alloc (.cells (vrL vr0).toArray 63)) g ts F r (h.keep hbA))
  have HR := hide h
  have HNm : Hid (r.named ts = match r.find (r.see ts).text with
    | none => (vr0, r.step.nname (r.see ts).line)
    | some v => (v, if v.arr != (r.step).is ts [91] then r.step.nname (r.see ts).line else r.step)) := hide rfl
  clear h hk4
  generalize r.named ts = RN at *
  obtain ⟨t, ht⟩ : ∃ t, r.see ts = t := ⟨_, rfl⟩
  rw [ht] at HS HNm
  obtain ⟨tk, tx, tv, tl⟩ := t
  simp only [tkL] at HS HNm
  clear ht
  go_enter Tryz.func114, Tryz.ntmps114
  go_wp2_with fail
  refine HS.out.mono ?_
  rintro e w1 ⟨rfl, hb1⟩
  have HA1 := hide ((HR.out.keep hbA).keep hb1)
  have HK1 : Hid (Kp g w w1) := hide ((Kp.of hbA).trans (Kp.of hb1))
  have HV1 := hide (hK0.below hb1 (by simp))
  have hs1 := hb1.size
  simp only [World.size_alloc] at hs1
  clear hbA hb1 hK0 HS
  go_upto_region 2 with fail
  have hK1 : Blk (w1.alloc (.cells #[.int .i64 (tk : Nat), .string ⟨tx.toArray⟩, .int .u32 (tv : Nat), .int .i64 (tl : Nat)] 115)) w1.heap.size 115 (tkL ⟨tk, tx, tv, tl⟩) := ⟨heap_alloc_new _ _⟩
  have HA2 := hide (HA1.out.keep (bel1 w1 (.cells #[.int .i64 (tk : Nat), .string ⟨tx.toArray⟩, .int .u32 (tv : Nat), .int .i64 (tl : Nat)] 115)))
  have HK2 := hide (HK1.out.alloc (.cells #[.int .i64 (tk : Nat), .string ⟨tx.toArray⟩, .int .u32 (tv : Nat), .int .i64 (tl : Nat)] 115))
  have HV2 := hide (HV1.out.below (bel1 w1 (.cells #[.int .i64 (tk : Nat), .string ⟨tx.toArray⟩, .int .u32 (tv : Nat), .int .i64 (tl : Nat)] 115)) HV1.out.lt)
  clear HA1 HK1 HV1
  generalize w1.alloc (.cells #[.int .i64 (tk : Nat), .string ⟨tx.toArray⟩, .int .u32 (tv : Nat), .int .i64 (tl : Nat)] 115) = W2 at *
  generalize w1.heap.size = N1 at *
  have c1 := HA2.out.b.get (j := 1) rfl
  have f1 := HA2.out.b.frz 1
  have HA3 : Hid (RdA (W2.setCell ⟨g, 1, none⟩ (.int .i64 ((r.at' : Int) + 1))) g ts F r.step) := hide (HA2.out.to (Kp.set (Kp.refl g W2) _) (HA2.out.b.set 1 _) rfl hm)
  have HK3 := hide (Kp.set (j := 1) HK2.out (.int .i64 ((r.at' : Int) + 1)))
  have hkS := Kp.set (j := 1) (Kp.refl g W2) (.int .i64 ((r.at' : Int) + 1))
  have HV3 := hide (HV2.out.keepK hkS (by omega))
  have hK3 := hK1.keepK hkS (by omega)
  clear hK1 HA2 HK2 HV2 hkS
  go_upto_region 3 with fail
  clear c1 f1
  generalize W2.setCell ⟨g, 1, none⟩ (.int .i64 ((r.at' : Int) + 1)) = W3 at *
  obtain ⟨w0, hwD⟩ : ∃ wD, wD = W3.drew := ⟨_, rfl⟩
  have HA4 : Hid (RdA w0 g ts F r.step) := by rw [hwD]; exact hide (HA3.out.keep (Below.refl _ W3).drew)
  have HK4 : Hid (Kp g w w0) := by rw [hwD]; exact hide (HK3.out.drew)
  have HV4 : Hid (Blk w0 w.heap.size 63 (vrL vr0)) := by rw [hwD]; exact hide (HV3.out.below (Below.refl _ W3).drew HV3.out.lt)
  have HT4 : Hid (Blk w0 N1 115 (tkL ⟨tk, tx, tv, tl⟩)) := by rw [hwD]; exact hide (hK3.below (Below.refl _ W3).drew hK3.lt)
  have HS0 : Hid ((fun W => W.cell? ⟨g, 7, none⟩ = some (.map (some F.mp)) ∧ W.cell? ⟨N1, 1, none⟩ = some (.string ⟨tx.toArray⟩) ∧ (Instr.lookup 74 (.map (some F.mp)) (.string ⟨tx.toArray⟩) true).run Tryz.prog W = .ok (.tuple #[((atK KS F.ps tx).map pE).getD (.int .i64 0), .bool (atK KS F.ps tx).isSome]) W) w0) := hide ⟨HA4.out.b.get (j := 7) rfl, HT4.out.get (j := 1) rfl, lookP HA4.out.mo tx⟩
  refine wp_region_held_drew (S := fun W => W.cell? ⟨g, 7, none⟩ = some (.map (some F.mp)) ∧ W.cell? ⟨N1, 1, none⟩ = some (.string ⟨tx.toArray⟩) ∧ (Instr.lookup 74 (.map (some F.mp)) (.string ⟨tx.toArray⟩) true).run Tryz.prog W = .ok (.tuple #[((atK KS F.ps tx).map pE).getD (.int .i64 0), .bool (atK KS F.ps tx).isSome]) W) (by kernel_rfl) (by rw [← hwD]; exact HS0.out) (fun hHeld => ?_)
  rw [← hwD]
  clear hwD hHeld hK3 HA3 HK3 HV3
  refine hd_take 0 (o := ⟨some 17, _, _, _, _, _⟩) (.pointer (some ⟨g, 0, none⟩)) (by kernel_rfl) (by kernel_rfl) (by kernel_rfl) rfl (by rfl) (fun W hSw => by go_simp) (fun _ _ _ h => h) HS0.out ?_
  simp only [Act.put, List.setIfInBounds_toArray, List.set_cons_zero, List.set_cons_succ]
  refine hd_take 1 (o := ⟨some 18, _, _, _, _, _⟩) (.pointer (some ⟨g, 0, none⟩)) (by kernel_rfl) (by kernel_rfl) (by kernel_rfl) rfl (by rfl) (fun W hSw => by go_simp) (fun _ _ _ h => h) HS0.out ?_
  simp only [Act.put, List.setIfInBounds_toArray, List.set_cons_zero, List.set_cons_succ]
  refine hd_take 2 (o := ⟨some 19, _, _, _, _, _⟩) (.pointer (some ⟨g, 7, none⟩)) (by kernel_rfl) (by kernel_rfl) (by kernel_rfl) rfl (by rfl) (fun W hSw => by go_simp) (fun _ _ _ h => h) HS0.out ?_
  simp only [Act.put, List.setIfInBounds_toArray, List.set_cons_zero, List.set_cons_succ]
  refine hd_take 3 (o := ⟨some 20, _, _, _, _, _⟩) (.map (some F.mp)) (by kernel_rfl) (by kernel_rfl) (by kernel_rfl) rfl (by rfl) (fun W hSw => by have k := hSw.1; go_simp) (fun _ _ _ h => h) HS0.out ?_
  simp only [Act.put, List.setIfInBounds_toArray, List.set_cons_zero, List.set_cons_succ]
  refine hd_take 4 (o := ⟨some 21, _, _, _, _, _⟩) (.pointer (some ⟨N1, 1, none⟩)) (by kernel_rfl) (by kernel_rfl) (by kernel_rfl) rfl (by rfl) (fun W hSw => by go_simp) (fun _ _ _ h => h) HS0.out ?_
  simp only [Act.put, List.setIfInBounds_toArray, List.set_cons_zero, List.set_cons_succ]
  refine hd_take 5 (o := ⟨some 22, _, _, _, _, _⟩) (.string ⟨tx.toArray⟩) (by kernel_rfl) (by kernel_rfl) (by kernel_rfl) rfl (by rfl) (fun W hSw => by have k := hSw.2.1; go_simp) (fun _ _ _ h => h) HS0.out ?_
  simp only [Act.put, List.setIfInBounds_toArray, List.set_cons_zero, List.set_cons_succ]
  refine hd_take 6 (o := ⟨some 23, _, _, _, _, _⟩) (.tuple #[((atK KS F.ps tx).map pE).getD (.int .i64 0), .bool (atK KS F.ps tx).isSome]) (by kernel_rfl) (by kernel_rfl) (by kernel_rfl) rfl (by rfl) (fun W hSw => by have k := hSw.2.2; go_simp) (fun _ _ _ h => h) HS0.out ?_
  simp only [Act.put, List.setIfInBounds_toArray, List.set_cons_zero, List.set_cons_succ]
  refine hd_take 7 (o := ⟨some 16, _, _, _, _, _⟩) (.tuple #[((atK KS F.ps tx).map pE).getD (.int .i64 0), .bool (atK KS F.ps tx).isSome]) (by kernel_rfl) (by kernel_rfl) (by kernel_rfl) rfl (by rfl) (fun W hSw => by go_simp) (fun _ _ _ h => h) HS0.out ?_
  simp only [Act.put, List.setIfInBounds_toArray, List.set_cons_zero, List.set_cons_succ]
  refine hd_take 8 (o := ⟨some 24, _, _, _, _, _⟩) (((atK KS F.ps tx).map pE).getD (.int .i64 0)) (by kernel_rfl) (by kernel_rfl) (by kernel_rfl) rfl (by rfl) (fun W hSw => by go_simp) (fun _ _ _ h => h) HS0.out ?_
  simp only [Act.put, List.setIfInBounds_toArray, List.set_cons_zero, List.set_cons_succ]
  refine hd_take 9 (o := ⟨some 25, _, _, _, _, _⟩) (.bool (atK KS F.ps tx).isSome) (by kernel_rfl) (by kernel_rfl) (by kernel_rfl) rfl (by rfl) (fun W hSw => by go_simp) (fun _ _ _ h => h) HS0.out ?_
  simp only [Act.put, List.setIfInBounds_toArray, List.set_cons_zero, List.set_cons_succ]
  refine hd_take 10 (o := ⟨some 4, _, _, _, _, _⟩) (((atK KS F.ps tx).map pE).getD (.int .i64 0)) (by kernel_rfl) (by kernel_rfl) (by kernel_rfl) rfl (by rfl) (fun W hSw => by go_simp) (fun _ _ _ h => h) HS0.out ?_
  simp only [Act.put, List.setIfInBounds_toArray, List.set_cons_zero, List.set_cons_succ]
  refine hd_take 11 (o := ⟨some 5, _, _, _, _, _⟩) (.bool (atK KS F.ps tx).isSome) (by kernel_rfl) (by kernel_rfl) (by kernel_rfl) rfl (by rfl) (fun W hSw => by go_simp) (fun _ _ _ h => h) HS0.out ?_
  simp only [Act.put, List.setIfInBounds_toArray, List.set_cons_zero, List.set_cons_succ]
  refine wpAnyH_done (by kernel_rfl) ?_ _
  clear HS0
  have hmv := HA4.out.mv tx
  have hfs : r.step.find tx = r.find tx := rfl
  rw [hfs] at hmv
  have hnw := HK4.out.size
  cases hat : atK KS F.ps tx with
  | none =>
    rw [hat] at hmv
    simp only at hmv
    rw [hmv] at HNm
    simp only at HNm
    have HN := hide (note_any w0 g ts F r.step 1 tl 1 rfl (by decide) HA4.out)
    change Hid (Calls _ _ _ w0 fun e w' => e = .returned (.tuple #[]) ∧ RdA w' g ts F (r.step.nname tl) ∧ Kp g w0 w') at HN
    have t3 := HT4.out.get (j := 3) rfl
    simp only at t3
    clear hat hmv
    simp only [Option.map_none, Option.getD_none, Option.isSome_none]
    go_wp2_with fail
    refine HN.out.mono ?_
    rintro e w5 ⟨rfl, hA5, hk5⟩
    have HA5 := hide hA5
    have HK5 := hide (HK4.out.trans hk5)
    have HV5 := hide (HV4.out.keepK hk5 (by omega))
    clear hA5 hk5 HA4 HK4 HV4 HT4 t3 HN
    go_wp2_with (refine storeB [.string ⟨#[]⟩, .bool false, .int .i64 0, .int .i64 0] info_vr rfl rfl _ _ rfl w.heap.size rfl rfl _ HV5.out rfl ?_)
    refine bodyPost_ret (results_cell_row rfl _ _ w.heap.size 63 (List.toArray [.string ⟨#[]⟩, .bool false, .int .i64 0, .int .i64 0]) (0, 0) _ rfl (HV5.out.put _).out Tryz.underlying63 rfl info_vr) rfl ?_
    exact ⟨by rw [HNm.out]; rfl, by rw [HNm.out]; exact HR.out.to (HK5.out.putN (Nat.le_refl _) _ _) (HA5.out.b.keep (putB_other _ _ _ _ (by omega))) (((fr_step r).trans (fr_name _ _)).vars) HA5.out.hat, HK5.out.putN (Nat.le_refl _) _ _⟩
  | some n =>
    rw [hat] at hmv
    obtain ⟨hn, hfd⟩ := hmv
    obtain ⟨a, hva, hca⟩ := HA4.out.vo n hn
    have hev : r.step.vars[n] = r.vars[n] := rfl
    rw [hev] at hfd hca
    rw [hfd] at HNm
    simp only at HNm
    have c6 := HA4.out.b.get (j := 6) rfl
    rw [hva] at c6
    have hln6 : r.step.vars.length = r.vars.length := rfl
    rw [hln6] at c6 hn
    have hni : (n : Int) < (r.vars.length : Int) := by omega
    have HCa := hide hca
    clear hat hfd hev hca hfs hln6 hva
    generalize r.vars[n] = v at *
    obtain ⟨vn, va, vs, vt⟩ := v
    simp only [Option.map_some, Option.getD_some, Option.isSome_some, pE]
    go_upto_region 8 with (refine loadT Tryz.underlying63 rfl [.string ⟨vn.toArray⟩, .bool va, .int .i64 (vs : Nat), .int .i64 (vt : Nat)] info_vr rfl _ rfl (a.add (n * 4)) rfl HCa.out ?_)
    have hK5 : Blk (w0.alloc (.cells #[.string ⟨vn.toArray⟩, .bool va, .int .i64 (vs : Nat), .int .i64 (vt : Nat)] 63)) w0.heap.size 63 (vrL ⟨vn, va, vs, vt⟩) := ⟨heap_alloc_new _ _⟩
    have HA5 := hide (HA4.out.keep (bel1 w0 (.cells #[.string ⟨vn.toArray⟩, .bool va, .int .i64 (vs : Nat), .int .i64 (vt : Nat)] 63)))
    have HK5 := hide (HK4.out.alloc (.cells #[.string ⟨vn.toArray⟩, .bool va, .int .i64 (vs : Nat), .int .i64 (vt : Nat)] 63))
    have HV5 := hide (HV4.out.below (bel1 w0 (.cells #[.string ⟨vn.toArray⟩, .bool va, .int .i64 (vs : Nat), .int .i64 (vt : Nat)] 63)) HV4.out.lt)
    have HT5 := hide (HT4.out.below (bel1 w0 (.cells #[.string ⟨vn.toArray⟩, .bool va, .int .i64 (vs : Nat), .int .i64 (vt : Nat)] 63)) HT4.out.lt)
    have hgw : g < w0.heap.size := HA4.out.b.lt
    have hvw : w.heap.size < w0.heap.size := HV4.out.lt
    clear HA4 HK4 HV4 HT4 HCa c6 hni hn
    change Code.wp _ _ _ _ (w0.alloc (.cells #[.string ⟨vn.toArray⟩, .bool va, .int .i64 (vs : Nat), .int .i64 (vt : Nat)] 63))
    generalize w0.alloc (.cells #[.string ⟨vn.toArray⟩, .bool va, .int .i64 (vs : Nat), .int .i64 (vt : Nat)] 63) = W5 at *
    generalize w0.heap.size = N5 at *
    generalize w0 = wold at *
    obtain ⟨w0, hwD⟩ : ∃ wD, wD = W5.drew := ⟨_, rfl⟩
    have HA6 : Hid (RdA w0 g ts F r.step) := by rw [hwD]; exact hide (HA5.out.keep (Below.refl _ W5).drew)
    have HK6 : Hid (Kp g w w0) := by rw [hwD]; exact hide (HK5.out.drew)
    have HV6 : Hid (Blk w0 w.heap.size 63 (vrL vr0)) := by rw [hwD]; exact hide (HV5.out.below (Below.refl _ W5).drew HV5.out.lt)
    have HT6 : Hid (Blk w0 N1 115 (tkL ⟨tk, tx, tv, tl⟩)) := by rw [hwD]; exact hide (HT5.out.below (Below.refl _ W5).drew HT5.out.lt)
    have HX6 : Hid (Blk w0 N5 63 (vrL ⟨vn, va, vs, vt⟩)) := by rw [hwD]; exact hide (hK5.below (Below.refl _ W5).drew hK5.lt)
    have HS0 : Hid ((fun W => W.cell? ⟨N5, 1, none⟩ = some (.bool va)) w0) := hide (HX6.out.get (j := 1) rfl)
    have HSe := hide (see_any w0 g ts F r.step HA6.out)
    have HIs : Hid (r.step.is ts [91] = ((r.step.see ts).text == [91])) := hide rfl
    generalize hst : r.step.see ts = t2 at *
    obtain ⟨uk, ux, uv, ul⟩ := t2
    simp only [tkL] at HSe HIs
    clear hst
    have h1 := fld1 (.int .i64 (uk : Nat)) (.string ⟨ux.toArray⟩) (.int .u32 (uv : Nat)) (.int .i64 (ul : Nat))
    refine wp_region_held_drew (S := fun W => W.cell? ⟨N5, 1, none⟩ = some (.bool va)) (by kernel_rfl) (by rw [← hwD]; exact HS0.out) (fun hHeld => ?_)
    rw [← hwD]
    clear hwD hHeld hK5 HA5 HK5 HV5 HT5
    refine hd_take 0 (o := ⟨some 40, _, _, _, _, _⟩) (.pointer (some ⟨N5, 1, none⟩)) (by kernel_rfl) (by kernel_rfl) (by kernel_rfl) rfl (by rfl) (fun W hSw => by go_simp) (fun _ _ _ h => h) HS0.out ?_
    simp only [Act.put, List.setIfInBounds_toArray, List.set_cons_zero, List.set_cons_succ]
    refine hd_take 1 (o := ⟨some 41, _, _, _, _, _⟩) (.bool va) (by kernel_rfl) (by kernel_rfl) (by kernel_rfl) rfl (by rfl) (fun W hSw => by have k : W.cell? ⟨N5, 1, none⟩ = some (.bool va) := hSw; go_simp) (fun _ _ _ h => h) HS0.out ?_
    simp only [Act.put, List.setIfInBounds_toArray, List.set_cons_zero, List.set_cons_succ]
    refine hd_take 2 (o := ⟨some 42, _, _, _, _, _⟩) (.pointer (some ⟨g, 0, none⟩)) (by kernel_rfl) (by kernel_rfl) (by kernel_rfl) rfl (by rfl) (fun W hSw => by go_simp) (fun _ _ _ h => h) HS0.out ?_
    simp only [Act.put, List.setIfInBounds_toArray, List.set_cons_zero, List.set_cons_succ]
    refine hd_call 3 (o := ⟨some 43, _, _, _, _, _⟩) (by kernel_rfl) rfl (by rfl) (fun K' hK => ?_)
    go_simp
    go_wp2_with (go_at_call 54; refine HSe.out.mono ?_; rintro e1 w9 ⟨rfl, hb9⟩)
    have HA7 := hide (HA6.out.keep hb9)
    have HK7 := hide (HK6.out.trans (Kp.of hb9))
    have HV7 := hide (HV6.out.below hb9 HV6.out.lt)
    have HT7 := hide (HT6.out.below hb9 HT6.out.lt)
    have HX7 := hide (HX6.out.below hb9 HX6.out.lt)
    have HS1 : Hid ((fun W => W.cell? ⟨N5, 1, none⟩ = some (.bool va)) w9) := hide (HX7.out.get (j := 1) rfl)
    clear HA6 HK6 HV6 HT6 HX6 hb9
    refine hK _ _ HS1.out ?_
    clear hK K'
    try simp only [Act.put, List.setIfInBounds_toArray, List.set_cons_zero, List.set_cons_succ]
    refine hd_take 4 (o := ⟨some 44, _, _, _, _, _⟩) (.string ⟨ux.toArray⟩) (by kernel_rfl) (by kernel_rfl) (by kernel_rfl) rfl (by rfl) (fun W hSw => by go_simp) (fun _ _ _ h => h) HS1.out ?_
    simp only [Act.put, List.setIfInBounds_toArray, List.set_cons_zero, List.set_cons_succ]
    refine hd_take 5 (o := ⟨some 45, _, _, _, _, _⟩) (.bool (ux == [91])) (by kernel_rfl) (by kernel_rfl) (by kernel_rfl) rfl (by rfl) (fun W hSw => by go_simp) (fun _ _ _ h => h) HS1.out ?_
    simp only [Act.put, List.setIfInBounds_toArray, List.set_cons_zero, List.set_cons_succ]
    refine hd_take 6 (o := ⟨some 46, _, _, _, _, _⟩) (.bool (!(va == (ux == [91])))) (by kernel_rfl) (by kernel_rfl) (by kernel_rfl) rfl (by rfl) (fun W hSw => by go_simp) (fun _ _ _ h => h) HS1.out ?_
    simp only [Act.put, List.setIfInBounds_toArray, List.set_cons_zero, List.set_cons_succ]
    refine wpAnyH_done (by kernel_rfl) ?_ _
    clear HS1 HS0 HSe
    have x0 := HX7.out.get (j := 0) rfl
    have x1 := HX7.out.get (j := 1) rfl
    have x2 := HX7.out.get (j := 2) rfl
    have x3 := HX7.out.get (j := 3) rfl
    rw [HIs.out] at HNm
    cases hne : !(va == (ux == [91])) with
    | true =>
      rw [show (va != (ux == [91])) = true from hne] at HNm
      simp only [if_true] at HNm
      have t3 := HT7.out.get (j := 3) rfl
      simp only at t3
      have HN := hide (note_any w9 g ts F r.step 1 tl 1 rfl (by decide) HA7.out)
      change Hid (Calls _ _ _ w9 fun e w' => e = .returned (.tuple #[]) ∧ RdA w' g ts F (r.step.nname tl) ∧ Kp g w9 w') at HN
      clear x0 x1 x2 x3
      go_wp2_with fail
      refine HN.out.mono ?_
      rintro e w10 ⟨rfl, hA8, hk8⟩
      have HA8 := hide hA8
      have HK8 := hide (HK7.out.trans hk8)
      have HV8 := hide (HV7.out.keepK hk8 (by omega))
      have HX8 := HX7.out.keepK hk8 (by omega)
      have x0 := HX8.get (j := 0) rfl
      have x1 := HX8.get (j := 1) rfl
      have x2 := HX8.get (j := 2) rfl
      have x3 := HX8.get (j := 3) rfl
      clear hA8 hk8 HA7 HK7 HV7 HT7 HX7 HX8 t3 HN
      go_wp2_with (refine storeB [.string ⟨vn.toArray⟩, .bool va, .int .i64 (vs : Nat), .int .i64 (vt : Nat)] info_vr rfl rfl _ _ rfl w.heap.size rfl rfl _ HV8.out rfl ?_)
      refine bodyPost_ret (results_cell_row rfl _ _ w.heap.size 63 (List.toArray [.string ⟨vn.toArray⟩, .bool va, .int .i64 (vs : Nat), .int .i64 (vt : Nat)]) (0, 0) _ rfl (HV8.out.put _).out Tryz.underlying63 rfl info_vr) rfl ?_
      exact ⟨by rw [HNm.out]; rfl, by rw [HNm.out]; exact HR.out.to (HK8.out.putN (Nat.le_refl _) _ _) (HA8.out.b.keep (putB_other _ _ _ _ (by omega))) (((fr_step r).trans (fr_name _ _)).vars) HA8.out.hat, HK8.out.putN (Nat.le_refl _) _ _⟩
    | false =>
      rw [show (va != (ux == [91])) = false from hne] at HNm
      simp only [if_false, Bool.false_eq_true] at HNm
      clear HT7
      go_wp2_with (refine storeB [.string ⟨vn.toArray⟩, .bool va, .int .i64 (vs : Nat), .int .i64 (vt : Nat)] info_vr rfl rfl _ _ rfl w.heap.size rfl rfl _ HV7.out rfl ?_)
      refine bodyPost_ret (results_cell_row rfl _ _ w.heap.size 63 (List.toArray [.string ⟨vn.toArray⟩, .bool va, .int .i64 (vs : Nat), .int .i64 (vt : Nat)]) (0, 0) _ rfl (HV7.out.put _).out Tryz.underlying63 rfl info_vr) rfl ?_
      exact ⟨by rw [HNm.out]; rfl, by rw [HNm.out]; exact HR.out.to (HK7.out.putN (Nat.le_refl _) _ _) (HA7.out.b.keep (putB_other _ _ _ _ (by omega))) rfl HA7.out.hat, HK7.out.putN (Nat.le_refl _) _ _⟩
end
end Go.Proofs.YtiafodeabdhcoaaGreatDoor

namespace Go.Proofs.YtiafodeabdhcoaaGreatDoor
open Go.RowKit
theorem semT_ne (s : Tx) : semT s ≠ [] := by
  have : ∀ (b : Bool) (s : Tx), semF b s ≠ [] := by
    intro b s
    induction s generalizing b with
    | nil => cases b <;> simp [semF]
    | cons c r ih =>
      cases b
      · unfold semF
        split
        · simp
        · have := ih false
          split <;> simp_all
      · unfold semF
        exact ih false
  exact this false s
set_option maxHeartbeats 2000000 in
set_option maxRecDepth 100000 in
theorem oper_any (w0 : World) (g : Nat) (s : Cd) (d p q1 q2 : Nat) (X1 X2 : Nat → Prop) (v : Nat) (vr : Vr) (op : Tx) (l r : Ex) (dp : Nat) (hpg : p < g)
    (hB : Blk w0 p 154 (exL 5 v vr op (.pointer (some ⟨q1, 0, none⟩)) (.pointer (some ⟨q2, 0, none⟩)) dp)) (hL : ExAt w0 l X1 q1) (hR : ExAt w0 r X2 q2) (hX1 : ∀ j, X1 j → j < g) (hX2 : ∀ j, X2 j → j < g) (hl : CxE l) (hr : CxE r)
    (h : CdAt w0 g s) (hG : Lyb g w0) (ho : (cxF ⟨5, v, vr, op, some l, some r, dp⟩ d s).Ok) (hd1 : d + exN l + 1 ≤ 1000000000) (hd2 : d + exN r + 1 ≤ 1000000000) :
    Calls Tryz.prog 124 #[.pointer (some ⟨g, 0, none⟩), .pointer (some ⟨p, 0, none⟩), .int .i64 (d : Int)] w0 (CdPost g (cxF ⟨5, v, vr, op, some l, some r, dp⟩ d s) w0) := by
  have hcx : cxF ⟨5, v, vr, op, some l, some r, dp⟩ d s = if op = [38, 38] then s.short (fun c => cxF l d c) (fun c => cxF r d c) [106, 122] 0 else if op = [124, 124] then s.short (fun c => cxF l d c) (fun c => cxF r d c) [106, 110, 122] 1 else s.oper (fun c => cxF l d c) (fun c => cxF r (d + 1) c) d op := by
    simp only [cxF]
    rfl
  rw [hcx] at ho ⊢
  clear hcx
  have b6 := hB.get (j := 6) rfl
  by_cases ha : op = [38, 38]
  · rw [if_pos ha] at ho ⊢
    have HS := hide (short_any w0 g s d p q1 q2 X1 X2 5 v vr op l r dp [106, 122] 0 (by decide) (by decide) (by decide) hpg hB hL hR hX1 hX2 hl hr h hG ho (by omega) (by omega))
    subst ha
    clear hB hL hR hX1 hX2 hl hr h hG ho hd1 hd2 hpg
    go_enter Tryz.func124, Tryz.ntmps124
    go_wp2_with fail
    refine HS.out.mono ?_
    rintro e w1 ⟨rfl, h1, h2, h3⟩
    have HP : Hid (CdPost g (s.short (fun c => cxF l d c) (fun c => cxF r d c) [106, 122] 0) w0 (.returned (.tuple #[])) w1) := hide ⟨rfl, h1, h2, h3⟩
    clear h1 h2 h3 HS
    go_wp2
    go_end0
    exact HP.out
  · rw [if_neg ha] at ho ⊢
    have e1 : (op == [38, 38]) = false := by simpa using ha
    clear ha
    by_cases hb : op = [124, 124]
    · rw [if_pos hb] at ho ⊢
      have HS := hide (short_any w0 g s d p q1 q2 X1 X2 5 v vr op l r dp [106, 110, 122] 1 (by decide) (by decide) (by decide) hpg hB hL hR hX1 hX2 hl hr h hG ho (by omega) (by omega))
      subst hb
      clear hB hL hR hX1 hX2 hl hr h hG ho hd1 hd2 hpg e1
      go_enter Tryz.func124, Tryz.ntmps124
      go_wp2_with fail
      refine HS.out.mono ?_
      rintro e w1 ⟨rfl, h1, h2, h3⟩
      have HP : Hid (CdPost g (s.short (fun c => cxF l d c) (fun c => cxF r d c) [106, 110, 122] 1) w0 (.returned (.tuple #[])) w1) := hide ⟨rfl, h1, h2, h3⟩
      clear h1 h2 h3 HS
      go_wp2
      go_end0
      exact HP.out
    · rw [if_neg hb] at ho ⊢
      have e2 : (op == [124, 124]) = false := by simpa using hb
      clear hb
      have HB0 := hide hB
      have HL0 := hide hL
      have HR0 := hide hR
      have HX1 := hide hX1
      have HX2 := hide hX2
      have HEl := hide hl
      have HEr := hide hr
      have HC0 := hide h
      have HG0 := hide hG
      have HK0 := hide (Kc.refl g w0)
      obtain ⟨s1, e1'⟩ : ∃ t, cxF l d s = t := ⟨_, rfl⟩
      obtain ⟨s2, e2'⟩ : ∃ t, s1.put [[115, 116, 32, 114, 52, 44, 32, 114, 55, 44, 32] ++ nuT (480 + d)] = t := ⟨_, rfl⟩
      obtain ⟨s3, e3'⟩ : ∃ t, cxF r (d + 1) s2 = t := ⟨_, rfl⟩
      obtain ⟨s4, e4'⟩ : ∃ t, s3.put [[109, 111, 118, 32, 114, 53, 44, 32, 114, 52], [108, 100, 32, 114, 52, 44, 32, 114, 55, 44, 32] ++ nuT (480 + d)] = t := ⟨_, rfl⟩
      obtain ⟨s5, e5'⟩ : ∃ t, s4.put (semT (ocT op)) = t := ⟨_, rfl⟩
      have hfin : s.oper (fun c => cxF l d c) (fun c => cxF r (d + 1) c) d op = s5 := by
        unfold Cd.oper
        simp only [e1', e2', e3', e4', e5']
      rw [hfin] at ho ⊢
      have l5 : s4.Le s5 := by rw [← e5']; exact le_put _ _
      have l4 : s3.Le s4 := by rw [← e4']; exact le_put _ _
      have l3 : s2.Le s3 := by rw [← e3']; exact le_cx _ _ _
      have l2 : s1.Le s2 := by rw [← e2']; exact le_put _ _
      have HO5 := hide ho
      have HO4 := hide (l5.ok HO5.out)
      have HO3 := hide (l4.ok HO4.out)
      have HO2 := hide (l3.ok HO3.out)
      have HO1 := hide (l2.ok HO2.out)
      have hwd : IntKind.i64.wrap ((d : Int) + 1) = (d : Int) + 1 := by rw [IntKind.wrap_i64]; omega
      have hnl := nuT_len (480 + d) (by omega)
      have HSM := hide (sem_ocT op)
      have HE1 := hide e1'
      have HE2 := hide e2'
      have HE3 := hide e3'
      have HE4 := hide e4'
      have HE5 := hide e5'
      clear hfin l2 l3 l4 l5 e1' e2' e3' e4' e5' hB hL hR hX1 hX2 hl hr h hG ho b6
      have b6 := HB0.out.get (j := 6) rfl
      have b7 := HB0.out.get (j := 7) rfl
      go_enter Tryz.func124, Tryz.ntmps124
      go_wp2_with fail
      refine (HEl.out w0 g s d q1 X1 (HL0.out.kc HK0.out HX1.out) HX1.out HC0.out HG0.out (HE1.out ▸ HO1.out) (by omega)).mono ?_
      clear b6 b7
      rintro e w1 ⟨rfl, h1, h2, h3⟩
      have HC1 := hide h1
      have HK1 := hide (HK0.out.trans h2)
      have HG1 := hide h3
      clear h1 h2 h3 HC0 HK0 HG0
      rw [HE1.out] at HC1
      go_wp2_with fail
      refine (temp_any w1 d (by omega) HG1.out.lg).mono ?_
      rintro e w2 ⟨rfl, hb⟩
      have hk := Kc.below (g := g) hb (by have := HC1.out.lt; omega)
      have HC2 := hide (HC1.out.below hb)
      have HG2 := hide (HG1.out.kc hk)
      have HK2 := hide (HK1.out.trans hk)
      clear hb hk HC1 HK1 HG1
      go_wp2_with fail
      refine (putk_any w2 g s1 _ [[115, 116, 32, 114, 52, 44, 32, 114, 55, 44, 32] ++ nuT (480 + d)] ?hb (by simp) (all_one (semi_nu rfl (by omega))) HC2.out HG2.out (HE2.out ▸ HO2.out)).mono ?_
      case hb => simp [ByteArray.data_append, semJ]
      rintro e w3 ⟨rfl, h1, h2, h3⟩
      have HC3 := hide h1
      have HK3 := hide (HK2.out.trans h2)
      have HG3 := hide h3
      clear h1 h2 h3 HC2 HK2 HG2
      rw [HE2.out] at HC3
      have b8 := (HB0.out.kc HK3.out hpg).get (j := 8) rfl
      go_wp2_with fail
      refine (HEr.out w3 g s2 (d + 1) q2 X2 (HR0.out.kc HK3.out HX2.out) HX2.out HC3.out HG3.out (HE3.out ▸ HO3.out) (by omega)).mono ?_
      clear b8
      rintro e w4 ⟨rfl, h1, h2, h3⟩
      have HC4 := hide h1
      have HK4 := hide (HK3.out.trans h2)
      have HG4 := hide h3
      clear h1 h2 h3 HC3 HK3 HG3
      rw [HE3.out] at HC4
      go_wp2_with fail
      refine (temp_any w4 d (by omega) HG4.out.lg).mono ?_
      rintro e w5 ⟨rfl, hb⟩
      have hk := Kc.below (g := g) hb (by have := HC4.out.lt; omega)
      have HC5 := hide (HC4.out.below hb)
      have HG5 := hide (HG4.out.kc hk)
      have HK5 := hide (HK4.out.trans hk)
      clear hb hk HC4 HK4 HG4
      go_wp2_with fail
      refine (putk_any w5 g s3 _ [[109, 111, 118, 32, 114, 53, 44, 32, 114, 52], [108, 100, 32, 114, 52, 44, 32, 114, 55, 44, 32] ++ nuT (480 + d)] ?hb (by simp) (all_two (semi_lit _ rfl) (semi_nu rfl (by omega))) HC5.out HG5.out (HE4.out ▸ HO4.out)).mono ?_
      case hb => simp [ByteArray.data_append, semJ]
      rintro e w6 ⟨rfl, h1, h2, h3⟩
      have HC6 := hide h1
      have HK6 := hide (HK5.out.trans h2)
      have HG6 := hide h3
      clear h1 h2 h3 HC5 HK5 HG5
      rw [HE4.out] at HC6
      have b6 := (HB0.out.kc HK6.out hpg).get (j := 6) rfl
      go_wp2_with fail
      refine (opCode_any w6 op HG6.out.lg).mono ?_
      clear b6
      rintro e w7 ⟨rfl, hb⟩
      have hk := Kc.below (g := g) hb (by have := HC6.out.lt; omega)
      have HC7 := hide (HC6.out.below hb)
      have HG7 := hide (HG6.out.kc hk)
      have HK7 := hide (HK6.out.trans hk)
      clear hb hk HC6 HK6 HG6
      go_wp2_with fail
      refine (putk_any w7 g s4 _ (semT (ocT op)) ?hb (semT_ne _) HSM.out.2 HC7.out HG7.out (HE5.out ▸ HO5.out)).mono ?_
      case hb => exact HSM.out.1.symm
      rintro e w8 ⟨rfl, h1, h2, h3⟩
      have HC8 := hide h1
      have HK8 := hide (HK7.out.trans h2)
      have HG8 := hide h3
      clear h1 h2 h3 HC7 HK7 HG7
      rw [HE5.out] at HC8
      go_wp2
      go_end0
      exact ⟨rfl, HC8.out, HK8.out, HG8.out⟩
end Go.Proofs.YtiafodeabdhcoaaGreatDoor

namespace Go.Proofs.YtiafodeabdhcoaaGreatDoor
open Go.RowKit
set_option maxHeartbeats 4000000 in
set_option maxRecDepth 100000 in
theorem ex_step (k v : Nat) (vr : Vr) (op : Tx) (l r : Option Ex) (dp : Nat) (hK : exK ⟨k, v, vr, op, l, r, dp⟩) (hl : ∀ e, l = some e → CxE e) (hr : ∀ e, r = some e → CxE e) : CxE ⟨k, v, vr, op, l, r, dp⟩ := by
  intro w0 g s d p X hE hX h hG ho hd
  obtain ⟨hXp, pl, pr, hB, hL, hR⟩ := ExAt.iff.1 hE
  have hpg := hX p hXp
  unfold exK at hK
  obtain ⟨hk5, hv, hsz, hat, _, _, _, hln, hrn, _, _⟩ := hK
  have HB0 := hide hB
  have HC0 := hide h
  have HG0 := hide hG
  have HK0 := hide (Kc.refl g w0)
  have b0 := HB0.out.get (j := 0) rfl
  clear hE hB h hG
  have hk : k = 0 ∨ k = 1 ∨ k = 2 ∨ k = 3 ∨ k = 4 ∨ k = 5 := by omega
  rcases hk with rfl | rfl | rfl | rfl | rfl | rfl
  · have hcx : cxF ⟨0, v, vr, op, l, r, dp⟩ d s = s.num v := by unfold cxF; rfl
    rw [hcx] at ho ⊢
    have HO := hide ho
    clear hcx ho hl hr hL hR
    have b1 := HB0.out.get (j := 1) rfl
    go_enter Tryz.func93, Tryz.ntmps93
    go_wp2_with fail
    refine (num_any w0 g s v hv HC0.out HG0.out HO.out).mono ?_
    clear b0 b1
    rintro e w1 ⟨rfl, h1, h2, h3⟩
    have HC1 := hide h1
    have HK1 := hide (HK0.out.trans h2)
    have HG1 := hide h3
    clear h1 h2 h3 HC0 HK0 HG0
    go_wp2
    go_end0
    exact ⟨rfl, HC1.out, HK1.out, HG1.out⟩
  · have hcx : cxF ⟨1, v, vr, op, l, r, dp⟩ d s = s.put [[115, 121, 115, 32, 50, 52], [109, 111, 118, 32, 114, 52, 44, 32, 114, 49]] := by unfold cxF; rfl
    rw [hcx] at ho ⊢
    have HO := hide ho
    clear hcx ho hl hr hL hR
    have hn24 := nuT_len 24 (by omega)
    go_enter Tryz.func93, Tryz.ntmps93
    go_wp2_with fail
    refine (sys_any w0 24 (by omega) HG0.out.lg).mono ?_
    clear b0
    rintro e w1 ⟨rfl, hb⟩
    have hk := Kc.below (g := g) hb (by have := HC0.out.lt; omega)
    have HC1 := hide (HC0.out.below hb)
    have HG1 := hide (HG0.out.kc hk)
    have HK1 := hide (HK0.out.trans hk)
    clear hb hk HC0 HK0 HG0
    go_wp2_with fail
    refine (putk_any w1 g s _ [[115, 121, 115, 32, 50, 52], [109, 111, 118, 32, 114, 52, 44, 32, 114, 49]] ?hb (by simp) (all_two (semi_lit _ rfl) (semi_lit _ rfl)) HC1.out HG1.out HO.out).mono ?_
    case hb => simp [ByteArray.data_append, semJ]; rfl
    rintro e w2 ⟨rfl, h1, h2, h3⟩
    have HC2 := hide h1
    have HK2 := hide (HK1.out.trans h2)
    have HG2 := hide h3
    clear h1 h2 h3 HC1 HK1 HG1
    go_wp2
    go_end0
    exact ⟨rfl, HC2.out, HK2.out, HG2.out⟩
  · have hcx : cxF ⟨2, v, vr, op, l, r, dp⟩ d s = s.put [[108, 100, 32, 114, 52, 44, 32, 114, 55, 44, 32] ++ nuT vr.at'] := by unfold cxF; rfl
    rw [hcx] at ho ⊢
    have HO := hide ho
    clear hcx ho hl hr hL hR
    have hna := nuT_len vr.at' (by omega)
    have b2 := (HB0.out.kc HK0.out hpg).get (j := 2) rfl
    have b3 := (HB0.out.kc HK0.out hpg).get (j := 3) rfl
    have b4 := (HB0.out.kc HK0.out hpg).get (j := 4) rfl
    have b5 := (HB0.out.kc HK0.out hpg).get (j := 5) rfl
    go_enter Tryz.func93, Tryz.ntmps93
    go_wp2_with fail
    refine (addr_any w0 vr hat HG0.out.lg).mono ?_
    clear b0 b2 b3 b4 b5
    rintro e w1 ⟨rfl, hb⟩
    have hk := Kc.below (g := g) hb (by have := HC0.out.lt; omega)
    have HC1 := hide (HC0.out.below hb)
    have HG1 := hide (HG0.out.kc hk)
    have HK1 := hide (HK0.out.trans hk)
    clear hb hk HC0 HK0 HG0
    go_wp2_with fail
    refine (putk_any w1 g s _ [[108, 100, 32, 114, 52, 44, 32, 114, 55, 44, 32] ++ nuT vr.at'] ?hb (by simp) (all_one (semi_nu rfl (by omega))) HC1.out HG1.out HO.out).mono ?_
    case hb => simp [ByteArray.data_append, semJ]
    rintro e w2 ⟨rfl, h1, h2, h3⟩
    have HC2 := hide h1
    have HK2 := hide (HK1.out.trans h2)
    have HG2 := hide h3
    clear h1 h2 h3 HC1 HK1 HG1
    go_wp2
    go_end0
    exact ⟨rfl, HC2.out, HK2.out, HG2.out⟩
  · obtain ⟨e, rfl⟩ : ∃ e, l = some e := Option.ne_none_iff_exists'.1 (hln (by decide))
    obtain ⟨q1, rfl, hL⟩ := hL
    have HX1 : Hid (∀ j, X j ∧ j ≠ p → j < g) := hide (fun j hj => hX j hj.1)
    have HL0 := hide hL
    have HEl := hide (hl e rfl)
    have hdl : d + exN e ≤ 1000000000 := by unfold exN at hd; simp only at hd; omega
    obtain ⟨s1, e1⟩ : ∃ t, cxF e d s = t := ⟨_, rfl⟩
    obtain ⟨s2, e2⟩ : ∃ t, s1.guard vr = t := ⟨_, rfl⟩
    have hcx : cxF ⟨3, v, vr, op, some e, r, dp⟩ d s = s2.put [[108, 100, 32, 114, 52, 44, 32, 114, 52, 44, 32] ++ nuT vr.at'] := by
      rw [← e2, ← e1]
      conv => lhs; unfold cxF
      rfl
    rw [hcx] at ho ⊢
    have HO3 := hide ho
    have HO2 := hide ((le_put s2 _).ok ho)
    have HO1 : Hid s1.Ok := hide ((by rw [← e2]; exact le_guard _ _ : s1.Le s2).ok HO2.out)
    have HE1 := hide e1
    have HE2 := hide e2
    clear hcx ho hl hr hL hR e1 e2
    have hna := nuT_len vr.at' (by omega)
    have b7 := HB0.out.get (j := 7) rfl
    go_enter Tryz.func93, Tryz.ntmps93
    go_wp2_with fail
    refine (HEl.out w0 g s d q1 _ (HL0.out.kc HK0.out HX1.out) HX1.out HC0.out HG0.out (HE1.out ▸ HO1.out) hdl).mono ?_
    clear b0 b7
    rintro e w1 ⟨rfl, h1, h2, h3⟩
    have HC1 := hide h1
    have HK1 := hide (HK0.out.trans h2)
    have HG1 := hide h3
    clear h1 h2 h3 HC0 HK0 HG0
    rw [HE1.out] at HC1
    have b2 := (HB0.out.kc HK1.out hpg).get (j := 2) rfl
    have b3 := (HB0.out.kc HK1.out hpg).get (j := 3) rfl
    have b4 := (HB0.out.kc HK1.out hpg).get (j := 4) rfl
    have b5 := (HB0.out.kc HK1.out hpg).get (j := 5) rfl
    go_wp2_with fail
    refine (guard_any w1 g s1 vr hsz HC1.out HG1.out (HE2.out ▸ HO2.out)).mono ?_
    clear b2 b3 b4 b5
    rintro e w2 ⟨rfl, h1, h2, h3⟩
    have HC2 := hide h1
    have HK2 := hide (HK1.out.trans h2)
    have HG2 := hide h3
    clear h1 h2 h3 HC1 HK1 HG1
    rw [HE2.out] at HC2
    have b2 := (HB0.out.kc HK2.out hpg).get (j := 2) rfl
    have b3 := (HB0.out.kc HK2.out hpg).get (j := 3) rfl
    have b4 := (HB0.out.kc HK2.out hpg).get (j := 4) rfl
    have b5 := (HB0.out.kc HK2.out hpg).get (j := 5) rfl
    go_wp2_with fail
    refine (addr_any w2 vr hat HG2.out.lg).mono ?_
    clear b2 b3 b4 b5
    rintro e w3 ⟨rfl, hb⟩
    have hk := Kc.below (g := g) hb (by have := HC2.out.lt; omega)
    have HC3 := hide (HC2.out.below hb)
    have HG3 := hide (HG2.out.kc hk)
    have HK3 := hide (HK2.out.trans hk)
    clear hb hk HC2 HK2 HG2
    go_wp2_with fail
    refine (putk_any w3 g s2 _ [[108, 100, 32, 114, 52, 44, 32, 114, 52, 44, 32] ++ nuT vr.at'] ?hb (by simp) (all_one (semi_nu rfl (by omega))) HC3.out HG3.out HO3.out).mono ?_
    case hb => simp [ByteArray.data_append, semJ]
    rintro e w4 ⟨rfl, h1, h2, h3⟩
    have HC4 := hide h1
    have HK4 := hide (HK3.out.trans h2)
    have HG4 := hide h3
    clear h1 h2 h3 HC3 HK3 HG3
    go_wp2
    go_end0
    exact ⟨rfl, HC4.out, HK4.out, HG4.out⟩
  · obtain ⟨e, rfl⟩ : ∃ e, l = some e := Option.ne_none_iff_exists'.1 (hln (by decide))
    obtain ⟨q1, rfl, hL⟩ := hL
    have HX1 : Hid (∀ j, X j ∧ j ≠ p → j < g) := hide (fun j hj => hX j hj.1)
    have HL0 := hide hL
    have HEl := hide (hl e rfl)
    have hdl : d + exN e ≤ 1000000000 := by unfold exN at hd; simp only at hd; omega
    obtain ⟨s1, e1⟩ : ∃ t, cxF e d s = t := ⟨_, rfl⟩
    have hcx : cxF ⟨4, v, vr, op, some e, r, dp⟩ d s = s1.put (semT (sgT op)) := by
      rw [← e1]
      conv => lhs; unfold cxF
      rfl
    rw [hcx] at ho ⊢
    have HO2 := hide ho
    have HO1 := hide ((le_put s1 _).ok ho)
    have HE1 := hide e1
    have HSM := hide (sem_sgT op)
    clear hcx ho hl hr hL hR e1
    have b7 := HB0.out.get (j := 7) rfl
    go_enter Tryz.func93, Tryz.ntmps93
    go_wp2_with fail
    refine (HEl.out w0 g s d q1 _ (HL0.out.kc HK0.out HX1.out) HX1.out HC0.out HG0.out (HE1.out ▸ HO1.out) hdl).mono ?_
    clear b0 b7
    rintro e w1 ⟨rfl, h1, h2, h3⟩
    have HC1 := hide h1
    have HK1 := hide (HK0.out.trans h2)
    have HG1 := hide h3
    clear h1 h2 h3 HC0 HK0 HG0
    rw [HE1.out] at HC1
    have b6 := (HB0.out.kc HK1.out hpg).get (j := 6) rfl
    go_wp2_with fail
    refine (signCode_any w1 op).mono ?_
    rintro e w2 ⟨rfl, rfl⟩
    clear b6
    go_wp2_with fail
    refine (putk_any _ g s1 _ (semT (sgT op)) ?hb (semT_ne _) HSM.out.2 HC1.out HG1.out HO2.out).mono ?_
    case hb => exact HSM.out.1.symm
    rintro e w2 ⟨rfl, h1, h2, h3⟩
    have HC2 := hide h1
    have HK2 := hide (HK1.out.trans h2)
    have HG2 := hide h3
    clear h1 h2 h3 HC1 HK1 HG1
    go_wp2
    go_end0
    exact ⟨rfl, HC2.out, HK2.out, HG2.out⟩
  · obtain ⟨e, rfl⟩ : ∃ e, l = some e := Option.ne_none_iff_exists'.1 (hln (by decide))
    obtain ⟨e', rfl⟩ : ∃ e, r = some e := Option.ne_none_iff_exists'.1 (hrn rfl)
    obtain ⟨q1, rfl, hL⟩ := hL
    obtain ⟨q2, rfl, hR⟩ := hR
    unfold exN at hd
    simp only at hd
    have HS := hide (oper_any w0 g s d p q1 q2 _ _ v vr op e e' dp hpg HB0.out hL hR (fun j hj => hX j hj.1) (fun j hj => hX j hj.1) (hl e rfl) (hr e' rfl) HC0.out HG0.out ho (by omega) (by omega))
    clear ho hl hr hL hR
    go_enter Tryz.func93, Tryz.ntmps93
    go_wp2_with fail
    refine HS.out.mono ?_
    rintro ee w1 ⟨rfl, h1, h2, h3⟩
    have HP : Hid (CdPost g (cxF ⟨5, v, vr, op, some e, some e', dp⟩ d s) w0 (.returned (.tuple #[])) w1) := hide ⟨rfl, h1, h2, h3⟩
    clear h1 h2 h3 HS b0
    go_wp2
    go_end0
    exact HP.out
theorem expr_all : ∀ (e : Ex), exK e → CxE e
  | ⟨k, v, vr, op, l, r, dp⟩, h => by
    have h' := h
    unfold exK at h'
    obtain ⟨_, _, _, _, _, _, _, _, _, h1, h2⟩ := h'
    refine ex_step k v vr op l r dp h (fun e he => ?_) (fun e he => ?_)
    · match l, he, h1 with
      | some x, he, h1 => have he' := Option.some.inj he; rw [← he']; exact expr_all x h1
    · match r, he, h2 with
      | some x, he, h2 => have he' := Option.some.inj he; rw [← he']; exact expr_all x h2
end Go.Proofs.YtiafodeabdhcoaaGreatDoor

namespace Go.Proofs.YtiafodeabdhcoaaGreatDoor
open Go.RowKit
theorem g_pow : Tryz.prog.globalNamed "internal/strconv.uint64pow10" = some 0 := by kernel_rfl
/-- what lies ready stays where the first blocks stay -/
theorem Lg.of9 {w w' : World} (h : Lg w) (hb : ∀ k, k < 7 → w'.heap[k]? = w.heap[k]?) : Lg w' := by
  have hc : ∀ (k o : Nat), k < 7 → w'.cell? ⟨k, o, none⟩ = w.cell? ⟨k, o, none⟩ := fun k o hk => World.cell?_of_block (a := ⟨k, o, none⟩) (hb k hk)
  refine ⟨fun j v hv => ?_, fun j v hv => ?_, ?_, ?_, ?_⟩
  · have := h.o j v hv; rw [add0] at this ⊢; rw [hc _ _ (by decide)]; exact this
  · have := h.d j v hv; rw [add0] at this ⊢; rw [hc _ _ (by decide)]; exact this
  · obtain ⟨m, hm⟩ := h.m; exact ⟨m, by rw [hc _ _ (by decide)]; exact hm⟩
  · have ho := h.ops
    exact ⟨fun n hn => by rw [hc _ _ (by decide)]; exact ho.s n hn, fun n hn => by rw [hc _ _ (by decide)]; exact ho.a n hn, fun n hn => by rw [hc _ _ (by decide)]; exact ho.b n hn, fun n hn => by rw [hc _ _ (by decide)]; exact ho.k n hn⟩
  · have hp := h.pw
    unfold Lib.TabIs World.var? at *
    rw [g_pow] at hp ⊢
    simp only [Option.bind_some] at hp ⊢
    rw [hb _ (by decide)]
    exact hp
theorem Lg.keepK {w w' : World} {g : Nat} (h : Lg w) (hk : Kp g w w') (hg : 9 ≤ g) : Lg w' := by
  have hl : 7 ≤ w.heap.size := by
    obtain ⟨m, hm⟩ := h.m
    exact cell_lt hm
  exact h.of9 fun k hk9 => hk.block k (by omega) (by omega)
def PxPost (w : World) (g : Nat) (ts : List Tk) (F : Fx) (q : Ex × Rd) (e : Ending) (w' : World) : Prop := ∃ p, e = .returned (.pointer (some ⟨p, 0, none⟩)) ∧ ExAt w' q.1 (New w) p ∧ RdA w' g ts F q.2 ∧ Kp g w w'
/-- what a call of expr does, with so much fuel -/
def ExC (n : Nat) : Prop := ∀ (w : World) (g : Nat) (ts : List Tk) (F : Fx) (r : Rd) (lv : Nat) (lz : Int), lz = (lv : Int) → 1 ≤ lv → RdA w g ts F r → Lg w → 9 ≤ g → 3 * (ts.length - r.at') + 2 ≤ n → n ≤ 60000 →
  Calls Tryz.prog 145 #[.pointer (some ⟨g, 0, none⟩), .int .i64 lz] w (PxPost w g ts F (pxF ts n 1 lv ex0 r))
def OpC (n : Nat) : Prop := ∀ (w : World) (g : Nat) (ts : List Tk) (F : Fx) (r : Rd), RdA w g ts F r → Lg w → 9 ≤ g → 3 * (ts.length - r.at') + 1 ≤ n → n ≤ 60000 →
  Calls Tryz.prog 165 #[.pointer (some ⟨g, 0, none⟩)] w (PxPost w g ts F (pxF ts n 0 0 ex0 r))
theorem info_ex : (Tryz.prog.info? 154).map (·.size) = some 10 := by kernel_rfl
def nelT (ts : List Tk) (n : Nat) (r : Rd) : Ex × Rd :=
  let v := r.named ts
  if (v.2).is ts [91] then
    let p := pxF ts n 1 1 ex0 v.2.step
    (⟨3, 0, v.1, [], some p.1, none, 1 + p.1.depth⟩, (p.2).take ts [93])
  else (⟨2, 0, v.1, [], none, none, 1⟩, v.2)
section
variable (w : World)
set_option maxRecDepth 100000 in
set_option maxHeartbeats 2000000 in
theorem nel_any (n : Nat) (hE : ExC n) (g : Nat) (ts : List Tk) (F : Fx) (r : Rd) (hk4 : (r.see ts).kind = 4) (h : RdA w g ts F r) (hG : Lg w) (hg9 : 9 ≤ g) (hn : 3 * (ts.length - r.at') ≤ n) (hn6 : n ≤ 60000) : Calls Tryz.prog 174 #[.pointer (some ⟨g, 0, none⟩)] w (PxPost w g ts F (nelT ts n r)) := by
  have HN := hide (named_any w g ts F r hk4 h)
  have hmore := (h.more (.inl (by omega))).1
  have hat1 := named_at (ts := ts) r
  have hfr := fr_named (ts := ts) r
  have HV : Hid (nelT ts n r = if ((r.named ts).2).is ts [91] = true then (⟨3, 0, (r.named ts).1, [], some (pxF ts n 1 1 ex0 (r.named ts).2.step).1, none, 1 + (pxF ts n 1 1 ex0 (r.named ts).2.step).1.depth⟩, ((pxF ts n 1 1 ex0 (r.named ts).2.step).2).take ts [93]) else (⟨2, 0, (r.named ts).1, [], none, none, 1⟩, (r.named ts).2)) := hide rfl
  have HG := hide hG
  have hgl := h.b.lt
  clear h hG hk4
  generalize nelT ts n r = RN at *
  generalize r.named ts = vr at *
  obtain ⟨⟨vn, va, vs, vt⟩, r1⟩ := vr
  simp only [vrL] at HN HV hat1 hfr
  go_enter Tryz.func174, Tryz.ntmps174
  go_wp2_with fail
  refine HN.out.mono ?_
  rintro e w1 ⟨rfl, hA1, hk1⟩
  have hs1 := hk1.size
  have HK1 := hide hk1
  have HA1 := hide hA1
  clear hA1 hk1 HN
  go_upto_region 2 with fail
  have HX : Hid (Blk (w1.alloc (.cells #[.string ⟨vn.toArray⟩, .bool va, .int .i64 (vs : Nat), .int .i64 (vt : Nat)] 63)) w1.heap.size 63 (vrL ⟨vn, va, vs, vt⟩)) := hide ⟨heap_alloc_new _ _⟩
  have HA2 := hide (HA1.out.keep (bel1 w1 (.cells #[.string ⟨vn.toArray⟩, .bool va, .int .i64 (vs : Nat), .int .i64 (vt : Nat)] 63)))
  have HK2 := hide (HK1.out.alloc (.cells #[.string ⟨vn.toArray⟩, .bool va, .int .i64 (vs : Nat), .int .i64 (vt : Nat)] 63))
  have hN1 : g < w1.heap.size := HA1.out.b.lt
  clear HA1 HK1
  generalize w1.alloc (.cells #[.string ⟨vn.toArray⟩, .bool va, .int .i64 (vs : Nat), .int .i64 (vt : Nat)] 63) = W2 at *
  generalize w1.heap.size = N1 at *
  have HP := hide (pass_any W2 g ts F r1 [91] (by decide) HA2.out)
  have HP2 : Hid (r1.pass ts [91] = if r1.is ts [91] = true then r1.step else r1) := hide rfl
  go_wp2_with fail
  refine HP.out.mono ?_
  rintro e w3 ⟨rfl, hA3, hk3⟩
  rw [HP2.out] at hA3
  have HX3 := hide (HX.out.keepK hk3 (by omega))
  have HK3 := hide (HK2.out.trans hk3)
  clear HP HP2 HX HK2 HA2 hk3
  cases hx : r1.is ts [91] with
  | false =>
    rw [hx] at HV hA3
    simp only [if_false, Bool.false_eq_true] at HV hA3
    have HA3 := hide hA3
    have x0 := HX3.out.get (j := 0) rfl
    have x1 := HX3.out.get (j := 1) rfl
    have x2 := HX3.out.get (j := 2) rfl
    have x3 := HX3.out.get (j := 3) rfl
    clear hA3
    go_wp2
    go_ret
    have hb := bel1 w3 (.cells #[.int .i64 2, .int .u32 0, .string ⟨vn.toArray⟩, .bool va, .int .i64 (vs : Nat), .int .i64 (vt : Nat), .string ⟨#[]⟩, .pointer none, .pointer none, .int .i64 1] 154)
    refine ⟨w3.heap.size, rfl, ?_, ?_, HK3.out.trans (Kp.of hb)⟩
    · rw [HV.out]
      exact ExAt.iff.2 ⟨HK3.out.size, _, _, ⟨heap_alloc_new _ _⟩, rfl, rfl⟩
    · rw [HV.out]; exact HA3.out.keep hb
  | true =>
    rw [hx] at HV hA3
    simp only [if_true] at HV hA3
    have HE := hide (hE w3 g ts F r1.step 1 1 rfl (by decide) hA3 (HG.out.keepK HK3.out hg9) hg9 (by show 3 * (ts.length - (r1.at' + 1)) + 2 ≤ n; omega) hn6)
    have hdp := px_depth (ts := ts) n 1 1 ex0 r1.step
    have h00 : ex0.depth = 0 := rfl
    rw [h00] at hdp
    clear hA3 h00
    generalize pxF ts n 1 1 ex0 r1.step = q at *
    obtain ⟨ex, r4⟩ := q
    simp only at HE HV hdp
    go_wp2_with fail
    refine HE.out.mono ?_
    rintro e w4 ⟨p, rfl, hX4, hA4, hk4⟩
    have HE4 := hide hX4
    have HX4 := hide (HX3.out.keepK hk4 (by omega))
    have HK4 := hide (HK3.out.trans hk4)
    have HT := hide (take_any w4 g ts F r4 [93] (by decide) hA4)
    have hw34 := HK3.out.size
    have hx3l := HX3.out.lt
    clear hX4 hA4 hk4 HE
    go_wp2_with fail
    refine HT.out.mono ?_
    rintro e w5 ⟨rfl, hA5, hk5⟩
    have HA5 := hide hA5
    have HE5 := hide (HE4.out.keepK hk5 (fun j hj => by have : w3.heap.size ≤ j := hj; omega))
    have HX5 := hide (HX4.out.keepK hk5 (by omega))
    have HK5 := hide (HK4.out.trans hk5)
    clear hA5 hk5 HE4 HX4 HK4 HT HX3 HK3
    go_upto_region 6 with fail
    obtain ⟨w0, hwD⟩ : ∃ wD, wD = w5.drew := ⟨_, rfl⟩
    have HA6 : Hid (RdA w0 g ts F (r4.take ts [93])) := by rw [hwD]; exact hide (HA5.out.keep (Below.refl _ w5).drew)
    have HK6 : Hid (Kp g w w0) := by rw [hwD]; exact hide (HK5.out.drew)
    have HX6 : Hid (Blk w0 N1 63 (vrL ⟨vn, va, vs, vt⟩)) := by rw [hwD]; exact hide (HX5.out.below (Below.refl _ w5).drew HX5.out.lt)
    have HE6 : Hid (ExAt w0 ex (New w3) p) := by rw [hwD]; exact hide (HE5.out.keepK (Kp.of (g := g) (Below.refl _ w5).drew) (fun j hj => by have : w3.heap.size ≤ j := hj; omega))
    have HS0 : Hid ((fun W => (∀ (j : Nat) (v : Value), ([.string ⟨vn.toArray⟩, .bool va, .int .i64 (vs : Nat), .int .i64 (vt : Nat)] : List Value)[j]? = some v → W.cell? ((⟨N1, 0, none⟩ : Addr).add j) = some v) ∧ W.cell? ⟨p, 9, none⟩ = some (.int .i64 (ex.depth : Nat))) w0) := hide ⟨HX6.out.cells, HE6.out.x.2.2⟩
    have hwd : IntKind.i64.wrap (1 + (ex.depth : Int)) = 1 + (ex.depth : Int) := by rw [IntKind.wrap_i64]; omega
    have HS1 : Hid ((fun W => (∀ (j : Nat) (v : Value), ([.string ⟨vn.toArray⟩, .bool va, .int .i64 (vs : Nat), .int .i64 (vt : Nat)] : List Value)[j]? = some v → W.cell? ((⟨N1, 0, none⟩ : Addr).add j) = some v) ∧ W.cell? ⟨p, 9, none⟩ = some (.int .i64 (ex.depth : Nat))) (w0.alloc (.cells #[.int .i64 3, .int .u32 0, .string ⟨vn.toArray⟩, .bool va, .int .i64 (vs : Nat), .int .i64 (vt : Nat), .string ⟨#[]⟩, .pointer (some ⟨p, 0, none⟩), .pointer none, .int .i64 (1 + (ex.depth : Int))] 154))) := hide ⟨fun j v hv => by rw [(bel1 w0 _).cell (cell_blk (HS0.out.1 j v hv))]; exact HS0.out.1 j v hv, by rw [(bel1 w0 _).cell (p := ⟨p, 9, none⟩) HE6.out.x.2.1]; exact HS0.out.2⟩
    refine wp_region_held_drew (S := fun W => (∀ (j : Nat) (v : Value), ([.string ⟨vn.toArray⟩, .bool va, .int .i64 (vs : Nat), .int .i64 (vt : Nat)] : List Value)[j]? = some v → W.cell? ((⟨N1, 0, none⟩ : Addr).add j) = some v) ∧ W.cell? ⟨p, 9, none⟩ = some (.int .i64 (ex.depth : Nat))) (by kernel_rfl) (by rw [← hwD]; exact HS0.out) (fun hHeld => ?_)
    rw [← hwD]
    clear hwD hHeld HA5 HE5 HX5 HK5
    refine hd_take 0 (o := ⟨some 17, _, _, _, _, _⟩) (.agg #[.string ⟨vn.toArray⟩, .bool va, .int .i64 (vs : Nat), .int .i64 (vt : Nat)]) (by kernel_rfl) (by kernel_rfl) (by kernel_rfl) rfl (by rfl) (fun W hSw => by exact run_loadT Tryz.underlying63 rfl [.string ⟨vn.toArray⟩, .bool va, .int .i64 (vs : Nat), .int .i64 (vt : Nat)] info_vr _ rfl ⟨N1, 0, none⟩ rfl hSw.1) (fun _ _ _ h => h) HS0.out ?_
    simp only [Act.put, List.setIfInBounds_toArray, List.set_cons_zero, List.set_cons_succ]
    refine hd_take 1 (o := ⟨some 18, _, _, _, _, _⟩) (.pointer (some ⟨p, 0, none⟩)) (by kernel_rfl) (by kernel_rfl) (by kernel_rfl) rfl (by rfl) (fun W hSw => by go_simp) (fun _ _ _ h => h) HS0.out ?_
    simp only [Act.put, List.setIfInBounds_toArray, List.set_cons_zero, List.set_cons_succ]
    refine hd_take 2 (o := ⟨some 19, _, _, _, _, _⟩) (.pointer (some ⟨p, 0, none⟩)) (by kernel_rfl) (by kernel_rfl) (by kernel_rfl) rfl (by rfl) (fun W hSw => by go_simp) (fun _ _ _ h => h) HS0.out ?_
    simp only [Act.put, List.setIfInBounds_toArray, List.set_cons_zero, List.set_cons_succ]
    refine hd_take 3 (o := ⟨some 20, _, _, _, _, _⟩) (.pointer (some ⟨p, 0, none⟩)) (by kernel_rfl) (by kernel_rfl) (by kernel_rfl) rfl (by rfl) (fun W hSw => by go_simp) (fun _ _ _ h => h) HS0.out ?_
    simp only [Act.put, List.setIfInBounds_toArray, List.set_cons_zero, List.set_cons_succ]
    refine hd_take 4 (o := ⟨some 21, _, _, _, _, _⟩) (.pointer (some ⟨p, 9, none⟩)) (by kernel_rfl) (by kernel_rfl) (by kernel_rfl) rfl (by rfl) (fun W hSw => by go_simp) (fun _ _ _ h => h) HS0.out ?_
    simp only [Act.put, List.setIfInBounds_toArray, List.set_cons_zero, List.set_cons_succ]
    refine hd_take 5 (o := ⟨some 22, _, _, _, _, _⟩) (.int .i64 (ex.depth : Nat)) (by kernel_rfl) (by kernel_rfl) (by kernel_rfl) rfl (by rfl) (fun W hSw => by have k := hSw.2; go_simp) (fun _ _ _ h => h) HS0.out ?_
    simp only [Act.put, List.setIfInBounds_toArray, List.set_cons_zero, List.set_cons_succ]
    refine hd_take 6 (o := ⟨some 23, _, _, _, _, _⟩) (.int .i64 (1 + (ex.depth : Int))) (by kernel_rfl) (by kernel_rfl) (by kernel_rfl) rfl (by rfl) (fun W hSw => by go_simp) (fun _ _ _ h => h) HS0.out ?_
    simp only [Act.put, List.setIfInBounds_toArray, List.set_cons_zero, List.set_cons_succ]
    refine hd_take 7 (o := ⟨some 24, _, _, _, _, _⟩) (.agg #[.int .i64 3, .int .u32 0, .string ⟨vn.toArray⟩, .bool va, .int .i64 (vs : Nat), .int .i64 (vt : Nat), .string ⟨#[]⟩, .pointer (some ⟨p, 0, none⟩), .pointer none, .int .i64 (1 + (ex.depth : Int))]) (by kernel_rfl) (by kernel_rfl) (by kernel_rfl) rfl (by rfl) (fun W hSw => by go_simp) (fun _ _ _ h => h) HS0.out ?_
    simp only [Act.put, List.setIfInBounds_toArray, List.set_cons_zero, List.set_cons_succ]
    refine hd_call 8 (o := ⟨some 25, _, _, _, _, _⟩) (by kernel_rfl) rfl (by rfl) (fun K' hK => ?_)
    go_simp
    refine hK _ _ HS1.out ?_
    clear hK K'
    try simp only [Act.put, List.setIfInBounds_toArray, List.set_cons_zero, List.set_cons_succ]
    refine hd_take 9 (o := ⟨some 2, _, _, _, _, _⟩) (.pointer (some ⟨w0.heap.size, 0, none⟩)) (by kernel_rfl) (by kernel_rfl) (by kernel_rfl) rfl (by rfl) (fun W hSw => by go_simp) (fun _ _ _ h => h) HS1.out ?_
    simp only [Act.put, List.setIfInBounds_toArray, List.set_cons_zero, List.set_cons_succ]
    refine wpAnyH_done (by kernel_rfl) ?_ _
    go_wp2
    go_ret
    have hb := bel1 w0 (.cells #[.int .i64 3, .int .u32 0, .string ⟨vn.toArray⟩, .bool va, .int .i64 (vs : Nat), .int .i64 (vt : Nat), .string ⟨#[]⟩, .pointer (some ⟨p, 0, none⟩), .pointer none, .int .i64 (1 + (ex.depth : Int))] 154)
    refine ⟨w0.heap.size, rfl, ?_, ?_, HK6.out.trans (Kp.of hb)⟩
    · rw [HV.out]
      refine ExAt.iff.2 ⟨HK6.out.size, .pointer (some ⟨p, 0, none⟩), .pointer none, ⟨by rw [heap_alloc_new]; simp [exL]⟩, ⟨p, rfl, ExAt.move ex HE6.out fun j hj hs => ⟨⟨Nat.le_trans hw34 hj, by omega⟩, hb.block j hs⟩⟩, rfl⟩
    · rw [HV.out]; exact HA6.out.keep hb
end
end Go.Proofs.YtiafodeabdhcoaaGreatDoor
