import Derived.Test.YtiafodeabdhcoaaGreatDoorM12
import Derived.Test.YtiafodeabdhcoaaGreatDoorM13
namespace Go.Proofs.YtiafodeabdhcoaaGreatDoor
open Go.RowKit
theorem Dc.keepK {w w' : World} {g : Nat} {F : Fx} {r r' : Rd} (h : Dc w g F r) (hk : Kp g w w') (hv : r'.vars = r.vars) : Dc w' g F r' := ⟨by rw [hv]; exact own_keepK h.own hk (Nat.lt_succ_self g), h.mg, h.ag⟩
theorem Kp.bel {w w' : World} {g B : Nat} (hk : Kp g w w') (hB : B ≤ g) (hg : g < w.heap.size) : Below B w w' := ⟨hk.os, hk.tape, hk.output, hk.size, fun k hk' => hk.block k (by omega) (by omega)⟩
theorem decl_eq (ts : List Tk) (r : Rd) : r.decl ts = if (r.see ts).kind = 4 ∨ (r.see ts).kind = 2 then
    (if r.step.is ts [91] = true then (((r.step.step.sizeT ts).2.take ts [93]).take ts [59]).declare ⟨(r.see ts).text, true, (r.step.step.sizeT ts).1, 0⟩ (r.see ts)
      else (r.step.take ts [59]).declare ⟨(r.see ts).text, false, 1, 0⟩ (r.see ts))
    else r.refuse ts := by
  unfold Rd.decl Rd.sizeT
  simp only
  split
  · split
    · split
      · rfl
      · rfl
    · rfl
  · rfl
theorem see_mem {w : World} {g : Nat} {ts : List Tk} {F : Fx} {r : Rd} (h : RdA w g ts F r) (hv : ∀ t ∈ ts, t.val ≤ 4294967295) : (r.see ts).val ≤ 4294967295 := by
  unfold Rd.see
  split
  · show 0 ≤ _; omega
  · rw [List.getElem?_eq_getElem h.hat]
    exact hv _ (List.getElem_mem h.hat)
theorem fr_size (ts : List Tk) (r : Rd) : r.Fr (r.sizeT ts).2 := by unfold Rd.sizeT; split; exact fr_step r; exact fr_refuse r
theorem size_le {ts : List Tk} {r : Rd} (h : (r.see ts).val ≤ 4294967295) : (r.sizeT ts).1 ≤ 4294967295 := by
  unfold Rd.sizeT
  split
  · exact h
  · show 0 ≤ _; omega
set_option maxRecDepth 100000 in
set_option maxHeartbeats 4000000 in
theorem decl_any (w : World) (g : Nat) (ts : List Tk) (F : Fx) (r : Rd) (h : RdA w g ts F r) (hd : Dc w g F r) (hwd : r.words ≤ 100000000000000) (hvl : r.vars.length ≤ 20000) (hval : ∀ t ∈ ts, t.val ≤ 4294967295) : Calls Tryz.prog 52 #[.pointer (some ⟨g, 0, none⟩)] w (DcPost w g ts F (r.decl ts)) := by
  have HS := hide (see_any w g ts F r h)
  have hgl := h.b.lt
  have hln := h.len
  have hat := h.hat
  have hmg := hd.mg
  have HM : Hid (2 ≤ (r.see ts).kind → r.at' + 1 < ts.length) := hide (fun e => (h.more (.inl e)).1)
  have HV0 := hide (decl_eq ts r)
  have HRf := hide (fun W (hW : RdA W g ts F r) => refuse_any W g ts F r hW)
  have HR := hide h
  have HD := hide hd
  have HVl := hide hval
  clear h hd hval
  generalize r.decl ts = RT at *
  obtain ⟨t, ht⟩ : ∃ t, r.see ts = t := ⟨_, rfl⟩
  rw [ht] at HS HM HV0
  obtain ⟨tk, tx, tv, tl⟩ := t
  simp only [tkL] at HS HM HV0
  clear ht
  go_enter Tryz.func52, Tryz.ntmps52
  go_wp2_with fail
  refine HS.out.mono ?_
  rintro e w1 ⟨rfl, hb1⟩
  have HA1 := hide (HR.out.keep hb1)
  have HK1 := hide (Kp.of (g := g) hb1)
  clear hb1 HS
  go_upto_region 1 with fail
  have HT2 : Hid (Blk (w1.alloc (.cells #[.int .i64 (tk : Nat), .string ⟨tx.toArray⟩, .int .u32 (tv : Nat), .int .i64 (tl : Nat)] 115)) w1.heap.size 115 (tkL ⟨tk, tx, tv, tl⟩)) := hide ⟨heap_alloc_new _ _⟩
  have hb2 := bel1 w1 (.cells #[.int .i64 (tk : Nat), .string ⟨tx.toArray⟩, .int .u32 (tv : Nat), .int .i64 (tl : Nat)] 115)
  have HK2 := hide (HK1.out.trans (Kp.of hb2))
  have HA2 := hide (HA1.out.keep hb2)
  have hgN : g < w1.heap.size := HA1.out.b.lt
  have hwN : w.heap.size ≤ w1.heap.size := HK1.out.size
  clear hb2 HK1 HA1
  generalize w1.alloc (.cells #[.int .i64 (tk : Nat), .string ⟨tx.toArray⟩, .int .u32 (tv : Nat), .int .i64 (tl : Nat)] 115) = W2 at *
  generalize w1.heap.size = N1 at *
  have t0 := HT2.out.get (j := 0) rfl
  have t1 := HT2.out.get (j := 1) rfl
  simp only at t0 t1
  by_cases hk : tk = 4 ∨ tk = 2
  · have HV1 := hide (HV0.out.trans (if_pos hk))
    have hm := HM.out (by omega)
    have hkk : ∃ b : Bool, ((tk : Int) == 4) = b ∧ (b = false → ((tk : Int) == 2) = true) := ⟨_, rfl, fun e => by
      have e' : ¬ ((tk : Int) = 4) := by simpa using e
      have : (tk : Int) = 2 := by omega
      simpa using this⟩
    obtain ⟨b, hb4, hb2⟩ := hkk
    have HB2 := hide hb2
    have c1 := HA2.out.b.get (j := 1) rfl
    have f1 := HA2.out.b.frz 1
    have HA3 : Hid (RdA (W2.setCell ⟨g, 1, none⟩ (.int .i64 ((r.at' : Int) + 1))) g ts F r.step) := hide (HA2.out.to (Kp.set (Kp.refl g W2) _) (HA2.out.b.set 1 _) rfl hm)
    have HK3 := hide (Kp.set (j := 1) HK2.out (.int .i64 ((r.at' : Int) + 1)))
    have HT3 := hide (HT2.out.keepK (Kp.set (j := 1) (Kp.refl g W2) (.int .i64 ((r.at' : Int) + 1))) (by omega))
    clear HV0 hk HM hb2 HRf
    cases b with
    | true =>
      have hb6 : ((tk : Int) != 4) = false := by unfold bne; rw [hb4]; rfl
      go_upto_region 4 with fail
      clear c1 f1 t0 t1
      generalize W2.setCell ⟨g, 1, none⟩ (.int .i64 ((r.at' : Int) + 1)) = W3 at *
      have t1 := HT3.out.get (j := 1) rfl
      simp only at t1
      go_upto_region 5 with fail
      have HX4 : Hid (Blk (W3.alloc (.cells #[.string ⟨tx.toArray⟩, .bool false, .int .i64 1, .int .i64 0] 63)) W3.heap.size 63 (vrL ⟨tx, false, 1, 0⟩)) := hide ⟨heap_alloc_new _ _⟩
      have hb4' := bel1 W3 (.cells #[.string ⟨tx.toArray⟩, .bool false, .int .i64 1, .int .i64 0] 63)
      have HK4 := hide (HK3.out.trans (Kp.of hb4'))
      have HA4 := hide (HA3.out.keep hb4')
      have HT4 := hide (HT3.out.below hb4' HT3.out.lt)
      have hN2 : N1 < W3.heap.size := HT3.out.lt
      have hgN2 : g < W3.heap.size := HA3.out.b.lt
      clear hb4' HK3 HA3 HT3 t1 HA2 HK2 HT2
      generalize W3.alloc (.cells #[.string ⟨tx.toArray⟩, .bool false, .int .i64 1, .int .i64 0] 63) = W4 at *
      generalize W3.heap.size = N2 at *
      have HP := hide (pass_any W4 g ts F r.step [91] (by decide) HA4.out)
      have HPe : Hid (r.step.pass ts [91] = if r.step.is ts [91] = true then r.step.step else r.step) := hide rfl
      rw [HPe.out] at HP
      clear HPe
      go_wp2_with fail
      refine HP.out.mono ?_
      rintro e w5 ⟨rfl, hA5, hk5⟩
      have HK5 := hide (HK4.out.trans hk5)
      have HX5 := hide (HX4.out.keepK hk5 (by omega))
      have HT5 := hide (HT4.out.keepK hk5 (by omega))
      clear hk5 HP HA4 HK4 HX4 HT4
      cases hx : r.step.is ts [91] with
      | false =>
        rw [hx] at HV1 hA5
        simp only [if_false, Bool.false_eq_true] at HV1 hA5
        have HA5 := hide hA5
        clear hA5 hx
        have HTb := hide (take_any w5 g ts F r.step [59] (by decide) HA5.out)
        have hq1 : (r.step.take ts [59]).vars = r.vars := (fr_take r.step [59]).vars.trans rfl
        have hq2 : (r.step.take ts [59]).words = r.words := (fr_take r.step [59]).words.trans rfl
        have HQ1 := hide hq1
        have HQ2 := hide hq2
        clear hq1 hq2
        go_wp2_with fail
        refine HTb.out.mono ?_
        rintro e wa ⟨rfl, hAa, hka⟩
        have HKa := hide (HK5.out.trans hka)
        have hXa := HX5.out.keepK hka (by omega)
        have hTa := HT5.out.keepK hka (by omega)
        have y0 := hXa.get (j := 0) rfl
        have y1 := hXa.get (j := 1) rfl
        have y2 := hXa.get (j := 2) rfl
        have y3 := hXa.get (j := 3) rfl
        have z0 := hTa.get (j := 0) rfl
        have z1 := hTa.get (j := 1) rfl
        have z2 := hTa.get (j := 2) rfl
        have z3 := hTa.get (j := 3) rfl
        have HDc := hide (declare_any wa g ts F (r.step.take ts [59]) ⟨tx, false, 1, 0⟩ ⟨tk, tx, tv, tl⟩ hAa (HD.out.keepK HKa.out HQ1.out) (by rw [HQ2.out]; exact hwd) (by show 1 ≤ 4294967295; decide) (by rw [HQ1.out]; exact hvl))
        simp only [vrL, tkL] at HDc
        clear hAa hka hXa hTa HTb HK5 HX5 HT5 HA5
        go_wp2_with fail
        refine HDc.out.mono ?_
        rintro e wb ⟨rfl, F', e1, e2, e3, hAb, hDb, hBb⟩
        have HAb := hide hAb
        have HDb := hide hDb
        have HBb := hide hBb
        have HE1 := hide e1
        have HE2 := hide e2
        have HE3 := hide e3
        clear e1 e2 e3 hAb hDb hBb HDc y0 y1 y2 y3 z0 z1 z2 z3
        go_wp2
        go_end0
        exact ⟨rfl, F', HE1.out, HE2.out, HE3.out, by rw [HV1.out]; exact HAb.out, by rw [HV1.out]; exact HDb.out, (HKa.out.bel (by omega) hgl).trans HBb.out⟩
      | true =>
        rw [hx] at HV1 hA5
        simp only [if_true] at HV1 hA5
        have x1 := HX5.out.get (j := 1) rfl
        have g1 := HX5.out.frz 1
        have HA6 := hide (RdA.setN (N := N2) (j := 1) HR.out HK5.out hA5 rfl (by omega) (.bool true))
        have HK6 := hide (HK5.out.setN (N := N2) (j := 1) (by omega) (.bool true))
        have HX6 : Hid (Blk (w5.setCell ⟨N2, 1, none⟩ (.bool true)) N2 63 (vrL ⟨tx, true, 1, 0⟩)) := hide (HX5.out.set 1 _)
        have HT6 := hide (HT5.out.setN (N := N2) (j := 1) (by omega) (.bool true))
        clear hA5 hx HK5 HX5 HT5
        go_upto_region 7 with fail
        clear x1 g1
        generalize w5.setCell ⟨N2, 1, none⟩ (.bool true) = W6 at *
        have hsv := see_mem HA6.out HVl.out
        have HSz := hide (size_any W6 g ts F r.step.step hsv HA6.out)
        have hsl := size_le hsv
        have HFz : Hid ((r.step.step.sizeT ts).2.vars = r.vars ∧ (r.step.step.sizeT ts).2.words = r.words) := hide ⟨(fr_size ts r.step.step).vars, (fr_size ts r.step.step).words⟩
        clear hsv
        generalize r.step.step.sizeT ts = z at *
        obtain ⟨zn, rz⟩ := z
        simp only at HSz hsl HFz HV1
        go_wp2_with fail
        refine HSz.out.mono ?_
        rintro e w7 ⟨rfl, hA7, hk7⟩
        have HK7 := hide (HK6.out.trans hk7)
        have HX7 := hide (HX6.out.keepK hk7 (by omega))
        have HT7 := hide (HT6.out.keepK hk7 (by omega))
        have x2 := HX7.out.get (j := 2) rfl
        have g2 := HX7.out.frz 2
        have HA8 := hide (RdA.setN (N := N2) (j := 2) HR.out HK7.out hA7 HFz.out.1 (by omega) (.int .i64 (zn : Int)))
        have HK8 := hide (HK7.out.setN (N := N2) (j := 2) (by omega) (.int .i64 (zn : Int)))
        have HX8 : Hid (Blk (w7.setCell ⟨N2, 2, none⟩ (.int .i64 (zn : Int))) N2 63 (vrL ⟨tx, true, zn, 0⟩)) := hide (HX7.out.set 2 _)
        have HT8 := hide (HT7.out.setN (N := N2) (j := 2) (by omega) (.int .i64 (zn : Int)))
        clear hA7 hk7 HSz HK7 HX7 HT7 HA6 HK6 HX6 HT6
        go_upto_region 8 with fail
        clear x2 g2
        generalize w7.setCell ⟨N2, 2, none⟩ (.int .i64 (zn : Int)) = W8 at *
        have HTa := hide (take_any W8 g ts F rz [93] (by decide) HA8.out)
        have HFy : Hid ((rz.take ts [93]).vars = r.vars ∧ (rz.take ts [93]).words = r.words) := hide ⟨(fr_take rz [93]).vars.trans HFz.out.1, (fr_take rz [93]).words.trans HFz.out.2⟩
        go_wp2_with fail
        refine HTa.out.mono ?_
        rintro e w9 ⟨rfl, hA9, hk9⟩
        have HA9 := hide hA9
        have HK9 := hide (HK8.out.trans hk9)
        have HX9 := hide (HX8.out.keepK hk9 (by omega))
        have HT9 := hide (HT8.out.keepK hk9 (by omega))
        clear hA9 hk9 HTa HA8 HK8 HX8 HT8
        generalize rz.take ts [93] = ry at *
        have HTb := hide (take_any w9 g ts F ry [59] (by decide) HA9.out)
        have hq1 : (ry.take ts [59]).vars = r.vars := (fr_take ry [59]).vars.trans HFy.out.1
        have hq2 : (ry.take ts [59]).words = r.words := (fr_take ry [59]).words.trans HFy.out.2
        have HQ1 := hide hq1
        have HQ2 := hide hq2
        clear hq1 hq2
        go_wp2_with fail
        refine HTb.out.mono ?_
        rintro e wa ⟨rfl, hAa, hka⟩
        have HKa := hide (HK9.out.trans hka)
        have hXa := HX9.out.keepK hka (by omega)
        have hTa := HT9.out.keepK hka (by omega)
        have y0 := hXa.get (j := 0) rfl
        have y1 := hXa.get (j := 1) rfl
        have y2 := hXa.get (j := 2) rfl
        have y3 := hXa.get (j := 3) rfl
        have z0 := hTa.get (j := 0) rfl
        have z1 := hTa.get (j := 1) rfl
        have z2 := hTa.get (j := 2) rfl
        have z3 := hTa.get (j := 3) rfl
        have HDc := hide (declare_any wa g ts F (ry.take ts [59]) ⟨tx, true, zn, 0⟩ ⟨tk, tx, tv, tl⟩ hAa (HD.out.keepK HKa.out HQ1.out) (by rw [HQ2.out]; exact hwd) hsl (by rw [HQ1.out]; exact hvl))
        simp only [vrL, tkL] at HDc
        clear hAa hka hXa hTa HTb HK9 HX9 HT9 HA9
        go_wp2_with fail
        refine HDc.out.mono ?_
        rintro e wb ⟨rfl, F', e1, e2, e3, hAb, hDb, hBb⟩
        have HAb := hide hAb
        have HDb := hide hDb
        have HBb := hide hBb
        have HE1 := hide e1
        have HE2 := hide e2
        have HE3 := hide e3
        clear e1 e2 e3 hAb hDb hBb HDc y0 y1 y2 y3 z0 z1 z2 z3
        go_wp2
        go_end0
        exact ⟨rfl, F', HE1.out, HE2.out, HE3.out, by rw [HV1.out]; exact HAb.out, by rw [HV1.out]; exact HDb.out, (HKa.out.bel (by omega) hgl).trans HBb.out⟩
    | false =>
      have hb5 := HB2.out rfl
      have hb6 : ((tk : Int) != 4) = true := by unfold bne; rw [hb4]; rfl
      have hb7 : ((tk : Int) != 2) = false := by unfold bne; rw [hb5]; rfl
      go_upto_region 4 with fail
      clear c1 f1 t0 t1
      generalize W2.setCell ⟨g, 1, none⟩ (.int .i64 ((r.at' : Int) + 1)) = W3 at *
      have t1 := HT3.out.get (j := 1) rfl
      simp only at t1
      go_upto_region 5 with fail
      have HX4 : Hid (Blk (W3.alloc (.cells #[.string ⟨tx.toArray⟩, .bool false, .int .i64 1, .int .i64 0] 63)) W3.heap.size 63 (vrL ⟨tx, false, 1, 0⟩)) := hide ⟨heap_alloc_new _ _⟩
      have hb4' := bel1 W3 (.cells #[.string ⟨tx.toArray⟩, .bool false, .int .i64 1, .int .i64 0] 63)
      have HK4 := hide (HK3.out.trans (Kp.of hb4'))
      have HA4 := hide (HA3.out.keep hb4')
      have HT4 := hide (HT3.out.below hb4' HT3.out.lt)
      have hN2 : N1 < W3.heap.size := HT3.out.lt
      have hgN2 : g < W3.heap.size := HA3.out.b.lt
      clear hb4' HK3 HA3 HT3 t1 HA2 HK2 HT2
      generalize W3.alloc (.cells #[.string ⟨tx.toArray⟩, .bool false, .int .i64 1, .int .i64 0] 63) = W4 at *
      generalize W3.heap.size = N2 at *
      have HP := hide (pass_any W4 g ts F r.step [91] (by decide) HA4.out)
      have HPe : Hid (r.step.pass ts [91] = if r.step.is ts [91] = true then r.step.step else r.step) := hide rfl
      rw [HPe.out] at HP
      clear HPe
      go_wp2_with fail
      refine HP.out.mono ?_
      rintro e w5 ⟨rfl, hA5, hk5⟩
      have HK5 := hide (HK4.out.trans hk5)
      have HX5 := hide (HX4.out.keepK hk5 (by omega))
      have HT5 := hide (HT4.out.keepK hk5 (by omega))
      clear hk5 HP HA4 HK4 HX4 HT4
      cases hx : r.step.is ts [91] with
      | false =>
        rw [hx] at HV1 hA5
        simp only [if_false, Bool.false_eq_true] at HV1 hA5
        have HA5 := hide hA5
        clear hA5 hx
        have HTb := hide (take_any w5 g ts F r.step [59] (by decide) HA5.out)
        have hq1 : (r.step.take ts [59]).vars = r.vars := (fr_take r.step [59]).vars.trans rfl
        have hq2 : (r.step.take ts [59]).words = r.words := (fr_take r.step [59]).words.trans rfl
        have HQ1 := hide hq1
        have HQ2 := hide hq2
        clear hq1 hq2
        go_wp2_with fail
        refine HTb.out.mono ?_
        rintro e wa ⟨rfl, hAa, hka⟩
        have HKa := hide (HK5.out.trans hka)
        have hXa := HX5.out.keepK hka (by omega)
        have hTa := HT5.out.keepK hka (by omega)
        have y0 := hXa.get (j := 0) rfl
        have y1 := hXa.get (j := 1) rfl
        have y2 := hXa.get (j := 2) rfl
        have y3 := hXa.get (j := 3) rfl
        have z0 := hTa.get (j := 0) rfl
        have z1 := hTa.get (j := 1) rfl
        have z2 := hTa.get (j := 2) rfl
        have z3 := hTa.get (j := 3) rfl
        have HDc := hide (declare_any wa g ts F (r.step.take ts [59]) ⟨tx, false, 1, 0⟩ ⟨tk, tx, tv, tl⟩ hAa (HD.out.keepK HKa.out HQ1.out) (by rw [HQ2.out]; exact hwd) (by show 1 ≤ 4294967295; decide) (by rw [HQ1.out]; exact hvl))
        simp only [vrL, tkL] at HDc
        clear hAa hka hXa hTa HTb HK5 HX5 HT5 HA5
        go_wp2_with fail
        refine HDc.out.mono ?_
        rintro e wb ⟨rfl, F', e1, e2, e3, hAb, hDb, hBb⟩
        have HAb := hide hAb
        have HDb := hide hDb
        have HBb := hide hBb
        have HE1 := hide e1
        have HE2 := hide e2
        have HE3 := hide e3
        clear e1 e2 e3 hAb hDb hBb HDc y0 y1 y2 y3 z0 z1 z2 z3
        go_wp2
        go_end0
        exact ⟨rfl, F', HE1.out, HE2.out, HE3.out, by rw [HV1.out]; exact HAb.out, by rw [HV1.out]; exact HDb.out, (HKa.out.bel (by omega) hgl).trans HBb.out⟩
      | true =>
        rw [hx] at HV1 hA5
        simp only [if_true] at HV1 hA5
        have x1 := HX5.out.get (j := 1) rfl
        have g1 := HX5.out.frz 1
        have HA6 := hide (RdA.setN (N := N2) (j := 1) HR.out HK5.out hA5 rfl (by omega) (.bool true))
        have HK6 := hide (HK5.out.setN (N := N2) (j := 1) (by omega) (.bool true))
        have HX6 : Hid (Blk (w5.setCell ⟨N2, 1, none⟩ (.bool true)) N2 63 (vrL ⟨tx, true, 1, 0⟩)) := hide (HX5.out.set 1 _)
        have HT6 := hide (HT5.out.setN (N := N2) (j := 1) (by omega) (.bool true))
        clear hA5 hx HK5 HX5 HT5
        go_upto_region 7 with fail
        clear x1 g1
        generalize w5.setCell ⟨N2, 1, none⟩ (.bool true) = W6 at *
        have hsv := see_mem HA6.out HVl.out
        have HSz := hide (size_any W6 g ts F r.step.step hsv HA6.out)
        have hsl := size_le hsv
        have HFz : Hid ((r.step.step.sizeT ts).2.vars = r.vars ∧ (r.step.step.sizeT ts).2.words = r.words) := hide ⟨(fr_size ts r.step.step).vars, (fr_size ts r.step.step).words⟩
        clear hsv
        generalize r.step.step.sizeT ts = z at *
        obtain ⟨zn, rz⟩ := z
        simp only at HSz hsl HFz HV1
        go_wp2_with fail
        refine HSz.out.mono ?_
        rintro e w7 ⟨rfl, hA7, hk7⟩
        have HK7 := hide (HK6.out.trans hk7)
        have HX7 := hide (HX6.out.keepK hk7 (by omega))
        have HT7 := hide (HT6.out.keepK hk7 (by omega))
        have x2 := HX7.out.get (j := 2) rfl
        have g2 := HX7.out.frz 2
        have HA8 := hide (RdA.setN (N := N2) (j := 2) HR.out HK7.out hA7 HFz.out.1 (by omega) (.int .i64 (zn : Int)))
        have HK8 := hide (HK7.out.setN (N := N2) (j := 2) (by omega) (.int .i64 (zn : Int)))
        have HX8 : Hid (Blk (w7.setCell ⟨N2, 2, none⟩ (.int .i64 (zn : Int))) N2 63 (vrL ⟨tx, true, zn, 0⟩)) := hide (HX7.out.set 2 _)
        have HT8 := hide (HT7.out.setN (N := N2) (j := 2) (by omega) (.int .i64 (zn : Int)))
        clear hA7 hk7 HSz HK7 HX7 HT7 HA6 HK6 HX6 HT6
        go_upto_region 8 with fail
        clear x2 g2
        generalize w7.setCell ⟨N2, 2, none⟩ (.int .i64 (zn : Int)) = W8 at *
        have HTa := hide (take_any W8 g ts F rz [93] (by decide) HA8.out)
        have HFy : Hid ((rz.take ts [93]).vars = r.vars ∧ (rz.take ts [93]).words = r.words) := hide ⟨(fr_take rz [93]).vars.trans HFz.out.1, (fr_take rz [93]).words.trans HFz.out.2⟩
        go_wp2_with fail
        refine HTa.out.mono ?_
        rintro e w9 ⟨rfl, hA9, hk9⟩
        have HA9 := hide hA9
        have HK9 := hide (HK8.out.trans hk9)
        have HX9 := hide (HX8.out.keepK hk9 (by omega))
        have HT9 := hide (HT8.out.keepK hk9 (by omega))
        clear hA9 hk9 HTa HA8 HK8 HX8 HT8
        generalize rz.take ts [93] = ry at *
        have HTb := hide (take_any w9 g ts F ry [59] (by decide) HA9.out)
        have hq1 : (ry.take ts [59]).vars = r.vars := (fr_take ry [59]).vars.trans HFy.out.1
        have hq2 : (ry.take ts [59]).words = r.words := (fr_take ry [59]).words.trans HFy.out.2
        have HQ1 := hide hq1
        have HQ2 := hide hq2
        clear hq1 hq2
        go_wp2_with fail
        refine HTb.out.mono ?_
        rintro e wa ⟨rfl, hAa, hka⟩
        have HKa := hide (HK9.out.trans hka)
        have hXa := HX9.out.keepK hka (by omega)
        have hTa := HT9.out.keepK hka (by omega)
        have y0 := hXa.get (j := 0) rfl
        have y1 := hXa.get (j := 1) rfl
        have y2 := hXa.get (j := 2) rfl
        have y3 := hXa.get (j := 3) rfl
        have z0 := hTa.get (j := 0) rfl
        have z1 := hTa.get (j := 1) rfl
        have z2 := hTa.get (j := 2) rfl
        have z3 := hTa.get (j := 3) rfl
        have HDc := hide (declare_any wa g ts F (ry.take ts [59]) ⟨tx, true, zn, 0⟩ ⟨tk, tx, tv, tl⟩ hAa (HD.out.keepK HKa.out HQ1.out) (by rw [HQ2.out]; exact hwd) hsl (by rw [HQ1.out]; exact hvl))
        simp only [vrL, tkL] at HDc
        clear hAa hka hXa hTa HTb HK9 HX9 HT9 HA9
        go_wp2_with fail
        refine HDc.out.mono ?_
        rintro e wb ⟨rfl, F', e1, e2, e3, hAb, hDb, hBb⟩
        have HAb := hide hAb
        have HDb := hide hDb
        have HBb := hide hBb
        have HE1 := hide e1
        have HE2 := hide e2
        have HE3 := hide e3
        clear e1 e2 e3 hAb hDb hBb HDc y0 y1 y2 y3 z0 z1 z2 z3
        go_wp2
        go_end0
        exact ⟨rfl, F', HE1.out, HE2.out, HE3.out, by rw [HV1.out]; exact HAb.out, by rw [HV1.out]; exact HDb.out, (HKa.out.bel (by omega) hgl).trans HBb.out⟩
  · have HV1 := hide (HV0.out.trans (if_neg hk))
    have h4 : ((tk : Int) == 4) = false := by simp; omega
    have h2 : ((tk : Int) == 2) = false := by simp; omega
    have h4' : ((tk : Int) != 4) = true := by simp; omega
    have h2' : ((tk : Int) != 2) = true := by simp; omega
    have HRf2 := hide (HRf.out W2 HA2.out)
    clear HV0 hk HM
    go_wp2_with fail
    refine HRf2.out.mono ?_
    rintro e w3 ⟨rfl, hA3, hk3⟩
    have HA3 := hide hA3
    have HK3 := hide (HK2.out.trans hk3)
    clear hA3 hk3 HRf2 HA2 HK2 HT2 t0 t1
    go_wp2
    refine bodyPost_ret (results_none rfl _ _ _) rfl ?_
    exact ⟨rfl, F, rfl, rfl, rfl, by rw [HV1.out]; exact HA3.out, by rw [HV1.out]; exact HD.out.keepK HK3.out (fr_refuse r).vars, HK3.out.bel (by omega) hgl⟩
end Go.Proofs.YtiafodeabdhcoaaGreatDoor

namespace Go.Proofs.YtiafodeabdhcoaaGreatDoor
open Go.RowKit
theorem declare_fr (r : Rd) (v : Vr) (t : Tk) : (r.declare v t).at' = r.at' ∧ (r.declare v t).blocks = r.blocks ∧ (r.declare v t).loops = r.loops ∧ (r.declare v t).words = r.words + v.size ∧ (r.declare v t).vars.length = r.vars.length + 1 := by
  have h1 : ∀ (r : Rd) l, (r.nname l).at' = r.at' ∧ (r.nname l).blocks = r.blocks ∧ (r.nname l).loops = r.loops ∧ (r.nname l).words = r.words ∧ (r.nname l).vars = r.vars := fun r l => by unfold Rd.nname; split <;> exact ⟨rfl, rfl, rfl, rfl, rfl⟩
  have h2 : ∀ (r : Rd) l, (r.ndat l).at' = r.at' ∧ (r.ndat l).blocks = r.blocks ∧ (r.ndat l).loops = r.loops ∧ (r.ndat l).words = r.words ∧ (r.ndat l).vars = r.vars := fun r l => by unfold Rd.ndat; split <;> exact ⟨rfl, rfl, rfl, rfl, rfl⟩
  have h3 : ∀ (r1 : Rd), (Rd.dc2 r1 r.words v t).at' = r1.at' ∧ (Rd.dc2 r1 r.words v t).blocks = r1.blocks ∧ (Rd.dc2 r1 r.words v t).loops = r1.loops ∧ (Rd.dc2 r1 r.words v t).words = r1.words + v.size ∧ (Rd.dc2 r1 r.words v t).vars.length = r1.vars.length + 1 := fun r1 => by
    unfold Rd.dc2
    simp only
    split
    · have h := h2 { r1 with words := r1.words + v.size } t.line
      exact ⟨h.1, h.2.1, h.2.2.1, h.2.2.2.1, by rw [List.length_append, h.2.2.2.2]; rfl⟩
    · exact ⟨rfl, rfl, rfl, rfl, by simp⟩
  have e : r.declare v t = Rd.dc2 (if (r.find v.name).isSome ∨ t.kind = 2 then r.nname t.line else r) r.words v t := rfl
  rw [e]
  split
  · have h := h3 (r.nname t.line)
    have g := h1 r t.line
    exact ⟨h.1.trans g.1, h.2.1.trans g.2.1, h.2.2.1.trans g.2.2.1, by rw [h.2.2.2.1, g.2.2.2.1], by rw [h.2.2.2.2, g.2.2.2.2]⟩
  · exact h3 r
/-- what a declaration leaves -/
structure DFr (r r' : Rd) : Prop where
  at' : r.at' ≤ r'.at'
  blocks : r'.blocks = r.blocks
  loops : r'.loops = r.loops
  words : r'.words ≤ r.words + 4294967295
  vars : r'.vars.length ≤ r.vars.length + 1
theorem decl_fr {ts : List Tk} (r : Rd) (hv : ∀ t ∈ ts, t.val ≤ 4294967295) : DFr r (r.decl ts) := by
  have hsee : ∀ (r : Rd), (r.see ts).val ≤ 4294967295 := fun r => by
    unfold Rd.see
    split
    · show 0 ≤ _; omega
    · cases hx : ts[r.at']? with
      | none => show 0 ≤ _; omega
      | some t => exact hv t (List.mem_of_getElem? hx)
  rw [decl_eq]
  split
  · split
    · have hf := (((fr_step r).trans (fr_step _)).trans (fr_size ts r.step.step)).trans ((fr_take (ts := ts) (r.step.step.sizeT ts).2 [93]).trans (fr_take (ts := ts) _ [59]))
      have hs := size_le (hsee r.step.step)
      obtain ⟨h1, h2, h3, h4, h5⟩ := declare_fr (((r.step.step.sizeT ts).2.take ts [93]).take ts [59]) ⟨(r.see ts).text, true, (r.step.step.sizeT ts).1, 0⟩ (r.see ts)
      exact ⟨by rw [h1]; exact hf.at', by rw [h2]; exact hf.blocks, by rw [h3]; exact hf.loops, by rw [h4, hf.words]; show r.words + (r.step.step.sizeT ts).1 ≤ _; omega, by rw [h5, hf.vars]; exact Nat.le_refl _⟩
    · have hf := (fr_step r).trans (fr_take (ts := ts) r.step [59])
      obtain ⟨h1, h2, h3, h4, h5⟩ := declare_fr (r.step.take ts [59]) ⟨(r.see ts).text, false, 1, 0⟩ (r.see ts)
      exact ⟨by rw [h1]; exact hf.at', by rw [h2]; exact hf.blocks, by rw [h3]; exact hf.loops, by rw [h4, hf.words]; show r.words + 1 ≤ _; omega, by rw [h5, hf.vars]; exact Nat.le_refl _⟩
  · have hf := fr_refuse (ts := ts) r
    exact ⟨hf.at', hf.blocks, hf.loops, by rw [hf.words]; omega, by rw [hf.vars]; omega⟩
theorem decls_step (ts : List Tk) (n : Nat) (r : Rd) : declsF ts (n + 1) r = if r.is ts [118, 97, 114] = true then declsF ts n (r.step.decl ts) else r := rfl
theorem decls_end {ts : List Tk} {r : Rd} (h : r.is ts [118, 97, 114] = false) : ∀ n, declsF ts n r = r
  | 0 => rfl
  | n + 1 => by rw [decls_step, h]; rfl
def ProgPost (w : World) (g : Nat) (ts : List Tk) (F : Fx) (e : Ending) (w' : World) : Prop := ∃ v, e = .returned v ∧ LsO w' (progT ts).1 (New w) v ∧ (∃ F' : Fx, RdA w' g ts F' (progT ts).2) ∧ Below F.mp w w'
set_option maxRecDepth 100000 in
set_option maxHeartbeats 4000000 in
theorem prog_any (w : World) (g : Nat) (ts : List Tk) (F : Fx) (h : RdA w g ts F rd0) (hd : Dc w g F rd0) (hG : Lg w) (h9 : 9 ≤ F.mp) (hval : ∀ t ∈ ts, t.val ≤ 4294967295) : Calls Tryz.prog 31 #[.pointer (some ⟨g, 0, none⟩)] w (ProgPost w g ts F) := by
  have hgl := h.b.lt
  have hln := h.len
  have hmg := hd.mg
  have HR := hide h
  have HD := hide hd
  have HG := hide hG
  have HVl := hide hval
  have HP0 : Hid (progT ts = ((psF ts (4 * (ts.length - (declsF ts ts.length rd0).at') + 4) 0 (declsF ts ts.length rd0)).1, if ((psF ts (4 * (ts.length - (declsF ts ts.length rd0).at') + 4) 0 (declsF ts ts.length rd0)).2.see ts).kind = 1 then (psF ts (4 * (ts.length - (declsF ts ts.length rd0).at') + 4) 0 (declsF ts ts.length rd0)).2 else (psF ts (4 * (ts.length - (declsF ts ts.length rd0).at') + 4) 0 (declsF ts ts.length rd0)).2.refuse ts)) := hide rfl
  clear h hd hG hval
  generalize hRR : declsF ts ts.length rd0 = RR at *
  have HRR := hide hRR
  clear hRR
  go_enter Tryz.func31, Tryz.ntmps31
  go_upto_region 1 with fail
  go_loopw [] (fun wr => ∃ (n : Nat) (F1 : Fx) (r1 : Rd), declsF ts n r1 = RR ∧ ts.length - r1.at' ≤ n ∧ r1.blocks = 0 ∧ r1.loops = 0 ∧ r1.words ≤ r1.at' * 4294967295 ∧ r1.vars.length ≤ r1.at' ∧ F1.mp = F.mp ∧ RdA wr g ts F1 r1 ∧ Dc wr g F1 r1 ∧ Below F.mp w wr) (fun wr => ts.length - rdPos wr g)
  case atStart => exact ⟨ts.length, F, rd0, HRR.out, by omega, rfl, rfl, by show 0 ≤ _; omega, by show 0 ≤ _; omega, rfl, HR.out, HD.out, Below.refl _ _⟩
  case round =>
  obtain ⟨n, F1, r1, hrr, hnf, hbl, hlo, hwo, hva, hmp, hA, hDc, hB⟩ := hrel
  have HPo := hide hA.pos
  have hatl := hA.hat
  have HM : Hid (r1.is ts [118, 97, 114] = true → r1.at' + 1 < ts.length) := hide (fun e => (hA.more (.inr (by
    have e2 : (r1.see ts).text = [118, 97, 114] := by simpa [Rd.is] using e
    rw [e2]; decide))).1)
  have HPs := hide (pass_any wr g ts F1 r1 [118, 97, 114] (by decide) hA)
  have HPe : Hid (r1.pass ts [118, 97, 114] = if r1.is ts [118, 97, 114] = true then r1.step else r1) := hide rfl
  rw [HPe.out] at HPs
  have HDc := hide hDc
  have HB := hide hB
  have HRr := hide hrr
  have HBl := hide hbl
  have HLo := hide hlo
  have HMp := hide hmp
  have hgr := hA.b.lt
  clear hrr hDc hB hA HPe hbl hlo hmp HRR HR HD
  go_wp2_with fail
  refine HPs.out.mono ?_
  rintro e w1 ⟨rfl, hA1, hk1⟩
  have HB1 := hide (HB.out.trans (hk1.bel (by omega) hgr))
  have hgr1 : g < w1.heap.size := by have := hk1.size; omega
  cases hx : r1.is ts [118, 97, 114] with
  | true =>
    have hm := HM.out hx
    obtain ⟨n', rfl⟩ : ∃ n', n = n' + 1 := ⟨n - 1, by omega⟩
    have HRr2 : Hid (declsF ts n' (r1.step.decl ts) = RR) := hide (by have h0 := HRr.out; rw [decls_step, hx] at h0; exact h0)
    rw [hx] at hA1
    simp only [if_true] at hA1
    have hD1 : Dc w1 g F1 r1.step := HDc.out.keepK hk1 rfl
    have HF := hide (decl_fr r1.step HVl.out)
    have HDe := hide (decl_any w1 g ts F1 r1.step hA1 hD1 (by show r1.words ≤ _; omega) (by show r1.vars.length ≤ _; omega) HVl.out)
    clear hA1 hk1 hD1 HPs hx HM HRr HDc HB
    generalize r1.step.decl ts = r2 at *
    go_wp2_with fail
    refine HDe.out.mono ?_
    rintro e w2 ⟨rfl, F2, e1, e2, e3, hA2, hD2, hB2⟩
    have HA2 := hide hA2
    have HD2 := hide hD2
    have HM2 := hide (e3.trans HMp.out)
    have HB2 : Hid (Below F.mp w w2) := hide (HB1.out.trans (by rw [← HMp.out]; exact hB2))
    have f1 := HF.out.at'
    have f2 := HF.out.words
    have f3 := HF.out.vars
    have f4 : r1.step.at' = r1.at' + 1 := rfl
    have f5 : r1.step.words = r1.words := rfl
    have f6 : r1.step.vars.length = r1.vars.length := rfl
    clear e1 e2 e3 hA2 hD2 hB2 HDe
    have q1 : r1.at' + 1 ≤ r2.at' := by omega
    have q2 : r2.words ≤ r2.at' * 4294967295 := by omega
    have q3 : r2.vars.length ≤ r2.at' := by omega
    clear f1 f2 f3 f4 f5 f6
    go_wp2
    refine ⟨⟨n', F2, r2, HRr2.out, by omega, HF.out.blocks.trans HBl.out, HF.out.loops.trans HLo.out, q2, q3, HM2.out, HA2.out, HD2.out, HB2.out⟩, ?_⟩
    rw [HA2.out.pos, HPo.out]
    omega
  | false =>
    rw [hx] at hA1
    simp only [if_false, Bool.false_eq_true] at hA1
    have hre : RR = r1 := by have h0 := HRr.out; rw [decls_end hx] at h0; exact h0.symm
    subst hre
    have HL1 : Hid (Lg w1) := hide (HG.out.of9 fun k hk => HB1.out.block k (by omega))
    have HSt := hide ((ps_all (4 * (ts.length - RR.at') + 4)).1 w1 g ts F1 RR ⟨hA1, HL1.out, by omega, by omega, by rw [HBl.out]; omega, by rw [HLo.out]; omega⟩ (Nat.le_refl _))
    have hs1 : w.heap.size ≤ w1.heap.size := HB1.out.size
    clear hA1 hk1 HPs hx HM HRr HDc HB HL1
    generalize psF ts (4 * (ts.length - RR.at') + 4) 0 RR = q at *
    obtain ⟨ol, r5⟩ := q
    simp only at HSt HP0
    go_wp2_with fail
    refine HSt.out.mono ?_
    rintro e w2 ⟨v, rfl, hL2, hA2, hk2⟩
    obtain ⟨ab, nb, cb, rfl⟩ := ls_shape hL2
    have HL2 := hide hL2
    have HA2 := hide hA2
    have HB2 := hide (HB1.out.trans (hk2.bel (by omega) hgr1))
    have hs2 := hk2.size
    have HSe := hide (see_any w2 g ts F1 r5 hA2)
    clear hL2 hA2 hk2 HSt
    obtain ⟨t, ht⟩ : ∃ t, r5.see ts = t := ⟨_, rfl⟩
    rw [ht] at HSe HP0
    obtain ⟨tk, tx, tv, tl⟩ := t
    simp only [tkL] at HSe HP0
    clear ht
    have h0 := fld0 (.int .i64 (tk : Nat)) (.string ⟨tx.toArray⟩) (.int .u32 (tv : Nat)) (.int .i64 (tl : Nat))
    go_wp2_with fail
    refine HSe.out.mono ?_
    rintro e w3 ⟨rfl, hb3⟩
    have HL3 := hide (HL2.out.keepK (Kp.of (g := g) hb3) (fun k (hk : w1.heap.size ≤ k) => by show k ≠ g; omega))
    have HA3 := hide (HA2.out.keep hb3)
    have HB3 := hide (HB2.out.trans (hb3.mono (by omega)))
    clear hb3 HSe HL2 HA2 HB2
    by_cases hk : tk = 1
    · have hkb : ((tk : Int) == 1) = true := by simp; omega
      have hkc : ((tk : Int) != 1) = false := by simp; omega
      rw [if_pos hk] at HP0
      clear hk
      go_wp2
      go_ret
      exact ⟨_, rfl, by rw [HP0.out]; exact HL3.out.mono (fun k hk => Nat.le_trans hs1 hk), ⟨F1, by rw [HP0.out]; exact HA3.out⟩, HB3.out⟩
    · have hkb : ((tk : Int) == 1) = false := by simp; omega
      have hkc : ((tk : Int) != 1) = true := by simp; omega
      rw [if_neg hk] at HP0
      have HRf := hide (refuse_any w3 g ts F1 r5 HA3.out)
      have hg3 : g < w3.heap.size := HA3.out.b.lt
      clear hk
      go_wp2_with fail
      refine HRf.out.mono ?_
      rintro e w4 ⟨rfl, hA4, hk4⟩
      have HL4 := hide (HL3.out.keepK hk4 (fun k (hk : w1.heap.size ≤ k) => by show k ≠ g; omega))
      have HA4 := hide hA4
      have HB4 := hide (HB3.out.trans (hk4.bel (by omega) hg3))
      clear hA4 hk4 HRf HL3 HA3 HB3
      go_wp2
      go_ret
      exact ⟨_, rfl, by rw [HP0.out]; exact HL4.out.mono (fun k hk => Nat.le_trans hs1 hk), ⟨F1, by rw [HP0.out]; exact HA4.out⟩, HB4.out⟩
end Go.Proofs.YtiafodeabdhcoaaGreatDoor

namespace Go.Proofs.YtiafodeabdhcoaaGreatDoor
open Go.RowKit
/-- what the tokens of a text are -/
structure TsOk (n : Nat) (ts : List Tk) : Prop where
  ne : ts ≠ []
  ok : TkOk ts
  len : ts.length ≤ n + 1
  val : ∀ t ∈ ts, t.val ≤ 4294967295
theorem TsOk.one {n : Nat} {t : Tk} (h1 : t.kind ≤ 1) (h2 : t.text = []) (h3 : t.val ≤ 4294967295) : TsOk n [t] :=
  ⟨by simp, fun i h _ => by
    obtain rfl : i = 0 := by simpa using h
    exact ⟨h1, h2⟩, by simp, fun x hx => by simp at hx; rw [hx]; exact h3⟩
theorem TsOk.cons {n : Nat} {t : Tk} {ts : List Tk} (h : TsOk n ts) (h3 : t.val ≤ 4294967295) : TsOk (n + 1) (t :: ts) :=
  ⟨by simp, fun i hi he => by
    cases i with
    | zero =>
      have := h.ne
      cases ts with
      | nil => exact absurd rfl this
      | cons a b => simp at he
    | succ i => exact h.ok i (by simpa using hi) (by simpa using he), by have := h.len; simp; omega, fun x hx => by
    rcases List.mem_cons.1 hx with e | e
    · rw [e]; exact h3
    · exact h.val x e⟩
theorem TsOk.more {n m : Nat} {ts : List Tk} (h : TsOk n ts) (hm : n ≤ m) : TsOk m ts := ⟨h.ne, h.ok, by have := h.len; omega, h.val⟩
theorem nm_le {s : Tx} {n : Nat} (h : nmT s = some n) : n ≤ 4294967295 := by
  unfold nmT at h
  split at h
  · cases h
  · cases hx : numF (basT s) 0 (digT s) with
    | none => rw [hx] at h; cases h
    | some m =>
      rw [hx] at h
      simp only [Option.bind_some] at h
      split at h
      · cases h; assumption
      · cases h
theorem fst_val (s : Tx) : (fstTk s).val ≤ 4294967295 := by
  unfold fstTk
  split
  · unfold runTk
    split
    · show 0 ≤ _; omega
    · split
      · next n h => exact nm_le h
      · split
        · show 0 ≤ _; omega
        · show 0 ≤ _; omega
  · split
    · show 0 ≤ _; omega
    · split
      · show 0 ≤ _; omega
      · show 0 ≤ _; omega
theorem cut_ts : ∀ (s : Tx) (sk ln : Nat), TsOk s.length (cutF sk ln s)
  | [], sk, ln => by rw [cutF]; exact TsOk.one (by show 1 ≤ 1; omega) rfl (by show 0 ≤ _; omega)
  | c :: r, sk, ln => by
    rw [cutF]
    split
    · exact (cut_ts r _ _).more (by simp)
    · split
      · exact (cut_ts r _ _).more (by simp)
      · split
        · exact (cut_ts r _ _).more (by simp)
        · split
          · exact (cut_ts r _ _).more (by simp)
          · split
            · next h =>
              have e := fst_zero h
              exact TsOk.one (by show (fstTk (c :: r)).kind ≤ 1; rw [h]; omega) (by show (fstTk (c :: r)).text = []; rw [e]; rfl) (fst_val _)
            · exact (cut_ts r _ _).cons (fst_val _)
end Go.Proofs.YtiafodeabdhcoaaGreatDoor

namespace Go.Proofs.YtiafodeabdhcoaaGreatDoor
open Go.RowKit
theorem cut_tl : ∀ (s : Tx) (sk ln : Nat), 1 ≤ ln → TsL (cutF sk ln s)
  | [], _, ln, h => fun t ht => by
    simp only [cutF, List.mem_singleton] at ht
    subst ht
    exact ⟨h, Nat.zero_le _⟩
  | c :: r, sk, ln, h => by
    unfold cutF
    split
    · exact cut_tl r _ _ (by omega)
    · split
      · exact cut_tl r _ _ h
      · split
        · exact cut_tl r _ _ h
        · split
          · exact cut_tl r _ _ h
          · split
            · intro t ht
              rw [List.mem_singleton.1 ht]
              exact ⟨h, fst_val _⟩
            · intro t ht
              rcases List.mem_cons.1 ht with rfl | ht
              · exact ⟨h, fst_val _⟩
              · exact cut_tl r _ _ h t ht
/-- what is known of the variables while they are declared -/
def DInv (r : Rd) : Prop := r.dat = 0 → r.words ≤ 96 ∧ ∀ v ∈ r.vars, 384 ≤ v.at' ∧ v.at' + v.size ≤ 384 + r.words ∧ (v.arr = false → v.size = 1)
theorem DInv.fr {r r' : Rd} (h : DInv r) (hf : r.Fr r') : DInv r' := fun hd => by
  rw [hf.words, hf.vars]
  exact h (by rw [← hf.dat]; exact hd)
section
variable {ts : List Tk}
theorem declare_d (r : Rd) (v : Vr) (t : Tk) (ht : 1 ≤ t.line) (hv : v.arr = false → v.size = 1) (h : DInv r) : DInv (r.declare v t) := by
  have e : ∃ x : Nat, ∃ b : Rd, b.dat = r.dat ∧ b.words = r.words ∧ b.vars = r.vars ∧ r.declare v t = { (if 96 < b.words + v.size then ({ b with words := b.words + v.size } : Rd).ndat t.line else { b with words := b.words + v.size }) with vars := (if 96 < b.words + v.size then ({ b with words := b.words + v.size } : Rd).ndat t.line else { b with words := b.words + v.size }).vars ++ [{ v with at' := 384 + r.words }] } := by
    refine ⟨0, if (r.find v.name).isSome ∨ t.kind = 2 then r.nname t.line else r, ?_, ?_, ?_, rfl⟩
    all_goals
      split
      · unfold Rd.nname
        split <;> rfl
      · rfl
  obtain ⟨_, b, hb1, hb2, hb3, he⟩ := e
  rw [he]
  intro hd
  by_cases hw : 96 < b.words + v.size
  · rw [if_pos hw] at hd
    exfalso
    have : (({ b with words := b.words + v.size } : Rd).ndat t.line).dat ≠ 0 := by
      unfold Rd.ndat
      split
      · show t.line ≠ 0; omega
      · next h => exact h
    exact this hd
  · rw [if_neg hw] at hd ⊢
    have hd' : r.dat = 0 := by rw [← hb1]; exact hd
    obtain ⟨h1, h2⟩ := h hd'
    refine ⟨by show b.words + v.size ≤ 96; omega, fun x hx => ?_⟩
    have hx' : x ∈ b.vars ++ [{ v with at' := 384 + r.words }] := hx
    rw [hb3] at hx'
    show 384 ≤ x.at' ∧ x.at' + x.size ≤ 384 + (b.words + v.size) ∧ _
    rcases List.mem_append.1 hx' with hx' | hx'
    · obtain ⟨k1, k2, k3⟩ := h2 x hx'
      exact ⟨k1, by omega, k3⟩
    · rw [List.mem_singleton.1 hx']
      exact ⟨by show 384 ≤ 384 + r.words; omega, by show 384 + r.words + v.size ≤ _; omega, hv⟩
theorem decl_d (hT : TsL ts) (r : Rd) (h : DInv r) : DInv (r.decl ts) := by
  unfold Rd.decl
  simp only
  split
  · next hk =>
    obtain ⟨_, hm⟩ := see_real (ts := ts) (r := r) (by omega)
    have hl := (hT _ hm).1
    split
    · split
      · exact declare_d _ _ _ hl (fun h => by cases h) (h.fr ((((fr_step r).trans (fr_step _)).trans (fr_step _)).trans ((fr_take (ts := ts) _ [93]).trans (fr_take (ts := ts) _ [59]))))
      · exact declare_d _ _ _ hl (fun h => by cases h) (h.fr ((((fr_step r).trans (fr_step _)).trans (fr_refuse (ts := ts) _)).trans ((fr_take (ts := ts) _ [93]).trans (fr_take (ts := ts) _ [59]))))
    · exact declare_d _ _ _ hl (fun _ => rfl) (h.fr ((fr_step r).trans (fr_take (ts := ts) _ [59])))
  · exact h.fr (fr_refuse r)
theorem decls_d (hT : TsL ts) : ∀ (n : Nat) (r : Rd), DInv r → DInv (declsF ts n r)
  | 0, r, h => h
  | n + 1, r, h => by
    unfold declsF
    split
    · exact decls_d hT n _ (decl_d hT _ (h.fr (fr_step r)))
    · exact h
theorem refuse_at (r : Rd) : (r.refuse ts).at' = r.at' := by unfold Rd.refuse Rd.nform; split <;> rfl
theorem prog_n : slO (progT ts).1 ≤ 3 * (progT ts).2.at' + 1 := by
  unfold progT
  simp only
  generalize declsF ts ts.length rd0 = r
  have h := (ps_n (ts := ts) (4 * (ts.length - r.at') + 4)).a r
  rw [if_neg (by omega)] at h
  split
  · omega
  · rw [refuse_at]; omega
theorem prog_ok (hT : TsL ts) (hf : (progT ts).2.form = 0) (hn : (progT ts).2.nam = 0) (hd : (progT ts).2.dat = 0) : slOK (progT ts).1 := by
  have hD := decls_d hT ts.length rd0 (fun _ => ⟨by decide, fun v hv => by cases hv⟩)
  unfold progT at hf hn hd ⊢
  simp only at hf hn hd ⊢
  generalize declsF ts ts.length rd0 = r at *
  have hl := fl_ps (ts := ts) (4 * (ts.length - r.at') + 4) 0 r
  have hr := fr_ps (ts := ts) (4 * (ts.length - r.at') + 4) 0 r
  have hk := ps_ok hT (4 * (ts.length - r.at') + 4) 0 r
  generalize psF ts (4 * (ts.length - r.at') + 4) 0 r = p at *
  obtain ⟨o, r1⟩ := p
  simp only at hf hn hd hl hr hk ⊢
  have hz : r1.form = 0 ∧ r1.nam = 0 ∧ r1.dat = 0 := by
    split at hf
    · next h =>
      rw [if_pos h] at hn hd
      exact ⟨hf, hn, hd⟩
    · next h =>
      rw [if_neg h] at hn hd
      have q := fl_refuse (ts := ts) r1
      exact ⟨q.form hf, q.nam hn, q.dat hd⟩
  obtain ⟨z1, z2, z3⟩ := hz
  obtain ⟨h1, h2⟩ := hD (hl.dat z3)
  exact hk (fun v hv => by obtain ⟨a, b, c⟩ := h2 v hv; exact ⟨a, by omega, c⟩) z1 z2
end
theorem read_ok (s : Tx) (h : (readT s).2.2 = 0) : slOK (readT s).1.2 := by
  have hT : TsL (tksT s) := cut_tl s 0 1 (by omega)
  have hp := prog_ok hT
  unfold readT at h ⊢
  generalize progT (tksT s) = p at *
  obtain ⟨o, r⟩ := p
  simp only at h hp ⊢
  split at h
  · cases h
  · next h1 =>
    split at h
    · cases h
    · next h2 =>
      split at h
      · cases h
      · next h3 =>
        split at h
        · cases h
        · next h4 =>
          rw [if_neg h1, if_neg h2, if_neg h3, if_neg h4]
          exact hp (by omega) (by omega) (by omega)
end Go.Proofs.YtiafodeabdhcoaaGreatDoor

namespace Go.Proofs.YtiafodeabdhcoaaGreatDoor
open Go.RowKit
/-- how much is written -/
structure Gr (t w l : Nat) (a b : Cd) : Prop where
  t : b.text.length ≤ a.text.length + t
  w : b.words ≤ a.words + w
  l : b.labels ≤ a.labels + l
theorem Gr.refl (a : Cd) : Gr 0 0 0 a a := ⟨Nat.le_refl _, Nat.le_refl _, Nat.le_refl _⟩
theorem Gr.trans {t w l t' w' l' : Nat} {a b c : Cd} (h : Gr t w l a b) (k : Gr t' w' l' b c) : Gr (t + t') (w + w') (l + l') a c := ⟨by have := h.t; have := k.t; omega, by have := h.w; have := k.w; omega, by have := h.l; have := k.l; omega⟩
theorem Gr.more {t w l t' w' l' : Nat} {a b : Cd} (h : Gr t w l a b) (h1 : t ≤ t') (h2 : w ≤ w') (h3 : l ≤ l') : Gr t' w' l' a b := ⟨by have := h.t; omega, by have := h.w; omega, by have := h.l; omega⟩
theorem gr_put (c : Cd) (L : List Tx) (t w : Nat) (h1 : (lnsT L).length ≤ t) (h2 : L.length ≤ w) : Gr t w 0 c (c.put L) := ⟨by simp [Cd.put]; omega, by simp [Cd.put]; omega, Nat.le_refl _⟩
theorem gr_lab (c : Cd) (s : Tx) (t : Nat) (h : s.length + 2 ≤ t) : Gr t 0 0 c (c.lab s) := ⟨by simp [Cd.lab]; omega, Nat.le_refl _, Nat.le_refl _⟩
theorem gr_pair (c : Cd) : Gr 0 0 1 c c.pair := ⟨Nat.le_refl _, Nat.le_refl _, Nat.le_refl _⟩
theorem ln_one (a : Tx) : (lnsT [a]).length = a.length + 1 := by simp [lnsT]
theorem ln_two (a b : Tx) : (lnsT [a, b]).length = a.length + b.length + 2 := by simp [lnsT]; omega
theorem ln_four (a b c d : Tx) : (lnsT [a, b, c, d]).length = a.length + b.length + c.length + d.length + 4 := by simp [lnsT]; omega
theorem ln_oc (s : Tx) : (lnsT (semT (ocT s))).length ≤ 60 ∧ (semT (ocT s)).length ≤ 6 := by
  have h : ∀ o ∈ opsT, (lnsT (semT o.2.2)).length ≤ 60 ∧ (semT o.2.2).length ≤ 6 := by decide
  unfold ocT
  cases hq : opsT.find? (fun o => o.1 == s) with
  | none => decide
  | some o => exact h o (List.mem_of_find?_eq_some hq)
theorem ln_sg (s : Tx) : (lnsT (semT (sgT s))).length ≤ 60 ∧ (semT (sgT s)).length ≤ 6 := by
  unfold sgT
  split
  · decide
  · split
    · decide
    · split <;> decide
theorem nu_le {n : Nat} (h : n ≤ 10000000000) : (nuT n).length ≤ 21 := nuT_len n (by omega)
theorem gr_num (c : Cd) (v : Nat) (h : v ≤ 4294967295) : Gr 100 2 0 c (c.num v) := by
  unfold Cd.num
  split
  · refine gr_put _ _ _ _ ?_ (Nat.le_succ 1)
    have := nu_le (n := v) (by omega)
    rw [ln_one]; simp; omega
  · refine gr_put _ _ _ _ ?_ (Nat.le_refl _)
    have := nu_le (n := v / 65536) (by omega)
    have := inT_len (i16T v) (by unfold i16T; split <;> omega)
    rw [ln_two]; simp; omega
theorem gr_guard (c : Cd) (v : Vr) (h : v.size ≤ 4294967295) : Gr 100 4 0 c (c.guard v) := by
  refine gr_put _ _ _ _ ?_ (Nat.le_refl _)
  have := nu_le (n := v.size) (by omega)
  rw [ln_four]; simp; omega
theorem name_le {c : Cd} (h : c.labels ≤ 1000000000) : c.name.length ≤ 21 := nu_le (by omega)
theorem gr_short (c : Cd) {fl fr : Cd → Cd} {a b : Nat} (hl : ∀ c : Cd, c.labels + a ≤ 1000000000 → Gr (400 * a) (20 * a) a c (fl c)) (hr : ∀ c : Cd, c.labels + b ≤ 1000000000 → Gr (400 * b) (20 * b) b c (fr c)) (j : Tx) (z : Nat) (hj : j.length ≤ 10) (hz : z ≤ 1) (hc : c.labels + (1 + a + b) ≤ 1000000000) : Gr (400 * (1 + a + b)) (20 * (1 + a + b)) (1 + a + b) c (c.short fl fr j z) := by
  have hn := name_le (c := c) (by omega)
  have h1 := gr_pair c
  have h2 := h1.trans (hl c.pair (by show c.labels + 1 + a ≤ _; omega))
  have h3 := h2.trans (gr_put (fl c.pair) [j ++ ([32, 114, 52, 44, 32, 97] ++ c.name)] 50 1 (by rw [ln_one]; simp; omega) (Nat.le_refl _))
  have h4 := h3.trans (hr _ (by have := h3.l; omega))
  unfold Cd.short
  generalize fr ((fl c.pair).put [j ++ ([32, 114, 52, 44, 32, 97] ++ c.name)]) = s4 at *
  have h5 := h4.trans (gr_put s4 [j ++ ([32, 114, 52, 44, 32, 97] ++ c.name)] 50 1 (by rw [ln_one]; simp; omega) (Nat.le_refl _))
  have hz1 := nu_le (n := 1 - z) (by omega)
  have hz2 := nu_le (n := z) (by omega)
  have h6 := h5.trans (gr_put _ [[108, 105, 32, 114, 52, 44, 32] ++ nuT (1 - z), [106, 109, 112, 32, 98] ++ c.name] 70 2 (by rw [ln_two]; simp; omega) (Nat.le_refl _))
  have h7 := h6.trans (gr_lab _ ([97] ++ c.name) 30 (by simp; omega))
  have h8 := h7.trans (gr_put _ [[108, 105, 32, 114, 52, 44, 32] ++ nuT z] 40 1 (by rw [ln_one]; simp; omega) (Nat.le_refl _))
  have h9 := h8.trans (gr_lab _ ([98] ++ c.name) 30 (by simp; omega))
  exact h9.more (by omega) (by omega) (by omega)
theorem gr_oper (c : Cd) {fl fr : Cd → Cd} {a b : Nat} (hl : ∀ c : Cd, c.labels + a ≤ 1000000000 → Gr (400 * a) (20 * a) a c (fl c)) (hr : ∀ c : Cd, c.labels + b ≤ 1000000000 → Gr (400 * b) (20 * b) b c (fr c)) (d : Nat) (op : Tx) (hd : d ≤ 1000000000) (hc : c.labels + (1 + a + b) ≤ 1000000000) : Gr (400 * (1 + a + b)) (20 * (1 + a + b)) (1 + a + b) c (c.oper fl fr d op) := by
  have hn := nu_le (n := 480 + d) (by omega)
  have h2 := hl c (by omega)
  have h3 := h2.trans (gr_put (fl c) [[115, 116, 32, 114, 52, 44, 32, 114, 55, 44, 32] ++ nuT (480 + d)] 40 1 (by rw [ln_one]; simp; omega) (Nat.le_refl _))
  have h4 := h3.trans (hr _ (by have := h3.l; omega))
  unfold Cd.oper
  generalize fr ((fl c).put [[115, 116, 32, 114, 52, 44, 32, 114, 55, 44, 32] ++ nuT (480 + d)]) = s4 at *
  have h5 := h4.trans (gr_put s4 [[109, 111, 118, 32, 114, 53, 44, 32, 114, 52], [108, 100, 32, 114, 52, 44, 32, 114, 55, 44, 32] ++ nuT (480 + d)] 60 2 (by rw [ln_two]; simp; omega) (Nat.le_refl _))
  have h6 := h5.trans (gr_put _ (semT (ocT op)) 60 6 (ln_oc op).1 (ln_oc op).2)
  exact h6.more (by omega) (by omega) (by omega)
theorem cxF_eq (k v : Nat) (vr : Vr) (op : Tx) (l r : Option Ex) (dp d : Nat) (c : Cd) : cxF ⟨k, v, vr, op, l, r, dp⟩ d c =
    if k = 0 then c.num v
    else if k = 1 then c.put [[115, 121, 115, 32, 50, 52], [109, 111, 118, 32, 114, 52, 44, 32, 114, 49]]
    else if k = 2 then c.put [[108, 100, 32, 114, 52, 44, 32, 114, 55, 44, 32] ++ nuT vr.at']
    else if k = 3 then Cd.put (Cd.guard (cxO l d c) vr) [[108, 100, 32, 114, 52, 44, 32, 114, 52, 44, 32] ++ nuT vr.at']
    else if k = 4 then Cd.put (cxO l d c) (semT (sgT op))
    else if op = [38, 38] then c.short (cxO l d) (cxO r d) [106, 122] 0
    else if op = [124, 124] then c.short (cxO l d) (cxO r d) [106, 110, 122] 1
    else c.oper (cxO l d) (cxO r (d + 1)) d op := by
  conv => lhs; unfold cxF
  cases l <;> cases r <;> rfl
set_option maxHeartbeats 1000000 in
theorem gr_cx : ∀ (e : Ex), exK e → ∀ (d : Nat) (c : Cd), d + exN e ≤ 1000000000 → c.labels + exN e ≤ 1000000000 → Gr (400 * exN e) (20 * exN e) (exN e) c (cxF e d c)
  | ⟨k, v, vr, op, l, r, dp⟩, hK, d, c, hd, hc => by
    have hK' := hK
    unfold exK at hK'
    obtain ⟨hk5, hv, hsz, hat, _, _, _, _, _, kl, kr⟩ := hK'
    rw [exN_eq] at hd hc ⊢
    have hl : ∀ (d : Nat) (c : Cd), d + exO l ≤ 1000000000 → c.labels + exO l ≤ 1000000000 → Gr (400 * exO l) (20 * exO l) (exO l) c (cxO l d c) := fun d c h1 h2 => by
      match l, kl with
      | none, _ => exact Gr.refl c
      | some e, kl => exact gr_cx e kl d c h1 h2
    have hr : ∀ (d : Nat) (c : Cd), d + exO r ≤ 1000000000 → c.labels + exO r ≤ 1000000000 → Gr (400 * exO r) (20 * exO r) (exO r) c (cxO r d c) := fun d c h1 h2 => by
      match r, kr with
      | none, _ => exact Gr.refl c
      | some e, kr => exact gr_cx e kr d c h1 h2
    have hna := nu_le (n := vr.at') (by omega)
    have hdl : d + exO l ≤ 1000000000 := by omega
    have hdr : d + exO r ≤ 1000000000 := by omega
    rw [cxF_eq]
    split
    · exact (gr_num c v hv).more (by omega) (by omega) (by omega)
    · split
      · exact (gr_put c [[115, 121, 115, 32, 50, 52], [109, 111, 118, 32, 114, 52, 44, 32, 114, 49]] 20 2 (by decide) (by decide)).more (by omega) (by omega) (by omega)
      · split
        · exact (gr_put c [[108, 100, 32, 114, 52, 44, 32, 114, 55, 44, 32] ++ nuT vr.at'] 40 1 (by rw [ln_one]; simp; omega) (Nat.le_refl _)).more (by omega) (by omega) (by omega)
        · split
          · exact (((hl d c (by omega) (by omega)).trans (gr_guard _ vr hsz)).trans (gr_put _ [[108, 100, 32, 114, 52, 44, 32, 114, 52, 44, 32] ++ nuT vr.at'] 40 1 (by rw [ln_one]; simp; omega) (Nat.le_refl _))).more (by omega) (by omega) (by omega)
          · split
            · exact ((hl d c (by omega) (by omega)).trans (gr_put _ (semT (sgT op)) 60 6 (ln_sg op).1 (ln_sg op).2)).more (by omega) (by omega) (by omega)
            · split
              · exact gr_short (a := exO l) (b := exO r) c (fun c h => hl d c hdl h) (fun c h => hr d c hdr h) _ _ (by decide) (by decide) hc
              · split
                · exact gr_short (a := exO l) (b := exO r) c (fun c h => hl d c hdl h) (fun c h => hr d c hdr h) _ _ (by decide) (by decide) hc
                · by_cases hr0 : r = none
                  · subst hr0
                    exact gr_oper (a := exO l) (b := 0) c (fun c h => hl d c hdl h) (fun c h => Gr.refl c) d op (by omega) hc
                  · have hr1 : 1 ≤ exO r := by
                      cases r with
                      | none => exact absurd rfl hr0
                      | some e => obtain ⟨k', v', vr', op', l', r', dp'⟩ := e; show 1 ≤ exN _; rw [exN_eq]; omega
                    exact gr_oper (a := exO l) (b := exO r) c (fun c h => hl d c hdl h) (fun c h => hr (d + 1) c (by omega) h) d op (by omega) hc
theorem gr_cxO (o : Option Ex) (h : exOK o) (d : Nat) (c : Cd) (hd : d + exO o ≤ 1000000000) (hc : c.labels + exO o ≤ 1000000000) : Gr (400 * exO o) (20 * exO o) (exO o) c (cxO o d c) := by
  cases o with
  | none => exact Gr.refl c
  | some e => exact gr_cx e h d c hd hc
theorem gr_asn (c : Cd) (v : Vr) (i x : Option Ex) (hv : v.size ≤ 4294967295) (ha : v.at' ≤ 4294967295) (hi : exOK i) (hx : exOK x) (hd : 1 + exO i + exO x ≤ 1000000) (hc : c.labels + (1 + exO i + exO x) ≤ 1000000000) : Gr (400 * (1 + exO i + exO x)) (20 * (1 + exO i + exO x)) (1 + exO i + exO x) c (c.assign v i x) := by
  have hna := nu_le (n := v.at') (by omega)
  have hnt := nu_le (n := 480) (by omega)
  unfold Cd.assign
  cases i with
  | none => exact ((gr_cxO x hx 0 c (by omega) (by omega)).trans (gr_put _ [[115, 116, 32, 114, 52, 44, 32, 114, 55, 44, 32] ++ nuT v.at'] 40 1 (by rw [ln_one]; simp; omega) (Nat.le_refl _))).more (by simp only [exO]; omega) (by simp only [exO]; omega) (by simp only [exO]; omega)
  | some i =>
    have ei : exO (some i) = exN i := rfl
    rw [ei] at hd hc ⊢
    have h1 := gr_cx i hi 0 c (by omega) (by omega)
    have h2 := h1.trans (gr_guard _ v hv)
    have h3 := h2.trans (gr_put _ [[115, 116, 32, 114, 52, 44, 32, 114, 55, 44, 32] ++ nuT 480] 40 1 (by rw [ln_one]; simp; omega) (Nat.le_refl _))
    dsimp only
    generalize ((cxF i 0 c).guard v).put [[115, 116, 32, 114, 52, 44, 32, 114, 55, 44, 32] ++ nuT 480] = s3 at *
    have h4 := h3.trans (gr_cxO x hx 1 s3 (by omega) (by have := h3.l; omega))
    have h5 := h4.trans (gr_put _ [[108, 100, 32, 114, 53, 44, 32, 114, 55, 44, 32] ++ nuT 480, [115, 116, 32, 114, 52, 44, 32, 114, 53, 44, 32] ++ nuT v.at'] 80 2 (by rw [ln_two]; simp; omega) (Nat.le_refl _))
    have h6 := h5.more (t' := 400 * (1 + exN i + exO x)) (w' := 20 * (1 + exN i + exO x)) (l' := 1 + exN i + exO x) (by omega) (by omega) (by omega)
    exact h6
theorem gr_loop (c : Cd) (t : Tx) : Gr 0 0 0 c { c with loop := t } := ⟨Nat.le_refl _, Nat.le_refl _, Nat.le_refl _⟩
theorem gr_stm (c : Cd) (word : Tx) (v : Vr) (i x : Option Ex) (oth : Nat) {fb fr : Cd → Cd} {a b : Nat} (hv : v.size ≤ 4294967295) (ha : v.at' ≤ 4294967295) (hi : exOK i) (hx : exOK x) (hb : ∀ c : Cd, c.loop.length ≤ 21 → c.labels + a ≤ 1000000000 → Gr (400 * a) (20 * a) a c (fb c) ∧ (fb c).loop = c.loop) (hr : ∀ c : Cd, c.loop.length ≤ 21 → c.labels + b ≤ 1000000000 → Gr (400 * b) (20 * b) b c (fr c) ∧ (fr c).loop = c.loop) (hlp : c.loop.length ≤ 21) (hd : 1 + exO i + exO x ≤ 1000000) (hc : c.labels + (1 + exO i + exO x + a + b) ≤ 1000000000) : Gr (400 * (1 + exO i + exO x + a + b)) (20 * (1 + exO i + exO x + a + b)) (1 + exO i + exO x + a + b) c (c.stm word v i x oth fb fr) := by
  have hn := name_le (c := c) (by omega)
  unfold Cd.stm
  split
  · exact (gr_asn c v i x hv ha hi hx hd (by omega)).more (by omega) (by omega) (by omega)
  · split
    · have h1 := (gr_pair c).trans (gr_cxO x hx 0 c.pair (by omega) (by show c.labels + 1 + _ ≤ _; omega))
      have h2 := h1.trans (gr_put _ [[106, 122, 32, 114, 52, 44, 32, 97] ++ c.name] 40 1 (by rw [ln_one]; simp; omega) (Nat.le_refl _))
      have hl2 : ((cxO x 0 c.pair).put [[106, 122, 32, 114, 52, 44, 32, 97] ++ c.name]).loop = c.loop := by rw [lp_put, lp_cxO]; rfl
      simp only
      generalize (cxO x 0 c.pair).put [[106, 122, 32, 114, 52, 44, 32, 97] ++ c.name] = s2 at *
      obtain ⟨g3, p3⟩ := hb s2 (by rw [hl2]; exact hlp) (by have := h2.l; omega)
      have h3 := h2.trans g3
      generalize fb s2 = s3 at *
      have h4 : Gr (0 + 400 * exO x + 40 + 400 * a + 40) (0 + 20 * exO x + 1 + 20 * a + 1) (1 + exO x + 0 + a + 0) c (if oth ≠ 0 then s3.put [[106, 109, 112, 32, 98] ++ c.name] else s3) := by
        split
        · exact h3.trans (gr_put _ [[106, 109, 112, 32, 98] ++ c.name] 40 1 (by rw [ln_one]; simp; omega) (Nat.le_refl _))
        · exact h3.more (by omega) (by omega) (by omega)
      have hl4 : (if oth ≠ 0 then s3.put [[106, 109, 112, 32, 98] ++ c.name] else s3).loop = c.loop := by
        split
        · rw [lp_put, p3, hl2]
        · rw [p3, hl2]
      generalize (if oth ≠ 0 then s3.put [[106, 109, 112, 32, 98] ++ c.name] else s3) = s4 at *
      have h5 := h4.trans (gr_lab s4 ([97] ++ c.name) 30 (by simp; omega))
      have hl5 : (s4.lab ([97] ++ c.name)).loop = c.loop := hl4
      generalize s4.lab ([97] ++ c.name) = s5 at *
      obtain ⟨g6, _⟩ := hr s5 (by rw [hl5]; exact hlp) (by have := h5.l; omega)
      have h7 := (h5.trans g6).trans (gr_lab _ ([98] ++ c.name) 30 (by simp; omega))
      exact h7.more (by omega) (by omega) (by omega)
    · split
      · have h1 := ((gr_pair c).trans (gr_loop _ c.name)).trans (gr_lab _ ([97] ++ c.name) 30 (by simp; omega))
        have hl1 : (({ c.pair with loop := c.name } : Cd).lab ([97] ++ c.name)).loop = c.name := rfl
        generalize ({ c.pair with loop := c.name } : Cd).lab ([97] ++ c.name) = s1 at *
        have h2 := (h1.trans (gr_cxO x hx 0 s1 (by omega) (by have := h1.l; omega))).trans (gr_put _ [[106, 122, 32, 114, 52, 44, 32, 98] ++ c.name] 40 1 (by rw [ln_one]; simp; omega) (Nat.le_refl _))
        have hl2 : ((cxO x 0 s1).put [[106, 122, 32, 114, 52, 44, 32, 98] ++ c.name]).loop = c.name := by rw [lp_put, lp_cxO]; exact hl1
        generalize (cxO x 0 s1).put [[106, 122, 32, 114, 52, 44, 32, 98] ++ c.name] = s2 at *
        obtain ⟨g3, p3⟩ := hb s2 (by rw [hl2]; exact hn) (by have := h2.l; omega)
        have h3 := ((h2.trans g3).trans (gr_put _ [[106, 109, 112, 32, 97] ++ c.name] 40 1 (by rw [ln_one]; simp; omega) (Nat.le_refl _))).trans (gr_lab _ ([98] ++ c.name) 30 (by simp; omega))
        exact (h3.trans (gr_loop _ c.loop)).more (by omega) (by omega) (by omega)
      · split
        · exact ((gr_cxO x hx 0 c (by omega) (by omega)).trans (gr_put _ [[109, 111, 118, 32, 114, 49, 44, 32, 114, 52], [115, 121, 115, 32, 49, 52]] 30 2 (by decide) (by decide))).more (by omega) (by omega) (by omega)
        · split
          · exact ((gr_cxO x hx 0 c (by omega) (by omega)).trans (gr_put _ [[109, 111, 118, 32, 114, 49, 44, 32, 114, 52], [115, 121, 115, 32, 49]] 30 2 (by decide) (by decide))).more (by omega) (by omega) (by omega)
          · split
            · exact (gr_put c [[115, 121, 115, 32, 48]] 30 1 (by decide) (by decide)).more (by omega) (by omega) (by omega)
            · split
              · exact (gr_put c [[106, 109, 112, 32, 98] ++ c.loop] 40 1 (by rw [ln_one]; simp; omega) (Nat.le_refl _)).more (by omega) (by omega) (by omega)
              · split
                · exact (gr_put c [[106, 109, 112, 32, 97] ++ c.loop] 40 1 (by rw [ln_one]; simp; omega) (Nat.le_refl _)).more (by omega) (by omega) (by omega)
                · split
                  · have h1 := gr_put c [[110, 111, 112]] 10 1 (by decide) (by decide)
                    exact (h1.trans (hb (c.put [[110, 111, 112]]) hlp (by have := h1.l; omega)).1).more (by omega) (by omega) (by omega)
                  · exact (Gr.refl c).more (by omega) (by omega) (by omega)
theorem gr_cs : ∀ (s : Sl), slK s → slN s ≤ 1000000 → ∀ (c : Cd), c.loop.length ≤ 21 → c.labels + slN s ≤ 1000000000 → Gr (400 * slN s) (20 * slN s) (slN s) c (csF s c)
  | ⟨word, v, idx, val, body, oth, rest, next⟩, hK, hn, c, hlp, hc => by
    obtain ⟨h1, h2, _, _, h5, h6, h7, h8, h9⟩ := slK_of hK
    rw [slN_eq] at hn hc ⊢
    simp only at hn hc ⊢
    have hb : ∀ c : Cd, c.loop.length ≤ 21 → c.labels + slO body ≤ 1000000000 → Gr (400 * slO body) (20 * slO body) (slO body) c (csO body c) ∧ (csO body c).loop = c.loop := fun c hl hc => ⟨by
      match body, h7, hn with
      | none, _, _ => exact Gr.refl c
      | some e, h7, hn => exact gr_cs e h7 (by have : slO (some e) = slN e := rfl; omega) c hl hc, lp_csO _ _⟩
    have hr : ∀ c : Cd, c.loop.length ≤ 21 → c.labels + slO rest ≤ 1000000000 → Gr (400 * slO rest) (20 * slO rest) (slO rest) c (csO rest c) ∧ (csO rest c).loop = c.loop := fun c hl hc => ⟨by
      match rest, h8, hn with
      | none, _, _ => exact Gr.refl c
      | some e, h8, hn => exact gr_cs e h8 (by have : slO (some e) = slN e := rfl; omega) c hl hc, lp_csO _ _⟩
    have hx : ∀ c : Cd, c.loop.length ≤ 21 → c.labels + slO next ≤ 1000000000 → Gr (400 * slO next) (20 * slO next) (slO next) c (csO next c) := fun c hl hc => by
      match next, h9, hn with
      | none, _, _ => exact Gr.refl c
      | some e, h9, hn => exact gr_cs e h9 (by have : slO (some e) = slN e := rfl; omega) c hl hc
    rw [csF_next]
    have g1 := gr_stm c word v idx val oth h1 h2 h5 h6 hb hr hlp (by omega) (by omega)
    have hl1 : (cs1 ⟨word, v, idx, val, body, oth, rest, next⟩ c).loop = c.loop := lp_cs1 _ _
    have g2 := g1.trans (hx (cs1 ⟨word, v, idx, val, body, oth, rest, next⟩ c) (by rw [hl1]; exact hlp) (by have := g1.l; show (c.stm word v idx val oth (csO body) (csO rest)).labels + _ ≤ _; omega))
    exact g2.more (by omega) (by omega) (by omega)
theorem code_ok (o : Option Sl) (h : slOK o) (hn : slO o ≤ 1000000) : (codeT o).Ok := by
  have h1 := (gr_put cd0 [[108, 105, 32, 114, 55, 44, 32, 48]] 20 1 (by decide) (by decide))
  have h2 : Gr (400 * slO o) (20 * slO o) (slO o) (cd0.put [[108, 105, 32, 114, 55, 44, 32, 48]]) (csO o (cd0.put [[108, 105, 32, 114, 55, 44, 32, 48]])) := by
    match o, h, hn with
    | none, _, _ => exact Gr.refl _
    | some s, h, hn =>
      have e : slO (some s) = slN s := rfl
      exact gr_cs s h (by omega) _ (by decide) (by have : (cd0.put [[108, 105, 32, 114, 55, 44, 32, 48]]).labels = 0 := rfl; omega)
  have h3 := (((h1.trans h2).trans (gr_put _ [[108, 105, 32, 114, 49, 44, 32, 48], [115, 121, 115, 32, 49]] 30 2 (by decide) (by decide))).trans (gr_lab _ [116, 114, 97, 112] 10 (by decide))).trans (gr_put _ [[108, 105, 32, 114, 49, 44, 32, 45, 49], [115, 121, 115, 32, 49]] 30 2 (by decide) (by decide))
  have e : codeT o = ((((csO o (cd0.put [[108, 105, 32, 114, 55, 44, 32, 48]])).put [[108, 105, 32, 114, 49, 44, 32, 48], [115, 121, 115, 32, 49]]).lab [116, 114, 97, 112]).put [[108, 105, 32, 114, 49, 44, 32, 45, 49], [115, 121, 115, 32, 49]]) := rfl
  rw [← e] at h3
  have t0 : cd0.text.length = 0 := rfl
  have w0 : cd0.words = 0 := rfl
  have l0 : cd0.labels = 0 := rfl
  exact ⟨by have := h3.t; omega, by have := h3.w; omega, by have := h3.l; omega⟩
end Go.Proofs.YtiafodeabdhcoaaGreatDoor
