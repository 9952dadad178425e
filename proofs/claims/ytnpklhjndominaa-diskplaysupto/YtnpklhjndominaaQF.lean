import Derived.Test.YtnpklhjndominaaQE
namespace Go.Proofs.Ytnpklhjndominaa
open Go.RowKit

set_option maxRecDepth 100000 in
set_option maxHeartbeats 6400000 in
theorem asked_any {w0 w : World} {B R n : Nat} {Rst : Asn} (hS : Sys w0 w (star (PrA B R n) Rst)) (hG : Good Rst) (hn : n ≤ 1048580) (o : Opr) (ho : OpIn w0 o) :
    Calls Try.prog 27 #[dp B, tp R, opv o] w fun e w' => e = .returned (.bool true) ∧ Sys w0 w' (star (PrA B R n) Rst) := by
  obtain ⟨D, N, hS, hb1, hb2⟩ := hS.open
  have hgA : Good (star (DkA B D) (star (RkA R D N) Rst)) := (good_dk B D).star ((good_rk R D N).star hG)
  have hOk : D.Ok := by obtain ⟨F1, h1⟩ := hS.head; exact h1.ok
  have S1 := hS.box hgA o
  have hgB : Good (star (BoxA w.heap.size o) (star (DkA B D) (star (RkA R D N) Rst))) := (good_box _ _).star hgA
  obtain ⟨ad, cd, hdd⟩ := ho.rd.len
  obtain ⟨ak, ck, hkk⟩ := ho.rb.len
  have HFin : Hid (∀ W, Sys w0 W (star (BoxA w.heap.size o) (star (DkA B D) (star (RkA R D N) Rst))) → Sys w0 W (star (PrA B R n) Rst)) := hide (fun W h => h.drop.shut hb1 hb2)
  have HOk := hide hOk
  have HO := hide ho
  have HGB := hide hgB
  have hNb : N ≤ 2000000 := by omega
  have hcb : D.c.length ≤ 2000000 := by omega
  obtain ⟨kind, two, sec, at', data, zs, fill, keep, ks⟩ := o
  simp only at hdd hkk S1
  subst hdd hkk
  have HS1 := hide S1
  have C1 := S1.cells
  have c0 := C1.c0
  have c2 := C1.c2
  have c4 := C1.c4
  simp only at c0 c2 c4
  clear hS hgA hOk ho hgB hG S1 C1 hb1 hb2
  go_enter Try.func27, Try.ntmps27
  go_upto_region 2 with fail
  generalize w.alloc (.cells #[.int .i64 kind, .bool two, .int .i64 sec, .int .i64 at', .slice ad zs.length cd, .bool fill, .slice ak ks.length ck] 30) = w1 at *
  generalize w.heap.size = G at *
  by_cases k1 : kind = 1
  · have h1 : (kind == 1) = true := by simp [k1]
    clear k1
    obtain ⟨F1, hd⟩ := HS1.out.drop.head
    have HP := hide (rddP hd sec)
    clear hd
    go_wp2_with fail
    refine HP.out.mono ?_
    rintro e w2 ⟨r1, rfl, hr1, hx1⟩
    have HS2 := hide (HS1.out.below HGB.out hx1)
    obtain ⟨F2, hd2⟩ := HS2.out.drop.drop.head
    have HR := hide (rddR hd2 HOk.out (by omega) (by omega) sec)
    have c2' := HS2.out.cells.c2
    simp only at c2'
    have HO1 := hide hr1
    have HX1 := hide hx1
    clear hd2 HP hr1 hx1 c0 c2 c4
    go_wp2_with fail
    refine HR.out.mono ?_
    rintro e w3 ⟨r2, rfl, hr2, hx2⟩
    have HS3 := hide (HS2.out.below HGB.out hx2)
    have HE := hide (same_eq r1 r2 (D.rdd sec).2 w3 (HO1.out.rd.below hx2 (Nat.le_refl _)) hr2.rd)
    clear hr2 hx2 HR c2'
    generalize (D.rdd sec).1 = cc at *
    go_wp2_with fail
    refine HE.out.mono ?_
    rintro e w4 ⟨rfl, rfl⟩
    go_wp2
    go_ret
    exact ⟨rfl, HFin.out _ HS3.out⟩
  have h1 : (kind == 1) = false := by rw [beq_eq_false_iff_ne]; exact k1
  clear k1
  by_cases k9 : kind = 9
  · have h9 : (kind == 9) = true := by simp [k9]
    clear k9
    obtain ⟨F1, hd⟩ := HS1.out.drop.head
    have HP := hide (rwwP hd sec)
    clear hd
    go_wp2_with fail
    refine HP.out.mono ?_
    rintro e w2 ⟨r1, rfl, hr1, hx1⟩
    have HS2 := hide (HS1.out.below HGB.out hx1)
    obtain ⟨F2, hd2⟩ := HS2.out.drop.drop.head
    have HR := hide (rwwR hd2 (by omega) sec)
    have c2' := HS2.out.cells.c2
    simp only at c2'
    have HO1 := hide hr1
    have HX1 := hide hx1
    clear hd2 HP hr1 hx1 c0 c2 c4
    go_wp2_with fail
    refine HR.out.mono ?_
    rintro e w3 ⟨r2, rfl, hr2, hx2⟩
    have HS3 := hide (HS2.out.below HGB.out hx2)
    have HE := hide (same_eq r1 r2 (D.rww sec).2 w3 (HO1.out.rd.below hx2 (Nat.le_refl _)) hr2.rd)
    clear hr2 hx2 HR c2'
    generalize (D.rww sec).1 = cc at *
    go_wp2_with fail
    refine HE.out.mono ?_
    rintro e w4 ⟨rfl, rfl⟩
    go_wp2
    go_ret
    exact ⟨rfl, HFin.out _ HS3.out⟩
  have h9 : (kind == 9) = false := by rw [beq_eq_false_iff_ne]; exact k9
  clear k9
  by_cases k4 : kind = 4
  · have h4 : (kind == 4) = true := by simp [k4]
    clear k4
    obtain ⟨F1, hd⟩ := HS1.out.drop.head
    have HP := hide (pending_any hd (by omega))
    clear hd
    go_wp2_with fail
    refine HP.out.mono ?_
    rintro e w2 ⟨r1, rfl, hr1, hx1⟩
    have HS2 := hide (HS1.out.below HGB.out hx1)
    obtain ⟨F2, hd2⟩ := HS2.out.drop.drop.head
    have HR := hide (pendingR_any hd2 (by omega))
    have HO1 := hide hr1
    clear hd2 HP hr1 hx1 c0 c2 c4
    go_wp2_with fail
    refine HR.out.mono ?_
    rintro e w3 ⟨r2, rfl, hr2, hx2⟩
    have HS3 := hide (HS2.out.below HGB.out hx2)
    have HE := hide (sameInts_eq r1 r2 (D.c.map (·.1)) w3 (HO1.out.below hx2).rdi hr2.rdi (by rw [List.length_map]; omega))
    clear hr2 hx2 HR
    go_wp2_with fail
    refine HE.out.mono ?_
    rintro e w4 ⟨rfl, hx4⟩
    have HS4 := hide (HS3.out.below HGB.out hx4)
    clear hx4
    go_wp2
    go_ret
    exact ⟨rfl, HFin.out _ HS4.out⟩
  have h4 : (kind == 4) = false := by rw [beq_eq_false_iff_ne]; exact k4
  clear k4
  by_cases k6 : kind = 6
  · have h6 : (kind == 6) = true := by simp [k6]
    clear k6
    obtain ⟨F1, hd⟩ := HS1.out.drop.head
    have HP := hide (down_any hd)
    obtain ⟨F2, hd2⟩ := HS1.out.drop.drop.head
    have HR := hide (downR_any hd2)
    generalize D.down = dv at HP HR
    clear hd hd2
    go_wp2_with fail
    refine HP.out.mono ?_
    rintro e w2 ⟨rfl, rfl⟩
    go_wp2_with fail
    refine HR.out.mono ?_
    rintro e w3 ⟨rfl, rfl⟩
    go_wp2
    go_ret
    exact ⟨rfl, HFin.out _ HS1.out⟩
  have h6 : (kind == 6) = false := by rw [beq_eq_false_iff_ne]; exact k6
  clear k6
  by_cases k10 : kind = 10
  · have h10 : (kind == 10) = true := by simp [k10]
    clear k10
    obtain ⟨F1, hd⟩ := HS1.out.drop.head
    have HP := hide (acts_any hd)
    obtain ⟨F2, hd2⟩ := HS1.out.drop.drop.head
    have HR := hide (actsR_any hd2)
    generalize D.acts = dv at HP HR
    clear hd hd2
    go_wp2_with fail
    refine HP.out.mono ?_
    rintro e w2 ⟨rfl, rfl⟩
    go_wp2_with fail
    refine HR.out.mono ?_
    rintro e w3 ⟨rfl, rfl⟩
    go_wp2
    go_ret
    exact ⟨rfl, HFin.out _ HS1.out⟩
  have h10 : (kind == 10) = false := by rw [beq_eq_false_iff_ne]; exact k10
  clear k10
  by_cases k12 : kind = 12
  · have h12 : (kind == 12) = true := by simp [k12]
    clear k12
    obtain ⟨F1, hd⟩ := HS1.out.drop.head
    have HP := hide (medium_any hd)
    clear hd
    go_wp2_with fail
    refine HP.out.mono ?_
    rintro e w2 ⟨r1, cur1, rfl, hr1, hm1, hx1⟩
    have HS2 := hide (HS1.out.below HGB.out hx1)
    have HO1 := hide (ow_flt hr1 hm1 HOk.out.m)
    obtain ⟨F2, hd2⟩ := HS2.out.drop.drop.head
    have HR := hide (mediumR_any hd2 (by omega))
    clear hd2 HP hr1 hx1 hm1 c0 c2 c4
    go_wp2_with fail
    refine HR.out.mono ?_
    rintro e w3 ⟨r2, cur2, rfl, hr2, hm2, hx2⟩
    have HS3 := hide (HS2.out.below HGB.out hx2)
    have HE := hide (same_eq r1 r2 (flt D.M 1024) w3 (HO1.out.rd.below hx2 (Nat.le_refl _)) (ow_flt hr2 hm2 HOk.out.m).rd)
    clear hr2 hx2 hm2 HR
    go_wp2_with fail
    refine HE.out.mono ?_
    rintro e w4 ⟨rfl, rfl⟩
    go_wp2
    go_ret
    exact ⟨rfl, HFin.out _ HS3.out⟩
  have h12 : (kind == 12) = false := by rw [beq_eq_false_iff_ne]; exact k12
  clear k12
  by_cases k14 : kind = 14
  · have h14 : (kind == 14) = true := by simp [k14]
    clear k14
    have hzl : zs.length ≤ 1048576 := HO.out.zl
    have HP := hide (copied_any _ zs w1 (HS1.out.rd HO.out.rd) hzl)
    simp only at HP
    obtain ⟨m, hm⟩ : ∃ m, zs.length = m := ⟨_, rfl⟩
    have Hm := hide hm
    simp only [hm] at HP HS1 HGB HFin c4 ⊢
    clear hm
    go_wp2_with fail
    refine HP.out.mono ?_
    rintro e w2 ⟨r1, rfl, hr1, hx1⟩
    have HS2 := hide (HS1.out.below HGB.out hx1)
    have HX1 := hide hx1
    by_cases hsz : m = 131072
    · have H1 := hide (of_row hr1 (by rw [Hm.out]; exact hsz) HO.out.by8)
      clear hr1 hx1 HP c0 c2 c4
      go_wp2_with fail
      refine H1.out.mono ?_
      rintro e w3 ⟨rfl, _, hx2⟩
      have HS3 := hide (HS2.out.below HGB.out hx2)
      have H2 := hide (ofR_rd (HS3.out.rd HO.out.rd) (by rw [Hm.out]; exact hsz) HO.out.by8 HO.out.ft)
      simp only [Hm.out] at H2
      have c4' := HS3.out.cells.c4
      simp only at c4'
      clear hx2 H1 hsz
      go_wp2_with fail
      refine H2.out.mono ?_
      rintro e w4 ⟨rfl, F4, _, _, hx4⟩
      have HS4 := hide (HS3.out.below HGB.out hx4)
      clear hx4 H2 c4'
      go_wp2
      go_ret
      exact ⟨rfl, HFin.out _ HS4.out⟩
    · obtain ⟨a1, c1, hr1v⟩ := hr1.len
      rw [Hm.out] at hr1v
      subst hr1v
      have H1 := hide (of_size m c1 a1 w2 hsz)
      have H2 := hide (ofR_size m cd ad w2 hsz)
      have c4' := HS2.out.cells.c4
      simp only at c4'
      clear hr1 hx1 HP c0 c2 c4 hsz
      go_wp2_with fail
      refine H1.out.mono ?_
      rintro e w3 ⟨rfl, rfl⟩
      go_wp2_with fail
      refine H2.out.mono ?_
      rintro e w4 ⟨rfl, rfl⟩
      go_wp2
      go_ret
      exact ⟨rfl, HFin.out _ HS2.out⟩
  have h14 : (kind == 14) = false := by rw [beq_eq_false_iff_ne]; exact k14
  clear k14
  go_wp2
  go_ret
  exact ⟨rfl, HFin.out _ HS1.out⟩
end Go.Proofs.Ytnpklhjndominaa
