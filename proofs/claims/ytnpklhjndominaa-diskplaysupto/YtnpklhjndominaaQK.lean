import Derived.Test.YtnpklhjndominaaQH
namespace Go.Proofs.Ytnpklhjndominaa
open Go.RowKit

/-- the last three of a row -/
theorem Ow.tail3 {W : World} {g K L cap : Nat} {zs ys : List Nat} (h : Ow W 0 (.slice (some ⟨g, 0, none⟩) K cap) ys) (hy : ys = zs ++ [165, 166, 167]) (hL : zs.length = L) : Rd W (.slice (some ⟨g, L, none⟩) 3 (cap - L)) [165, 166, 167] := by
  rw [← add0 g L]
  refine .inr ⟨_, _, rfl, fun j u hu => ?_⟩
  rw [Addr.add_add]
  refine World.ownsRow.cells h rfl _ _ ?_
  rw [hy, List.map_append, List.getElem?_append_right (by rw [List.length_map]; omega), List.length_map, hL]
  rw [show L + j - L = j by omega]; exact hu
set_option maxRecDepth 100000 in
set_option maxHeartbeats 6400000 in
theorem played_edit {w0 w : World} {B R n : Nat} {Rst : Asn} (hS : Sys w0 w (star (PrA B R n) Rst)) (hG : Good Rst) (hn : n ≤ 1048577) (o : Opr) (ho : OpIn w0 o) (hkd : o.kind = 8) :
    Calls Try.prog 10 #[dp B, tp R, opv o] w fun e w' => e = .returned (.bool true) ∧ Sys w0 w' (star (PrA B R (n + 1)) Rst) := by
  have hgA0 : Good (star (PrA B R n) Rst) := (good_pr B R n).star hG
  have S0 := (hS.box hgA0 o).swap
  obtain ⟨D, N, S1, hb1, hb2⟩ := S0.open
  have hgX : Good (star (BoxA w.heap.size o) Rst) := (good_box _ _).star hG
  have hOk : D.Ok := by obtain ⟨F1, h1⟩ := S1.head; exact h1.ok
  obtain ⟨ad, cd, hdd⟩ := ho.rd.len
  obtain ⟨ak, ck, hkk⟩ := ho.rb.len
  have HOk := hide hOk
  have HO := hide ho
  have HG := hide hG
  have HGX := hide hgX
  have HB := hide (And.intro hb1 hb2)
  have hNb : N ≤ 2000000 := by omega
  have hcb : D.c.length ≤ 2000000 := by omega
  have hab : D.acts < 100000000 := by omega
  obtain ⟨kind, two, sec, at', data, zs, fill, keep, ks⟩ := o
  simp only at hdd hkk S1 S0 hkd
  subst hdd hkk
  have HS0 := hide S0
  have HS1 := hide S1
  have C1 := S1.cells2
  have c0 := C1.c0
  have h2 : (kind == 2) = false := by rw [beq_eq_false_iff_ne]; rw [hkd]; decide
  have h3 : (kind == 3) = false := by rw [beq_eq_false_iff_ne]; rw [hkd]; decide
  have h5 : (kind == 5) = false := by rw [beq_eq_false_iff_ne]; rw [hkd]; decide
  have h7 : (kind == 7) = false := by rw [beq_eq_false_iff_ne]; rw [hkd]; decide
  have h8 : (kind == 8) = true := by simp [hkd]
  have c4 := C1.c4
  simp only at c0 c4
  clear hS hgA0 hOk ho hG hgX S0 S1 C1 hb1 hb2 hkd
  go_enter Try.func10, Try.ntmps10
  go_upto_region 2 with fail
  generalize w.alloc (.cells #[.int .i64 kind, .bool two, .int .i64 sec, .int .i64 at', .slice ad zs.length cd, .bool fill, .slice ak ks.length ck] 30) = w1 at *
  generalize w.heap.size = G at *
  obtain ⟨i5, hi, hz, hs, hb⟩ := info5'
  have HGD : Hid (∀ D', Good (star (DkA B D') (star (RkA R D N) (star (BoxA G ⟨kind, two, sec, at', .slice ad zs.length cd, zs, fill, .slice ak ks.length ck, ks⟩) Rst)))) := hide (fun D' => (good_dk B D').star ((good_rk R D N).star HGX.out))
  have HGR : Hid (Good (star (RkA R D N) (star (BoxA G ⟨kind, two, sec, at', .slice ad zs.length cd, zs, fill, .slice ak ks.length ck, ks⟩) Rst))) := hide ((good_rk R D N).star HGX.out)
  have HCo := hide (copied_any _ zs w1 (HS1.out.rd HO.out.rd) HO.out.zl)
  have hzl : zs.length ≤ 1048576 := HO.out.zl
  have HRd : Hid (Rd w0 (.slice ad zs.length cd) zs) := hide HO.out.rd
  obtain ⟨L, hL⟩ : ∃ L, zs.length = L := ⟨_, rfl⟩
  have HL := hide hL
  simp only [hL] at HCo c4 hzl HRd ⊢
  clear c0
  go_upto_region 37 with (go_at_call 24; refine HCo.out.mono ?_; rintro e w2 ⟨r1, rfl, hr1, hx1⟩)
  obtain ⟨a1, cp1, hrv⟩ := own_shape hr1
  rw [hL] at hrv
  subst hrv
  have HO1 : Hid (w2.ownsRow w1.heap.size 5 1 (.slice a1 L cp1) L (zs.map By)) := hide (by have := hr1; unfold Ow at this; rw [hL] at this; exact this)
  have HX1 := hide hx1
  clear hr1 hx1 hL HCo c4
  go_upto_region 38 with (at_builtin; refine wpList_append_own _ rfl _ _ 27 rfl w1.heap.size 5 i5 (.int .u8 0) 1 1 Try.underlying27 hi hz hs hb rfl (by decide) _ L (zs.map By) rfl (HO1.out.alloc _) ⟨w2.heap.size, 0, none⟩ 3 3 [.int .u8 165, .int .u8 166, .int .u8 167] rfl rfl ?c1 ?c2 ?c3 ?c4 ?c5 ?_)
  case c1 => exact cell_three_new _ _ _ _ _
  case c2 => simp [Value.oneCell']
  case c3 => unfold maxLen; omega
  case c4 => omega
  case c5 => have := HX1.out.size; simp; omega
  intro r2 w3 hown3 hg3 _
  have hb3 : Below w1.heap.size w1 w3 := below_own HX1.out HO1.out hg3 HX1.out.size
  obtain ⟨ys, hys⟩ : ∃ ys, ys = zs ++ [165, 166, 167] := ⟨_, rfl⟩
  obtain ⟨K, hK⟩ : ∃ K, K = L + 3 := ⟨_, rfl⟩
  have hyl : ys.length = K := by rw [hys, hK, List.length_append, HL.out]; rfl
  have hOw3 : Ow w3 w1.heap.size r2 ys := by
    unfold Ow
    rw [hyl, hK, hys, List.map_append]; exact hown3
  have HS3 := hide ((HS1.out.row (HGD.out D) hOw3 hb3).swap)
  obtain ⟨g, cap, hv, _, hcap, _⟩ := hOw3.some_of (by omega)
  rw [hyl] at hv hcap
  subst hv
  have hle : (L : Int) ≤ (cap : Int) := by omega
  have hle2 : (L : Int) ≤ (K : Int) := by omega
  have hle3 : (K : Int) ≤ (cap : Int) := by omega
  have hsub : K - L = 3 := by omega
  have hne : ¬ cap = L := by omega
  have HYs := hide hys
  have HYl := hide hyl
  have HKL := hide hK
  clear hown3 hg3 hys hyl hK hOw3 hcap
  go_upto_region 38 with fail
  obtain ⟨wd, hwd⟩ : ∃ W, W = w3.drew := ⟨_, rfl⟩
  have HSd := hide (HS3.out.below ((good_dk B D).star ((good_ow _ _).star HGR.out)) (w' := wd) (by rw [hwd]; exact ⟨rfl, rfl, rfl, Nat.le_refl _, fun _ _ => rfl⟩))
  obtain ⟨F, hd, _, hOw, hnF, hcl⟩ := HSd.out.callRow HGR.out
  have hcut : Rd wd (.slice (some ⟨g, 0, none⟩) L cap) zs := by
    have h1 := hOw.cut L (by rw [HYl.out]; omega)
    rw [HYs.out, List.take_left' HL.out] at h1
    exact h1.rd
  have HP := hide (edtP hd sec at' (.slice (some ⟨g, 0, none⟩) L cap) zs hcut HO.out.by8 (by rw [HL.out]; exact hzl))
  have HC := hide hcl
  have HSS : Hid (Cells7 wd G ⟨kind, two, sec, at', .slice ad zs.length cd, zs, fill, .slice ak ks.length ck, ks⟩) := hide HSd.out.cells3
  refine wp_region_held_drew (S := fun W => Cells7 W G ⟨kind, two, sec, at', .slice ad zs.length cd, zs, fill, .slice ak ks.length ck, ks⟩) (by kernel_rfl) (by rw [← hwd]; exact HSS.out) (fun _ => ?_)
  rw [← hwd]
  obtain ⟨cc, hcc⟩ : ∃ cc, (D.edt sec at' zs).1 = cc := ⟨_, rfl⟩
  rw [hcc] at HP
  have Hcc := hide hcc
  clear hwd hcc hb3 hd hOw hnF hcl hcut HO1 HX1 HS3
  refine hd_take 0 (o := ⟨some 155, _, _, _, _, _⟩) (dp B) (by kernel_rfl) (by kernel_rfl) (by kernel_rfl) rfl (by rfl) (fun W hSw => by go_simp) (fun _ _ _ h => h) HSS.out ?_
  simp only [Act.put, List.setIfInBounds_toArray, List.set_cons_zero, List.set_cons_succ]
  refine hd_take 1 (o := ⟨some 156, _, _, _, _, _⟩) (.pointer (some ⟨G, 2, none⟩)) (by kernel_rfl) (by kernel_rfl) (by kernel_rfl) rfl (by rfl) (fun W hSw => by go_simp) (fun _ _ _ h => h) HSS.out ?_
  simp only [Act.put, List.setIfInBounds_toArray, List.set_cons_zero, List.set_cons_succ]
  refine hd_take 2 (o := ⟨some 157, _, _, _, _, _⟩) (.int .i64 sec) (by kernel_rfl) (by kernel_rfl) (by kernel_rfl) rfl (by rfl) (fun W hSw => by have q0 := hSw.c0; have q1 := hSw.c1; have q2 := hSw.c2; have q3 := hSw.c3; have q4 := hSw.c4; have q5 := hSw.c5; have q6 := hSw.c6; simp only [HL.out] at q0 q1 q2 q3 q4 q5 q6; go_simp) (fun _ _ _ h => h) HSS.out ?_
  simp only [Act.put, List.setIfInBounds_toArray, List.set_cons_zero, List.set_cons_succ]
  refine hd_take 3 (o := ⟨some 158, _, _, _, _, _⟩) (.pointer (some ⟨G, 3, none⟩)) (by kernel_rfl) (by kernel_rfl) (by kernel_rfl) rfl (by rfl) (fun W hSw => by go_simp) (fun _ _ _ h => h) HSS.out ?_
  simp only [Act.put, List.setIfInBounds_toArray, List.set_cons_zero, List.set_cons_succ]
  refine hd_take 4 (o := ⟨some 159, _, _, _, _, _⟩) (.int .i64 at') (by kernel_rfl) (by kernel_rfl) (by kernel_rfl) rfl (by rfl) (fun W hSw => by have q0 := hSw.c0; have q1 := hSw.c1; have q2 := hSw.c2; have q3 := hSw.c3; have q4 := hSw.c4; have q5 := hSw.c5; have q6 := hSw.c6; simp only [HL.out] at q0 q1 q2 q3 q4 q5 q6; go_simp) (fun _ _ _ h => h) HSS.out ?_
  simp only [Act.put, List.setIfInBounds_toArray, List.set_cons_zero, List.set_cons_succ]
  refine hd_take 5 (o := ⟨some 160, _, _, _, _, _⟩) (.slice (some ⟨g, 0, none⟩) K cap) (by kernel_rfl) (by kernel_rfl) (by kernel_rfl) rfl (by rfl) (fun W hSw => by go_simp) (fun _ _ _ h => h) HSS.out ?_
  simp only [Act.put, List.setIfInBounds_toArray, List.set_cons_zero, List.set_cons_succ]
  refine hd_take 6 (o := ⟨some 161, _, _, _, _, _⟩) (.pointer (some ⟨G, 4, none⟩)) (by kernel_rfl) (by kernel_rfl) (by kernel_rfl) rfl (by rfl) (fun W hSw => by go_simp) (fun _ _ _ h => h) HSS.out ?_
  simp only [Act.put, List.setIfInBounds_toArray, List.set_cons_zero, List.set_cons_succ]
  refine hd_take 7 (o := ⟨some 162, _, _, _, _, _⟩) (.slice ad L cd) (by kernel_rfl) (by kernel_rfl) (by kernel_rfl) rfl (by rfl) (fun W hSw => by have q0 := hSw.c0; have q1 := hSw.c1; have q2 := hSw.c2; have q3 := hSw.c3; have q4 := hSw.c4; have q5 := hSw.c5; have q6 := hSw.c6; simp only [HL.out] at q0 q1 q2 q3 q4 q5 q6; go_simp) (fun _ _ _ h => h) HSS.out ?_
  simp only [Act.put, List.setIfInBounds_toArray, List.set_cons_zero, List.set_cons_succ]
  refine hd_take 8 (o := ⟨some 163, _, _, _, _, _⟩) (.int .i64 (L : Int)) (by kernel_rfl) (by kernel_rfl) (by kernel_rfl) rfl (by rfl) (fun W hSw => by go_simp) (fun _ _ _ h => h) HSS.out ?_
  simp only [Act.put, List.setIfInBounds_toArray, List.set_cons_zero, List.set_cons_succ]
  refine hd_take 9 (o := ⟨some 164, _, _, _, _, _⟩) (.slice (some ⟨g, 0, none⟩) L cap) (by kernel_rfl) (by kernel_rfl) (by kernel_rfl) rfl (by rfl) (fun W hSw => by go_simp) (fun _ _ _ h => h) HSS.out ?_
  simp only [Act.put, List.setIfInBounds_toArray, List.set_cons_zero, List.set_cons_succ]
  refine hd_call 10 (o := ⟨some 165, _, _, _, _, _⟩) (by kernel_rfl) rfl (by rfl) (fun K' hK => ?_)
  go_simp
  go_wp2_with (go_at_call 25; refine HP.out.mono ?_; rintro e1 w4 ⟨rfl, F2, hd2, hx2⟩)
  have HS4 := hide (HC.out _ _ _ hd2 hx2)
  clear hd2 hx2 HC HP
  refine hK _ _ HS4.out.cells3 ?_
  clear hK K'
  try simp only [Act.put, List.setIfInBounds_toArray, List.set_cons_zero, List.set_cons_succ]
  refine hd_call 11 (o := ⟨some 20, _, _, _, _, _⟩) (by kernel_rfl) rfl (by rfl) (fun K' hK => ?_)
  go_simp
  refine hK _ _ HS4.out.cells3 ?_
  clear hK K'
  try simp only [Act.put, List.setIfInBounds_toArray, List.set_cons_zero, List.set_cons_succ]
  refine wpAnyH_done (by kernel_rfl) ?_ _
  go_upto_region 39 with fail
  obtain ⟨we, hwe⟩ : ∃ W, W = w4.drew := ⟨_, rfl⟩
  have HSe := hide (HS4.out.below ((good_dk B (D.edt sec at' zs).2).star ((good_ow _ _).star HGR.out)) (w' := we) (by rw [hwe]; exact ⟨rfl, rfl, rfl, Nat.le_refl _, fun _ _ => rfl⟩))
  have HSS2 : Hid (Cells7 we G ⟨kind, two, sec, at', .slice ad zs.length cd, zs, fill, .slice ak ks.length ck, ks⟩) := hide HSe.out.cells3
  obtain ⟨F5, hO5⟩ := HSe.out.swap.head
  have hcut5 : Rd we (.slice (some ⟨g, 0, none⟩) L cap) zs := by
    have h1 := hO5.1.cut L (by rw [HYl.out]; omega)
    rw [HYs.out, List.take_left' HL.out] at h1
    exact h1.rd
  have HE1 := hide (same_eq (.slice (some ⟨g, 0, none⟩) L cap) (.slice ad L cd) zs we hcut5 (HSe.out.rd HRd.out))
  have htl := hO5.1.tail3 HYs.out HL.out
  have hba := (Below.refl we.heap.size we).alloc (Nat.le_refl _) (.cells #[.int .u8 165, .int .u8 166, .int .u8 167] 5)
  have HE2 := hide (same_eq (.slice (some ⟨g, L, none⟩) 3 (cap - L)) (.slice (some ⟨we.heap.size, 0, none⟩) 3 3) [165, 166, 167] (we.alloc (.cells #[.int .u8 165, .int .u8 166, .int .u8 167] 5)) (htl.below hba (Nat.le_refl _)) (.inr ⟨⟨we.heap.size, 0, none⟩, 3, rfl, fun j u hu => cell_three_new we 5 _ _ _ j u hu⟩))
  have HSf := hide (HSe.out.below ((good_dk B (D.edt sec at' zs).2).star ((good_ow _ _).star HGR.out)) hba)
  have HSS3 : Hid (Cells7 (we.alloc (.cells #[.int .u8 165, .int .u8 166, .int .u8 167] 5)) G ⟨kind, two, sec, at', .slice ad zs.length cd, zs, fill, .slice ak ks.length ck, ks⟩) := hide HSf.out.cells3
  refine wp_region_held_drew (S := fun W => Cells7 W G ⟨kind, two, sec, at', .slice ad zs.length cd, zs, fill, .slice ak ks.length ck, ks⟩) (by kernel_rfl) (by rw [← hwe]; exact HSS2.out) (fun _ => ?_)
  rw [← hwe]
  clear hwe hO5 hcut5 htl hba HSd HSS HS4
  refine hd_take 0 (o := ⟨some 166, _, _, _, _, _⟩) (.slice (some ⟨g, 0, none⟩) K cap) (by kernel_rfl) (by kernel_rfl) (by kernel_rfl) rfl (by rfl) (fun W hSw => by go_simp) (fun _ _ _ h => h) HSS2.out ?_
  simp only [Act.put, List.setIfInBounds_toArray, List.set_cons_zero, List.set_cons_succ]
  refine hd_take 1 (o := ⟨some 167, _, _, _, _, _⟩) (.pointer (some ⟨G, 4, none⟩)) (by kernel_rfl) (by kernel_rfl) (by kernel_rfl) rfl (by rfl) (fun W hSw => by go_simp) (fun _ _ _ h => h) HSS2.out ?_
  simp only [Act.put, List.setIfInBounds_toArray, List.set_cons_zero, List.set_cons_succ]
  refine hd_take 2 (o := ⟨some 168, _, _, _, _, _⟩) (.slice ad L cd) (by kernel_rfl) (by kernel_rfl) (by kernel_rfl) rfl (by rfl) (fun W hSw => by have q0 := hSw.c0; have q1 := hSw.c1; have q2 := hSw.c2; have q3 := hSw.c3; have q4 := hSw.c4; have q5 := hSw.c5; have q6 := hSw.c6; simp only [HL.out] at q0 q1 q2 q3 q4 q5 q6; go_simp) (fun _ _ _ h => h) HSS2.out ?_
  simp only [Act.put, List.setIfInBounds_toArray, List.set_cons_zero, List.set_cons_succ]
  refine hd_take 3 (o := ⟨some 169, _, _, _, _, _⟩) (.int .i64 (L : Int)) (by kernel_rfl) (by kernel_rfl) (by kernel_rfl) rfl (by rfl) (fun W hSw => by go_simp) (fun _ _ _ h => h) HSS2.out ?_
  simp only [Act.put, List.setIfInBounds_toArray, List.set_cons_zero, List.set_cons_succ]
  refine hd_take 4 (o := ⟨some 170, _, _, _, _, _⟩) (.slice (some ⟨g, 0, none⟩) L cap) (by kernel_rfl) (by kernel_rfl) (by kernel_rfl) rfl (by rfl) (fun W hSw => by go_simp) (fun _ _ _ h => h) HSS2.out ?_
  simp only [Act.put, List.setIfInBounds_toArray, List.set_cons_zero, List.set_cons_succ]
  refine hd_take 5 (o := ⟨some 171, _, _, _, _, _⟩) (.pointer (some ⟨G, 4, none⟩)) (by kernel_rfl) (by kernel_rfl) (by kernel_rfl) rfl (by rfl) (fun W hSw => by go_simp) (fun _ _ _ h => h) HSS2.out ?_
  simp only [Act.put, List.setIfInBounds_toArray, List.set_cons_zero, List.set_cons_succ]
  refine hd_take 6 (o := ⟨some 172, _, _, _, _, _⟩) (.slice ad L cd) (by kernel_rfl) (by kernel_rfl) (by kernel_rfl) rfl (by rfl) (fun W hSw => by have q0 := hSw.c0; have q1 := hSw.c1; have q2 := hSw.c2; have q3 := hSw.c3; have q4 := hSw.c4; have q5 := hSw.c5; have q6 := hSw.c6; simp only [HL.out] at q0 q1 q2 q3 q4 q5 q6; go_simp) (fun _ _ _ h => h) HSS2.out ?_
  simp only [Act.put, List.setIfInBounds_toArray, List.set_cons_zero, List.set_cons_succ]
  refine hd_call 7 (o := ⟨some 173, _, _, _, _, _⟩) (by kernel_rfl) rfl (by rfl) (fun K' hK => ?_)
  go_simp
  go_wp2_with (go_at_call 15; refine HE1.out.mono ?_; rintro e1 w5 ⟨rfl, rfl⟩)
  refine hK _ _ HSS2.out ?_
  clear hK K'
  try simp only [Act.put, List.setIfInBounds_toArray, List.set_cons_zero, List.set_cons_succ]
  refine hd_call 8 (o := ⟨some 174, _, _, _, _, _⟩) (by kernel_rfl) rfl (by rfl) (fun K' hK => ?_)
  go_simp
  refine hK _ _ HSS2.out ?_
  clear hK K'
  try simp only [Act.put, List.setIfInBounds_toArray, List.set_cons_zero, List.set_cons_succ]
  refine hd_call 9 (o := ⟨some 175, _, _, _, _, _⟩) (by kernel_rfl) rfl (by rfl) (fun K' hK => ?_)
  go_simp
  refine hK _ _ HSS2.out ?_
  clear hK K'
  try simp only [Act.put, List.setIfInBounds_toArray, List.set_cons_zero, List.set_cons_succ]
  refine hd_take 10 (o := ⟨some 176, _, _, _, _, _⟩) (.slice (some ⟨g, 0, none⟩) K cap) (by kernel_rfl) (by kernel_rfl) (by kernel_rfl) rfl (by rfl) (fun W hSw => by go_simp) (fun _ _ _ h => h) HSS2.out ?_
  simp only [Act.put, List.setIfInBounds_toArray, List.set_cons_zero, List.set_cons_succ]
  refine hd_take 11 (o := ⟨some 177, _, _, _, _, _⟩) (.pointer (some ⟨G, 4, none⟩)) (by kernel_rfl) (by kernel_rfl) (by kernel_rfl) rfl (by rfl) (fun W hSw => by go_simp) (fun _ _ _ h => h) HSS2.out ?_
  simp only [Act.put, List.setIfInBounds_toArray, List.set_cons_zero, List.set_cons_succ]
  refine hd_take 12 (o := ⟨some 178, _, _, _, _, _⟩) (.slice ad L cd) (by kernel_rfl) (by kernel_rfl) (by kernel_rfl) rfl (by rfl) (fun W hSw => by have q0 := hSw.c0; have q1 := hSw.c1; have q2 := hSw.c2; have q3 := hSw.c3; have q4 := hSw.c4; have q5 := hSw.c5; have q6 := hSw.c6; simp only [HL.out] at q0 q1 q2 q3 q4 q5 q6; go_simp) (fun _ _ _ h => h) HSS2.out ?_
  simp only [Act.put, List.setIfInBounds_toArray, List.set_cons_zero, List.set_cons_succ]
  refine hd_take 13 (o := ⟨some 179, _, _, _, _, _⟩) (.int .i64 (L : Int)) (by kernel_rfl) (by kernel_rfl) (by kernel_rfl) rfl (by rfl) (fun W hSw => by go_simp) (fun _ _ _ h => h) HSS2.out ?_
  simp only [Act.put, List.setIfInBounds_toArray, List.set_cons_zero, List.set_cons_succ]
  refine hd_take 14 (o := ⟨some 180, _, _, _, _, _⟩) (.slice (some ⟨g, L, none⟩) 3 (cap - L)) (by kernel_rfl) (by kernel_rfl) (by kernel_rfl) rfl (by rfl) (fun W hSw => by go_simp) (fun _ _ _ h => h) HSS2.out ?_
  simp only [Act.put, List.setIfInBounds_toArray, List.set_cons_zero, List.set_cons_succ]
  refine hd_call 15 (o := ⟨some 181, _, _, _, _, _⟩) (by kernel_rfl) rfl (by rfl) (fun K' hK => ?_)
  go_simp
  refine hK _ _ HSS3.out ?_
  clear hK K'
  try simp only [Act.put, List.setIfInBounds_toArray, List.set_cons_zero, List.set_cons_succ]
  refine hd_call 16 (o := ⟨some 182, _, _, _, _, _⟩) (by kernel_rfl) rfl (by rfl) (fun K' hK => ?_)
  go_simp
  go_wp2_with (go_at_call 15; refine HE2.out.mono ?_; rintro e1 w6 ⟨rfl, rfl⟩)
  refine hK _ _ HSS3.out ?_
  clear hK K'
  try simp only [Act.put, List.setIfInBounds_toArray, List.set_cons_zero, List.set_cons_succ]
  refine hd_call 17 (o := ⟨some 183, _, _, _, _, _⟩) (by kernel_rfl) rfl (by rfl) (fun K' hK => ?_)
  go_simp
  refine hK _ _ HSS3.out ?_
  clear hK K'
  try simp only [Act.put, List.setIfInBounds_toArray, List.set_cons_zero, List.set_cons_succ]
  refine hd_call 18 (o := ⟨some 184, _, _, _, _, _⟩) (by kernel_rfl) rfl (by rfl) (fun K' hK => ?_)
  go_simp
  refine hK _ _ HSS3.out ?_
  clear hK K'
  try simp only [Act.put, List.setIfInBounds_toArray, List.set_cons_zero, List.set_cons_succ]
  refine wpAnyH_done (by kernel_rfl) ?_ _
  have HS6 : Hid (Sys w0 (w5.alloc (.cells #[.int .u8 165, .int .u8 166, .int .u8 167] 5)) (star (AnyR (.slice (some ⟨g, 0, none⟩) K cap) K) (star (DkA B (D.edt sec at' zs).2) (star (RkA R D N) (star (BoxA G ⟨kind, two, sec, at', .slice ad zs.length cd, zs, fill, .slice ak ks.length ck, ks⟩) Rst))))) := hide (HSf.out.swap.mono (fun W H h => star_fst2 (fun W H h => by rw [← HYl.out]; rw [← HYl.out] at h; exact anyR_of h) h))
  have hKb : K ≤ 1048579 := by have := HKL.out; omega
  clear HSf HSS2 HSS3 HE1 HE2 HSe
  generalize w5.alloc (.cells #[.int .u8 165, .int .u8 166, .int .u8 167] 5) = w6 at *
  go_wp2
  go_loopw [21] (fun y wx => ∃ j : Nat, j ≤ K ∧ y = .int .i64 (j : Int) ∧ Hid (Sys w0 wx (star (AnyR (.slice (some ⟨g, 0, none⟩) K cap) K) (star (DkA B (D.edt sec at' zs).2) (star (RkA R D N) (star (BoxA G ⟨kind, two, sec, at', .slice ad zs.length cd, zs, fill, .slice ak ks.length ck, ks⟩) Rst)))))) (fun y _ => K - (intOf y).toNat)
  case atStart => exact ⟨0, by omega, rfl, HS6⟩
  case round =>
  clear HS6
  obtain ⟨j, hj, rfl, JS⟩ := hrel
  by_cases hlt : j < K
  · have hd : decide ((j : Int) < (K : Int)) = true := by simp; omega
    have hji : (j : Int) < (K : Int) := by omega
    obtain ⟨F6, h6⟩ := JS.out.head
    obtain ⟨g', cap', z, hv, e1, f1⟩ := h6.cell hlt
    cases hv
    have HNx : Hid (∀ z' : Int, Sys w0 (wr.setCell ⟨g, j, none⟩ (.int .u8 z')) (star (AnyR (.slice (some ⟨g, 0, none⟩) K cap) K) (star (DkA B (D.edt sec at' zs).2) (star (RkA R D N) (star (BoxA G ⟨kind, two, sec, at', .slice ad zs.length cd, zs, fill, .slice ak ks.length ck, ks⟩) Rst))))) := hide (fun z' => JS.out.cellSet (HGD.out _) (fun H h => h.set))
    clear h6 JS
    go_wp2
    go_roundw
    case rel => first | exact ⟨j + 1, by omega, by go_num, HNx.out _⟩ | ((repeat apply Exists.intro); refine ⟨?_, rfl⟩; exact ⟨j + 1, by omega, by go_num, HNx.out _⟩)
    case measure => simp [intOf]; omega
  · obtain rfl : j = K := by omega
    have hd : decide ((j : Int) < (j : Int)) = false := by simp
    have HSx := hide JS.out.drop.swap
    have hcs := HSx.out.cells2
    have c2 := hcs.c2
    have c3 := hcs.c3
    have c4 := hcs.c4
    simp only [HL.out] at c2 c3 c4
    obtain ⟨F7, hrk, hF7, hcl⟩ := HSx.out.call ((good_dk B (D.edt sec at' zs).2).star HGX.out)
    have hR0 := edtR hrk (by omega) sec at' HO.out.a1 (.slice ad zs.length cd) zs (HSx.out.rd HO.out.rd) HO.out.by8
    rw [Hcc.out, HL.out] at hR0
    have HR := hide hR0
    have HC7 := hide hcl
    clear JS hcs hrk hF7 hcl hR0 HRd
    go_wp2_with fail
    refine HR.out.mono ?_
    rintro e w7 ⟨rfl, F8, N', hr8, hx8, hnn⟩
    have HEnd := hide ((HC7.out _ _ _ hr8 hx8).swap.fin (D.near_edt sec at' zs) HB.out.1 HB.out.2 hnn)
    clear hr8 hx8 hnn HR HC7 c2 c3 c4
    go_wp2
    go_ret
    exact ⟨rfl, HEnd.out⟩
end Go.Proofs.Ytnpklhjndominaa
