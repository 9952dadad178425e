import Derived.Test.YtnpklhjndominaaQH
namespace Go.Proofs.Ytnpklhjndominaa
open Go.RowKit

set_option maxRecDepth 100000 in
set_option maxHeartbeats 6400000 in
theorem played_write {w0 w : World} {B R n : Nat} {Rst : Asn} (hS : Sys w0 w (star (PrA B R n) Rst)) (hG : Good Rst) (hn : n ≤ 1048577) (o : Opr) (ho : OpIn w0 o) (hkd : o.kind = 2) :
    Calls Try.prog 10 #[dp B, tp R, opv o] w fun e w' => e = .returned (.bool true) ∧ Sys w0 w' (star (PrA B R (n + 1)) Rst) := by
  have hgA0 : Good (star (PrA B R n) Rst) := (good_pr B R n).star hG
  have S0 := (hS.box hgA0 o).swap
  obtain ⟨D, N, S1, hb1, hb2⟩ := S0.open
  have hgX : Good (star (BoxA w.heap.size o) Rst) := (good_box _ _).star hG
  have hOk : D.Ok := by obtain ⟨F1, h1⟩ := S1.head; exact h1.ok
  obtain ⟨ad, cd, hdd⟩ := ho.rd.len
  obtain ⟨ak, ck, hkk⟩ := ho.rb.len
  have HOk := hide hOk
  have HO := hide ho
  have HG := hide hG
  have HGX := hide hgX
  have HB := hide (And.intro hb1 hb2)
  have hNb : N ≤ 2000000 := by omega
  have hcb : D.c.length ≤ 2000000 := by omega
  have hab : D.acts < 100000000 := by omega
  obtain ⟨bs, hbs⟩ : ∃ bs, o.bytes = bs := ⟨_, rfl⟩
  have HB8 : Hid (∀ z ∈ bs, z < 256) := hide (by rw [← hbs]; exact o.bytes_lt ho.by8)
  have HBl : Hid (bs.length ≤ 1048576) := hide (by
    rw [← hbs]; unfold Opr.bytes; split
    · rw [(fl_sec ho.by8).1]; omega
    · exact ho.zl)
  have HH : Hid (∀ (W : World) (A : Asn), Sys w0 W A → Calls Try.prog 13 #[opv o] W fun e w' => ∃ r, e = .returned r ∧ Ow w' W.heap.size r bs ∧ Below W.heap.size W w') := hide (fun W A hs => by rw [← hbs]; exact handed_any o W (hs.rd ho.rd) (hs.rb ho.rb) ho.zl)
  clear hbs
  obtain ⟨kind, two, sec, at', data, zs, fill, keep, ks⟩ := o
  simp only at hdd hkk S1 S0 hkd
  subst hdd hkk
  have HS0 := hide S0
  have HS1 := hide S1
  have C1 := S1.cells2
  have c0 := C1.c0
  have h2 : (kind == 2) = true := by simp [hkd]
  have c1 := C1.c1
  have c2 := C1.c2
  have c3 := C1.c3
  have c4 := C1.c4
  have c5 := C1.c5
  have c6 := C1.c6
  simp only at c0 c1 c2 c3 c4 c5 c6
  clear hS hgA0 hOk ho hG hgX S0 S1 C1 hb1 hb2 hkd
  go_enter Try.func10, Try.ntmps10
  go_upto_region 2 with fail
  generalize w.alloc (.cells #[.int .i64 kind, .bool two, .int .i64 sec, .int .i64 at', .slice ad zs.length cd, .bool fill, .slice ak ks.length ck] 30) = w1 at *
  generalize w.heap.size = G at *
  have HGD : Hid (∀ D', Good (star (DkA B D') (star (RkA R D N) (star (BoxA G ⟨kind, two, sec, at', .slice ad zs.length cd, zs, fill, .slice ak ks.length ck, ks⟩) Rst)))) := hide (fun D' => (good_dk B D').star ((good_rk R D N).star HGX.out))
  have HGR : Hid (Good (star (RkA R D N) (star (BoxA G ⟨kind, two, sec, at', .slice ad zs.length cd, zs, fill, .slice ak ks.length ck, ks⟩) Rst))) := hide ((good_rk R D N).star HGX.out)
  go_wp2_with fail
  refine (HH.out _ _ HS1.out).mono ?_
  rintro e w2 ⟨r1, rfl, hr1, hx1⟩
  have HS2 := hide (HS1.out.row (HGD.out D) hr1 hx1)
  obtain ⟨F, hd, _, hOw, hnF, hcl⟩ := HS2.out.swap.callRow HGR.out
  have HP := hide (wrtP hd hab (by omega) sec r1 bs hOw.rd HB8.out hnF)
  have HC := hide hcl
  have c2' := HS2.out.drop.cells2.c2
  simp only at c2'
  clear hr1 hx1 hd hOw hnF hcl c0 c1 c2 c3 c4 c5 c6
  go_wp2_with fail
  refine HP.out.mono ?_
  rintro e w3 ⟨rfl, F2, hd2, hx2⟩
  have HS3 := hide (HC.out _ _ _ hd2 hx2)
  obtain ⟨c0, c1, c2, c3, c4, c5, c6⟩ := HS3.out.cells3
  simp only at c0 c1 c2 c3 c4 c5 c6
  clear hd2 hx2 HC HP c2'
  go_wp2_with fail
  refine (HH.out _ _ HS3.out).mono ?_
  rintro e w4 ⟨r2, rfl, hr2, hx4⟩
  have HS4 := hide (HS3.out.below ((good_dk B (D.wrt sec bs).2).star ((good_ow r1 bs).star HGR.out)) hx4)
  have HE := hide (same_eq r1 r2 bs w4 (by obtain ⟨F5, h5⟩ := HS4.out.swap.head; exact h5.1.rd) hr2.rd)
  obtain ⟨L, hL⟩ : ∃ L, bs.length = L := ⟨_, rfl⟩
  have hLb : L ≤ 1048576 := by rw [← hL]; exact HBl.out
  obtain ⟨a1, cc1, hr1v⟩ : ∃ a c, r1 = .slice a L c := by obtain ⟨F5, h5⟩ := HS4.out.swap.head; obtain ⟨a, c, h6⟩ := own_shape h5.1; rw [hL] at h6; exact ⟨a, c, h6⟩
  have HS5 : Hid (Sys w0 w4 (star (AnyR r1 L) (star (DkA B (D.wrt sec bs).2) (star (RkA R D N) (star (BoxA G ⟨kind, two, sec, at', .slice ad zs.length cd, zs, fill, .slice ak ks.length ck, ks⟩) Rst))))) := hide (HS4.out.swap.mono (fun W H h => star_fst2 (fun W H h => by rw [← hL]; exact anyR_of h) h))
  subst hr1v
  clear hr2 hx4 hL c0 c1 c2 c3 c4 c5 c6
  obtain ⟨cc, hcc⟩ : ∃ cc, (D.wrt sec bs).1 = cc := ⟨_, rfl⟩
  rw [hcc]
  have Hcc := hide hcc
  clear hcc
  go_wp2_with fail
  refine HE.out.mono ?_
  rintro e w5 ⟨rfl, rfl⟩
  clear HE
  go_wp2
  go_loopw [9] (fun y wx => ∃ j : Nat, j ≤ L ∧ y = .int .i64 (j : Int) ∧ Hid (Sys w0 wx (star (AnyR (.slice a1 L cc1) L) (star (DkA B (D.wrt sec bs).2) (star (RkA R D N) (star (BoxA G ⟨kind, two, sec, at', .slice ad zs.length cd, zs, fill, .slice ak ks.length ck, ks⟩) Rst)))))) (fun y _ => L - (intOf y).toNat)
  case atStart => exact ⟨0, by omega, rfl, HS5⟩
  case round =>
  clear HS5
  obtain ⟨j, hj, rfl, JS⟩ := hrel
  by_cases hlt : j < L
  · have hd : decide ((j : Int) < (L : Int)) = true := by simp; omega
    have hji : (j : Int) < (L : Int) := by omega
    obtain ⟨F6, h6⟩ := JS.out.head
    obtain ⟨g, cap, z, hv, e1, f1⟩ := h6.cell hlt
    cases hv
    have HNx : Hid (∀ z' : Int, Sys w0 (wr.setCell ⟨g, j, none⟩ (.int .u8 z')) (star (AnyR (.slice (some ⟨g, 0, none⟩) L cc1) L) (star (DkA B (D.wrt sec bs).2) (star (RkA R D N) (star (BoxA G ⟨kind, two, sec, at', .slice ad zs.length cd, zs, fill, .slice ak ks.length ck, ks⟩) Rst))))) := hide (fun z' => JS.out.cellSet (HGD.out _) (fun H h => h.set))
    clear h6 JS
    go_wp2
    go_roundw
    case rel => first | exact ⟨j + 1, by omega, by go_num, HNx.out _⟩ | ((repeat apply Exists.intro); refine ⟨?_, rfl⟩; exact ⟨j + 1, by omega, by go_num, HNx.out _⟩)
    case measure => simp [intOf]; omega
  · obtain rfl : j = L := by omega
    have hd : decide ((j : Int) < (j : Int)) = false := by simp
    go_upto_region 11 with fail
    obtain ⟨wd, hwd⟩ : ∃ W, W = wr.drew := ⟨_, rfl⟩
    have HSd : Hid (Sys w0 wd (star (DkA B (D.wrt sec bs).2) (star (RkA R D N) (star (BoxA G ⟨kind, two, sec, at', .slice ad zs.length cd, zs, fill, .slice ak ks.length ck, ks⟩) Rst)))) := hide (JS.out.drop.below (HGD.out _) (by rw [hwd]; exact ⟨rfl, rfl, rfl, Nat.le_refl _, fun _ _ => rfl⟩))
    have HSS : Hid (Cells7 wd G ⟨kind, two, sec, at', .slice ad zs.length cd, zs, fill, .slice ak ks.length ck, ks⟩) := hide HSd.out.cells2
    refine wp_region_held_drew (S := fun W => Cells7 W G ⟨kind, two, sec, at', .slice ad zs.length cd, zs, fill, .slice ak ks.length ck, ks⟩) (by kernel_rfl) (by rw [← hwd]; exact HSS.out) (fun _ => ?_)
    rw [← hwd]
    clear hwd JS
    refine hd_take 0 (o := ⟨some 53, _, _, _, _, _⟩) (tp R) (by kernel_rfl) (by kernel_rfl) (by kernel_rfl) rfl (by rfl) (fun W hSw => by go_simp) (fun _ _ _ h => h) HSS.out ?_
    simp only [Act.put, List.setIfInBounds_toArray, List.set_cons_zero, List.set_cons_succ]
    refine hd_take 1 (o := ⟨some 54, _, _, _, _, _⟩) (.pointer (some ⟨G, 2, none⟩)) (by kernel_rfl) (by kernel_rfl) (by kernel_rfl) rfl (by rfl) (fun W hSw => by go_simp) (fun _ _ _ h => h) HSS.out ?_
    simp only [Act.put, List.setIfInBounds_toArray, List.set_cons_zero, List.set_cons_succ]
    refine hd_take 2 (o := ⟨some 55, _, _, _, _, _⟩) (.int .i64 sec) (by kernel_rfl) (by kernel_rfl) (by kernel_rfl) rfl (by rfl) (fun W hSw => by have q0 := hSw.c0; have q1 := hSw.c1; have q2 := hSw.c2; have q3 := hSw.c3; have q4 := hSw.c4; have q5 := hSw.c5; have q6 := hSw.c6; simp only at q0 q1 q2 q3 q4 q5 q6; go_simp) (fun _ _ _ h => h) HSS.out ?_
    simp only [Act.put, List.setIfInBounds_toArray, List.set_cons_zero, List.set_cons_succ]
    refine hd_take 3 (o := ⟨some 56, _, _, _, _, _⟩) (opv ⟨kind, two, sec, at', .slice ad zs.length cd, zs, fill, .slice ak ks.length ck, ks⟩) (by kernel_rfl) (by kernel_rfl) (by kernel_rfl) rfl (by rfl) (fun W hSw => by have q0 := hSw.c0; have q1 := hSw.c1; have q2 := hSw.c2; have q3 := hSw.c3; have q4 := hSw.c4; have q5 := hSw.c5; have q6 := hSw.c6; simp only at q0 q1 q2 q3 q4 q5 q6; go_simp) (fun _ _ _ h => h) HSS.out ?_
    simp only [Act.put, List.setIfInBounds_toArray, List.set_cons_zero, List.set_cons_succ]
    have HH2 := hide (HH.out _ _ HSd.out)
    refine hd_call 4 (o := ⟨some 57, _, _, _, _, _⟩) (by kernel_rfl) rfl (by rfl) (fun K' hK => ?_)
    go_simp
    go_wp2_with (go_at_call 13; refine HH2.out.mono ?_; rintro e1 w6 ⟨r3, rfl, hr3, hx6⟩)
    have HS6 := hide (HSd.out.row (HGD.out _) hr3 hx6).swap2.swap
    obtain ⟨F7, hrk, _, hOw7, hnF7, hcl7⟩ := HS6.out.callRow ((good_dk B (D.wrt sec bs).2).star HGX.out)
    have hR0 := wrtR hrk hab (by omega) sec r3 bs hOw7.rd HB8.out hnF7
    rw [Hcc.out] at hR0
    have HR := hide hR0
    have HC7 := hide hcl7
    clear hr3 hx6 hrk hOw7 hnF7 hcl7 HH2 hR0
    refine hK _ _ HS6.out.drop.drop.drop.cells ?_
    clear hK K'
    try simp only [Act.put, List.setIfInBounds_toArray, List.set_cons_zero, List.set_cons_succ]
    refine hd_call 5 (o := ⟨some 58, _, _, _, _, _⟩) (by kernel_rfl) rfl (by rfl) (fun K' hK => ?_)
    go_simp
    go_wp2_with (go_at_call 16; refine HR.out.mono ?_; rintro e1 w7 ⟨rfl, F8, N', hr8, hx8, hnn⟩)
    have HS8 := hide (HC7.out _ _ _ hr8 hx8)
    have HEnd := hide (HS8.out.swap.drop.swap.fin (D.near_wrt sec bs) HB.out.1 HB.out.2 hnn)
    clear hr8 hx8 hnn HR HC7
    refine hK _ _ HS8.out.drop.drop.drop.cells ?_
    clear hK K'
    try simp only [Act.put, List.setIfInBounds_toArray, List.set_cons_zero, List.set_cons_succ]
    refine hd_call 6 (o := ⟨some 10, _, _, _, _, _⟩) (by kernel_rfl) rfl (by rfl) (fun K' hK => ?_)
    go_simp
    refine hK _ _ HS8.out.drop.drop.drop.cells ?_
    clear hK K'
    try simp only [Act.put, List.setIfInBounds_toArray, List.set_cons_zero, List.set_cons_succ]
    refine wpAnyH_done (by kernel_rfl) ?_ _
    go_wp2
    go_ret
    exact ⟨rfl, HEnd.out⟩
end Go.Proofs.Ytnpklhjndominaa
