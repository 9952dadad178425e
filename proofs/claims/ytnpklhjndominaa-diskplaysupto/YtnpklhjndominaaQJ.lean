import Derived.Test.YtnpklhjndominaaQH
namespace Go.Proofs.Ytnpklhjndominaa
open Go.RowKit

theorem own_base0 {w : World} {base e size n : Nat} {v : Value} {xs : List Value} (h : w.ownsRow base e size v n xs) : w.ownsRow 0 e size v n xs := by
  obtain ⟨h1, h2 | ⟨g, cap, cur, h2, h3, h4⟩⟩ := h
  · exact ⟨h1, .inl h2⟩
  · exact ⟨h1, .inr ⟨g, cap, cur, h2, Nat.zero_le _, h4⟩⟩
set_option maxRecDepth 100000 in
set_option maxHeartbeats 6400000 in
theorem played_crash {w0 w : World} {B R n : Nat} {Rst : Asn} (hS : Sys w0 w (star (PrA B R n) Rst)) (hG : Good Rst) (hn : n ≤ 1048577) (o : Opr) (ho : OpIn w0 o) (hkd : o.kind = 7) :
    Calls Try.prog 10 #[dp B, tp R, opv o] w fun e w' => e = .returned (.bool true) ∧ Sys w0 w' (star (PrA B R (n + 1)) Rst) := by
  have hgA0 : Good (star (PrA B R n) Rst) := (good_pr B R n).star hG
  have S0 := (hS.box hgA0 o).swap
  obtain ⟨D, N, S1, hb1, hb2⟩ := S0.open
  have hgX : Good (star (BoxA w.heap.size o) Rst) := (good_box _ _).star hG
  have hOk : D.Ok := by obtain ⟨F1, h1⟩ := S1.head; exact h1.ok
  obtain ⟨ad, cd, hdd⟩ := ho.rd.len
  obtain ⟨ak, ck, hkk⟩ := ho.rb.len
  have HOk := hide hOk
  have HO := hide ho
  have HG := hide hG
  have HGX := hide hgX
  have HB := hide (And.intro hb1 hb2)
  have hNb : N ≤ 2000000 := by omega
  have hcb : D.c.length ≤ 2000000 := by omega
  have hab : D.acts < 100000000 := by omega
  obtain ⟨kind, two, sec, at', data, zs, fill, keep, ks⟩ := o
  simp only at hdd hkk S1 S0 hkd
  subst hdd hkk
  have HS0 := hide S0
  have HS1 := hide S1
  have C1 := S1.cells2
  have c0 := C1.c0
  have h2 : (kind == 2) = false := by rw [beq_eq_false_iff_ne]; rw [hkd]; decide
  have h3 : (kind == 3) = false := by rw [beq_eq_false_iff_ne]; rw [hkd]; decide
  have h5 : (kind == 5) = false := by rw [beq_eq_false_iff_ne]; rw [hkd]; decide
  have h7 : (kind == 7) = true := by simp [hkd]
  have c6 := C1.c6
  simp only at c0 c6
  clear hS hgA0 hOk ho hG hgX S0 S1 C1 hb1 hb2 hkd
  go_enter Try.func10, Try.ntmps10
  go_upto_region 2 with fail
  generalize w.alloc (.cells #[.int .i64 kind, .bool two, .int .i64 sec, .int .i64 at', .slice ad zs.length cd, .bool fill, .slice ak ks.length ck] 30) = w1 at *
  generalize w.heap.size = G at *
  obtain ⟨i4, hi, hz, hs, hb⟩ := info4'
  have HGD : Hid (∀ D', Good (star (DkA B D') (star (RkA R D N) (star (BoxA G ⟨kind, two, sec, at', .slice ad zs.length cd, zs, fill, .slice ak ks.length ck, ks⟩) Rst)))) := hide (fun D' => (good_dk B D').star ((good_rk R D N).star HGX.out))
  have HGR : Hid (Good (star (RkA R D N) (star (BoxA G ⟨kind, two, sec, at', .slice ad zs.length cd, zs, fill, .slice ak ks.length ck, ks⟩) Rst))) := hide ((good_rk R D N).star HGX.out)
  have HFl := hide (flags_any _ ks w1 (HS1.out.rb HO.out.rb) HO.out.kl)
  have hkl : ks.length ≤ 1048576 := HO.out.kl
  have HRb : Hid (RdB w0 (.slice ak ks.length ck) ks) := hide HO.out.rb
  obtain ⟨L, hL⟩ : ∃ L, ks.length = L := ⟨_, rfl⟩
  have HL := hide hL
  simp only [hL] at HFl c6 hkl HRb ⊢
  clear c0
  go_upto_region 23 with (go_at_call 21; refine HFl.out.mono ?_; rintro e w2 ⟨r1, rfl, hr1, hx1⟩)
  obtain ⟨a1, cp1, hrv⟩ := own_shape hr1
  rw [hL] at hrv
  subst hrv
  have HO1 : Hid (w2.ownsRow w1.heap.size 4 1 (.slice a1 L cp1) L (ks.map Value.bool)) := hide (by have := hr1; unfold OwB at this; rw [hL] at this; exact this)
  have HX1 := hide hx1
  clear hr1 hx1 hL HFl c6
  go_upto_region 24 with (at_builtin; refine wpList_append_own _ rfl _ _ 28 rfl w1.heap.size 4 i4 (.bool false) 1 1 Try.underlying28 hi hz hs hb rfl (by decide) _ L (ks.map Value.bool) rfl (HO1.out.alloc _) ⟨w2.heap.size, 0, none⟩ 2 2 [.bool true, .bool false] rfl rfl ?c1 ?c2 ?c3 ?c4 ?c5 ?_)
  case c1 => exact cell_two_new _ _ _ _
  case c2 => simp [Value.oneCell']
  case c3 => unfold maxLen; omega
  case c4 => omega
  case c5 => have := HX1.out.size; simp; omega
  intro r2 w3 hown3 hg3 _
  have hb3 : Below w1.heap.size w1 w3 := below_own HX1.out HO1.out hg3 HX1.out.size
  obtain ⟨T0, hT0⟩ : ∃ T0, ks ++ [true, false] = T0 := ⟨_, rfl⟩
  have HT : Hid (T0.length = L + 2 ∧ T0[L]? = some true ∧ T0[L + 1]? = some false ∧ ∀ (j : Nat) (t : Bool), ks[j]? = some t → T0[j]? = some t) := by
    refine hide ⟨by rw [← hT0]; simp [HL.out], by rw [← hT0, List.getElem?_append_right (by rw [HL.out]; exact Nat.le_refl _), HL.out]; simp, by rw [← hT0, List.getElem?_append_right (by rw [HL.out]; omega), HL.out]; simp, fun j t ht => ?_⟩
    rw [← hT0, List.getElem?_append_left (List.getElem?_eq_some_iff.1 ht).1]; exact ht
  have hBl : BlA r2 T0 w3 (fun b => r2.ownBlock = some b) := by
    refine ⟨?_, fun _ => Iff.rfl⟩
    rw [HT.out.1, ← hT0, List.map_append]
    exact own_base0 hown3
  have HS3 := hide ((HS1.out.new (HGD.out D) hBl (fun b hb' => (World.ownsRow.lt hown3 b hb').1) hb3).swap)
  obtain ⟨g, cap, hv, hcap, _, _⟩ := hBl.cell HT.out.2.1
  rw [HT.out.1] at hv hcap
  subst hv
  have hle : (L : Int) ≤ (cap : Int) := by omega
  obtain ⟨F, HY, hd, _, hY, hnY, hcl⟩ := HS3.out.beside (good_bl _ _) HGR.out
  have HP := hide (crsP hd (.slice (some ⟨g, 0, none⟩) ks.length cap) ks (hY.cut HT.out.2.2.2) (fun b hb' => hnY b ((hY.2 b).2 hb')))
  simp only [HL.out] at HP
  have HC := hide hcl
  have c6 := HS3.out.cells3.c6
  simp only [HL.out] at c6
  clear hown3 hg3 hb3 hT0 hBl hd hY hnY hcl HO1 HX1 hcap
  go_wp2_with fail
  refine HP.out.mono ?_
  rintro e w4 ⟨rfl, F2, hd2, hx2⟩
  have HS4 : Hid (∃ T, T.length = L + 2 ∧ (∀ i, 0 ≤ i → T[i]? = T0[i]?) ∧ Sys w0 w4 (star (BlA (.slice (some ⟨g, 0, none⟩) (L + 2) cap) T) (star (DkA B (D.crs ks).2) (star (RkA R D N) (star (BoxA G ⟨kind, two, sec, at', .slice ad zs.length cd, zs, fill, .slice ak ks.length ck, ks⟩) Rst))))) := hide ⟨T0, HT.out.1, fun _ _ => rfl, (HC.out _ _ _ hd2 hx2).swap⟩
  obtain ⟨cc, hcc⟩ : ∃ cc, (D.crs ks).1 = cc := ⟨_, rfl⟩
  rw [hcc]
  have Hcc := hide hcc
  clear hcc hd2 hx2 HC HP c6 HS3
  go_wp2
  go_loopw [17] (fun y wx => ∃ j : Nat, j ≤ L ∧ y = .int .i64 (j : Int) ∧ Hid (∃ T, T.length = L + 2 ∧ (∀ i, j ≤ i → T[i]? = T0[i]?) ∧ Sys w0 wx (star (BlA (.slice (some ⟨g, 0, none⟩) (L + 2) cap) T) (star (DkA B (D.crs ks).2) (star (RkA R D N) (star (BoxA G ⟨kind, two, sec, at', .slice ad zs.length cd, zs, fill, .slice ak ks.length ck, ks⟩) Rst)))))) (fun y _ => L - (intOf y).toNat)
  case atStart => exact ⟨0, by omega, rfl, HS4⟩
  case round =>
  clear HS4
  obtain ⟨j, hj, rfl, JS⟩ := hrel
  obtain ⟨T, hTl, hTi, hSy⟩ := JS.out
  have c6 := hSy.cells3.c6
  simp only [HL.out] at c6
  by_cases hlt : j < L
  · have hd : decide ((j : Int) < (L : Int)) = true := by simp; omega
    have hji : (j : Int) < (L : Int) := by omega
    have hji2 : (j : Int) < ((L + 2 : Nat) : Int) := by omega
    obtain ⟨t, ht⟩ : ∃ t, ks[j]? = some t := ⟨_, List.getElem?_eq_getElem (by rw [HL.out]; exact hlt)⟩
    have hTj : T[j]? = some t := by rw [hTi j (Nat.le_refl _)]; exact HT.out.2.2.2 j t ht
    obtain ⟨F6, h6⟩ := hSy.head
    obtain ⟨g', cap', hv, _, e1, f1⟩ := h6.cell hTj
    rw [hTl] at hv
    cases hv
    have HNx : Hid (∃ T', T'.length = L + 2 ∧ (∀ i, j + 1 ≤ i → T'[i]? = T0[i]?) ∧ Sys w0 ((wr.setCell ⟨g, j, none⟩ (.bool (!t))).drew) (star (BlA (.slice (some ⟨g, 0, none⟩) (L + 2) cap) T') (star (DkA B (D.crs ks).2) (star (RkA R D N) (star (BoxA G ⟨kind, two, sec, at', .slice ad zs.length cd, zs, fill, .slice ak ks.length ck, ks⟩) Rst))))) := by
      refine hide ⟨T.set j (!t), by rw [List.length_set]; exact hTl, fun i hi => by rw [List.getElem?_set_ne (by omega)]; exact hTi i (by omega), ?_⟩
      have hsd : Sys w0 (wr.setCell ⟨g, j, none⟩ (.bool (!t))) (star (BlA (.slice (some ⟨g, 0, none⟩) (L + 2) cap) (T.set j (!t))) (star (DkA B (D.crs ks).2) (star (RkA R D N) (star (BoxA G ⟨kind, two, sec, at', .slice ad zs.length cd, zs, fill, .slice ak ks.length ck, ks⟩) Rst)))) := hSy.cellSet (HGD.out _) (fun H h => h.set)
      exact hsd.below ((good_bl _ _).star (HGD.out _)) ⟨rfl, rfl, rfl, Nat.le_refl _, fun _ _ => rfl⟩
    obtain ⟨xk, rfl, e2⟩ : ∃ x, ak = some x ∧ wr.cell? (x.add j) = some (.bool t) := by
      rcases hSy.rb HRb.out with ⟨q1, q2⟩ | ⟨x, c, q1, q2⟩
      · rw [q2] at ht; simp at ht
      · cases q1; exact ⟨x, rfl, q2 j _ (by simp [ht])⟩
    clear h6 hSy JS hTj ht hTi hTl HRb
    go_wp2
    go_region
    go_wp2
    go_roundw
    case rel => first | exact ⟨j + 1, by omega, by go_num, HNx⟩ | ((repeat apply Exists.intro); refine ⟨?_, rfl⟩; exact ⟨j + 1, by omega, by go_num, HNx⟩)
    case measure => simp [intOf]; omega
  · obtain rfl : j = L := by omega
    have hd : decide ((j : Int) < (j : Int)) = false := by simp
    obtain ⟨F6, h6⟩ := hSy.head
    obtain ⟨g1, cap1, hv1, _, e1, _⟩ := h6.cell (j := j) (t := true) (by rw [hTi j (Nat.le_refl _)]; exact HT.out.2.1)
    rw [hTl] at hv1
    cases hv1
    obtain ⟨g2, cap2, hv2, _, e2, _⟩ := h6.cell (j := j + 1) (t := false) (by rw [hTi (j + 1) (by omega)]; exact HT.out.2.2.1)
    rw [hTl] at hv2
    cases hv2
    have hji : (j : Int) < ((j + 2 : Nat) : Int) := by omega
    have hji2 : ((j + 1 : Nat) : Int) < ((j + 2 : Nat) : Int) := by omega
    have HSx := hide hSy.drop.swap
    obtain ⟨F7, hrk, hF7, hcl⟩ := HSx.out.call ((good_dk B (D.crs ks).2).star HGX.out)
    have hR0 := crsR hrk HOk.out (by omega) (by omega) (.slice ak ks.length ck) ks (HSx.out.rb HO.out.rb) (fun hne b hb' hf => by have h1 := HO.out.rb.blk hne b hb'; have h2 := hF7 b hf; omega)
    rw [Hcc.out, HL.out] at hR0
    have HR := hide hR0
    have HC7 := hide hcl
    clear h6 hSy JS hTi hTl hrk hF7 hcl hR0 HRb
    go_wp2_with fail
    refine HR.out.mono ?_
    rintro e w7 ⟨rfl, F8, N', hr8, hx8, hnn⟩
    have HEnd := hide ((HC7.out _ _ _ hr8 hx8).swap.fin (D.near_crs ks) HB.out.1 HB.out.2 hnn)
    clear hr8 hx8 hnn HR HC7 c6 e1 e2
    go_wp2
    go_ret
    exact ⟨rfl, HEnd.out⟩
end Go.Proofs.Ytnpklhjndominaa
