import Derived.Test.YtoddadohmnaolabMI
namespace Go.Proofs.Ytoddadohmnaolab
open Go.ChangeShapes Go.WideShapes Go.ChangeAt Go.RowKit Go.Deep Go.Shelf Go.Great

theorem row_at {w : World} {base : Nat} {a : Option Addr} {n c : Nat} {l : List Nat} (h : w.ownsRow base 3 1 (.slice a n c) n (numN l)) {k z : Nat} (hk : l[k]? = some z) : ∃ g, a = some ⟨g, 0, none⟩ ∧ w.cell? ⟨g, k, none⟩ = some (.int .i64 (z : Int)) := by
  have h9 := h
  obtain ⟨hl, ⟨h0, h1⟩ | ⟨g, cp, cur, h0, _⟩⟩ := h
  · exfalso
    have : (numN l).length = 0 := by rw [hl, h1]
    have h2 := (List.getElem?_eq_some_iff.1 hk).1
    rw [numN_len] at this
    omega
  · cases h0
    refine ⟨g, rfl, ?_⟩
    have := World.ownsRow.cells h9 rfl k (.int .i64 (z : Int)) (by simp [numN, hk])
    rw [add0] at this
    exact this
section
variable {w : World} {F : Nat → Prop} {T B : Nat} {rs : List (Option Er)} {last : Int}
set_option maxRecDepth 100000 in
set_option maxHeartbeats 6400000 in
theorem branch_any (h : Et w F T rs last) (iv : Iv rs last) (e : Nat) (r : Er) (hr : rs[e]? = some (some r)) : Calls Try.prog 19 #[.pointer (some ⟨T, 0, none⟩), .int .i64 (e : Int)] w fun x w' => x = .returned (.bool true) ∧ Below w.heap.size w w' := by
  have HE := hide h
  have HIv := hide iv
  have HR := hide hr
  have HT := hide (treeT_any h iv e ⟨r, hr⟩)
  obtain ⟨_, hs2, hs3⟩ := wk_short iv hr 17
  have hkl := kids_len iv.tr (e : Int)
  have H0 := hide (show (wk rs 17 e)[0]? = some e by rw [wk17 iv.tr e]; rfl)
  clear h iv hr
  go_enter Try.func19, Try.ntmps19
  go_wp2_with fail
  refine HT.out.mono ?_
  rintro x1 w1 ⟨v, rfl, hv, hb1⟩
  obtain ⟨va, vc, rfl⟩ := own_shape hv
  have HV1 := hide (own_low hv (Nat.zero_le _))
  have HB1 := hide hb1
  have HC := hide (childrenT_any (HE.out.below hb1) HIv.out.tr.dis e ⟨r, HR.out⟩)
  clear hv hb1 HT
  go_wp2_with fail
  refine HC.out.mono ?_
  rintro x2 w2 ⟨u, rfl, hu, hb2⟩
  obtain ⟨ua, uc, rfl⟩ := own_shape hu
  have HV2 := hide (own_below HV1.out hb2)
  have HU2 := hide (own_low hu (Nat.zero_le _))
  have HB2 := hide (HB1.out.trans (hb2.mono HB1.out.size))
  have HI := hide (info_any _ F T rs last (HE.out.below HB2.out) e r HR.out)
  clear hu hb2 HC HV1 HB1
  go_wp2_with fail
  refine HI.out.mono ?_
  rintro x3 u1 ⟨rfl, hb1⟩
  have hz : Eb (u1.alloc (.cells Er.nil.head.toArray 40)) u1.heap.size Er.nil := Eb.new _ _
  have HEb := hide (freshE_eb u1 r.told)
  have hb3 := hb1.trans ((freshE_below u1 r.told).mono hb1.size)
  have HV3 := hide (own_below HV2.out hb3)
  have HU3 := hide (own_below HU2.out hb3)
  have HB3 := hide (HB2.out.trans (hb3.mono HB2.out.size))
  clear hb1 hb3 HI HV2 HU2 HB2
  go_upto_region 4 with (refine storeE r.told ?nw _ _ rfl u1.heap.size Er.nil ?nx ?ny ?nz ?_; rotate_left 4; change wpList _ _ _ _ _ (freshE u1 r.told); generalize freshE u1 r.told = u2 at *)
  try (case nw => rfl)
  try (case nx => rfl)
  try (case ny => rfl)
  try (case nz => exact hz)
  clear hz
  generalize u1.heap.size = M at *
  obtain ⟨gw, rfl, hw0⟩ := row_at HV3.out H0.out
  have m0 : u2.cell? ⟨M, 0, none⟩ = some (.int .i64 r.se) := HEb.out.get (j := 0) rfl
  have hse : r.se = ser rs e := by rw [ser_core, core_at HR.out]
  have HEnd := hide (atW_end HIv.out.tr e)
  have HAt0 := hide (show atW rs (kids rs (e : Int)) 0 = 1 from rfl)
  generalize hLs : (wk rs 17 e).length = L at *
  have HLs := hide hLs
  generalize hLk : (kids rs (e : Int)).length = K at *
  have HLk := hide hLk
  clear hLs hLk
  have t1 : ((L : Int) == 0) = false := by simp; omega
  have t2 : ¬ (L : Int) = 0 := by omega
  have t3 : ¬ (16 < (L : Int)) := by omega
  have t4 : (0 : Int) < (L : Int) := by omega
  go_upto_region 9 with fail
  try rw [hse]
  clear m0 t1 t2 t3 t4 hw0 hse HEb
  go_loopw [11, 12, 13] (fun x y z wr => ∃ i : Nat, i ≤ K ∧ x = .int .i64 (atW rs (kids rs (e : Int)) i : Nat) ∧ y = .int .i64 (lsr rs e (kids rs (e : Int)) i) ∧ z = .int .i64 (i : Int) ∧ Hid (Below u2.heap.size u2 wr)) (fun _ _ z _ => K - (intOf z).toNat)
  case atStart => exact ⟨0, by omega, rfl, rfl, rfl, Below.refl _ _⟩
  case round =>
  obtain ⟨i, hi, rfl, rfl, rfl, KB⟩ := hrel
  by_cases hlt : i < K
  · have hd : decide ((i : Int) < (K : Int)) = true := by simp; omega
    have hi3 : (i : Int) < (K : Int) := by omega
    obtain ⟨c, hc⟩ : ∃ c, (kids rs (e : Int))[i]? = some c := ⟨_, List.getElem?_eq_getElem (by have := HLk.out; omega)⟩
    obtain ⟨rc, hrc, hpa⟩ := kids_at (List.mem_of_getElem? hc)
    obtain ⟨gk, rfl, hck⟩ := row_at (own_below HU3.out KB.out) hc
    have hsc : rc.se = ser rs c := by rw [ser_core, core_at hrc]
    have HI := hide (info_any _ F T rs last (HE.out.below (HB3.out.trans (KB.out.mono HB3.out.size))) c rc hrc)
    have HC := hide hc
    have HRc := hide hrc
    have HCk : Hid (∀ W, Below u2.heap.size u2 W → W.cell? ⟨gk, i, none⟩ = some (.int .i64 (c : Int))) := hide (fun W hW => by
      obtain ⟨g, e9, h9⟩ := row_at (own_below HU3.out hW) hc
      cases e9; exact h9)
    clear hc
    go_wp2_with fail
    refine HI.out.mono ?_
    rintro x3 p1 ⟨rfl, hb1⟩
    have hz : Eb (p1.alloc (.cells Er.nil.head.toArray 40)) p1.heap.size Er.nil := Eb.new _ _
    have HEb := hide (freshE_eb p1 rc.told)
    have hb3 := hb1.trans ((freshE_below p1 rc.told).mono hb1.size)
    have KB2 := hide (KB.out.trans (hb3.mono KB.out.size))
    clear hb1 hb3 HI KB hck
    go_upto_region 12 with (refine storeE rc.told ?mw _ _ rfl p1.heap.size Er.nil ?mx ?my ?mz ?_; rotate_left 4; change wpList _ _ _ _ _ (freshE p1 rc.told); generalize freshE p1 rc.told = p2 at *)
    try (case mw => rfl)
    try (case mx => rfl)
    try (case my => rfl)
    try (case mz => exact hz)
    clear hz
    generalize p1.heap.size = M2 at *
    have hck := HCk.out p2 KB2.out
    have HTc := hide (treeT_any (HE.out.below (HB3.out.trans (KB2.out.mono HB3.out.size))) HIv.out c ⟨rc, HRc.out⟩)
    go_wp2_with fail
    refine HTc.out.mono ?_
    rintro x4 p3 ⟨y, rfl, hy, hb4⟩
    obtain ⟨ya, yc, rfl⟩ := own_shape hy
    have HY := hide (own_low hy (Nat.zero_le _))
    have KB3 := hide (KB2.out.trans (hb4.mono KB2.out.size))
    have HE3 := hide (HEb.out.keep (hb4.block M2 HEb.out.lt))
    have m1 : p3.cell? ⟨M2, 1, none⟩ = some (.int .i64 (e : Int)) := by rw [← hpa]; exact HE3.out.get (j := 1) rfl
    have m0 : p3.cell? ⟨M2, 0, none⟩ = some (.int .i64 (ser rs c)) := by rw [← hsc]; exact HE3.out.get (j := 0) rfl
    have q1 := lsr_lt HIv.out.tr HC.out
    have q2 := atW_le HIv.out.tr HC.out
    have q3 := atW_step (rs := rs) HC.out
    have HQ3 := hide q3
    have HLs2 : Hid (lsr rs e (kids rs (e : Int)) (i + 1) = ser rs c) := hide (by simp only [lsr]; rw [HC.out])
    clear hy hb4 HEb KB2 HTc hck HE3 q3 hsc hpa hrc
    rw [HLs.out] at q2
    obtain ⟨sc, hsc⟩ : ∃ sc, sc = ser rs c := ⟨_, rfl⟩
    rw [← hsc] at m0 q1 HLs2
    clear hsc
    generalize hl9 : lsr rs e (kids rs (e : Int)) i = ls at *
    clear hl9
    generalize hA : atW rs (kids rs (e : Int)) i = A at *
    have HA := hide hA
    clear hA
    generalize hLc : (wk rs 17 c).length = Lc at *
    have HLc := hide hLc
    clear hLc
    have q4 : ¬ (sc ≤ ls) := by omega
    have q5 : ¬ ((L : Int) < (A : Int) + (Lc : Int)) := by omega
    have q6 : IntKind.i64.wrap ((A : Int) + (Lc : Int)) = (A : Int) + (Lc : Int) := by
      simp only [IntKind.wrap, IntKind.signed, IntKind.bits]; simp; omega
    go_upto_region 17 with fail
    clear m0 m1 q4 q5 q6
    go_loopw [18] (fun x wq => ∃ j : Nat, j ≤ Lc ∧ x = .int .i64 (j : Int) ∧ Hid (Below p3.heap.size p3 wq)) (fun x _ => Lc - (intOf x).toNat)
    case atStart => exact ⟨0, by omega, rfl, Below.refl _ _⟩
    case round =>
    obtain ⟨j, hj, rfl, KJ⟩ := hrel
    by_cases hjl : j < Lc
    · have hd2 : decide ((j : Int) < (Lc : Int)) = true := by simp; omega
      have hj3 : (j : Int) < (Lc : Int) := by omega
      obtain ⟨v, hv⟩ : ∃ v, (wk rs 17 c)[j]? = some v := ⟨_, List.getElem?_eq_getElem (by have := HLc.out; omega)⟩
      have hvw : (wk rs 17 e)[A + j]? = some v := by
        rw [← HA.out, atW_get HIv.out.tr HC.out (by have := HLc.out; omega)]; exact hv
      obtain ⟨gy, rfl, hy1⟩ := row_at (own_below HY.out KJ.out) hv
      have KU := hide (KB3.out.trans (KJ.out.mono KB3.out.size))
      have HS : Hid (∀ W, Below p3.heap.size p3 W → W.cell? ⟨gy, j, none⟩ = some (.int .i64 (v : Int)) ∧ W.cell? ⟨gw, A + j, none⟩ = some (.int .i64 (v : Int))) := hide (fun W hW => by
        obtain ⟨g1, e1, h1⟩ := row_at (own_below HY.out hW) hv
        obtain ⟨g2, e2, h2⟩ := row_at (own_below HV3.out (KB3.out.trans (hW.mono KB3.out.size))) hvw
        cases e1; cases e2
        exact ⟨h1, h2⟩)
      obtain ⟨n1, n2⟩ := wk_in HIv.out.tr HC.out (List.mem_of_getElem? hv)
      have hEt : ∀ W, Below p3.heap.size p3 W → Et W F T rs last := fun W hW => HE.out.below (HB3.out.trans ((KB3.out.trans (hW.mono KB3.out.size)).mono HB3.out.size))
      have hI1 := fun W hW => inside_any (hEt W hW) HIv.out.tr (e : Int) (v : Int)
      have hI2 := fun W hW => inside_any (hEt W hW) HIv.out.tr (v : Int) (e : Int)
      simp only [n1] at hI1
      simp only [n2] at hI2
      have HI1 := hide hI1
      have HI2 := hide hI2
      have q7 : IntKind.i64.wrap ((A : Int) + (j : Int)) = (A : Int) + (j : Int) := by
        simp only [IntKind.wrap, IntKind.signed, IntKind.bits]; simp; omega
      have q8 : (A : Int) + (j : Int) < (L : Int) := by omega
      clear hv hvw hy1 hEt hI1 hI2 n1 n2 KU
      go_upto_region 19 with fail
      obtain ⟨w6, hw6⟩ : ∃ w6, w6 = wr.drew := ⟨_, rfl⟩
      have hb6 : Below wr.heap.size wr w6 := by rw [hw6]; exact ⟨rfl, rfl, rfl, Nat.le_refl _, fun _ _ => rfl⟩
      have K6 := hide (KJ.out.trans (hb6.mono KJ.out.size))
      have HS6 := hide (HS.out w6 K6.out)
      clear hb6 KJ
      refine wp_region_held_drew (S := fun W => W.cell? ⟨gy, j, none⟩ = some (.int .i64 (v : Int)) ∧ W.cell? ⟨gw, A + j, none⟩ = some (.int .i64 (v : Int))) (by kernel_rfl) (by rw [← hw6]; exact HS6.out) (fun _ => ?_)
      rw [← hw6]
      clear hw6
      refine hd_take 0 (o := ⟨some 121, _, _, _, _, _⟩) (.slice (some ⟨gy, 0, none⟩) Lc yc) (by kernel_rfl) (by kernel_rfl) (by kernel_rfl) rfl (by rfl) (fun W hSw => by go_simp) (fun _ _ _ h => h) HS6.out ?_
      try simp only [Act.put, List.setIfInBounds_toArray, List.set_cons_zero, List.set_cons_succ]
      refine hd_take 1 (o := ⟨some 122, _, _, _, _, _⟩) (.int .i64 (j : Int)) (by kernel_rfl) (by kernel_rfl) (by kernel_rfl) rfl (by rfl) (fun W hSw => by go_simp) (fun _ _ _ h => h) HS6.out ?_
      try simp only [Act.put, List.setIfInBounds_toArray, List.set_cons_zero, List.set_cons_succ]
      refine hd_take 2 (o := ⟨some 123, _, _, _, _, _⟩) (.pointer (some ⟨gy, j, none⟩)) (by kernel_rfl) (by kernel_rfl) (by kernel_rfl) rfl (by rfl) (fun W hSw => by go_simp) (fun _ _ _ h => h) HS6.out ?_
      try simp only [Act.put, List.setIfInBounds_toArray, List.set_cons_zero, List.set_cons_succ]
      refine hd_take 3 (o := ⟨some 124, _, _, _, _, _⟩) (.int .i64 (v : Int)) (by kernel_rfl) (by kernel_rfl) (by kernel_rfl) rfl (by rfl) (fun W hSw => by obtain ⟨s0, s1⟩ := hSw; go_simp) (fun _ _ _ h => h) HS6.out ?_
      try simp only [Act.put, List.setIfInBounds_toArray, List.set_cons_zero, List.set_cons_succ]
      refine hd_take 4 (o := ⟨some 125, _, _, _, _, _⟩) (.slice (some ⟨gw, 0, none⟩) L vc) (by kernel_rfl) (by kernel_rfl) (by kernel_rfl) rfl (by rfl) (fun W hSw => by go_simp) (fun _ _ _ h => h) HS6.out ?_
      try simp only [Act.put, List.setIfInBounds_toArray, List.set_cons_zero, List.set_cons_succ]
      refine hd_take 5 (o := ⟨some 126, _, _, _, _, _⟩) (.int .i64 (A : Int)) (by kernel_rfl) (by kernel_rfl) (by kernel_rfl) rfl (by rfl) (fun W hSw => by go_simp) (fun _ _ _ h => h) HS6.out ?_
      try simp only [Act.put, List.setIfInBounds_toArray, List.set_cons_zero, List.set_cons_succ]
      refine hd_take 6 (o := ⟨some 127, _, _, _, _, _⟩) (.int .i64 (j : Int)) (by kernel_rfl) (by kernel_rfl) (by kernel_rfl) rfl (by rfl) (fun W hSw => by go_simp) (fun _ _ _ h => h) HS6.out ?_
      try simp only [Act.put, List.setIfInBounds_toArray, List.set_cons_zero, List.set_cons_succ]
      refine hd_take 7 (o := ⟨some 128, _, _, _, _, _⟩) (.int .i64 ((A : Int) + (j : Int))) (by kernel_rfl) (by kernel_rfl) (by kernel_rfl) rfl (by rfl) (fun W hSw => by go_simp) (fun _ _ _ h => h) HS6.out ?_
      try simp only [Act.put, List.setIfInBounds_toArray, List.set_cons_zero, List.set_cons_succ]
      refine hd_take 8 (o := ⟨some 129, _, _, _, _, _⟩) (.pointer (some ⟨gw, A + j, none⟩)) (by kernel_rfl) (by kernel_rfl) (by kernel_rfl) rfl (by rfl) (fun W hSw => by have q10 : (0 : Int) ≤ (A : Int) + (j : Int) := (by omega); have q11 : ((A : Int) + (j : Int)).toNat = A + j := (by omega); go_simp; try (rw [if_pos q10, q11])) (fun _ _ _ h => h) HS6.out ?_
      try simp only [Act.put, List.setIfInBounds_toArray, List.set_cons_zero, List.set_cons_succ]
      refine hd_take 9 (o := ⟨some 130, _, _, _, _, _⟩) (.int .i64 (v : Int)) (by kernel_rfl) (by kernel_rfl) (by kernel_rfl) rfl (by rfl) (fun W hSw => by obtain ⟨s0, s1⟩ := hSw; go_simp) (fun _ _ _ h => h) HS6.out ?_
      try simp only [Act.put, List.setIfInBounds_toArray, List.set_cons_zero, List.set_cons_succ]
      refine hd_take 10 (o := ⟨some 131, _, _, _, _, _⟩) (.bool false) (by kernel_rfl) (by kernel_rfl) (by kernel_rfl) rfl (by rfl) (fun W hSw => by go_simp) (fun _ _ _ h => h) HS6.out ?_
      try simp only [Act.put, List.setIfInBounds_toArray, List.set_cons_zero, List.set_cons_succ]
      refine hd_take 11 (o := ⟨some 132, _, _, _, _, _⟩) (.bool false) (by kernel_rfl) (by kernel_rfl) (by kernel_rfl) rfl (by rfl) (fun W hSw => by go_simp) (fun _ _ _ h => h) HS6.out ?_
      try simp only [Act.put, List.setIfInBounds_toArray, List.set_cons_zero, List.set_cons_succ]
      refine hd_take 12 (o := ⟨some 133, _, _, _, _, _⟩) (.pointer (some ⟨T, 0, none⟩)) (by kernel_rfl) (by kernel_rfl) (by kernel_rfl) rfl (by rfl) (fun W hSw => by go_simp) (fun _ _ _ h => h) HS6.out ?_
      try simp only [Act.put, List.setIfInBounds_toArray, List.set_cons_zero, List.set_cons_succ]
      refine hd_take 13 (o := ⟨some 134, _, _, _, _, _⟩) (.int .i64 (e : Int)) (by kernel_rfl) (by kernel_rfl) (by kernel_rfl) rfl (by rfl) (fun W hSw => by go_simp) (fun _ _ _ h => h) HS6.out ?_
      try simp only [Act.put, List.setIfInBounds_toArray, List.set_cons_zero, List.set_cons_succ]
      refine hd_take 14 (o := ⟨some 135, _, _, _, _, _⟩) (.slice (some ⟨gy, 0, none⟩) Lc yc) (by kernel_rfl) (by kernel_rfl) (by kernel_rfl) rfl (by rfl) (fun W hSw => by go_simp) (fun _ _ _ h => h) HS6.out ?_
      try simp only [Act.put, List.setIfInBounds_toArray, List.set_cons_zero, List.set_cons_succ]
      refine hd_take 15 (o := ⟨some 136, _, _, _, _, _⟩) (.int .i64 (j : Int)) (by kernel_rfl) (by kernel_rfl) (by kernel_rfl) rfl (by rfl) (fun W hSw => by go_simp) (fun _ _ _ h => h) HS6.out ?_
      try simp only [Act.put, List.setIfInBounds_toArray, List.set_cons_zero, List.set_cons_succ]
      refine hd_take 16 (o := ⟨some 137, _, _, _, _, _⟩) (.pointer (some ⟨gy, j, none⟩)) (by kernel_rfl) (by kernel_rfl) (by kernel_rfl) rfl (by rfl) (fun W hSw => by go_simp) (fun _ _ _ h => h) HS6.out ?_
      try simp only [Act.put, List.setIfInBounds_toArray, List.set_cons_zero, List.set_cons_succ]
      refine hd_take 17 (o := ⟨some 138, _, _, _, _, _⟩) (.int .i64 (v : Int)) (by kernel_rfl) (by kernel_rfl) (by kernel_rfl) rfl (by rfl) (fun W hSw => by obtain ⟨s0, s1⟩ := hSw; go_simp) (fun _ _ _ h => h) HS6.out ?_
      try simp only [Act.put, List.setIfInBounds_toArray, List.set_cons_zero, List.set_cons_succ]
      refine hd_call 18 (o := ⟨some 139, _, _, _, _, _⟩) (by kernel_rfl) rfl (by rfl) (fun K hK => ?_)
      go_simp
      go_wp2_with (go_at_call 15; refine (HI1.out w6 K6.out).mono ?_; rintro e1 w7 ⟨rfl, hb7⟩)
      have K7 := hide (K6.out.trans (hb7.mono K6.out.size))
      have HS7 := hide (HS.out w7 K7.out)
      clear hb7
      refine hK _ _ HS7.out ?_
      clear hK K
      try simp only [Act.put, List.setIfInBounds_toArray, List.set_cons_zero, List.set_cons_succ]
      refine hd_take 19 (o := ⟨some 140, _, _, _, _, _⟩) (.bool false) (by kernel_rfl) (by kernel_rfl) (by kernel_rfl) rfl (by rfl) (fun W hSw => by go_simp) (fun _ _ _ h => h) HS7.out ?_
      try simp only [Act.put, List.setIfInBounds_toArray, List.set_cons_zero, List.set_cons_succ]
      refine hd_take 20 (o := ⟨some 141, _, _, _, _, _⟩) (.bool false) (by kernel_rfl) (by kernel_rfl) (by kernel_rfl) rfl (by rfl) (fun W hSw => by go_simp) (fun _ _ _ h => h) HS7.out ?_
      try simp only [Act.put, List.setIfInBounds_toArray, List.set_cons_zero, List.set_cons_succ]
      refine hd_take 21 (o := ⟨some 142, _, _, _, _, _⟩) (.bool false) (by kernel_rfl) (by kernel_rfl) (by kernel_rfl) rfl (by rfl) (fun W hSw => by go_simp) (fun _ _ _ h => h) HS7.out ?_
      try simp only [Act.put, List.setIfInBounds_toArray, List.set_cons_zero, List.set_cons_succ]
      refine hd_take 22 (o := ⟨some 143, _, _, _, _, _⟩) (.pointer (some ⟨T, 0, none⟩)) (by kernel_rfl) (by kernel_rfl) (by kernel_rfl) rfl (by rfl) (fun W hSw => by go_simp) (fun _ _ _ h => h) HS7.out ?_
      try simp only [Act.put, List.setIfInBounds_toArray, List.set_cons_zero, List.set_cons_succ]
      refine hd_take 23 (o := ⟨some 144, _, _, _, _, _⟩) (.slice (some ⟨gy, 0, none⟩) Lc yc) (by kernel_rfl) (by kernel_rfl) (by kernel_rfl) rfl (by rfl) (fun W hSw => by go_simp) (fun _ _ _ h => h) HS7.out ?_
      try simp only [Act.put, List.setIfInBounds_toArray, List.set_cons_zero, List.set_cons_succ]
      refine hd_take 24 (o := ⟨some 145, _, _, _, _, _⟩) (.int .i64 (j : Int)) (by kernel_rfl) (by kernel_rfl) (by kernel_rfl) rfl (by rfl) (fun W hSw => by go_simp) (fun _ _ _ h => h) HS7.out ?_
      try simp only [Act.put, List.setIfInBounds_toArray, List.set_cons_zero, List.set_cons_succ]
      refine hd_take 25 (o := ⟨some 146, _, _, _, _, _⟩) (.pointer (some ⟨gy, j, none⟩)) (by kernel_rfl) (by kernel_rfl) (by kernel_rfl) rfl (by rfl) (fun W hSw => by go_simp) (fun _ _ _ h => h) HS7.out ?_
      try simp only [Act.put, List.setIfInBounds_toArray, List.set_cons_zero, List.set_cons_succ]
      refine hd_take 26 (o := ⟨some 147, _, _, _, _, _⟩) (.int .i64 (v : Int)) (by kernel_rfl) (by kernel_rfl) (by kernel_rfl) rfl (by rfl) (fun W hSw => by obtain ⟨s0, s1⟩ := hSw; go_simp) (fun _ _ _ h => h) HS7.out ?_
      try simp only [Act.put, List.setIfInBounds_toArray, List.set_cons_zero, List.set_cons_succ]
      refine hd_take 27 (o := ⟨some 148, _, _, _, _, _⟩) (.int .i64 (e : Int)) (by kernel_rfl) (by kernel_rfl) (by kernel_rfl) rfl (by rfl) (fun W hSw => by go_simp) (fun _ _ _ h => h) HS7.out ?_
      try simp only [Act.put, List.setIfInBounds_toArray, List.set_cons_zero, List.set_cons_succ]
      refine hd_call 28 (o := ⟨some 149, _, _, _, _, _⟩) (by kernel_rfl) rfl (by rfl) (fun K hK => ?_)
      go_simp
      go_wp2_with (go_at_call 15; refine (HI2.out w7 K7.out).mono ?_; rintro e1 w8 ⟨rfl, hb8⟩)
      have K8 := hide (K7.out.trans (hb8.mono K7.out.size))
      have HS8 := hide (HS.out w8 K8.out)
      clear hb8
      refine hK _ _ HS8.out ?_
      clear hK K
      try simp only [Act.put, List.setIfInBounds_toArray, List.set_cons_zero, List.set_cons_succ]
      refine hd_take 29 (o := ⟨some 150, _, _, _, _, _⟩) (.bool false) (by kernel_rfl) (by kernel_rfl) (by kernel_rfl) rfl (by rfl) (fun W hSw => by go_simp) (fun _ _ _ h => h) HS8.out ?_
      try simp only [Act.put, List.setIfInBounds_toArray, List.set_cons_zero, List.set_cons_succ]
      refine wpAnyH_done (by kernel_rfl) ?_ _
      clear HS6 HS7 HS8 HS HI1 HI2 K6 K7
      go_wp2
      go_roundw
      case rel =>
        first
          | exact ⟨j + 1, by omega, by go_num, K8⟩
          | ((repeat apply Exists.intro); refine ⟨?_, rfl⟩; exact ⟨j + 1, by omega, by go_num, K8⟩)
      case measure => simp [intOf]; omega
    · obtain rfl : j = Lc := by omega
      have hd2 : decide ((j : Int) < (j : Int)) = false := by simp
      have KF := hide (KB3.out.trans (KJ.out.mono KB3.out.size))
      have q9 : -9223372036854775808 ≤ (A : Int) + (j : Int) ∧ (A : Int) + (j : Int) ≤ 9223372036854775807 := by omega
      have q6 : IntKind.i64.wrap ((A : Int) + (j : Int)) = (A : Int) + (j : Int) := by
        simp only [IntKind.wrap, IntKind.signed, IntKind.bits]; simp; omega
      clear KJ HY
      go_wp2
      go_roundw
      case rel =>
        first
          | exact ⟨i + 1, by omega, by rw [HQ3.out]; simp, by rw [HLs2.out], by go_num, KF⟩
          | ((repeat apply Exists.intro); refine ⟨?_, rfl⟩; exact ⟨i + 1, by omega, by rw [HQ3.out]; simp, by rw [HLs2.out], by go_num, KF⟩)
      case measure => simp [intOf]; omega
  · obtain rfl : i = K := by omega
    have hd : decide ((i : Int) < (i : Int)) = false := by simp
    rw [HEnd.out]
    have hEt := HE.out.below (HB3.out.trans (KB.out.mono HB3.out.size))
    have hI1 := inside_any hEt HIv.out.tr (e : Int) (e : Int)
    rw [decide_eq_true (show (e : Int) ∈ ln rs (e : Int) by rw [ln_cons HIv.out.tr HR.out]; exact List.mem_cons_self)] at hI1
    have HI1 := hide hI1
    have HBf := hide (HB3.out.trans (KB.out.mono HB3.out.size))
    clear hEt hI1 KB
    go_wp2_with fail
    refine HI1.out.mono ?_
    rintro x1 wf ⟨rfl, hbf⟩
    have HBg := hide (HBf.out.trans (hbf.mono HBf.out.size))
    clear hbf
    go_wp2
    go_ret
    exact ⟨rfl, HBg.out⟩
end
end Go.Proofs.Ytoddadohmnaolab
