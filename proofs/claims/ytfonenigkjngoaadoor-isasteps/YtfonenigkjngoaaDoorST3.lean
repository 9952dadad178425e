import Derived.Test.YtfonenigkjngoaaDoorST2
namespace Go.Proofs.YtfonenigkjngoaaDoor
open Go.RowKit
set_option linter.unusedVariables false
section
variable (w : World)
set_option maxRecDepth 100000 in
set_option maxHeartbeats 4000000 in
theorem steps_div8 (R : Nat → Nat) (pc : Nat) (hR : RgOk R pc) (n : Nat) (i : I) (R' : Nat → Nat) (pc' : Nat) (X : List Value) (no na nb : Nat) (z : Int) (hi : i = ⟨(no : Int), na, nb, z⟩) (hna : na < 8) (hnb : nb < 8) (hno : no = 8) (hX : X = e5 4 0 0 0 73) (hs : R' = R) (hp : pc' = pc) (hy0 : R nb = 0) (hO : Ops w)
    (hdec : ∀ w, Ops w → Calls Tryd.prog 11 #[.int .u32 (n : Nat)] w fun e w' => e = .returned (.tuple #[.agg #[.int .i64 i.op, .int .i64 i.a, .int .i64 i.b, .int .i64 i.imm], .int .i64 0]) ∧ Below w.heap.size w w')
    (hex : ∀ w, Ops w → Calls Tryd.prog 12 #[.agg (rg R pc).toArray, .int .u32 (n : Nat)] w fun e w' => e = .returned (.tuple #[.agg (rg R' pc').toArray, .agg X.toArray]) ∧ Below w.heap.size w w') :
    Calls Tryd.prog 5 #[.agg (rg R pc).toArray, .int .u32 (n : Nat)] w fun e w' => e = .returned (.bool true) ∧ Below w.heap.size w w' := by
  have HS := hide (And.intro hs hp)
  have HI := hide hi
  have HN0 := hide hno
  clear hs hp hi hno
  have hex' := hex
  have HO := hide (hO.below (bel1 w (.cells (rg R pc).toArray 35)))
  have HR0 := hide (Rb.new w R pc)
  have HX := hide hX
  have lX : X.length = 5 := by rw [hX]; rfl
  have hiX : (Tryd.prog.info? 37).map (·.size) = some X.toArray.size := by simp only [List.size_toArray, lX]; exact info_eff
  have oX : X.toArray.all (·.oneCell') = true := all_oneCell_toArray (by rw [hX]; exact e5_ones _ _ _ _ _)
  have LX2 : Hid ((5 : Nat) = X.toArray.size) := by apply hide; simp [lX]
  have HIX := hide hiX
  have OX := hide oX
  clear hO hX hex hiX oX lX
  go_enter Tryd.func5, Tryd.ntmps5
  go_wp2_with fail
  refine (known_any _ HO.out).mono ?_
  rintro e w1 ⟨rfl, hb⟩
  have HB1 := hide ((bel1 w _).trans (hb.mono (by simp)))
  have HO1 := hide (HO.out.below hb)
  have HR1 := hide (HR0.out.below hb)
  clear hb HO HR0
  obtain ⟨N, hN⟩ : ∃ N, w.heap.size = N := ⟨_, rfl⟩
  have hN1 : N ≤ w1.heap.size := by rw [← hN]; exact HB1.out.size
  have hNlt : N < w1.heap.size := by rw [← hN]; exact HR1.out.lt
  rw [hN] at HB1 HR1 ⊢
  go_wp2_with fail
  refine (hdec _ HO1.out).mono ?_
  rintro e w2 ⟨rfl, hb⟩
  have HB2 := hide (HB1.out.trans (hb.mono hN1))
  have HO2 := hide ((HO1.out.below hb).below (bel1 w2 (.cells #[.int .i64 i.op, .int .i64 i.a, .int .i64 i.b, .int .i64 i.imm] 23)))
  have HR2 := hide (HR1.out.below hb)
  have HRb := hide ((HR1.out.below hb).below (bel1 w2 (.cells #[.int .i64 i.op, .int .i64 i.a, .int .i64 i.b, .int .i64 i.imm] 23)))
  have hN2 := Nat.le_trans hN1 hb.size
  clear hb HO1 HB1 HR1 hdec hN1 hNlt
  go_upto_region 5 with (first
    | refine wpList_load_row rfl 35 _ rfl N rfl 35 (rg R pc).toArray (0, 0) _ HRb.out.out Tryd.underlying35 rfl (info_rg _ _) ?_
    | (go_at_call 12; refine (hex' _ HO2.out).mono ?_; rintro e w3 ⟨rfl, hb⟩; have HW := hide (Lw.new (R' := R') (pc' := pc') (X := X) HR2.out HB2.out hN2 hb); clear hb)
    | refine wpList_store_row rfl 35 _ _ rfl w3.heap.size (rg R' pc').toArray rfl rfl 35 #[.int .u32 0, .int .u32 0, .int .u32 0, .int .u32 0, .int .u32 0, .int .u32 0, .int .u32 0, .int .u32 0, .int .u32 0] (by rw [(bel1 _ _).block _ (by simp)]; exact heap_alloc_last w3 _) (info_rg _ _) (by rw [rg_size]; rfl) (rg_one _ _) ?_
    | refine wpList_store_row rfl 37 _ _ rfl (w3.heap.size + 1) X.toArray rfl rfl 37 #[.int .i64 0, .int .u32 0, .int .i64 0, .int .u32 0, .int .i64 0] (by rw [setRow_other _ _ _ _ (by omega)]; exact heap_alloc_at1 w3 _ _) HIX.out LX2.out OX.out ?_)
  clear hex' HO2 HR2 HRb HB2 hN2
  simp only [Act.put]
  generalize ((((w3.alloc (Obj.cells #[Value.int .u32 0, .int .u32 0, .int .u32 0, .int .u32 0, .int .u32 0, .int .u32 0, .int .u32 0, .int .u32 0, .int .u32 0] 35)).alloc (Obj.cells #[Value.int .i64 0, .int .u32 0, .int .i64 0, .int .u32 0, .int .i64 0] 37)).setRow w3.heap.size (rg R' pc').toArray).setRow (w3.heap.size + 1) X.toArray) = W at *
  generalize w3.heap.size = A at *
  generalize w2.heap.size = J at *
  have i0 : W.cell? ⟨J, 0, none⟩ = some (.int .i64 (no : Int)) := by rw [cell_of_row _ _ _ _ _ _ HW.out.i, HI.out]; rfl
  have i1 : W.cell? ⟨J, 1, none⟩ = some (.int .i64 (na : Int)) := by rw [cell_of_row _ _ _ _ _ _ HW.out.i, HI.out]; rfl
  have i2 : W.cell? ⟨J, 2, none⟩ = some (.int .i64 (nb : Int)) := by rw [cell_of_row _ _ _ _ _ _ HW.out.i, HI.out]; rfl
  have i3 : W.cell? ⟨J, 3, none⟩ = some (.int .i64 z) := by rw [cell_of_row _ _ _ _ _ _ HW.out.i, HI.out]; rfl
  have f0 : W.cell? ⟨A + 1, 0, none⟩ = some (.int .i64 4) := by rw [cell_of_row _ _ _ _ _ _ HW.out.f, HX.out]; rfl
  have f1 : W.cell? ⟨A + 1, 1, none⟩ = some (.int .u32 0) := by rw [cell_of_row _ _ _ _ _ _ HW.out.f, HX.out]; rfl
  have f2 : W.cell? ⟨A + 1, 2, none⟩ = some (.int .i64 0) := by rw [cell_of_row _ _ _ _ _ _ HW.out.f, HX.out]; rfl
  have f3 : W.cell? ⟨A + 1, 3, none⟩ = some (.int .u32 0) := by rw [cell_of_row _ _ _ _ _ _ HW.out.f, HX.out]; rfl
  have f4 : W.cell? ⟨A + 1, 4, none⟩ = some (.int .i64 73) := by rw [cell_of_row _ _ _ _ _ _ HW.out.f, HX.out]; rfl
  have a7 := and7 hna
  have b7 := and7 hnb
  have na0 : (0 : Int) ≤ (na : Int) := by omega
  have nb0 : (0 : Int) ≤ (nb : Int) := by omega
  have na8 : (na : Int) < 8 := by omega
  have nb8 : (nb : Int) < 8 := by omega
  have rb := HW.out.r.r hnb
  rw [hy0] at rb
  go_upto_region 8 with fail
  go_quiet (fail)
  have HW2 := hide (HW.out.drewN nq)
  clear HW i0 i1 i2 i3 f0 f1 f2 f3 f4 rb
  generalize W.drewN nq = W2 at *
  have HW := HW2
  clear HW2
  have i0 : W2.cell? ⟨J, 0, none⟩ = some (.int .i64 (no : Int)) := by rw [cell_of_row _ _ _ _ _ _ HW.out.i, HI.out]; rfl
  have i1 : W2.cell? ⟨J, 1, none⟩ = some (.int .i64 (na : Int)) := by rw [cell_of_row _ _ _ _ _ _ HW.out.i, HI.out]; rfl
  have i2 : W2.cell? ⟨J, 2, none⟩ = some (.int .i64 (nb : Int)) := by rw [cell_of_row _ _ _ _ _ _ HW.out.i, HI.out]; rfl
  have i3 : W2.cell? ⟨J, 3, none⟩ = some (.int .i64 z) := by rw [cell_of_row _ _ _ _ _ _ HW.out.i, HI.out]; rfl
  have f0 : W2.cell? ⟨A + 1, 0, none⟩ = some (.int .i64 4) := by rw [cell_of_row _ _ _ _ _ _ HW.out.f, HX.out]; rfl
  have f1 : W2.cell? ⟨A + 1, 1, none⟩ = some (.int .u32 0) := by rw [cell_of_row _ _ _ _ _ _ HW.out.f, HX.out]; rfl
  have f2 : W2.cell? ⟨A + 1, 2, none⟩ = some (.int .i64 0) := by rw [cell_of_row _ _ _ _ _ _ HW.out.f, HX.out]; rfl
  have f3 : W2.cell? ⟨A + 1, 3, none⟩ = some (.int .u32 0) := by rw [cell_of_row _ _ _ _ _ _ HW.out.f, HX.out]; rfl
  have f4 : W2.cell? ⟨A + 1, 4, none⟩ = some (.int .i64 73) := by rw [cell_of_row _ _ _ _ _ _ HW.out.f, HX.out]; rfl
  have hop : (no : Int) = 8 := by have := HN0.out; omega
  have hs := HS.out.1
  have hp := HS.out.2
  subst hs hp
  have rb := HW.out.r.r hnb
  rw [hy0] at rb
  have h8 := rg_take R' pc'
  have hp8 := rg_pc R' pc'
  have hq := fun W => eq_rgR R' 9997 W
  go_wp2_with (first
    | refine wpList_load_row rfl 35 _ rfl A rfl 35 (rg R' pc').toArray (0, 0) _ HW.out.s.out Tryd.underlying35 rfl (info_rg _ _) ?_
    | refine wpList_load_row rfl 35 _ rfl N rfl 35 (rg R' pc').toArray (0, 0) _ HW.out.r.out Tryd.underlying35 rfl (info_rg _ _) ?_)
  go_ret
  subst hN
  exact ⟨rfl, HW.out.b⟩
set_option maxRecDepth 100000 in
set_option maxHeartbeats 4000000 in
theorem steps_div9 (R : Nat → Nat) (pc : Nat) (hR : RgOk R pc) (n : Nat) (i : I) (R' : Nat → Nat) (pc' : Nat) (X : List Value) (no na nb : Nat) (z : Int) (hi : i = ⟨(no : Int), na, nb, z⟩) (hna : na < 8) (hnb : nb < 8) (hno : no = 9) (hX : X = e5 4 0 0 0 73) (hs : R' = R) (hp : pc' = pc) (hy0 : R nb = 0) (hO : Ops w)
    (hdec : ∀ w, Ops w → Calls Tryd.prog 11 #[.int .u32 (n : Nat)] w fun e w' => e = .returned (.tuple #[.agg #[.int .i64 i.op, .int .i64 i.a, .int .i64 i.b, .int .i64 i.imm], .int .i64 0]) ∧ Below w.heap.size w w')
    (hex : ∀ w, Ops w → Calls Tryd.prog 12 #[.agg (rg R pc).toArray, .int .u32 (n : Nat)] w fun e w' => e = .returned (.tuple #[.agg (rg R' pc').toArray, .agg X.toArray]) ∧ Below w.heap.size w w') :
    Calls Tryd.prog 5 #[.agg (rg R pc).toArray, .int .u32 (n : Nat)] w fun e w' => e = .returned (.bool true) ∧ Below w.heap.size w w' := by
  have HS := hide (And.intro hs hp)
  have HI := hide hi
  have HN0 := hide hno
  clear hs hp hi hno
  have hex' := hex
  have HO := hide (hO.below (bel1 w (.cells (rg R pc).toArray 35)))
  have HR0 := hide (Rb.new w R pc)
  have HX := hide hX
  have lX : X.length = 5 := by rw [hX]; rfl
  have hiX : (Tryd.prog.info? 37).map (·.size) = some X.toArray.size := by simp only [List.size_toArray, lX]; exact info_eff
  have oX : X.toArray.all (·.oneCell') = true := all_oneCell_toArray (by rw [hX]; exact e5_ones _ _ _ _ _)
  have LX2 : Hid ((5 : Nat) = X.toArray.size) := by apply hide; simp [lX]
  have HIX := hide hiX
  have OX := hide oX
  clear hO hX hex hiX oX lX
  go_enter Tryd.func5, Tryd.ntmps5
  go_wp2_with fail
  refine (known_any _ HO.out).mono ?_
  rintro e w1 ⟨rfl, hb⟩
  have HB1 := hide ((bel1 w _).trans (hb.mono (by simp)))
  have HO1 := hide (HO.out.below hb)
  have HR1 := hide (HR0.out.below hb)
  clear hb HO HR0
  obtain ⟨N, hN⟩ : ∃ N, w.heap.size = N := ⟨_, rfl⟩
  have hN1 : N ≤ w1.heap.size := by rw [← hN]; exact HB1.out.size
  have hNlt : N < w1.heap.size := by rw [← hN]; exact HR1.out.lt
  rw [hN] at HB1 HR1 ⊢
  go_wp2_with fail
  refine (hdec _ HO1.out).mono ?_
  rintro e w2 ⟨rfl, hb⟩
  have HB2 := hide (HB1.out.trans (hb.mono hN1))
  have HO2 := hide ((HO1.out.below hb).below (bel1 w2 (.cells #[.int .i64 i.op, .int .i64 i.a, .int .i64 i.b, .int .i64 i.imm] 23)))
  have HR2 := hide (HR1.out.below hb)
  have HRb := hide ((HR1.out.below hb).below (bel1 w2 (.cells #[.int .i64 i.op, .int .i64 i.a, .int .i64 i.b, .int .i64 i.imm] 23)))
  have hN2 := Nat.le_trans hN1 hb.size
  clear hb HO1 HB1 HR1 hdec hN1 hNlt
  go_upto_region 5 with (first
    | refine wpList_load_row rfl 35 _ rfl N rfl 35 (rg R pc).toArray (0, 0) _ HRb.out.out Tryd.underlying35 rfl (info_rg _ _) ?_
    | (go_at_call 12; refine (hex' _ HO2.out).mono ?_; rintro e w3 ⟨rfl, hb⟩; have HW := hide (Lw.new (R' := R') (pc' := pc') (X := X) HR2.out HB2.out hN2 hb); clear hb)
    | refine wpList_store_row rfl 35 _ _ rfl w3.heap.size (rg R' pc').toArray rfl rfl 35 #[.int .u32 0, .int .u32 0, .int .u32 0, .int .u32 0, .int .u32 0, .int .u32 0, .int .u32 0, .int .u32 0, .int .u32 0] (by rw [(bel1 _ _).block _ (by simp)]; exact heap_alloc_last w3 _) (info_rg _ _) (by rw [rg_size]; rfl) (rg_one _ _) ?_
    | refine wpList_store_row rfl 37 _ _ rfl (w3.heap.size + 1) X.toArray rfl rfl 37 #[.int .i64 0, .int .u32 0, .int .i64 0, .int .u32 0, .int .i64 0] (by rw [setRow_other _ _ _ _ (by omega)]; exact heap_alloc_at1 w3 _ _) HIX.out LX2.out OX.out ?_)
  clear hex' HO2 HR2 HRb HB2 hN2
  simp only [Act.put]
  generalize ((((w3.alloc (Obj.cells #[Value.int .u32 0, .int .u32 0, .int .u32 0, .int .u32 0, .int .u32 0, .int .u32 0, .int .u32 0, .int .u32 0, .int .u32 0] 35)).alloc (Obj.cells #[Value.int .i64 0, .int .u32 0, .int .i64 0, .int .u32 0, .int .i64 0] 37)).setRow w3.heap.size (rg R' pc').toArray).setRow (w3.heap.size + 1) X.toArray) = W at *
  generalize w3.heap.size = A at *
  generalize w2.heap.size = J at *
  have i0 : W.cell? ⟨J, 0, none⟩ = some (.int .i64 (no : Int)) := by rw [cell_of_row _ _ _ _ _ _ HW.out.i, HI.out]; rfl
  have i1 : W.cell? ⟨J, 1, none⟩ = some (.int .i64 (na : Int)) := by rw [cell_of_row _ _ _ _ _ _ HW.out.i, HI.out]; rfl
  have i2 : W.cell? ⟨J, 2, none⟩ = some (.int .i64 (nb : Int)) := by rw [cell_of_row _ _ _ _ _ _ HW.out.i, HI.out]; rfl
  have i3 : W.cell? ⟨J, 3, none⟩ = some (.int .i64 z) := by rw [cell_of_row _ _ _ _ _ _ HW.out.i, HI.out]; rfl
  have f0 : W.cell? ⟨A + 1, 0, none⟩ = some (.int .i64 4) := by rw [cell_of_row _ _ _ _ _ _ HW.out.f, HX.out]; rfl
  have f1 : W.cell? ⟨A + 1, 1, none⟩ = some (.int .u32 0) := by rw [cell_of_row _ _ _ _ _ _ HW.out.f, HX.out]; rfl
  have f2 : W.cell? ⟨A + 1, 2, none⟩ = some (.int .i64 0) := by rw [cell_of_row _ _ _ _ _ _ HW.out.f, HX.out]; rfl
  have f3 : W.cell? ⟨A + 1, 3, none⟩ = some (.int .u32 0) := by rw [cell_of_row _ _ _ _ _ _ HW.out.f, HX.out]; rfl
  have f4 : W.cell? ⟨A + 1, 4, none⟩ = some (.int .i64 73) := by rw [cell_of_row _ _ _ _ _ _ HW.out.f, HX.out]; rfl
  have a7 := and7 hna
  have b7 := and7 hnb
  have na0 : (0 : Int) ≤ (na : Int) := by omega
  have nb0 : (0 : Int) ≤ (nb : Int) := by omega
  have na8 : (na : Int) < 8 := by omega
  have nb8 : (nb : Int) < 8 := by omega
  have rb := HW.out.r.r hnb
  rw [hy0] at rb
  go_upto_region 8 with fail
  go_quiet (fail)
  have HW2 := hide (HW.out.drewN nq)
  clear HW i0 i1 i2 i3 f0 f1 f2 f3 f4 rb
  generalize W.drewN nq = W2 at *
  have HW := HW2
  clear HW2
  have i0 : W2.cell? ⟨J, 0, none⟩ = some (.int .i64 (no : Int)) := by rw [cell_of_row _ _ _ _ _ _ HW.out.i, HI.out]; rfl
  have i1 : W2.cell? ⟨J, 1, none⟩ = some (.int .i64 (na : Int)) := by rw [cell_of_row _ _ _ _ _ _ HW.out.i, HI.out]; rfl
  have i2 : W2.cell? ⟨J, 2, none⟩ = some (.int .i64 (nb : Int)) := by rw [cell_of_row _ _ _ _ _ _ HW.out.i, HI.out]; rfl
  have i3 : W2.cell? ⟨J, 3, none⟩ = some (.int .i64 z) := by rw [cell_of_row _ _ _ _ _ _ HW.out.i, HI.out]; rfl
  have f0 : W2.cell? ⟨A + 1, 0, none⟩ = some (.int .i64 4) := by rw [cell_of_row _ _ _ _ _ _ HW.out.f, HX.out]; rfl
  have f1 : W2.cell? ⟨A + 1, 1, none⟩ = some (.int .u32 0) := by rw [cell_of_row _ _ _ _ _ _ HW.out.f, HX.out]; rfl
  have f2 : W2.cell? ⟨A + 1, 2, none⟩ = some (.int .i64 0) := by rw [cell_of_row _ _ _ _ _ _ HW.out.f, HX.out]; rfl
  have f3 : W2.cell? ⟨A + 1, 3, none⟩ = some (.int .u32 0) := by rw [cell_of_row _ _ _ _ _ _ HW.out.f, HX.out]; rfl
  have f4 : W2.cell? ⟨A + 1, 4, none⟩ = some (.int .i64 73) := by rw [cell_of_row _ _ _ _ _ _ HW.out.f, HX.out]; rfl
  have hop : (no : Int) = 9 := by have := HN0.out; omega
  have hs := HS.out.1
  have hp := HS.out.2
  subst hs hp
  have rb := HW.out.r.r hnb
  rw [hy0] at rb
  have h8 := rg_take R' pc'
  have hp8 := rg_pc R' pc'
  have hq := fun W => eq_rgR R' 9997 W
  go_wp2_with (first
    | refine wpList_load_row rfl 35 _ rfl A rfl 35 (rg R' pc').toArray (0, 0) _ HW.out.s.out Tryd.underlying35 rfl (info_rg _ _) ?_
    | refine wpList_load_row rfl 35 _ rfl N rfl 35 (rg R' pc').toArray (0, 0) _ HW.out.r.out Tryd.underlying35 rfl (info_rg _ _) ?_)
  go_ret
  subst hN
  exact ⟨rfl, HW.out.b⟩
end
end Go.Proofs.YtfonenigkjngoaaDoor
