import Derived.Test.YtfonenigkjngoaaDoorK1
import Derived.Deep.Cut
import Derived.Deep.QuietTactic
namespace Go.Proofs.YtfonenigkjngoaaDoor
open Go.RowKit
set_option linter.unusedVariables false
theorem rg_take (R : Nat → Nat) (pc : Nat) : List.take 8 (rg R pc) = rgR R := by
  unfold rg; rw [List.take_append_of_le_length (by rw [rgR_len]; omega), List.take_of_length_le (by rw [rgR_len]; omega)]
theorem heap_alloc_at1 (w : World) (o o' : Obj) : ((w.alloc o).alloc o').heap[w.heap.size + 1]? = some o' := by
  have := heap_alloc_last (w.alloc o) o'
  simpa using this
structure Lw (w W : World) (N J A : Nat) (R : Nat → Nat) (pc : Nat) (i : I) (R' : Nat → Nat) (pc' : Nat) (X : List Value) : Prop where
  r : Rb W N R pc
  i : W.heap[J]? = some (.cells i.cells.toArray 23 (0, 0))
  s : Rb W A R' pc'
  f : W.heap[A + 1]? = some (.cells X.toArray 37 (0, 0))
  b : Below N w W
theorem Lw.new {w w2 w3 : World} {N : Nat} {R : Nat → Nat} {pc : Nat} {i : I} {R' : Nat → Nat} {pc' : Nat} {X : List Value} (hr : Rb w2 N R pc) (hb2 : Below N w w2) (hN : N ≤ w2.heap.size)
    (hb : Below (w2.alloc (.cells i.cells.toArray 23)).heap.size (w2.alloc (.cells i.cells.toArray 23)) w3) :
    Lw w (((w3.alloc (.cells #[.int .u32 0, .int .u32 0, .int .u32 0, .int .u32 0, .int .u32 0, .int .u32 0, .int .u32 0, .int .u32 0, .int .u32 0] 35)).alloc (.cells #[.int .i64 0, .int .u32 0, .int .i64 0, .int .u32 0, .int .i64 0] 37)).setRow w3.heap.size (rg R' pc').toArray |>.setRow (w3.heap.size + 1) X.toArray) N w2.heap.size w3.heap.size R pc i R' pc' X := by
  have hi3 : w3.heap[w2.heap.size]? = some (.cells i.cells.toArray 23 (0, 0)) := by rw [hb.block _ (by simp)]; exact heap_alloc_last _ _
  have hr3 := (hr.below (bel1 w2 _)).below hb
  have b3 : Below N w w3 := hb2.trans (((bel1 w2 _).trans (hb.mono (by simp))).mono hN)
  have hs3 : w2.heap.size < w3.heap.size := sz1 hb
  have hN3 : N < w3.heap.size := hr3.lt
  have s1 : (w3.alloc (.cells #[.int .u32 0, .int .u32 0, .int .u32 0, .int .u32 0, .int .u32 0, .int .u32 0, .int .u32 0, .int .u32 0, .int .u32 0] 35)).heap.size = w3.heap.size + 1 := by simp
  have hA := heap_alloc_last w3 (.cells #[.int .u32 0, .int .u32 0, .int .u32 0, .int .u32 0, .int .u32 0, .int .u32 0, .int .u32 0, .int .u32 0, .int .u32 0] 35)
  have o1 := bel1 w3 (.cells #[.int .u32 0, .int .u32 0, .int .u32 0, .int .u32 0, .int .u32 0, .int .u32 0, .int .u32 0, .int .u32 0, .int .u32 0] 35)
  generalize w3.alloc (.cells #[.int .u32 0, .int .u32 0, .int .u32 0, .int .u32 0, .int .u32 0, .int .u32 0, .int .u32 0, .int .u32 0, .int .u32 0] 35) = w4 at *
  have hB := heap_alloc_last w4 (.cells #[.int .i64 0, .int .u32 0, .int .i64 0, .int .u32 0, .int .i64 0] 37)
  rw [s1] at hB
  have o2 := bel1 w4 (.cells #[.int .i64 0, .int .u32 0, .int .i64 0, .int .u32 0, .int .i64 0] 37)
  generalize w4.alloc (.cells #[.int .i64 0, .int .u32 0, .int .i64 0, .int .u32 0, .int .i64 0] 37) = w5 at *
  have o := o1.trans (o2.mono (by omega))
  have hA5 : w5.heap[w3.heap.size]? = some (.cells #[.int .u32 0, .int .u32 0, .int .u32 0, .int .u32 0, .int .u32 0, .int .u32 0, .int .u32 0, .int .u32 0, .int .u32 0] 35 (0, 0)) := by rw [o2.block _ (by omega)]; exact hA
  have old : ∀ k, k < w3.heap.size → ((w5.setRow w3.heap.size (rg R' pc').toArray).setRow (w3.heap.size + 1) X.toArray).heap[k]? = w3.heap[k]? := fun k hk => by
    rw [setRow_other _ _ k _ (by omega), setRow_other _ _ k _ (by omega)]; exact o.block k hk
  refine ⟨⟨by rw [old _ hN3]; exact hr3.out⟩, by rw [old _ hs3]; exact hi3, ⟨?_⟩, ?_, ?_⟩
  · rw [setRow_other _ _ _ _ (by omega)]; exact setRow_heap _ _ _ _ _ _ hA5
  · exact setRow_heap _ _ _ _ _ _ (by rw [setRow_other _ _ _ _ (by omega)]; exact hB)
  · have oN : Below N w w5 := b3.trans (o.mono (by omega))
    exact ⟨oN.os, oN.tape, oN.output, by simpa [World.setRow] using oN.size, fun k hk => by rw [old k (by omega)]; exact b3.block k hk⟩
section
variable (w : World)
set_option maxRecDepth 100000 in
set_option maxHeartbeats 4000000 in
theorem steps_trap (R : Nat → Nat) (pc : Nat) (hR : RgOk R pc) (n : Nat) (i : I) (R' : Nat → Nat) (pc' : Nat) (X : List Value) (hX : X = e5 4 0 0 0 70) (hs : R' = R) (hp : pc' = pc) (hO : Ops w)
    (hdec : ∀ w, Ops w → Calls Tryd.prog 11 #[.int .u32 (n : Nat)] w fun e w' => e = .returned (.tuple #[.agg #[.int .i64 i.op, .int .i64 i.a, .int .i64 i.b, .int .i64 i.imm], .int .i64 70]) ∧ Below w.heap.size w w')
    (hex : ∀ w, Ops w → Calls Tryd.prog 12 #[.agg (rg R pc).toArray, .int .u32 (n : Nat)] w fun e w' => e = .returned (.tuple #[.agg (rg R' pc').toArray, .agg X.toArray]) ∧ Below w.heap.size w w') :
    Calls Tryd.prog 5 #[.agg (rg R pc).toArray, .int .u32 (n : Nat)] w fun e w' => e = .returned (.bool true) ∧ Below w.heap.size w w' := by
  have HS := hide (And.intro hs hp)
  clear hs hp
  have hex' := hex
  have HO := hide (hO.below (bel1 w (.cells (rg R pc).toArray 35)))
  have HR0 := hide (Rb.new w R pc)
  have HX := hide hX
  have lX : X.length = 5 := by rw [hX]; rfl
  have hiX : (Tryd.prog.info? 37).map (·.size) = some X.toArray.size := by simp only [List.size_toArray, lX]; exact info_eff
  have oX : X.toArray.all (·.oneCell') = true := all_oneCell_toArray (by rw [hX]; exact e5_ones _ _ _ _ _)
  have LX2 : Hid ((5 : Nat) = X.toArray.size) := by apply hide; simp [lX]
  have HIX := hide hiX
  have OX := hide oX
  clear hO hX hex hiX oX lX
  go_enter Tryd.func5, Tryd.ntmps5
  go_wp2_with fail
  refine (known_any _ HO.out).mono ?_
  rintro e w1 ⟨rfl, hb⟩
  have HB1 := hide ((bel1 w _).trans (hb.mono (by simp)))
  have HO1 := hide (HO.out.below hb)
  have HR1 := hide (HR0.out.below hb)
  clear hb HO HR0
  obtain ⟨N, hN⟩ : ∃ N, w.heap.size = N := ⟨_, rfl⟩
  have hN1 : N ≤ w1.heap.size := by rw [← hN]; exact HB1.out.size
  have hNlt : N < w1.heap.size := by rw [← hN]; exact HR1.out.lt
  rw [hN] at HB1 HR1 ⊢
  go_wp2_with fail
  refine (hdec _ HO1.out).mono ?_
  rintro e w2 ⟨rfl, hb⟩
  have HB2 := hide (HB1.out.trans (hb.mono hN1))
  have HO2 := hide ((HO1.out.below hb).below (bel1 w2 (.cells #[.int .i64 i.op, .int .i64 i.a, .int .i64 i.b, .int .i64 i.imm] 23)))
  have HR2 := hide (HR1.out.below hb)
  have HRb := hide ((HR1.out.below hb).below (bel1 w2 (.cells #[.int .i64 i.op, .int .i64 i.a, .int .i64 i.b, .int .i64 i.imm] 23)))
  have hN2 := Nat.le_trans hN1 hb.size
  clear hb HO1 HB1 HR1 hdec hN1 hNlt
  go_upto_region 5 with (first
    | refine wpList_load_row rfl 35 _ rfl N rfl 35 (rg R pc).toArray (0, 0) _ HRb.out.out Tryd.underlying35 rfl (info_rg _ _) ?_
    | (go_at_call 12; refine (hex' _ HO2.out).mono ?_; rintro e w3 ⟨rfl, hb⟩; have HW := hide (Lw.new (R' := R') (pc' := pc') (X := X) HR2.out HB2.out hN2 hb); clear hb)
    | refine wpList_store_row rfl 35 _ _ rfl w3.heap.size (rg R' pc').toArray rfl rfl 35 #[.int .u32 0, .int .u32 0, .int .u32 0, .int .u32 0, .int .u32 0, .int .u32 0, .int .u32 0, .int .u32 0, .int .u32 0] (by rw [(bel1 _ _).block _ (by simp)]; exact heap_alloc_last w3 _) (info_rg _ _) (by rw [rg_size]; rfl) (rg_one _ _) ?_
    | refine wpList_store_row rfl 37 _ _ rfl (w3.heap.size + 1) X.toArray rfl rfl 37 #[.int .i64 0, .int .u32 0, .int .i64 0, .int .u32 0, .int .i64 0] (by rw [setRow_other _ _ _ _ (by omega)]; exact heap_alloc_at1 w3 _ _) HIX.out LX2.out OX.out ?_)
  clear hex' HO2 HR2 HRb HB2 hN2
  simp only [Act.put]
  generalize ((((w3.alloc (Obj.cells #[Value.int .u32 0, .int .u32 0, .int .u32 0, .int .u32 0, .int .u32 0, .int .u32 0, .int .u32 0, .int .u32 0, .int .u32 0] 35)).alloc (Obj.cells #[Value.int .i64 0, .int .u32 0, .int .i64 0, .int .u32 0, .int .i64 0] 37)).setRow w3.heap.size (rg R' pc').toArray).setRow (w3.heap.size + 1) X.toArray) = W at *
  generalize w3.heap.size = A at *
  generalize w2.heap.size = J at *
  have i0 : W.cell? ⟨J, 0, none⟩ = some (.int .i64 i.op) := by rw [cell_of_row _ _ _ _ _ _ HW.out.i]; rfl
  have i1 : W.cell? ⟨J, 1, none⟩ = some (.int .i64 i.a) := by rw [cell_of_row _ _ _ _ _ _ HW.out.i]; rfl
  have i2 : W.cell? ⟨J, 2, none⟩ = some (.int .i64 i.b) := by rw [cell_of_row _ _ _ _ _ _ HW.out.i]; rfl
  have i3 : W.cell? ⟨J, 3, none⟩ = some (.int .i64 i.imm) := by rw [cell_of_row _ _ _ _ _ _ HW.out.i]; rfl
  have f0 : W.cell? ⟨A + 1, 0, none⟩ = some (.int .i64 4) := by rw [cell_of_row _ _ _ _ _ _ HW.out.f, HX.out]; rfl
  have f1 : W.cell? ⟨A + 1, 1, none⟩ = some (.int .u32 0) := by rw [cell_of_row _ _ _ _ _ _ HW.out.f, HX.out]; rfl
  have f2 : W.cell? ⟨A + 1, 2, none⟩ = some (.int .i64 0) := by rw [cell_of_row _ _ _ _ _ _ HW.out.f, HX.out]; rfl
  have f3 : W.cell? ⟨A + 1, 3, none⟩ = some (.int .u32 0) := by rw [cell_of_row _ _ _ _ _ _ HW.out.f, HX.out]; rfl
  have f4 : W.cell? ⟨A + 1, 4, none⟩ = some (.int .i64 70) := by rw [cell_of_row _ _ _ _ _ _ HW.out.f, HX.out]; rfl
  have hs := HS.out.1
  have hp := HS.out.2
  subst hs hp
  have h8 := rg_take R' pc'
  have hp8 := rg_pc R' pc'
  have hq := fun W => eq_rgR R' 9997 W
  go_wp2_with (first
    | refine wpList_load_row rfl 35 _ rfl A rfl 35 (rg R' pc').toArray (0, 0) _ HW.out.s.out Tryd.underlying35 rfl (info_rg _ _) ?_
    | refine wpList_load_row rfl 35 _ rfl N rfl 35 (rg R' pc').toArray (0, 0) _ HW.out.r.out Tryd.underlying35 rfl (info_rg _ _) ?_)
  go_ret
  subst hN
  exact ⟨rfl, HW.out.b⟩
end
end Go.Proofs.YtfonenigkjngoaaDoor
