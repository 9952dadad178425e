import Derived.Test.YtfonenigkjngoaaR0
import Derived.Deep.Cut
namespace Go.Proofs.Ytfonenigkjngoaa
open Go.RowKit
set_option linter.unusedVariables false
def nx (pc : Nat) : Nat := (pc + 1) % 4294967296
theorem nx_cast (pc : Nat) : ((nx pc : Nat) : Int) = ((pc : Int) + 1) % 4294967296 := by unfold nx; omega
theorem rb_nx {w : World} {N : Nat} {R : Nat → Nat} {pc : Nat} (h : Rb w N R pc) : Rb (w.setCell ⟨N, 8, none⟩ (.int .u32 (((pc : Int) + 1) % 4294967296))) N R (nx pc) := by
  have := h.setpc (nx pc); rwa [nx_cast] at this
theorem bel1 (w : World) (o : Obj) : Below w.heap.size w (w.alloc o) := (Below.refl _ _).alloc (Nat.le_refl _) _
structure Ef where
  k : Int
  a : Int
  r : Int
  v : Int
  c : Int
def Ef.cells (e : Ef) : List Value := [.int .i64 e.k, .int .u32 e.a, .int .i64 e.r, .int .u32 e.v, .int .i64 e.c]
/-- what a call begins with: three new blocks -/
structure Bg (w W : World) (N : Nat) (R : Nat → Nat) (pc : Nat) (e : Ef) : Prop where
  r : Rb W N R pc
  e : W.heap[N + 1]? = some (.cells e.cells.toArray 28 (0, 0))
  z : Rb W (N + 1 + 1) (fun _ => 0) 0
  b : Below N w W
theorem Bg.new (w : World) (R : Nat → Nat) (pc : Nat) (e : Ef) : Bg w (((w.alloc (.cells (rg R pc).toArray 25)).alloc (.cells e.cells.toArray 28)).alloc (.cells (rg (fun _ => 0) 0).toArray 25)) w.heap.size R pc e := by
  have r0 := Rb.new w R pc
  have s1 : (w.alloc (.cells (rg R pc).toArray 25)).heap.size = w.heap.size + 1 := by simp
  generalize hw1 : w.alloc (.cells (rg R pc).toArray 25) = w1 at *
  have b1 : Below w.heap.size w w1 := by rw [← hw1]; exact bel1 _ _
  clear hw1
  have e0 := heap_alloc_last w1 (.cells e.cells.toArray 28)
  rw [s1] at e0
  have b2 := bel1 w1 (.cells e.cells.toArray 28)
  have s2 : (w1.alloc (.cells e.cells.toArray 28)).heap.size = w.heap.size + 1 + 1 := by simp [s1]
  generalize hw2 : w1.alloc (.cells e.cells.toArray 28) = w2 at *
  clear hw2
  have z0 := Rb.new w2 (fun _ => 0) 0
  rw [s2] at z0
  have b3 := bel1 w2 (.cells (rg (fun _ => 0) 0).toArray 25)
  exact ⟨(r0.below b2).below b3, by rw [b3.block _ (by omega)]; exact e0, z0, (b1.trans (b2.mono (by omega))).trans (b3.mono (by omega))⟩
theorem Bg.setCell {w W : World} {N : Nat} {R : Nat → Nat} {pc : Nat} {e : Ef} (h : Bg w W N R pc e) {o : Nat} {v : Value} {R' : Nat → Nat} {pc' : Nat} (hr : Rb (W.setCell ⟨N, o, none⟩ v) N R' pc') : Bg w (W.setCell ⟨N, o, none⟩ v) N R' pc' e :=
  ⟨hr, by rw [heap_setCell_other _ _ _ _ (by simp)]; exact h.e, h.z.keep (heap_setCell_other _ _ _ _ (by simp; omega)), h.b.setCell (Nat.le_refl _) _⟩
theorem ret_u32 {x y : Int} (h : x = y) : Ending.returned (.int .u32 x) = .returned (.int .u32 y) := by rw [h]
theorem word_eq (z : Int) : (wrap64 (z.tmod 4294967296 + 4294967296)).tmod 4294967296 % 4294967296 = z % 4294967296 := by
  obtain ⟨t, ht⟩ : ∃ t, z.tmod 4294967296 = t := ⟨_, rfl⟩
  obtain ⟨q, hq⟩ : ∃ q, z.tdiv 4294967296 = q := ⟨_, rfl⟩
  have h1 := Int.tmod_add_mul_tdiv z 4294967296
  have h2 := Int.tmod_lt_of_pos z (show (0 : Int) < 4294967296 by decide)
  have h3 : -4294967296 < z.tmod 4294967296 := by
    have := Int.lt_tmod_of_pos z (show (0 : Int) < 4294967296 by decide)
    omega
  rw [ht] at h1 h2 h3 ⊢
  rw [hq] at h1
  have e : wrap64 (t + 4294967296) = t + 4294967296 := by
    unfold wrap64; omega
  rw [e, Int.tmod_eq_emod_of_nonneg (by omega)]
  omega
section
variable (w : World)
theorem word_any (z : Int) : Calls Try.prog 6 #[.int .i64 z] w fun e w' => e = .returned (.int .u32 (z % 4294967296)) ∧ w' = w := by
  go_enter Try.func6, Try.ntmps6
  go_wp2
  go_ret
  exact ⟨ret_u32 (word_eq z), rfl⟩
set_option maxRecDepth 100000 in
set_option maxHeartbeats 1000000 in
theorem fin_B (R : Nat → Nat) (pc : Nat) (hpc : pc < 4294967296) (e : Ef) (wd : Nat) (hk : e.k = 1) (hr : e.r < 0) : Calls Try.prog 4 #[.agg (rg R pc).toArray, .agg e.cells.toArray, .int .u32 (wd : Nat)] w fun e' w' => e' = .returned (.agg (rg R pc).toArray) ∧ Below w.heap.size w w' := by
  have HKk := hide hk
  clear hk
  have hB := Bg.new w R pc e
  rw [← rg_zero] at hB
  obtain ⟨ek, ea, er, ev, ec⟩ := e
  simp only [Ef.cells] at *
  go_enter Try.func4, Try.ntmps4
  go_upto_region 1 with fail
  generalize (((w.alloc (.cells (rg R pc).toArray 25)).alloc (.cells [Value.int .i64 ek, .int .u32 ea, .int .i64 er, .int .u32 ev, .int .i64 ec].toArray 28)).alloc (.cells #[.int .u32 0, .int .u32 0, .int .u32 0, .int .u32 0, .int .u32 0, .int .u32 0, .int .u32 0, .int .u32 0, .int .u32 0] 25)) = w1 at *
  obtain ⟨N, hN⟩ : ∃ N, w.heap.size = N := ⟨_, rfl⟩
  rw [hN] at hB ⊢
  have c0 : w1.cell? ⟨N + 1, 0, none⟩ = some (.int .i64 ek) := by rw [cell_of_row _ _ _ _ _ _ hB.e]; rfl
  have c2 : w1.cell? ⟨N + 1, 2, none⟩ = some (.int .i64 er) := by rw [cell_of_row _ _ _ _ _ _ hB.e]; rfl
  have hk := HKk.out
  subst hk
  have HB := hide hB
  clear hB
  go_wp2_with (first
    | refine wpList_load_row rfl 25 _ rfl N rfl 25 (rg R pc).toArray (0, 0) _ HB.out.r.out Try.underlying25 rfl (info_rg _ _) ?_
    | refine wpList_store_row rfl 25 _ _ rfl (N + 1 + 1) (rg R pc).toArray rfl rfl 25 _ HB.out.z.out (info_rg _ _) (by rw [rg_size, rg_size]) (rg_one _ _) ?_)
  refine bodyPost_ret (results_cell_row rfl _ _ (N + 1 + 1) 25 (rg R pc).toArray (0, 0) _ rfl (setRow_heap _ _ _ _ _ _ HB.out.z.out) Try.underlying25 rfl (info_rg _ _)) rfl ?_
  subst hN
  refine ⟨rfl, HB.out.b.os, HB.out.b.tape, HB.out.b.output, by simpa [World.setRow] using HB.out.b.size, fun k hk => by rw [setRow_other _ _ k _ (by omega)]; exact HB.out.b.block k hk⟩
set_option maxRecDepth 100000 in
set_option maxHeartbeats 1000000 in
theorem fin_C (R : Nat → Nat) (pc : Nat) (hpc : pc < 4294967296) (e : Ef) (wd : Nat) (hk : e.k = 1) (hr : 8 ≤ e.r) : Calls Try.prog 4 #[.agg (rg R pc).toArray, .agg e.cells.toArray, .int .u32 (wd : Nat)] w fun e' w' => e' = .returned (.agg (rg R pc).toArray) ∧ Below w.heap.size w w' := by
  have HKk := hide hk
  clear hk
  have hB := Bg.new w R pc e
  rw [← rg_zero] at hB
  obtain ⟨ek, ea, er, ev, ec⟩ := e
  simp only [Ef.cells] at *
  go_enter Try.func4, Try.ntmps4
  go_upto_region 1 with fail
  generalize (((w.alloc (.cells (rg R pc).toArray 25)).alloc (.cells [Value.int .i64 ek, .int .u32 ea, .int .i64 er, .int .u32 ev, .int .i64 ec].toArray 28)).alloc (.cells #[.int .u32 0, .int .u32 0, .int .u32 0, .int .u32 0, .int .u32 0, .int .u32 0, .int .u32 0, .int .u32 0, .int .u32 0] 25)) = w1 at *
  obtain ⟨N, hN⟩ : ∃ N, w.heap.size = N := ⟨_, rfl⟩
  rw [hN] at hB ⊢
  have c0 : w1.cell? ⟨N + 1, 0, none⟩ = some (.int .i64 ek) := by rw [cell_of_row _ _ _ _ _ _ hB.e]; rfl
  have c2 : w1.cell? ⟨N + 1, 2, none⟩ = some (.int .i64 er) := by rw [cell_of_row _ _ _ _ _ _ hB.e]; rfl
  have hk := HKk.out
  subst hk
  have hr0 : ¬ er < 0 := by omega
  have HB := hide hB
  clear hB
  go_wp2_with (first
    | refine wpList_load_row rfl 25 _ rfl N rfl 25 (rg R pc).toArray (0, 0) _ HB.out.r.out Try.underlying25 rfl (info_rg _ _) ?_
    | refine wpList_store_row rfl 25 _ _ rfl (N + 1 + 1) (rg R pc).toArray rfl rfl 25 _ HB.out.z.out (info_rg _ _) (by rw [rg_size, rg_size]) (rg_one _ _) ?_)
  refine bodyPost_ret (results_cell_row rfl _ _ (N + 1 + 1) 25 (rg R pc).toArray (0, 0) _ rfl (setRow_heap _ _ _ _ _ _ HB.out.z.out) Try.underlying25 rfl (info_rg _ _)) rfl ?_
  subst hN
  refine ⟨rfl, HB.out.b.os, HB.out.b.tape, HB.out.b.output, by simpa [World.setRow] using HB.out.b.size, fun k hk => by rw [setRow_other _ _ k _ (by omega)]; exact HB.out.b.block k hk⟩
set_option maxRecDepth 100000 in
set_option maxHeartbeats 1000000 in
theorem fin_E (R : Nat → Nat) (pc : Nat) (hpc : pc < 4294967296) (e : Ef) (wd : Nat) (hk1 : ¬ e.k = 1) (hk2 : ¬ e.k = 2) : Calls Try.prog 4 #[.agg (rg R pc).toArray, .agg e.cells.toArray, .int .u32 (wd : Nat)] w fun e' w' => e' = .returned (.agg (rg R pc).toArray) ∧ Below w.heap.size w w' := by
  have hB := Bg.new w R pc e
  rw [← rg_zero] at hB
  obtain ⟨ek, ea, er, ev, ec⟩ := e
  simp only [Ef.cells] at *
  go_enter Try.func4, Try.ntmps4
  go_upto_region 1 with fail
  generalize (((w.alloc (.cells (rg R pc).toArray 25)).alloc (.cells [Value.int .i64 ek, .int .u32 ea, .int .i64 er, .int .u32 ev, .int .i64 ec].toArray 28)).alloc (.cells #[.int .u32 0, .int .u32 0, .int .u32 0, .int .u32 0, .int .u32 0, .int .u32 0, .int .u32 0, .int .u32 0, .int .u32 0] 25)) = w1 at *
  obtain ⟨N, hN⟩ : ∃ N, w.heap.size = N := ⟨_, rfl⟩
  rw [hN] at hB ⊢
  have c0 : w1.cell? ⟨N + 1, 0, none⟩ = some (.int .i64 ek) := by rw [cell_of_row _ _ _ _ _ _ hB.e]; rfl
  have c2 : w1.cell? ⟨N + 1, 2, none⟩ = some (.int .i64 er) := by rw [cell_of_row _ _ _ _ _ _ hB.e]; rfl
  have HB := hide hB
  clear hB
  go_wp2_with (first
    | refine wpList_load_row rfl 25 _ rfl N rfl 25 (rg R pc).toArray (0, 0) _ HB.out.r.out Try.underlying25 rfl (info_rg _ _) ?_
    | refine wpList_store_row rfl 25 _ _ rfl (N + 1 + 1) (rg R pc).toArray rfl rfl 25 _ HB.out.z.out (info_rg _ _) (by rw [rg_size, rg_size]) (rg_one _ _) ?_)
  refine bodyPost_ret (results_cell_row rfl _ _ (N + 1 + 1) 25 (rg R pc).toArray (0, 0) _ rfl (setRow_heap _ _ _ _ _ _ HB.out.z.out) Try.underlying25 rfl (info_rg _ _)) rfl ?_
  subst hN
  refine ⟨rfl, HB.out.b.os, HB.out.b.tape, HB.out.b.output, by simpa [World.setRow] using HB.out.b.size, fun k hk => by rw [setRow_other _ _ k _ (by omega)]; exact HB.out.b.block k hk⟩
set_option maxRecDepth 100000 in
set_option maxHeartbeats 1000000 in
theorem fin_D (R : Nat → Nat) (pc : Nat) (hpc : pc < 4294967296) (e : Ef) (wd : Nat) (hk : e.k = 2) : Calls Try.prog 4 #[.agg (rg R pc).toArray, .agg e.cells.toArray, .int .u32 (wd : Nat)] w fun e' w' => e' = .returned (.agg (rg R (nx pc)).toArray) ∧ Below w.heap.size w w' := by
  have HKk := hide hk
  clear hk
  have hB := Bg.new w R pc e
  rw [← rg_zero] at hB
  obtain ⟨ek, ea, er, ev, ec⟩ := e
  simp only [Ef.cells] at *
  go_enter Try.func4, Try.ntmps4
  go_upto_region 1 with fail
  generalize (((w.alloc (.cells (rg R pc).toArray 25)).alloc (.cells [Value.int .i64 ek, .int .u32 ea, .int .i64 er, .int .u32 ev, .int .i64 ec].toArray 28)).alloc (.cells #[.int .u32 0, .int .u32 0, .int .u32 0, .int .u32 0, .int .u32 0, .int .u32 0, .int .u32 0, .int .u32 0, .int .u32 0] 25)) = w1 at *
  obtain ⟨N, hN⟩ : ∃ N, w.heap.size = N := ⟨_, rfl⟩
  rw [hN] at hB ⊢
  have c0 : w1.cell? ⟨N + 1, 0, none⟩ = some (.int .i64 ek) := by rw [cell_of_row _ _ _ _ _ _ hB.e]; rfl
  have c2 : w1.cell? ⟨N + 1, 2, none⟩ = some (.int .i64 er) := by rw [cell_of_row _ _ _ _ _ _ hB.e]; rfl
  have hk := HKk.out
  subst hk
  have p8 := hB.r.p
  have f8 := hB.r.frz
  have HB := hide hB
  clear hB
  go_upto_region 9 with fail
  have HB2 := hide (HB.out.setCell (rb_nx HB.out.r))
  clear HB c0 c2 p8 f8
  generalize w1.setCell ⟨N, 8, none⟩ (.int .u32 (((pc : Int) + 1) % 4294967296)) = w2 at *
  go_wp2_with (first
    | refine wpList_load_row rfl 25 _ rfl N rfl 25 (rg R (nx pc)).toArray (0, 0) _ HB2.out.r.out Try.underlying25 rfl (info_rg _ _) ?_
    | refine wpList_store_row rfl 25 _ _ rfl (N + 1 + 1) (rg R (nx pc)).toArray rfl rfl 25 _ HB2.out.z.out (info_rg _ _) (by rw [rg_size, rg_size]) (rg_one _ _) ?_)
  refine bodyPost_ret (results_cell_row rfl _ _ (N + 1 + 1) 25 (rg R (nx pc)).toArray (0, 0) _ rfl (setRow_heap _ _ _ _ _ _ HB2.out.z.out) Try.underlying25 rfl (info_rg _ _)) rfl ?_
  subst hN
  refine ⟨rfl, HB2.out.b.os, HB2.out.b.tape, HB2.out.b.output, by simpa [World.setRow] using HB2.out.b.size, fun k hk => by rw [setRow_other _ _ k _ (by omega)]; exact HB2.out.b.block k hk⟩
set_option maxRecDepth 100000 in
set_option maxHeartbeats 1000000 in
theorem fin_A (R : Nat → Nat) (pc : Nat) (hpc : pc < 4294967296) (e : Ef) (wd : Nat) (hk : e.k = 1) (k : Nat) (hr : e.r = k) (hk8 : k < 8) : Calls Try.prog 4 #[.agg (rg R pc).toArray, .agg e.cells.toArray, .int .u32 (wd : Nat)] w fun e' w' => e' = .returned (.agg (rg (put R k wd) (nx pc)).toArray) ∧ Below w.heap.size w w' := by
  have HKk := hide hk
  have HKr := hide hr
  clear hr
  clear hk
  have hB := Bg.new w R pc e
  rw [← rg_zero] at hB
  obtain ⟨ek, ea, er, ev, ec⟩ := e
  simp only [Ef.cells] at *
  go_enter Try.func4, Try.ntmps4
  go_upto_region 1 with fail
  generalize (((w.alloc (.cells (rg R pc).toArray 25)).alloc (.cells [Value.int .i64 ek, .int .u32 ea, .int .i64 er, .int .u32 ev, .int .i64 ec].toArray 28)).alloc (.cells #[.int .u32 0, .int .u32 0, .int .u32 0, .int .u32 0, .int .u32 0, .int .u32 0, .int .u32 0, .int .u32 0, .int .u32 0] 25)) = w1 at *
  obtain ⟨N, hN⟩ : ∃ N, w.heap.size = N := ⟨_, rfl⟩
  rw [hN] at hB ⊢
  have c0 : w1.cell? ⟨N + 1, 0, none⟩ = some (.int .i64 ek) := by rw [cell_of_row _ _ _ _ _ _ hB.e]; rfl
  have c2 : w1.cell? ⟨N + 1, 2, none⟩ = some (.int .i64 er) := by rw [cell_of_row _ _ _ _ _ _ hB.e]; rfl
  have hk := HKk.out
  subst hk
  have hr := HKr.out
  subst hr
  have p8 := hB.r.p
  have f8 := hB.r.frz
  have ck := hB.r.r hk8
  have k0 : (0 : Int) ≤ (k : Int) := by omega
  have k8 : (k : Int) < 8 := by omega
  have HB := hide hB
  clear hB
  go_upto_region 9 with fail
  have HB1 := hide (HB.out.setCell (HB.out.r.put hk8 wd))
  have HB2 := hide (HB1.out.setCell (rb_nx HB1.out.r))
  clear HB HB1 c0 c2 p8 f8 ck
  generalize (w1.setCell ⟨N, k, none⟩ (.int .u32 (wd : Nat))).setCell ⟨N, 8, none⟩ (.int .u32 (((pc : Int) + 1) % 4294967296)) = w2 at *
  go_wp2_with (first
    | refine wpList_load_row rfl 25 _ rfl N rfl 25 (rg (put R k wd) (nx pc)).toArray (0, 0) _ HB2.out.r.out Try.underlying25 rfl (info_rg _ _) ?_
    | refine wpList_store_row rfl 25 _ _ rfl (N + 1 + 1) (rg (put R k wd) (nx pc)).toArray rfl rfl 25 _ HB2.out.z.out (info_rg _ _) (by rw [rg_size, rg_size]) (rg_one _ _) ?_)
  refine bodyPost_ret (results_cell_row rfl _ _ (N + 1 + 1) 25 (rg (put R k wd) (nx pc)).toArray (0, 0) _ rfl (setRow_heap _ _ _ _ _ _ HB2.out.z.out) Try.underlying25 rfl (info_rg _ _)) rfl ?_
  subst hN
  refine ⟨rfl, HB2.out.b.os, HB2.out.b.tape, HB2.out.b.output, by simpa [World.setRow] using HB2.out.b.size, fun k hk => by rw [setRow_other _ _ k _ (by omega)]; exact HB2.out.b.block k hk⟩
set_option maxRecDepth 100000 in
set_option maxHeartbeats 1000000 in
theorem rfin_B (R : Nat → Nat) (pc : Nat) (hpc : pc < 4294967296) (e : Ef) (wd : Nat) (hk : e.k = 1) (hr : e.r < 0) : Calls Try.prog 5 #[.agg (rg R pc).toArray, .agg e.cells.toArray, .int .u32 (wd : Nat)] w fun e' w' => e' = .returned (.agg (rg R pc).toArray) ∧ Below w.heap.size w w' := by
  have HKk := hide hk
  clear hk
  have hB := Bg.new w R pc e
  rw [← rg_zero] at hB
  obtain ⟨ek, ea, er, ev, ec⟩ := e
  simp only [Ef.cells] at *
  go_enter Try.func5, Try.ntmps5
  go_upto_region 1 with fail
  generalize (((w.alloc (.cells (rg R pc).toArray 25)).alloc (.cells [Value.int .i64 ek, .int .u32 ea, .int .i64 er, .int .u32 ev, .int .i64 ec].toArray 28)).alloc (.cells #[.int .u32 0, .int .u32 0, .int .u32 0, .int .u32 0, .int .u32 0, .int .u32 0, .int .u32 0, .int .u32 0, .int .u32 0] 25)) = w1 at *
  obtain ⟨N, hN⟩ : ∃ N, w.heap.size = N := ⟨_, rfl⟩
  rw [hN] at hB ⊢
  have c0 : w1.cell? ⟨N + 1, 0, none⟩ = some (.int .i64 ek) := by rw [cell_of_row _ _ _ _ _ _ hB.e]; rfl
  have c2 : w1.cell? ⟨N + 1, 2, none⟩ = some (.int .i64 er) := by rw [cell_of_row _ _ _ _ _ _ hB.e]; rfl
  have hk := HKk.out
  subst hk
  have HB := hide hB
  clear hB
  go_wp2_with (first
    | refine wpList_load_row rfl 25 _ rfl N rfl 25 (rg R pc).toArray (0, 0) _ HB.out.r.out Try.underlying25 rfl (info_rg _ _) ?_
    | refine wpList_store_row rfl 25 _ _ rfl (N + 1 + 1) (rg R pc).toArray rfl rfl 25 _ HB.out.z.out (info_rg _ _) (by rw [rg_size, rg_size]) (rg_one _ _) ?_)
  refine bodyPost_ret (results_cell_row rfl _ _ (N + 1 + 1) 25 (rg R pc).toArray (0, 0) _ rfl (setRow_heap _ _ _ _ _ _ HB.out.z.out) Try.underlying25 rfl (info_rg _ _)) rfl ?_
  subst hN
  refine ⟨rfl, HB.out.b.os, HB.out.b.tape, HB.out.b.output, by simpa [World.setRow] using HB.out.b.size, fun k hk => by rw [setRow_other _ _ k _ (by omega)]; exact HB.out.b.block k hk⟩
set_option maxRecDepth 100000 in
set_option maxHeartbeats 1000000 in
theorem rfin_C (R : Nat → Nat) (pc : Nat) (hpc : pc < 4294967296) (e : Ef) (wd : Nat) (hk : e.k = 1) (hr : 8 ≤ e.r) : Calls Try.prog 5 #[.agg (rg R pc).toArray, .agg e.cells.toArray, .int .u32 (wd : Nat)] w fun e' w' => e' = .returned (.agg (rg R pc).toArray) ∧ Below w.heap.size w w' := by
  have HKk := hide hk
  clear hk
  have hB := Bg.new w R pc e
  rw [← rg_zero] at hB
  obtain ⟨ek, ea, er, ev, ec⟩ := e
  simp only [Ef.cells] at *
  go_enter Try.func5, Try.ntmps5
  go_upto_region 1 with fail
  generalize (((w.alloc (.cells (rg R pc).toArray 25)).alloc (.cells [Value.int .i64 ek, .int .u32 ea, .int .i64 er, .int .u32 ev, .int .i64 ec].toArray 28)).alloc (.cells #[.int .u32 0, .int .u32 0, .int .u32 0, .int .u32 0, .int .u32 0, .int .u32 0, .int .u32 0, .int .u32 0, .int .u32 0] 25)) = w1 at *
  obtain ⟨N, hN⟩ : ∃ N, w.heap.size = N := ⟨_, rfl⟩
  rw [hN] at hB ⊢
  have c0 : w1.cell? ⟨N + 1, 0, none⟩ = some (.int .i64 ek) := by rw [cell_of_row _ _ _ _ _ _ hB.e]; rfl
  have c2 : w1.cell? ⟨N + 1, 2, none⟩ = some (.int .i64 er) := by rw [cell_of_row _ _ _ _ _ _ hB.e]; rfl
  have hk := HKk.out
  subst hk
  have hr0 : ¬ er < 0 := by omega
  have HB := hide hB
  clear hB
  go_wp2_with (first
    | refine wpList_load_row rfl 25 _ rfl N rfl 25 (rg R pc).toArray (0, 0) _ HB.out.r.out Try.underlying25 rfl (info_rg _ _) ?_
    | refine wpList_store_row rfl 25 _ _ rfl (N + 1 + 1) (rg R pc).toArray rfl rfl 25 _ HB.out.z.out (info_rg _ _) (by rw [rg_size, rg_size]) (rg_one _ _) ?_)
  refine bodyPost_ret (results_cell_row rfl _ _ (N + 1 + 1) 25 (rg R pc).toArray (0, 0) _ rfl (setRow_heap _ _ _ _ _ _ HB.out.z.out) Try.underlying25 rfl (info_rg _ _)) rfl ?_
  subst hN
  refine ⟨rfl, HB.out.b.os, HB.out.b.tape, HB.out.b.output, by simpa [World.setRow] using HB.out.b.size, fun k hk => by rw [setRow_other _ _ k _ (by omega)]; exact HB.out.b.block k hk⟩
set_option maxRecDepth 100000 in
set_option maxHeartbeats 1000000 in
theorem rfin_E (R : Nat → Nat) (pc : Nat) (hpc : pc < 4294967296) (e : Ef) (wd : Nat) (hk1 : ¬ e.k = 1) (hk2 : ¬ e.k = 2) : Calls Try.prog 5 #[.agg (rg R pc).toArray, .agg e.cells.toArray, .int .u32 (wd : Nat)] w fun e' w' => e' = .returned (.agg (rg R pc).toArray) ∧ Below w.heap.size w w' := by
  have hB := Bg.new w R pc e
  rw [← rg_zero] at hB
  obtain ⟨ek, ea, er, ev, ec⟩ := e
  simp only [Ef.cells] at *
  go_enter Try.func5, Try.ntmps5
  go_upto_region 1 with fail
  generalize (((w.alloc (.cells (rg R pc).toArray 25)).alloc (.cells [Value.int .i64 ek, .int .u32 ea, .int .i64 er, .int .u32 ev, .int .i64 ec].toArray 28)).alloc (.cells #[.int .u32 0, .int .u32 0, .int .u32 0, .int .u32 0, .int .u32 0, .int .u32 0, .int .u32 0, .int .u32 0, .int .u32 0] 25)) = w1 at *
  obtain ⟨N, hN⟩ : ∃ N, w.heap.size = N := ⟨_, rfl⟩
  rw [hN] at hB ⊢
  have c0 : w1.cell? ⟨N + 1, 0, none⟩ = some (.int .i64 ek) := by rw [cell_of_row _ _ _ _ _ _ hB.e]; rfl
  have c2 : w1.cell? ⟨N + 1, 2, none⟩ = some (.int .i64 er) := by rw [cell_of_row _ _ _ _ _ _ hB.e]; rfl
  have HB := hide hB
  clear hB
  go_wp2_with (first
    | refine wpList_load_row rfl 25 _ rfl N rfl 25 (rg R pc).toArray (0, 0) _ HB.out.r.out Try.underlying25 rfl (info_rg _ _) ?_
    | refine wpList_store_row rfl 25 _ _ rfl (N + 1 + 1) (rg R pc).toArray rfl rfl 25 _ HB.out.z.out (info_rg _ _) (by rw [rg_size, rg_size]) (rg_one _ _) ?_)
  refine bodyPost_ret (results_cell_row rfl _ _ (N + 1 + 1) 25 (rg R pc).toArray (0, 0) _ rfl (setRow_heap _ _ _ _ _ _ HB.out.z.out) Try.underlying25 rfl (info_rg _ _)) rfl ?_
  subst hN
  refine ⟨rfl, HB.out.b.os, HB.out.b.tape, HB.out.b.output, by simpa [World.setRow] using HB.out.b.size, fun k hk => by rw [setRow_other _ _ k _ (by omega)]; exact HB.out.b.block k hk⟩
set_option maxRecDepth 100000 in
set_option maxHeartbeats 1000000 in
theorem rfin_D (R : Nat → Nat) (pc : Nat) (hpc : pc < 4294967296) (e : Ef) (wd : Nat) (hk : e.k = 2) : Calls Try.prog 5 #[.agg (rg R pc).toArray, .agg e.cells.toArray, .int .u32 (wd : Nat)] w fun e' w' => e' = .returned (.agg (rg R (nx pc)).toArray) ∧ Below w.heap.size w w' := by
  have HKk := hide hk
  clear hk
  have hB := Bg.new w R pc e
  rw [← rg_zero] at hB
  obtain ⟨ek, ea, er, ev, ec⟩ := e
  simp only [Ef.cells] at *
  go_enter Try.func5, Try.ntmps5
  go_upto_region 1 with fail
  generalize (((w.alloc (.cells (rg R pc).toArray 25)).alloc (.cells [Value.int .i64 ek, .int .u32 ea, .int .i64 er, .int .u32 ev, .int .i64 ec].toArray 28)).alloc (.cells #[.int .u32 0, .int .u32 0, .int .u32 0, .int .u32 0, .int .u32 0, .int .u32 0, .int .u32 0, .int .u32 0, .int .u32 0] 25)) = w1 at *
  obtain ⟨N, hN⟩ : ∃ N, w.heap.size = N := ⟨_, rfl⟩
  rw [hN] at hB ⊢
  have c0 : w1.cell? ⟨N + 1, 0, none⟩ = some (.int .i64 ek) := by rw [cell_of_row _ _ _ _ _ _ hB.e]; rfl
  have c2 : w1.cell? ⟨N + 1, 2, none⟩ = some (.int .i64 er) := by rw [cell_of_row _ _ _ _ _ _ hB.e]; rfl
  have hk := HKk.out
  subst hk
  have p8 := hB.r.p
  have f8 := hB.r.frz
  have HB := hide hB
  clear hB
  go_upto_region 6 with (go_at_call 6; refine (word_any _ _).mono ?_; rintro e9 w9 ⟨rfl, rfl⟩)
  have HB2 := hide (HB.out.setCell (rb_nx HB.out.r))
  clear HB c0 c2 p8 f8
  generalize w9.setCell ⟨N, 8, none⟩ (.int .u32 (((pc : Int) + 1) % 4294967296)) = w2 at *
  go_wp2_with (first
    | refine wpList_load_row rfl 25 _ rfl N rfl 25 (rg R (nx pc)).toArray (0, 0) _ HB2.out.r.out Try.underlying25 rfl (info_rg _ _) ?_
    | refine wpList_store_row rfl 25 _ _ rfl (N + 1 + 1) (rg R (nx pc)).toArray rfl rfl 25 _ HB2.out.z.out (info_rg _ _) (by rw [rg_size, rg_size]) (rg_one _ _) ?_)
  refine bodyPost_ret (results_cell_row rfl _ _ (N + 1 + 1) 25 (rg R (nx pc)).toArray (0, 0) _ rfl (setRow_heap _ _ _ _ _ _ HB2.out.z.out) Try.underlying25 rfl (info_rg _ _)) rfl ?_
  subst hN
  refine ⟨rfl, HB2.out.b.os, HB2.out.b.tape, HB2.out.b.output, by simpa [World.setRow] using HB2.out.b.size, fun k hk => by rw [setRow_other _ _ k _ (by omega)]; exact HB2.out.b.block k hk⟩
set_option maxRecDepth 100000 in
set_option maxHeartbeats 1000000 in
theorem rfin_A (R : Nat → Nat) (pc : Nat) (hpc : pc < 4294967296) (e : Ef) (wd : Nat) (hk : e.k = 1) (k : Nat) (hr : e.r = k) (hk8 : k < 8) : Calls Try.prog 5 #[.agg (rg R pc).toArray, .agg e.cells.toArray, .int .u32 (wd : Nat)] w fun e' w' => e' = .returned (.agg (rg (put R k wd) (nx pc)).toArray) ∧ Below w.heap.size w w' := by
  have HKk := hide hk
  have HKr := hide hr
  clear hr
  clear hk
  have hB := Bg.new w R pc e
  rw [← rg_zero] at hB
  obtain ⟨ek, ea, er, ev, ec⟩ := e
  simp only [Ef.cells] at *
  go_enter Try.func5, Try.ntmps5
  go_upto_region 1 with fail
  generalize (((w.alloc (.cells (rg R pc).toArray 25)).alloc (.cells [Value.int .i64 ek, .int .u32 ea, .int .i64 er, .int .u32 ev, .int .i64 ec].toArray 28)).alloc (.cells #[.int .u32 0, .int .u32 0, .int .u32 0, .int .u32 0, .int .u32 0, .int .u32 0, .int .u32 0, .int .u32 0, .int .u32 0] 25)) = w1 at *
  obtain ⟨N, hN⟩ : ∃ N, w.heap.size = N := ⟨_, rfl⟩
  rw [hN] at hB ⊢
  have c0 : w1.cell? ⟨N + 1, 0, none⟩ = some (.int .i64 ek) := by rw [cell_of_row _ _ _ _ _ _ hB.e]; rfl
  have c2 : w1.cell? ⟨N + 1, 2, none⟩ = some (.int .i64 er) := by rw [cell_of_row _ _ _ _ _ _ hB.e]; rfl
  have hk := HKk.out
  subst hk
  have hr := HKr.out
  subst hr
  have p8 := hB.r.p
  have f8 := hB.r.frz
  have ck := hB.r.r hk8
  have k0 : (0 : Int) ≤ (k : Int) := by omega
  have k8 : (k : Int) < 8 := by omega
  have HB := hide hB
  clear hB
  go_upto_region 6 with (go_at_call 6; refine (word_any _ _).mono ?_; rintro e9 w9 ⟨rfl, rfl⟩)
  have HB1 := hide (HB.out.setCell (HB.out.r.put hk8 wd))
  have HB2 := hide (HB1.out.setCell (rb_nx HB1.out.r))
  clear HB HB1 c0 c2 p8 f8 ck
  generalize (w1.setCell ⟨N, k, none⟩ (.int .u32 (wd : Nat))).setCell ⟨N, 8, none⟩ (.int .u32 (((pc : Int) + 1) % 4294967296)) = w2 at *
  go_wp2_with (first
    | refine wpList_load_row rfl 25 _ rfl N rfl 25 (rg (put R k wd) (nx pc)).toArray (0, 0) _ HB2.out.r.out Try.underlying25 rfl (info_rg _ _) ?_
    | refine wpList_store_row rfl 25 _ _ rfl (N + 1 + 1) (rg (put R k wd) (nx pc)).toArray rfl rfl 25 _ HB2.out.z.out (info_rg _ _) (by rw [rg_size, rg_size]) (rg_one _ _) ?_)
  refine bodyPost_ret (results_cell_row rfl _ _ (N + 1 + 1) 25 (rg (put R k wd) (nx pc)).toArray (0, 0) _ rfl (setRow_heap _ _ _ _ _ _ HB2.out.z.out) Try.underlying25 rfl (info_rg _ _)) rfl ?_
  subst hN
  refine ⟨rfl, HB2.out.b.os, HB2.out.b.tape, HB2.out.b.output, by simpa [World.setRow] using HB2.out.b.size, fun k hk => by rw [setRow_other _ _ k _ (by omega)]; exact HB2.out.b.block k hk⟩
end
end Go.Proofs.Ytfonenigkjngoaa
