import Derived.Test.YtfonenigkjngoaaFN
import Derived.Test.YtfonenigkjngoaaH1
namespace Go.Proofs.Ytfonenigkjngoaa
open Go.RowKit
theorem two_finish (R : Nat → Nat) (pc : Nat) (hpc : pc < 4294967296) (e : Ef) (wd : Nat) : ∃ R' pc', (∀ w : World, Calls Try.prog 4 #[.agg (rg R pc).toArray, .agg e.cells.toArray, .int .u32 (wd : Nat)] w fun e' w' => e' = .returned (.agg (rg R' pc').toArray) ∧ Below w.heap.size w w') ∧
    ∀ w : World, Calls Try.prog 5 #[.agg (rg R pc).toArray, .agg e.cells.toArray, .int .u32 (wd : Nat)] w fun e' w' => e' = .returned (.agg (rg R' pc').toArray) ∧ Below w.heap.size w w' := by
  by_cases h1 : e.k = 1
  · by_cases hn : e.r < 0
    · exact ⟨R, pc, fun w => fin_B w R pc hpc e wd h1 hn, fun w => rfin_B w R pc hpc e wd h1 hn⟩
    · by_cases h8 : 8 ≤ e.r
      · exact ⟨R, pc, fun w => fin_C w R pc hpc e wd h1 h8, fun w => rfin_C w R pc hpc e wd h1 h8⟩
      · exact ⟨_, _, fun w => fin_A w R pc hpc e wd h1 e.r.toNat (by omega) (by omega), fun w => rfin_A w R pc hpc e wd h1 e.r.toNat (by omega) (by omega)⟩
  · by_cases h2 : e.k = 2
    · exact ⟨_, _, fun w => fin_D w R pc hpc e wd h2, fun w => rfin_D w R pc hpc e wd h2⟩
    · exact ⟨R, pc, fun w => fin_E w R pc hpc e wd h1 h2, fun w => rfin_E w R pc hpc e wd h1 h2⟩
theorem rg_take (R : Nat → Nat) (pc : Nat) : List.take 8 (rg R pc) = rgR R := by
  unfold rg; rw [List.take_append_of_le_length (by rw [rgR_len]; omega), List.take_of_length_le (by rw [rgR_len]; omega)]
def Sf (N M : Nat) (Y E Y' : List Value) (W : World) : Prop := W.rangeAt N 0 Y ∧ W.rangeAt (N + 1) 0 E ∧ W.rangeAt M 0 Y'
theorem range_of {w : World} {b t : Nat} {cs : List Value} (h : w.heap[b]? = some (.cells cs.toArray t (0, 0))) : w.rangeAt b 0 cs := fun j v hv => by
  rw [Nat.zero_add, cell_of_row _ _ _ _ _ _ h]; simpa using hv
theorem info_eff : (Try.prog.info? 28).map (·.size) = some 5 := by kernel_rfl
set_option maxRecDepth 100000 in
set_option maxHeartbeats 2000000 in
theorem finishes_walk (w : World) (R : Nat → Nat) (pc : Nat) (hR : RgOk R pc) (e : Ef) (wd : Nat) : Calls Try.prog 3 #[.agg (rg R pc).toArray, .agg e.cells.toArray, .int .u32 (wd : Nat)] w fun e' w' => e' = .returned (.bool true) ∧ Below w.heap.size w w' := by
  obtain ⟨R', pc', h1, h2⟩ := two_finish R pc hR.p e wd
  have r0 := Rb.new w R pc
  have s1 : (w.alloc (.cells (rg R pc).toArray 25)).heap.size = w.heap.size + 1 := by simp
  have b2 := bel1 (w.alloc (.cells (rg R pc).toArray 25)) (.cells e.cells.toArray 28)
  have e0 := heap_alloc_last (w.alloc (.cells (rg R pc).toArray 25)) (.cells e.cells.toArray 28)
  rw [s1] at e0
  have r1 := r0.below b2
  have b0 : Below w.heap.size w ((w.alloc (.cells (rg R pc).toArray 25)).alloc (.cells e.cells.toArray 28)) := (bel1 w _).trans (b2.mono (by omega))
  clear r0 b2 s1
  have lY : e.cells.length = 5 := rfl
  generalize e.cells = Y at *
  have HX := hide (And.intro r1 (And.intro e0 b0))
  clear r1 e0 b0
  go_enter Try.func3, Try.ntmps3
  go_upto_region 1 with fail
  generalize (w.alloc (.cells (rg R pc).toArray 25)).alloc (.cells Y.toArray 28) = w1 at *
  obtain ⟨N, hN⟩ : ∃ N, w.heap.size = N := ⟨_, rfl⟩
  rw [hN] at HX ⊢
  go_wp2_with (first
    | refine wpList_load_row rfl 25 _ rfl N rfl 25 (rg R pc).toArray (0, 0) _ HX.out.1.out Try.underlying25 rfl (info_rg _ _) ?_
    | refine wpList_load_row rfl 28 _ rfl (N + 1) rfl 28 Y.toArray (0, 0) _ HX.out.2.1 Try.underlying28 rfl (by simp only [List.size_toArray, lY]; exact info_eff) ?_
    | (go_at_call 4; refine (h1 _).mono ?_; rintro e' w2 ⟨rfl, hb⟩; have HB := hide hb; clear hb)
    | refine wpList_store_row rfl 25 _ _ rfl w2.heap.size (rg R' pc').toArray rfl rfl 25 _ (heap_alloc_last w2 _) (info_rg _ _) (by rw [rg_size]; rfl) (rg_one _ _) ?_)
  have b9 : Below w2.heap.size w2 ((w2.alloc (Obj.cells #[Value.int .u32 0, .int .u32 0, .int .u32 0, .int .u32 0, .int .u32 0, .int .u32 0, .int .u32 0, .int .u32 0, .int .u32 0] 25)).setRow w2.heap.size (rg R' pc').toArray) :=
    ⟨rfl, rfl, rfl, by simp [World.setRow], fun k hk => by rw [setRow_other _ _ k _ (by omega), (bel1 w2 _).block k hk]⟩
  have r9 : Rb ((w2.alloc (Obj.cells #[Value.int .u32 0, .int .u32 0, .int .u32 0, .int .u32 0, .int .u32 0, .int .u32 0, .int .u32 0, .int .u32 0, .int .u32 0] 25)).setRow w2.heap.size (rg R' pc').toArray) w2.heap.size R' pc' := ⟨setRow_heap _ _ _ _ _ _ (heap_alloc_last w2 _)⟩
  have b8 := HB.out.trans (b9.mono HB.out.size)
  have r8 := HX.out.1.below b8
  have e8 := (b8.block (N + 1) (Array.getElem?_eq_some_iff.1 HX.out.2.1).1).trans HX.out.2.1
  have c8 := HX.out.2.2.trans (b8.mono (by rw [← hN]; exact HX.out.2.2.size))
  have HZ := hide (And.intro r8 (And.intro e8 (And.intro r9 c8)))
  clear b9 r9 b8 r8 e8 c8 HB HX
  generalize (w2.alloc (Obj.cells #[Value.int .u32 0, .int .u32 0, .int .u32 0, .int .u32 0, .int .u32 0, .int .u32 0, .int .u32 0, .int .u32 0, .int .u32 0] 25)).setRow w2.heap.size (rg R' pc').toArray = w3 at *
  generalize w2.heap.size = M at *
  simp only [Act.put]
  have hS : Sf N M (rg R pc) Y (rg R' pc') w3.drew := ⟨range_of HZ.out.1.out, range_of HZ.out.2.1, range_of HZ.out.2.2.1.out⟩
  have hiY : (Try.prog.info? 28).map (·.size) = some Y.length := by rw [lY]; exact info_eff
  refine wp_region_held_drew (S := Sf N M (rg R pc) Y (rg R' pc')) (by kernel_rfl) hS (fun hHeld => ?_)
  refine held_load 0 (o := ⟨some 12, _, _, _, _, _⟩) (by kernel_rfl) (by kernel_rfl) (by kernel_rfl) rfl (by rfl) rfl (rg R' pc') rfl (fun W h => h.2.2) Try.underlying25 rfl (by rw [rg_len]; exact info_regs) (fun _ _ _ h => h) hHeld ?_
  simp only [Act.put, List.setIfInBounds_toArray, List.set_cons_zero, List.set_cons_succ]
  refine held_load 1 (o := ⟨some 13, _, _, _, _, _⟩) (by kernel_rfl) (by kernel_rfl) (by kernel_rfl) rfl (by rfl) rfl (rg R pc) rfl (fun W h => h.1) Try.underlying25 rfl (by rw [rg_len]; exact info_regs) (fun _ _ _ h => h) hHeld ?_
  simp only [Act.put, List.setIfInBounds_toArray, List.set_cons_zero, List.set_cons_succ]
  refine held_load 2 (o := ⟨some 14, _, _, _, _, _⟩) (by kernel_rfl) (by kernel_rfl) (by kernel_rfl) rfl (by rfl) rfl Y rfl (fun W h => h.2.1) Try.underlying28 rfl hiY (fun _ _ _ h => h) hHeld ?_
  simp only [Act.put, List.setIfInBounds_toArray, List.set_cons_zero, List.set_cons_succ]
  refine held_take 3 (o := ⟨some 15, _, _, _, _, _⟩) (.int .u32 (wd : Nat)) (by kernel_rfl) (by kernel_rfl) (by kernel_rfl) rfl (by rfl) (fun W hSw => by first | (go_simp; done) | rfl) (fun _ _ _ h => h) hHeld ?_
  simp only [Act.put, List.setIfInBounds_toArray, List.set_cons_zero, List.set_cons_succ]
  refine held_call 4 (o := ⟨some 16, _, _, _, _, _⟩) (by kernel_rfl) rfl (by rfl) (fun K hK => ?_)
  go_simp
  go_wp2_with (go_at_call 5; refine (h2 _).mono ?_; rintro e' w4 ⟨rfl, hb⟩)
  have HB4 : Hid (Below N w w4) := hide (Below.trans (b := w3.drew) HZ.out.2.2.2.drew (hb.mono (by rw [← hN]; exact HZ.out.2.2.2.size)))
  have hS4 : Sf N M (rg R pc) Y (rg R' pc') w4 := ⟨range_of (Rb.below (w := w3.drew) ⟨HZ.out.1.out⟩ hb).out, range_of ((hb.block (N + 1) (Array.getElem?_eq_some_iff.1 HZ.out.2.1).1).trans HZ.out.2.1), range_of (Rb.below (w := w3.drew) ⟨HZ.out.2.2.1.out⟩ hb).out⟩
  clear hb hHeld hS HZ
  refine hK _ _ hS4 ?_
  clear hK K
  refine held_take 5 (o := ⟨some 17, _, _, _, _, _⟩) (.bool true) (by kernel_rfl) (by kernel_rfl) (by kernel_rfl) rfl (by rfl) (fun W hSw => by have h := eq_rgR R' 9997 W; have h8 := rg_take R' pc'; have hp := rg_pc R' pc'; go_simp; try simp [h8, h, hp]) (fun _ _ _ h => h) hS4 ?_
  simp only [Act.put, List.setIfInBounds_toArray, List.set_cons_zero, List.set_cons_succ]
  refine held_take 6 (o := ⟨some 6, _, _, _, _, _⟩) (.bool true) (by kernel_rfl) (by kernel_rfl) (by kernel_rfl) rfl (by rfl) (fun W hSw => by first | (go_simp; done) | rfl) (fun _ _ _ h => h) hS4 ?_
  simp only [Act.put, List.setIfInBounds_toArray, List.set_cons_zero, List.set_cons_succ]
  refine wpAnyH_done (by kernel_rfl) ?_ _
  clear hS4
  go_wp2
  go_ret
  subst hN
  exact ⟨rfl, HB4.out⟩
end Go.Proofs.Ytfonenigkjngoaa
