import Derived.Test.YtjhphhcmefeiiaaDoorXC
import Derived.Test.YtjhphhcmefeiiaaDoorE9
import Derived.Test.YtjhphhcmefeiiaaDoorI6
import Derived.Deep.RegionHeld
import Derived.Deep.DeepCutAuto
namespace Go.Proofs.YtjhphhcmefeiiaaDoor
open Go.RowKit
set_option linter.unusedVariables false
theorem parts_imm (n : Nat) : -65536 < (parts n).imm ∧ (parts n).imm < 65536 := by
  unfold parts
  simp only
  split <;> omega
section
variable {P : Program} {ops : Array Oper} {Q : Exit → Act → World → Prop} {S : World → Prop} {fuel : Nat} {listed : Array Bool} {a : Act} {w : World}
theorem hd_call (i : Nat) {o : Oper} (hr : Region.ready .any ops listed = [i]) (ho : ops[i]? = some o) (hw : Region.wanted o (yielded ops a.tmps) = true)
    (h : ∀ K : Act → World → Prop, (∀ a w, S w → wpAnyH P .any ops Q S fuel (listed.setIfInBounds i true) a w → K a w) → Oper.wp P o a w K Q) : wpAnyH P .any ops Q S (fuel + 1) listed a w := by
  refine wpAnyH_ready hr (by simp) (AllReadyH.cons ho (fun K hK => ?_) AllReadyH.nil)
  rw [if_pos hw]
  exact h K (fun a w hS hh => hK.out a w hS (fun _ => hh))
/-- what yields in whatever world that meets S -/
theorem hd_take (i : Nat) {o : Oper} (v : Value) (hs : Region.noSelect ops = true) (hf : Region.free .any ops listed i = true) (hr : (Region.ready .any ops listed).contains i = true) (ho : ops[i]? = some o) (hw : Region.wanted o (yielded ops a.tmps) = true)
    (hy : ∀ w, S w → (execOp a.eval o).run P w = .ok (.value v) w)
    (hQ : ∀ c a w, Q (.panic c) (a.put o.dst v) w → Q (.panic c) a w) (h0 : S w) (h : wpAnyH P .any ops Q S fuel (listed.setIfInBounds i true) (a.put o.dst v) w) : wpAnyH P .any ops Q S (fuel + 1) listed a w :=
  wpAnyH_take ho hs hf hr hQ (Or.inl ⟨hw, hy⟩) h0 h
end
def Sq (N M o : Nat) (v : Value) (Y : List Value) (W : World) : Prop := Sx N Y W ∧ W.cell? ⟨M, o, none⟩ = some v
theorem Sq.keep {W : World} {N M o : Nat} {v : Value} {Y : List Value} (h : Sq N M o v Y W) (hM : M ≠ N + 1 ∧ M ≠ N + 1 + 1) (Z : List Value) : Sq N M o v Y (W.setCells (N + 1) 0 Z) ∧ Sq N M o v Y (W.setCells (N + 1 + 1) 0 Z) :=
  ⟨⟨h.1.set1 _, by rw [World.cell?_setCells_out (N + 1) Z 0 W ⟨M, o, none⟩ (fun e _ => absurd e hM.1)]; exact h.2⟩, ⟨h.1.set2 _, by rw [World.cell?_setCells_out (N + 1 + 1) Z 0 W ⟨M, o, none⟩ (fun e _ => absurd e hM.2)]; exact h.2⟩⟩
theorem reck_op (W : World) (no x y : Nat) (hx : x < 4294967296) (hy : y < 4294967296) (hc : 4 ≤ no ∧ no ≤ 17 ∧ (no = 8 ∨ no = 9 → y ≠ 0)) : Calls Tryd.prog 13 #[.int .i64 (no : Int), .int .i64 (x : Int), .int .i64 (y : Int)] W fun e w' => e = .returned (.tuple #[.int .i64 (rk no (x : Int) (y : Int)), .bool true]) ∧ w' = W := by
  have h : no = 4 ∨ no = 5 ∨ no = 6 ∨ no = 7 ∨ no = 8 ∨ no = 9 ∨ no = 10 ∨ no = 11 ∨ no = 12 ∨ no = 13 ∨ no = 14 ∨ no = 15 ∨ no = 16 ∨ no = 17 := by omega
  rcases h with rfl | rfl | rfl | rfl | rfl | rfl | rfl | rfl | rfl | rfl | rfl | rfl | rfl | rfl
  · exact reck_sum W 4 (by decide) _ _ (by omega) (by omega)
  · exact reck_sum W 5 (by decide) _ _ (by omega) (by omega)
  · exact reck_sum W 6 (by decide) _ _ (by omega) (by omega)
  · exact reck_mul W x y hx hy
  · exact reck_div W 8 x y hx hy (by decide) (hc.2.2 (by decide))
  · exact reck_div W 9 x y hx hy (by decide) (hc.2.2 (by decide))
  · exact reck_bits W 10 x y hx hy (by decide)
  · exact reck_bits W 11 x y hx hy (by decide)
  · exact reck_bits W 12 x y hx hy (by decide)
  · exact reck_sh W 13 x y hx hy (by decide)
  · exact reck_sh W 14 x y hx hy (by decide)
  · exact reck_lt W x y hx hy
  · exact reck_slt W x y hx hy
  · exact reck_eq W x y hx hy
theorem nat_mod {m : Nat} (h : m < 4294967296) : ((m : Nat) : Int) % 4294967296 = ((m : Nat) : Int) := by omega
theorem rk_res {no x y imm : Nat} (hx : x < 4294967296) (hy : y < 4294967296) (hc : 4 ≤ no ∧ no ≤ 17 ∧ (no = 8 ∨ no = 9 → y ≠ 0)) : rk no (x : Int) (y : Int) % 4294967296 = ((res no x y imm : Nat) : Int) := by
  have h : no = 4 ∨ no = 5 ∨ no = 6 ∨ no = 7 ∨ no = 8 ∨ no = 9 ∨ no = 10 ∨ no = 11 ∨ no = 12 ∨ no = 13 ∨ no = 14 ∨ no = 15 ∨ no = 16 ∨ no = 17 := by omega
  rcases h with rfl | rfl | rfl | rfl | rfl | rfl | rfl | rfl | rfl | rfl | rfl | rfl | rfl | rfl
  · exact nat_mod hy
  · show ((x : Int) + (y : Int)) % 4294967296 = (((x + y) % 4294967296 : Nat) : Int); omega
  · show ((x : Int) - (y : Int)) % 4294967296 = (((((x : Int) - (y : Int)) % 4294967296).toNat : Nat) : Int); omega
  · exact nat_mod (Nat.mod_lt _ (by decide))
  · exact nat_mod (Nat.lt_of_le_of_lt (Nat.div_le_self x y) hx)
  · exact nat_mod (Nat.lt_of_le_of_lt (Nat.mod_le x y) hx)
  · exact nat_mod (bw_lt (kind := 0) hx hy)
  · exact nat_mod (bw_lt (kind := 1) hx hy)
  · exact nat_mod (bw_lt (kind := 2) hx hy)
  · have h9 := sl_res (y := y) hx
    show ((sl x (mn y) : Nat) : Int) % 4294967296 = ((if y < 32 then x * 2 ^ y % 4294967296 else 0 : Nat) : Int)
    rw [← h9]; exact nat_mod (sl_lt hx _)
  · have h9 := sr_res (y := y) hx
    show ((sr x (mn y) : Nat) : Int) % 4294967296 = ((if y < 32 then x / 2 ^ y else 0 : Nat) : Int)
    rw [← h9]; exact nat_mod (sr_lt hx _)
  · show (if (x : Int) < (y : Int) then (1 : Int) else 0) % 4294967296 = ((if x < y then 1 else 0 : Nat) : Int)
    by_cases h : x < y
    · rw [if_pos h, if_pos (by omega)]; rfl
    · rw [if_neg h, if_neg (by omega)]; rfl
  · show (if sg x < sg y then (1 : Int) else 0) % 4294967296 = ((if sg x < sg y then 1 else 0 : Nat) : Int)
    by_cases h : sg x < sg y
    · rw [if_pos h, if_pos h]; rfl
    · rw [if_neg h, if_neg h]; rfl
  · show (if (x : Int) = (y : Int) then (1 : Int) else 0) % 4294967296 = ((if x = y then 1 else 0 : Nat) : Int)
    by_cases h : x = y
    · rw [if_pos h, if_pos (by omega)]; rfl
    · rw [if_neg h, if_neg (by omega)]; rfl
/-- where a jump stands -/
structure Jb (w W : World) (N : Nat) (R : Nat → Nat) (pc : Nat) (no na nb z : Int) : Prop where
  r : Rb W N R pc
  i : W.heap[N + 1]? = some (.cells #[.int .i64 no, .int .i64 na, .int .i64 nb, .int .i64 z] 33 (0, 0))
  o : Rb W (N + 1 + 1) (fun _ => 0) 0
  b : Below N w W
theorem Jb.new (w : World) (R : Nat → Nat) (pc : Nat) (no na nb z : Int) : Jb w (((w.alloc (.cells (rg R pc).toArray 25)).alloc (.cells #[.int .i64 no, .int .i64 na, .int .i64 nb, .int .i64 z] 33)).alloc (.cells (rg (fun _ => 0) 0).toArray 25)) w.heap.size R pc no na nb z := by
  have r0 := Rb.new w R pc
  have s1 : (w.alloc (.cells (rg R pc).toArray 25)).heap.size = w.heap.size + 1 := by simp
  generalize hw1 : w.alloc (.cells (rg R pc).toArray 25) = w1 at *
  have b1 : Below w.heap.size w w1 := by rw [← hw1]; exact bel1 _ _
  clear hw1
  have i0 := heap_alloc_last w1 (.cells #[.int .i64 no, .int .i64 na, .int .i64 nb, .int .i64 z] 33)
  have b2 := bel1 w1 (.cells #[.int .i64 no, .int .i64 na, .int .i64 nb, .int .i64 z] 33)
  rw [s1] at i0
  have s2 : (w1.alloc (.cells #[.int .i64 no, .int .i64 na, .int .i64 nb, .int .i64 z] 33)).heap.size = w.heap.size + 1 + 1 := by simp [s1]
  generalize hw2 : w1.alloc (.cells #[.int .i64 no, .int .i64 na, .int .i64 nb, .int .i64 z] 33) = w2 at *
  clear hw2
  have o0 := Rb.new w2 (fun _ => 0) 0
  have b3 := bel1 w2 (.cells (rg (fun _ => 0) 0).toArray 25)
  rw [s2] at o0
  exact ⟨(r0.below b2).below b3, (b3.block _ (by omega)).trans i0, o0, (b1.trans (b2.mono (by omega))).trans (b3.mono (by omega))⟩
section
variable {w W : World} {N : Nat} {R : Nat → Nat} {pc : Nat} {no na nb z : Int}
theorem Jb.setCell (h : Jb w W N R pc no na nb z) {o : Nat} {v : Value} {R' : Nat → Nat} {pc' : Nat} (hr : Rb (W.setCell ⟨N, o, none⟩ v) N R' pc') : Jb w (W.setCell ⟨N, o, none⟩ v) N R' pc' no na nb z :=
  ⟨hr, by rw [heap_setCell_other _ _ _ _ (by show N + 1 ≠ N; omega)]; exact h.i, h.o.keep (heap_setCell_other _ _ _ _ (by show N + 1 + 1 ≠ N; omega)), h.b.setCell (Nat.le_refl _) _⟩
theorem Jb.drew (h : Jb w W N R pc no na nb z) : Jb w W.drew N R pc no na nb z := ⟨⟨h.r.out⟩, h.i, ⟨h.o.out⟩, h.b.drew⟩
theorem Jb.cells (h : Jb w W N R pc no na nb z) : W.cell? ⟨N + 1, 0, none⟩ = some (.int .i64 no) ∧ W.cell? ⟨N + 1, 1, none⟩ = some (.int .i64 na) ∧ W.cell? ⟨N + 1, 3, none⟩ = some (.int .i64 z) :=
  ⟨by rw [cell_of_row _ _ _ _ _ _ h.i]; rfl, by rw [cell_of_row _ _ _ _ _ _ h.i]; rfl, by rw [cell_of_row _ _ _ _ _ _ h.i]; rfl⟩
end
theorem rb_pc {w : World} {N : Nat} {R : Nat → Nat} {pc : Nat} (h : Rb w N R pc) (v : Nat) {z : Int} (hz : z = (v : Int)) : Rb (w.setCell ⟨N, 8, none⟩ (.int .u32 z)) N R v := by rw [hz]; exact h.setpc v
theorem Two.setRowN {w W : World} {N : Nat} (h : Two w W N) (cs : Array Value) : Two w (W.setRow N cs) N :=
  ⟨h.a.keep (setRow_other _ _ _ _ (by omega)), by rw [setRow_other _ _ _ _ (by omega)]; exact h.e, ⟨h.b.os, h.b.tape, h.b.output, by simpa [World.setRow] using h.b.size, fun k hk => by rw [setRow_other W _ k _ (by omega)]; exact h.b.block k hk⟩, by simpa [World.setRow] using h.s⟩
section
variable (w : World) (R : Nat → Nat) (pc na nb : Nat) (z : Int)
set_option maxRecDepth 100000 in
set_option maxHeartbeats 3200000 in
theorem jump21 (hna : na < 8) (hR : RgOk R pc) (hz : -65536 < z ∧ z < 65536) : Calls Tryd.prog 12 #[.agg (rg R pc).toArray, .agg #[.int .i64 21, .int .i64 (na : Int), .int .i64 (nb : Int), .int .i64 z]] w fun e w' => e = .returned (.agg (rg R ((nx pc + im z) % 4294967296)).toArray) ∧ Below w.heap.size w w' := by
  have hB := Jb.new w R pc 21 (na : Int) (nb : Int) z
  rw [← rg_zero] at hB
  have hx32 := hR.r na hna
  have hp32 := hR.p
  have hn0 : (0 : Int) ≤ (na : Int) := by omega
  have hn8 : (na : Int) < 8 := by omega
  go_enter Tryd.func12, Tryd.ntmps12
  go_upto_region 1 with fail
  generalize ((w.alloc (.cells (rg R pc).toArray 25)).alloc (.cells #[.int .i64 21, .int .i64 (na : Int), .int .i64 (nb : Int), .int .i64 z] 33)).alloc (.cells #[.int .u32 0, .int .u32 0, .int .u32 0, .int .u32 0, .int .u32 0, .int .u32 0, .int .u32 0, .int .u32 0, .int .u32 0] 25) = w1 at *
  obtain ⟨N, hN⟩ : ∃ N, w.heap.size = N := ⟨_, rfl⟩
  rw [hN] at hB ⊢
  obtain ⟨c0, c1, c3⟩ := hB.cells
  have p8 := hB.r.p
  have f8 := hB.r.frz
  have ra := hB.r.r hna
  have HB := hide hB
  clear hB
  go_upto_region 5 with (go_at_call 11; refine (word_any _ _).mono ?_; rintro e9 w9 ⟨rfl, hw9⟩; rw [hw9]; clear hw9 w9)
  have HB1 := hide (HB.out.setCell (rb_nx HB.out.r))
  clear HB c0 c1 c3 p8 f8 ra
  generalize w1.setCell ⟨N, 8, none⟩ (.int .u32 (((pc : Int) + 1) % 4294967296)) = w2 at *
  obtain ⟨c0, c1, c3⟩ := HB1.out.cells
  have p8 := HB1.out.r.p
  have f8 := HB1.out.r.frz
  have hpz : wrap64 ((pc : Int) + 1 + z) = (pc : Int) + 1 + z := by unfold wrap64; omega
  have HPz : Hid (((pc : Int) + 1 + z) % 4294967296 = (((nx pc + im z) % 4294967296 : Nat) : Int)) := hide (by unfold nx im; omega)
  go_upto_region 9 with (go_at_call 11; refine (word_any _ _).mono ?_; rintro e9 w9 ⟨rfl, hw9⟩; rw [hw9]; clear hw9 w9)
  have HB4 := hide (HB1.out.setCell (rb_pc HB1.out.r _ HPz.out))
  clear HB1 c0 c1 c3 p8 f8 HPz
  generalize w2.setCell ⟨N, 8, none⟩ (.int .u32 (((pc : Int) + 1 + z) % 4294967296)) = w4 at *
  obtain ⟨c0, c1, c3⟩ := HB4.out.cells
  go_wp2_with (first
    | refine wpList_load_row rfl 25 _ rfl N rfl 25 (rg R ((nx pc + im z) % 4294967296)).toArray (0, 0) _ HB4.out.r.out Tryd.underlying25 rfl (info_rg _ _) ?_
    | refine wpList_store_row rfl 25 _ _ rfl (N + 1 + 1) (rg R ((nx pc + im z) % 4294967296)).toArray rfl rfl 25 _ HB4.out.o.out (info_rg _ _) (by rw [rg_size, rg_size]) (rg_one _ _) ?_)
  refine bodyPost_ret (results_cell_row rfl _ _ (N + 1 + 1) 25 (rg R ((nx pc + im z) % 4294967296)).toArray (0, 0) _ rfl (setRow_heap _ _ _ _ _ _ HB4.out.o.out) Tryd.underlying25 rfl (info_rg _ _)) rfl ?_
  subst hN
  refine ⟨rfl, HB4.out.b.os, HB4.out.b.tape, HB4.out.b.output, by simpa [World.setRow] using HB4.out.b.size, fun k hk => by rw [setRow_other _ _ k _ (by omega)]; exact HB4.out.b.block k hk⟩
set_option maxRecDepth 100000 in
set_option maxHeartbeats 3200000 in
theorem jump22z (hna : na < 8) (hR : RgOk R pc) (hz : -65536 < z ∧ z < 65536) (h0 : R na = 0) : Calls Tryd.prog 12 #[.agg (rg R pc).toArray, .agg #[.int .i64 22, .int .i64 (na : Int), .int .i64 (nb : Int), .int .i64 z]] w fun e w' => e = .returned (.agg (rg R ((nx pc + im z) % 4294967296)).toArray) ∧ Below w.heap.size w w' := by
  have hB := Jb.new w R pc 22 (na : Int) (nb : Int) z
  rw [← rg_zero] at hB
  have hx32 := hR.r na hna
  have hp32 := hR.p
  have hn0 : (0 : Int) ≤ (na : Int) := by omega
  have hn8 : (na : Int) < 8 := by omega
  have hx0 : ((R na : Int) == 0) = true := by simp; omega
  have hx1 : (R na : Int) = 0 := by omega
  go_enter Tryd.func12, Tryd.ntmps12
  go_upto_region 1 with fail
  generalize ((w.alloc (.cells (rg R pc).toArray 25)).alloc (.cells #[.int .i64 22, .int .i64 (na : Int), .int .i64 (nb : Int), .int .i64 z] 33)).alloc (.cells #[.int .u32 0, .int .u32 0, .int .u32 0, .int .u32 0, .int .u32 0, .int .u32 0, .int .u32 0, .int .u32 0, .int .u32 0] 25) = w1 at *
  obtain ⟨N, hN⟩ : ∃ N, w.heap.size = N := ⟨_, rfl⟩
  rw [hN] at hB ⊢
  obtain ⟨c0, c1, c3⟩ := hB.cells
  have p8 := hB.r.p
  have f8 := hB.r.frz
  have ra := hB.r.r hna
  have HB := hide hB
  clear hB
  go_upto_region 5 with (go_at_call 11; refine (word_any _ _).mono ?_; rintro e9 w9 ⟨rfl, hw9⟩; rw [hw9]; clear hw9 w9)
  have HB1 := hide (HB.out.setCell (rb_nx HB.out.r))
  clear HB c0 c1 c3 p8 f8 ra
  generalize w1.setCell ⟨N, 8, none⟩ (.int .u32 (((pc : Int) + 1) % 4294967296)) = w2 at *
  obtain ⟨c0, c1, c3⟩ := HB1.out.cells
  have p8 := HB1.out.r.p
  have f8 := HB1.out.r.frz
  have hpz : wrap64 ((pc : Int) + 1 + z) = (pc : Int) + 1 + z := by unfold wrap64; omega
  have HPz : Hid (((pc : Int) + 1 + z) % 4294967296 = (((nx pc + im z) % 4294967296 : Nat) : Int)) := hide (by unfold nx im; omega)
  go_upto_region 9 with (go_at_call 11; refine (word_any _ _).mono ?_; rintro e9 w9 ⟨rfl, hw9⟩; rw [hw9]; clear hw9 w9)
  have HB4 := hide (HB1.out.setCell (rb_pc HB1.out.r _ HPz.out))
  clear HB1 c0 c1 c3 p8 f8 HPz
  generalize w2.setCell ⟨N, 8, none⟩ (.int .u32 (((pc : Int) + 1 + z) % 4294967296)) = w4 at *
  obtain ⟨c0, c1, c3⟩ := HB4.out.cells
  go_wp2_with (first
    | refine wpList_load_row rfl 25 _ rfl N rfl 25 (rg R ((nx pc + im z) % 4294967296)).toArray (0, 0) _ HB4.out.r.out Tryd.underlying25 rfl (info_rg _ _) ?_
    | refine wpList_store_row rfl 25 _ _ rfl (N + 1 + 1) (rg R ((nx pc + im z) % 4294967296)).toArray rfl rfl 25 _ HB4.out.o.out (info_rg _ _) (by rw [rg_size, rg_size]) (rg_one _ _) ?_)
  refine bodyPost_ret (results_cell_row rfl _ _ (N + 1 + 1) 25 (rg R ((nx pc + im z) % 4294967296)).toArray (0, 0) _ rfl (setRow_heap _ _ _ _ _ _ HB4.out.o.out) Tryd.underlying25 rfl (info_rg _ _)) rfl ?_
  subst hN
  refine ⟨rfl, HB4.out.b.os, HB4.out.b.tape, HB4.out.b.output, by simpa [World.setRow] using HB4.out.b.size, fun k hk => by rw [setRow_other _ _ k _ (by omega)]; exact HB4.out.b.block k hk⟩
set_option maxRecDepth 100000 in
set_option maxHeartbeats 3200000 in
theorem jump22n (hna : na < 8) (hR : RgOk R pc) (hz : -65536 < z ∧ z < 65536) (h0 : R na ≠ 0) : Calls Tryd.prog 12 #[.agg (rg R pc).toArray, .agg #[.int .i64 22, .int .i64 (na : Int), .int .i64 (nb : Int), .int .i64 z]] w fun e w' => e = .returned (.agg (rg R (nx pc)).toArray) ∧ Below w.heap.size w w' := by
  have hB := Jb.new w R pc 22 (na : Int) (nb : Int) z
  rw [← rg_zero] at hB
  have hx32 := hR.r na hna
  have hp32 := hR.p
  have hn0 : (0 : Int) ≤ (na : Int) := by omega
  have hn8 : (na : Int) < 8 := by omega
  have hx0 : ((R na : Int) == 0) = false := by simp; omega
  have hx1 : ¬ (R na : Int) = 0 := by omega
  go_enter Tryd.func12, Tryd.ntmps12
  go_upto_region 1 with fail
  generalize ((w.alloc (.cells (rg R pc).toArray 25)).alloc (.cells #[.int .i64 22, .int .i64 (na : Int), .int .i64 (nb : Int), .int .i64 z] 33)).alloc (.cells #[.int .u32 0, .int .u32 0, .int .u32 0, .int .u32 0, .int .u32 0, .int .u32 0, .int .u32 0, .int .u32 0, .int .u32 0] 25) = w1 at *
  obtain ⟨N, hN⟩ : ∃ N, w.heap.size = N := ⟨_, rfl⟩
  rw [hN] at hB ⊢
  obtain ⟨c0, c1, c3⟩ := hB.cells
  have p8 := hB.r.p
  have f8 := hB.r.frz
  have ra := hB.r.r hna
  have HB := hide hB
  clear hB
  go_upto_region 5 with (go_at_call 11; refine (word_any _ _).mono ?_; rintro e9 w9 ⟨rfl, hw9⟩; rw [hw9]; clear hw9 w9)
  have HB1 := hide (HB.out.setCell (rb_nx HB.out.r))
  clear HB c0 c1 c3 p8 f8 ra
  generalize w1.setCell ⟨N, 8, none⟩ (.int .u32 (((pc : Int) + 1) % 4294967296)) = w2 at *
  obtain ⟨c0, c1, c3⟩ := HB1.out.cells
  have p8 := HB1.out.r.p
  have f8 := HB1.out.r.frz
  go_wp2_with (first
    | refine wpList_load_row rfl 25 _ rfl N rfl 25 (rg R (nx pc)).toArray (0, 0) _ HB1.out.r.out Tryd.underlying25 rfl (info_rg _ _) ?_
    | refine wpList_store_row rfl 25 _ _ rfl (N + 1 + 1) (rg R (nx pc)).toArray rfl rfl 25 _ HB1.out.o.out (info_rg _ _) (by rw [rg_size, rg_size]) (rg_one _ _) ?_)
  refine bodyPost_ret (results_cell_row rfl _ _ (N + 1 + 1) 25 (rg R (nx pc)).toArray (0, 0) _ rfl (setRow_heap _ _ _ _ _ _ HB1.out.o.out) Tryd.underlying25 rfl (info_rg _ _)) rfl ?_
  subst hN
  refine ⟨rfl, HB1.out.b.os, HB1.out.b.tape, HB1.out.b.output, by simpa [World.setRow] using HB1.out.b.size, fun k hk => by rw [setRow_other _ _ k _ (by omega)]; exact HB1.out.b.block k hk⟩
set_option maxRecDepth 100000 in
set_option maxHeartbeats 3200000 in
theorem jump23z (hna : na < 8) (hR : RgOk R pc) (hz : -65536 < z ∧ z < 65536) (h0 : R na = 0) : Calls Tryd.prog 12 #[.agg (rg R pc).toArray, .agg #[.int .i64 23, .int .i64 (na : Int), .int .i64 (nb : Int), .int .i64 z]] w fun e w' => e = .returned (.agg (rg R (nx pc)).toArray) ∧ Below w.heap.size w w' := by
  have hB := Jb.new w R pc 23 (na : Int) (nb : Int) z
  rw [← rg_zero] at hB
  have hx32 := hR.r na hna
  have hp32 := hR.p
  have hn0 : (0 : Int) ≤ (na : Int) := by omega
  have hn8 : (na : Int) < 8 := by omega
  have hx0 : ((R na : Int) == 0) = true := by simp; omega
  have hx1 : (R na : Int) = 0 := by omega
  go_enter Tryd.func12, Tryd.ntmps12
  go_upto_region 1 with fail
  generalize ((w.alloc (.cells (rg R pc).toArray 25)).alloc (.cells #[.int .i64 23, .int .i64 (na : Int), .int .i64 (nb : Int), .int .i64 z] 33)).alloc (.cells #[.int .u32 0, .int .u32 0, .int .u32 0, .int .u32 0, .int .u32 0, .int .u32 0, .int .u32 0, .int .u32 0, .int .u32 0] 25) = w1 at *
  obtain ⟨N, hN⟩ : ∃ N, w.heap.size = N := ⟨_, rfl⟩
  rw [hN] at hB ⊢
  obtain ⟨c0, c1, c3⟩ := hB.cells
  have p8 := hB.r.p
  have f8 := hB.r.frz
  have ra := hB.r.r hna
  have HB := hide hB
  clear hB
  go_upto_region 5 with (go_at_call 11; refine (word_any _ _).mono ?_; rintro e9 w9 ⟨rfl, hw9⟩; rw [hw9]; clear hw9 w9)
  have HB1 := hide (HB.out.setCell (rb_nx HB.out.r))
  clear HB c0 c1 c3 p8 f8 ra
  generalize w1.setCell ⟨N, 8, none⟩ (.int .u32 (((pc : Int) + 1) % 4294967296)) = w2 at *
  obtain ⟨c0, c1, c3⟩ := HB1.out.cells
  have p8 := HB1.out.r.p
  have f8 := HB1.out.r.frz
  go_wp2_with (first
    | refine wpList_load_row rfl 25 _ rfl N rfl 25 (rg R (nx pc)).toArray (0, 0) _ HB1.out.r.out Tryd.underlying25 rfl (info_rg _ _) ?_
    | refine wpList_store_row rfl 25 _ _ rfl (N + 1 + 1) (rg R (nx pc)).toArray rfl rfl 25 _ HB1.out.o.out (info_rg _ _) (by rw [rg_size, rg_size]) (rg_one _ _) ?_)
  refine bodyPost_ret (results_cell_row rfl _ _ (N + 1 + 1) 25 (rg R (nx pc)).toArray (0, 0) _ rfl (setRow_heap _ _ _ _ _ _ HB1.out.o.out) Tryd.underlying25 rfl (info_rg _ _)) rfl ?_
  subst hN
  refine ⟨rfl, HB1.out.b.os, HB1.out.b.tape, HB1.out.b.output, by simpa [World.setRow] using HB1.out.b.size, fun k hk => by rw [setRow_other _ _ k _ (by omega)]; exact HB1.out.b.block k hk⟩
set_option maxRecDepth 100000 in
set_option maxHeartbeats 3200000 in
theorem jump23n (hna : na < 8) (hR : RgOk R pc) (hz : -65536 < z ∧ z < 65536) (h0 : R na ≠ 0) : Calls Tryd.prog 12 #[.agg (rg R pc).toArray, .agg #[.int .i64 23, .int .i64 (na : Int), .int .i64 (nb : Int), .int .i64 z]] w fun e w' => e = .returned (.agg (rg R ((nx pc + im z) % 4294967296)).toArray) ∧ Below w.heap.size w w' := by
  have hB := Jb.new w R pc 23 (na : Int) (nb : Int) z
  rw [← rg_zero] at hB
  have hx32 := hR.r na hna
  have hp32 := hR.p
  have hn0 : (0 : Int) ≤ (na : Int) := by omega
  have hn8 : (na : Int) < 8 := by omega
  have hx0 : ((R na : Int) == 0) = false := by simp; omega
  have hx1 : ¬ (R na : Int) = 0 := by omega
  go_enter Tryd.func12, Tryd.ntmps12
  go_upto_region 1 with fail
  generalize ((w.alloc (.cells (rg R pc).toArray 25)).alloc (.cells #[.int .i64 23, .int .i64 (na : Int), .int .i64 (nb : Int), .int .i64 z] 33)).alloc (.cells #[.int .u32 0, .int .u32 0, .int .u32 0, .int .u32 0, .int .u32 0, .int .u32 0, .int .u32 0, .int .u32 0, .int .u32 0] 25) = w1 at *
  obtain ⟨N, hN⟩ : ∃ N, w.heap.size = N := ⟨_, rfl⟩
  rw [hN] at hB ⊢
  obtain ⟨c0, c1, c3⟩ := hB.cells
  have p8 := hB.r.p
  have f8 := hB.r.frz
  have ra := hB.r.r hna
  have HB := hide hB
  clear hB
  go_upto_region 5 with (go_at_call 11; refine (word_any _ _).mono ?_; rintro e9 w9 ⟨rfl, hw9⟩; rw [hw9]; clear hw9 w9)
  have HB1 := hide (HB.out.setCell (rb_nx HB.out.r))
  clear HB c0 c1 c3 p8 f8 ra
  generalize w1.setCell ⟨N, 8, none⟩ (.int .u32 (((pc : Int) + 1) % 4294967296)) = w2 at *
  obtain ⟨c0, c1, c3⟩ := HB1.out.cells
  have p8 := HB1.out.r.p
  have f8 := HB1.out.r.frz
  have hpz : wrap64 ((pc : Int) + 1 + z) = (pc : Int) + 1 + z := by unfold wrap64; omega
  have HPz : Hid (((pc : Int) + 1 + z) % 4294967296 = (((nx pc + im z) % 4294967296 : Nat) : Int)) := hide (by unfold nx im; omega)
  go_upto_region 9 with (go_at_call 11; refine (word_any _ _).mono ?_; rintro e9 w9 ⟨rfl, hw9⟩; rw [hw9]; clear hw9 w9)
  have HB4 := hide (HB1.out.setCell (rb_pc HB1.out.r _ HPz.out))
  clear HB1 c0 c1 c3 p8 f8 HPz
  generalize w2.setCell ⟨N, 8, none⟩ (.int .u32 (((pc : Int) + 1 + z) % 4294967296)) = w4 at *
  obtain ⟨c0, c1, c3⟩ := HB4.out.cells
  go_wp2_with (first
    | refine wpList_load_row rfl 25 _ rfl N rfl 25 (rg R ((nx pc + im z) % 4294967296)).toArray (0, 0) _ HB4.out.r.out Tryd.underlying25 rfl (info_rg _ _) ?_
    | refine wpList_store_row rfl 25 _ _ rfl (N + 1 + 1) (rg R ((nx pc + im z) % 4294967296)).toArray rfl rfl 25 _ HB4.out.o.out (info_rg _ _) (by rw [rg_size, rg_size]) (rg_one _ _) ?_)
  refine bodyPost_ret (results_cell_row rfl _ _ (N + 1 + 1) 25 (rg R ((nx pc + im z) % 4294967296)).toArray (0, 0) _ rfl (setRow_heap _ _ _ _ _ _ HB4.out.o.out) Tryd.underlying25 rfl (info_rg _ _)) rfl ?_
  subst hN
  refine ⟨rfl, HB4.out.b.os, HB4.out.b.tape, HB4.out.b.output, by simpa [World.setRow] using HB4.out.b.size, fun k hk => by rw [setRow_other _ _ k _ (by omega)]; exact HB4.out.b.block k hk⟩
set_option maxRecDepth 100000 in
set_option maxHeartbeats 3200000 in
theorem jump24 (hna : na < 8) (hR : RgOk R pc) (hz : -65536 < z ∧ z < 65536) : Calls Tryd.prog 12 #[.agg (rg R pc).toArray, .agg #[.int .i64 24, .int .i64 (na : Int), .int .i64 (nb : Int), .int .i64 z]] w fun e w' => e = .returned (.agg (rg R (R na)).toArray) ∧ Below w.heap.size w w' := by
  have hB := Jb.new w R pc 24 (na : Int) (nb : Int) z
  rw [← rg_zero] at hB
  have hx32 := hR.r na hna
  have hp32 := hR.p
  have hn0 : (0 : Int) ≤ (na : Int) := by omega
  have hn8 : (na : Int) < 8 := by omega
  go_enter Tryd.func12, Tryd.ntmps12
  go_upto_region 1 with fail
  generalize ((w.alloc (.cells (rg R pc).toArray 25)).alloc (.cells #[.int .i64 24, .int .i64 (na : Int), .int .i64 (nb : Int), .int .i64 z] 33)).alloc (.cells #[.int .u32 0, .int .u32 0, .int .u32 0, .int .u32 0, .int .u32 0, .int .u32 0, .int .u32 0, .int .u32 0, .int .u32 0] 25) = w1 at *
  obtain ⟨N, hN⟩ : ∃ N, w.heap.size = N := ⟨_, rfl⟩
  rw [hN] at hB ⊢
  obtain ⟨c0, c1, c3⟩ := hB.cells
  have p8 := hB.r.p
  have f8 := hB.r.frz
  have ra := hB.r.r hna
  have HB := hide hB
  clear hB
  go_upto_region 5 with (go_at_call 11; refine (word_any _ _).mono ?_; rintro e9 w9 ⟨rfl, hw9⟩; rw [hw9]; clear hw9 w9)
  have HB1 := hide (HB.out.setCell (rb_nx HB.out.r))
  clear HB c0 c1 c3 p8 f8 ra
  generalize w1.setCell ⟨N, 8, none⟩ (.int .u32 (((pc : Int) + 1) % 4294967296)) = w2 at *
  obtain ⟨c0, c1, c3⟩ := HB1.out.cells
  have p8 := HB1.out.r.p
  have f8 := HB1.out.r.frz
  go_upto_region 11 with fail
  have HB4 := hide (HB1.out.setCell (rb_pc HB1.out.r (R na) rfl))
  clear HB1 c0 c1 c3 p8 f8
  generalize w2.setCell ⟨N, 8, none⟩ (.int .u32 (R na : Nat)) = w4 at *
  obtain ⟨c0, c1, c3⟩ := HB4.out.cells
  go_wp2_with (first
    | refine wpList_load_row rfl 25 _ rfl N rfl 25 (rg R (R na)).toArray (0, 0) _ HB4.out.r.out Tryd.underlying25 rfl (info_rg _ _) ?_
    | refine wpList_store_row rfl 25 _ _ rfl (N + 1 + 1) (rg R (R na)).toArray rfl rfl 25 _ HB4.out.o.out (info_rg _ _) (by rw [rg_size, rg_size]) (rg_one _ _) ?_)
  refine bodyPost_ret (results_cell_row rfl _ _ (N + 1 + 1) 25 (rg R (R na)).toArray (0, 0) _ rfl (setRow_heap _ _ _ _ _ _ HB4.out.o.out) Tryd.underlying25 rfl (info_rg _ _)) rfl ?_
  subst hN
  refine ⟨rfl, HB4.out.b.os, HB4.out.b.tape, HB4.out.b.output, by simpa [World.setRow] using HB4.out.b.size, fun k hk => by rw [setRow_other _ _ k _ (by omega)]; exact HB4.out.b.block k hk⟩
set_option maxRecDepth 100000 in
set_option maxHeartbeats 3200000 in
theorem jump25 (hna : na < 8) (hR : RgOk R pc) (hz : -65536 < z ∧ z < 65536) : Calls Tryd.prog 12 #[.agg (rg R pc).toArray, .agg #[.int .i64 25, .int .i64 (na : Int), .int .i64 (nb : Int), .int .i64 z]] w fun e w' => e = .returned (.agg (rg (put R na (nx pc)) ((nx pc + im z) % 4294967296)).toArray) ∧ Below w.heap.size w w' := by
  have hB := Jb.new w R pc 25 (na : Int) (nb : Int) z
  rw [← rg_zero] at hB
  have hx32 := hR.r na hna
  have hp32 := hR.p
  have hn0 : (0 : Int) ≤ (na : Int) := by omega
  have hn8 : (na : Int) < 8 := by omega
  go_enter Tryd.func12, Tryd.ntmps12
  go_upto_region 1 with fail
  generalize ((w.alloc (.cells (rg R pc).toArray 25)).alloc (.cells #[.int .i64 25, .int .i64 (na : Int), .int .i64 (nb : Int), .int .i64 z] 33)).alloc (.cells #[.int .u32 0, .int .u32 0, .int .u32 0, .int .u32 0, .int .u32 0, .int .u32 0, .int .u32 0, .int .u32 0, .int .u32 0] 25) = w1 at *
  obtain ⟨N, hN⟩ : ∃ N, w.heap.size = N := ⟨_, rfl⟩
  rw [hN] at hB ⊢
  obtain ⟨c0, c1, c3⟩ := hB.cells
  have p8 := hB.r.p
  have f8 := hB.r.frz
  have ra := hB.r.r hna
  have HB := hide hB
  clear hB
  go_upto_region 5 with (go_at_call 11; refine (word_any _ _).mono ?_; rintro e9 w9 ⟨rfl, hw9⟩; rw [hw9]; clear hw9 w9)
  have HB1 := hide (HB.out.setCell (rb_nx HB.out.r))
  clear HB c0 c1 c3 p8 f8 ra
  generalize w1.setCell ⟨N, 8, none⟩ (.int .u32 (((pc : Int) + 1) % 4294967296)) = w2 at *
  obtain ⟨c0, c1, c3⟩ := HB1.out.cells
  have p8 := HB1.out.r.p
  have f8 := HB1.out.r.frz
  go_upto_region 6 with fail
  have cN : w2.cell? ⟨N, na, none⟩ = some (.int .u32 (R na : Nat)) := HB1.out.r.r hna
  have fN := HB1.out.r.frz na
  obtain ⟨wd, hdx⟩ : ∃ v, v = w2.drew := ⟨_, rfl⟩
  have HS : Hid (wd.cell? ⟨N + 1, 1, none⟩ = some (.int .i64 (na : Int))) := hide (by rw [hdx]; exact c1)
  have cN' : wd.cell? ⟨N, na, none⟩ = some (.int .u32 (R na : Nat)) := by rw [hdx]; exact cN
  have fN' : wd.frozen? ⟨N, na, none⟩ = false := by rw [hdx]; exact fN
  have HBd : Hid (Jb w wd N R (nx pc) 25 (na : Int) (nb : Int) z) := hide (by rw [hdx]; exact HB1.out.drew)
  refine wp_region_held_drew (S := fun W => W.cell? ⟨N + 1, 1, none⟩ = some (.int .i64 (na : Int))) (by kernel_rfl) (by rw [← hdx]; exact HS.out) (fun _ => ?_)
  rw [← hdx]
  clear hdx HB1 c0 c1 c3 p8 f8 cN fN
  refine hd_take 0 (o := ⟨some 49, _, _, _, _, _⟩) (.pointer (some ⟨N + 1, 1, none⟩)) (by kernel_rfl) (by kernel_rfl) (by kernel_rfl) rfl (by rfl) (fun W hSw => by go_simp) (fun _ _ _ h => h) HS.out ?_
  try simp only [Act.put, List.setIfInBounds_toArray, List.set_cons_zero, List.set_cons_succ]
  refine hd_take 1 (o := ⟨some 50, _, _, _, _, _⟩) (.int .i64 (na : Int)) (by kernel_rfl) (by kernel_rfl) (by kernel_rfl) rfl (by rfl) (fun W hSw => by go_simp) (fun _ _ _ h => h) HS.out ?_
  try simp only [Act.put, List.setIfInBounds_toArray, List.set_cons_zero, List.set_cons_succ]
  refine hd_take 2 (o := ⟨some 51, _, _, _, _, _⟩) (.int .i64 (pc : Int)) (by kernel_rfl) (by kernel_rfl) (by kernel_rfl) rfl (by rfl) (fun W hSw => by go_simp) (fun _ _ _ h => h) HS.out ?_
  try simp only [Act.put, List.setIfInBounds_toArray, List.set_cons_zero, List.set_cons_succ]
  refine hd_take 3 (o := ⟨some 52, _, _, _, _, _⟩) (.int .i64 ((pc : Int) + 1)) (by kernel_rfl) (by kernel_rfl) (by kernel_rfl) rfl (by rfl) (fun W hSw => by go_simp; rw [IntKind.wrap_i64]; omega) (fun _ _ _ h => h) HS.out ?_
  try simp only [Act.put, List.setIfInBounds_toArray, List.set_cons_zero, List.set_cons_succ]
  refine hd_take 5 (o := ⟨some 54, _, _, _, _, _⟩) (.pointer (some ⟨N, 0, none⟩)) (by kernel_rfl) (by kernel_rfl) (by kernel_rfl) rfl (by rfl) (fun W hSw => by go_simp) (fun _ _ _ h => h) HS.out ?_
  try simp only [Act.put, List.setIfInBounds_toArray, List.set_cons_zero, List.set_cons_succ]
  refine hd_call 4 (o := ⟨some 53, _, _, _, _, _⟩) (by kernel_rfl) rfl (by rfl) (fun K hK => ?_)
  go_simp
  go_wp2_with (go_at_call 11; refine (word_any _ _).mono ?_; rintro e9 w9 ⟨rfl, hw9⟩; rw [hw9]; clear hw9 w9)
  refine hK _ _ HS.out ?_
  clear hK K
  try simp only [Act.put, List.setIfInBounds_toArray, List.set_cons_zero, List.set_cons_succ]
  refine hd_take 6 (o := ⟨some 55, _, _, _, _, _⟩) (.pointer (some ⟨N, na, none⟩)) (by kernel_rfl) (by kernel_rfl) (by kernel_rfl) rfl (by rfl) (fun W hSw => by go_simp) (fun _ _ _ h => h) HS.out ?_
  try simp only [Act.put, List.setIfInBounds_toArray, List.set_cons_zero, List.set_cons_succ]
  rw [← nx_cast pc]
  refine hd_call 7 (o := ⟨none, _, _, _, _, _⟩) (by kernel_rfl) rfl (by rfl) (fun K hK => ?_)
  go_simp
  have HB2 := hide (HBd.out.setCell (HBd.out.r.put hna (nx pc)))
  refine hK _ _ (by rw [World.cell?_setCell_far _ _ _ _ (by show N ≠ N + 1; omega)]; exact HS.out) ?_
  clear hK K HS
  refine wpAnyH_done (by kernel_rfl) ?_ _
  clear HBd cN' fN'
  generalize wd.setCell ⟨N, na, none⟩ (.int .u32 ((nx pc : Nat) : Int)) = w3 at *
  obtain ⟨c0, c1, c3⟩ := HB2.out.cells
  have p8 := HB2.out.r.p
  have f8 := HB2.out.r.frz
  have hpz : wrap64 ((pc : Int) + 1 + z) = (pc : Int) + 1 + z := by unfold wrap64; omega
  have HPz : Hid (((pc : Int) + 1 + z) % 4294967296 = (((nx pc + im z) % 4294967296 : Nat) : Int)) := hide (by unfold nx im; omega)
  go_upto_region 9 with (go_at_call 11; refine (word_any _ _).mono ?_; rintro e9 w9 ⟨rfl, hw9⟩; rw [hw9]; clear hw9 w9)
  have HB4 := hide (HB2.out.setCell (rb_pc HB2.out.r _ HPz.out))
  clear HB2 c0 c1 c3 p8 f8 HPz
  generalize w3.setCell ⟨N, 8, none⟩ (.int .u32 (((pc : Int) + 1 + z) % 4294967296)) = w4 at *
  obtain ⟨c0, c1, c3⟩ := HB4.out.cells
  go_wp2_with (first
    | refine wpList_load_row rfl 25 _ rfl N rfl 25 (rg (put R na (nx pc)) ((nx pc + im z) % 4294967296)).toArray (0, 0) _ HB4.out.r.out Tryd.underlying25 rfl (info_rg _ _) ?_
    | refine wpList_store_row rfl 25 _ _ rfl (N + 1 + 1) (rg (put R na (nx pc)) ((nx pc + im z) % 4294967296)).toArray rfl rfl 25 _ HB4.out.o.out (info_rg _ _) (by rw [rg_size, rg_size]) (rg_one _ _) ?_)
  refine bodyPost_ret (results_cell_row rfl _ _ (N + 1 + 1) 25 (rg (put R na (nx pc)) ((nx pc + im z) % 4294967296)).toArray (0, 0) _ rfl (setRow_heap _ _ _ _ _ _ HB4.out.o.out) Tryd.underlying25 rfl (info_rg _ _)) rfl ?_
  subst hN
  refine ⟨rfl, HB4.out.b.os, HB4.out.b.tape, HB4.out.b.output, by simpa [World.setRow] using HB4.out.b.size, fun k hk => by rw [setRow_other _ _ k _ (by omega)]; exact HB4.out.b.block k hk⟩
end
section
variable (w : World) (R : Nat → Nat) (pc no na nb : Nat) (z : Int)
theorem jumped_any (hna : na < 8) (hR : RgOk R pc) (hz : -65536 < z ∧ z < 65536) (hc : 21 ≤ no ∧ no ≤ 25) : Calls Tryd.prog 12 #[.agg (rg R pc).toArray, .agg #[.int .i64 (no : Int), .int .i64 (na : Int), .int .i64 (nb : Int), .int .i64 z]] w fun e w' => e = .returned (.agg (rg (if no = 25 then put R na (nx pc) else R) (tgt no (R na) (im z) (nx pc))).toArray) ∧ Below w.heap.size w w' := by
  have h : no = 21 ∨ no = 22 ∨ no = 23 ∨ no = 24 ∨ no = 25 := by omega
  rcases h with rfl | rfl | rfl | rfl | rfl
  · exact jump21 w R pc na nb z hna hR hz
  · by_cases h0 : R na = 0
    · have e : tgt 22 (R na) (im z) (nx pc) = (nx pc + im z) % 4294967296 := by unfold tgt; rw [if_neg (by decide), if_pos (.inr (.inr (.inl ⟨rfl, h0⟩)))]
      rw [e]; exact jump22z w R pc na nb z hna hR hz h0
    · have e : tgt 22 (R na) (im z) (nx pc) = nx pc := by unfold tgt; rw [if_neg (by decide), if_neg (by omega)]
      rw [e]; exact jump22n w R pc na nb z hna hR hz h0
  · by_cases h0 : R na = 0
    · have e : tgt 23 (R na) (im z) (nx pc) = nx pc := by unfold tgt; rw [if_neg (by decide), if_neg (by omega)]
      rw [e]; exact jump23z w R pc na nb z hna hR hz h0
    · have e : tgt 23 (R na) (im z) (nx pc) = (nx pc + im z) % 4294967296 := by unfold tgt; rw [if_neg (by decide), if_pos (.inr (.inr (.inr ⟨rfl, h0⟩)))]
      rw [e]; exact jump23n w R pc na nb z hna hR hz h0
  · exact jump24 w R pc na nb z hna hR hz
  · exact jump25 w R pc na nb z hna hR hz
end
end Go.Proofs.YtjhphhcmefeiiaaDoor
