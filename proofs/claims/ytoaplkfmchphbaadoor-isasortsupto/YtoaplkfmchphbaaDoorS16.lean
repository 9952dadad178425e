import Derived.Deep.Cut
import Derived.Test.YtoaplkfmchphbaaDoorS15
namespace Go.Proofs.YtoaplkfmchphbaaDoor
open Go.RowKit
/-- imm as a word -/
def im (z : Int) : Nat := (z % 4294967296).toNat
theorem im_lt (z : Int) : im z < 4294967296 := by unfold im; omega
theorem im_cast (z : Int) : ((im z : Nat) : Int) = z % 4294967296 := by unfold im; omega
def e5 (k a r v c : Int) : List Value := [.int .i64 k, .int .u32 a, .int .i64 r, .int .u32 v, .int .i64 c]
theorem e5_len (k a r v c : Int) : (e5 k a r v c).length = 5 := rfl
theorem e5_ones (k a r v c : Int) : ∀ u ∈ e5 k a r v c, u.oneCell' = true := ones5 _ _ _ _ _ rfl
theorem info_e5 (k a r v c : Int) : (Tryd.prog.info? 34).map (·.size) = some (e5 k a r v c).length := info_eff
theorem info_e5a (k a r v c : Int) : (Tryd.prog.info? 34).map (·.size) = some (e5 k a r v c).toArray.size := info_eff
theorem Two.same {w W w' : World} {N : Nat} (h : Two w W N) (h1 : w'.heap = W.heap) (h2 : w'.os = W.os) (h3 : w'.tape = W.tape) (h4 : w'.output = W.output) : Two w w' N :=
  ⟨⟨by rw [h1]; exact h.a.out⟩, by rw [h1]; exact h.e, ⟨h2.trans h.b.os, h3.trans h.b.tape, h4.trans h.b.output, by rw [h1]; exact h.b.size, fun k hk => by rw [h1]; exact h.b.block k hk⟩, by rw [h1]; exact h.s⟩
/-- held beside: the instruction's a -/
def Sy (N M na : Nat) (Y : List Value) (W : World) : Prop := Sx N Y W ∧ W.cell? ⟨M, 1, none⟩ = some (.int .i64 (na : Int))
theorem Sy.keep {W : World} {N M na : Nat} {Y : List Value} (h : Sy N M na Y W) (hM : M ≠ N + 1 ∧ M ≠ N + 1 + 1) (Z : List Value) : Sy N M na Y (W.setCells (N + 1) 0 Z) ∧ Sy N M na Y (W.setCells (N + 1 + 1) 0 Z) :=
  ⟨⟨h.1.set1 _, by rw [World.cell?_setCells_out (N + 1) Z 0 W ⟨M, 1, none⟩ (fun e _ => absurd e hM.1)]; exact h.2⟩, ⟨h.1.set2 _, by rw [World.cell?_setCells_out (N + 1 + 1) Z 0 W ⟨M, 1, none⟩ (fun e _ => absurd e hM.2)]; exact h.2⟩⟩
section
variable (w : World) (R : Nat → Nat) (pc n no na nb : Nat) (z : Int)
set_option maxRecDepth 100000 in
set_option maxHeartbeats 2000000 in
theorem exec_ld (hn : n < 4294967296) (hp : parts n = ⟨(no : Int), na, nb, z⟩) (hx : isI ⟨(no : Int), na, nb, z⟩ = true) (hO : Ops w) (h19 : no = 19) : Calls Tryd.prog 11 #[.agg (rg R pc).toArray, .int .u32 (n : Nat)] w fun e w' => e = .returned (.tuple #[.agg (rg R pc).toArray, .agg (e5 1 (((R nb : Nat) + z) % 4294967296) na 0 0).toArray]) ∧ Below w.heap.size w w' := by
  have H19 := hide h19
  clear h19
  have hi : decI n = ⟨(no : Int), na, nb, z⟩ := (decI_yes hp hx).1
  have he : decE n = 0 := (decI_yes hp hx).2
  have hbO : ∀ w4, Below w.heap.size w w4 → Ops w4 := fun w4 h => hO.below h
  have hI := isn.1 hx
  have ha : (na : Int) < 8 := (fitsB_range hI.a).2
  have hb8 : (nb : Int) < 8 := (fitsB_range hI.b).2
  have hz1 := hI.imm.1
  have hz2 := hI.imm.2
  have HI := hide hI
  clear hO hx hI hp
  have hz0 : (0 : Int) ≤ (na : Int) := by omega
  have hz00 : (0 : Int) ≤ (nb : Int) := by omega
  have hna : na < 8 := by omega
  have hnb : nb < 8 := by omega
  simp only at hz1 hz2
  go_enter Tryd.func11, Tryd.ntmps11
  go_wp2_with fail
  refine (dec_any _ n hn ?_).mono ?_
  · exact hbO _ (((bel2 w _ _).trans ((bel1 _ _).mono (by simp; omega))))
  rw [hi, he]
  rintro e w4 ⟨rfl, hb⟩
  have hB := Bgn.new rfl hb
  clear hb hi he hbO
  simp only [I.cells]
  obtain ⟨N, hN⟩ : ∃ N, w.heap.size = N := ⟨_, rfl⟩
  have hT : Two w w4 N := by subst hN; exact ⟨hB.r1, hB.e, hB.b, hB.b.size⟩
  have hr : Rb w4 N R pc := by subst hN; exact hB.r
  rw [hN]
  clear hB
  have b5 := bel1 w4 (.cells #[.int .i64 (no : Int), .int .i64 (na : Int), .int .i64 (nb : Int), .int .i64 z] 58)
  have hq := heap_alloc_last w4 (.cells #[.int .i64 (no : Int), .int .i64 (na : Int), .int .i64 (nb : Int), .int .i64 z] 58)
  have HT := hide (hT.below b5)
  have HR := hide (hr.below b5)
  obtain ⟨M, hM⟩ : ∃ M, w4.heap.size = M := ⟨_, rfl⟩
  have hNM : N < M := by rw [← hM]; exact hr.lt
  have hMN : M ≠ N + 1 ∧ M ≠ N + 1 + 1 := by
    have h1 := hT.a.lt
    have h2 := (Array.getElem?_eq_some_iff.1 hT.e).1
    omega
  clear hT hr b5
  go_wp2
  generalize w4.alloc (.cells #[.int .i64 (no : Int), .int .i64 (na : Int), .int .i64 (nb : Int), .int .i64 z] 58) = w5 at *
  rw [hM] at hq
  have i0 : w5.cell? ⟨M, 0, none⟩ = some (.int .i64 (no : Int)) := by rw [cell_of_row _ _ _ _ _ _ hq]; rfl
  have i1 : w5.cell? ⟨M, 1, none⟩ = some (.int .i64 (na : Int)) := by rw [cell_of_row _ _ _ _ _ _ hq]; rfl
  have i2 : w5.cell? ⟨M, 2, none⟩ = some (.int .i64 (nb : Int)) := by rw [cell_of_row _ _ _ _ _ _ hq]; rfl
  have i3 : w5.cell? ⟨M, 3, none⟩ = some (.int .i64 z) := by rw [cell_of_row _ _ _ _ _ _ hq]; rfl
  have ra := HR.out.r hna
  have rb := HR.out.r hnb
  have HQ := hide hq
  clear hq hM
  go_quiet (fail)
  have HW : Hid ((((R nb : Nat) : Int) + z) % 4294967296 = IntKind.u32.wrap (((R nb : Nat) : Int) + z % 4294967296)) := by apply hide; rw [IntKind.wrap_u32]; omega
  have h19i : (no : Int) = 19 := by have := H19.out; omega
  go_upto_region 7 with fail
  have HT6 := hide (HT.out.same (w' := (w5.drewN nq).drew) rfl rfl rfl rfl)
  have HF := hide fun W (h : Two w W N) => h.fin (rg R pc) (e5 1 (((R nb : Nat) + z) % 4294967296) na 0 0) (rg_len _ _) (e5_len _ _ _ _ _)
  have hS6 : Sy N M na (rg R pc) (w5.drewN nq).drew := ⟨HT6.out.sx ⟨HR.out.out⟩, by simpa using i1⟩
  refine wp_region_held_drew (S := Sy N M na (rg R pc)) (by kernel_rfl) hS6 (fun hHeld => ?_)
  refine held_load 0 (o := ⟨some 39, _, _, _, _, _⟩) (by kernel_rfl) (by kernel_rfl) (by kernel_rfl) rfl (by rfl) rfl (rg R pc) rfl (fun W h => h.1.1) Tryd.underlying32 rfl (by rw [rg_len]; exact info_regs) (fun _ _ _ h => h) hHeld ?_
  simp only [Act.put, List.setIfInBounds_toArray, List.set_cons_zero, List.set_cons_succ]
  refine held_take 1 (o := ⟨some 40, _, _, _, _, _⟩) (.int .u32 (R nb : Nat)) (by kernel_rfl) (by kernel_rfl) (by kernel_rfl) rfl (by rfl) (fun W hSw => by first | (go_simp; done) | (go_simp; rfl) | rfl) (fun _ _ _ h => h) hHeld ?_
  simp only [Act.put, List.setIfInBounds_toArray, List.set_cons_zero, List.set_cons_succ]
  refine held_take 2 (o := ⟨some 41, _, _, _, _, _⟩) (.int .u32 (z % 4294967296)) (by kernel_rfl) (by kernel_rfl) (by kernel_rfl) rfl (by rfl) (fun W hSw => by first | (go_simp; done) | (go_simp; rfl) | rfl) (fun _ _ _ h => h) hHeld ?_
  simp only [Act.put, List.setIfInBounds_toArray, List.set_cons_zero, List.set_cons_succ]
  refine held_take 3 (o := ⟨some 42, _, _, _, _, _⟩) (.int .u32 (((R nb : Nat) + z) % 4294967296)) (by kernel_rfl) (by kernel_rfl) (by kernel_rfl) rfl (by rfl) (fun W hSw => by rw [HW.out]; rfl) (fun _ _ _ h => h) hHeld ?_
  simp only [Act.put, List.setIfInBounds_toArray, List.set_cons_zero, List.set_cons_succ]
  refine held_take 4 (o := ⟨some 43, _, _, _, _, _⟩) (.pointer (some ⟨M, 1, none⟩)) (by kernel_rfl) (by kernel_rfl) (by kernel_rfl) rfl (by rfl) (fun W hSw => by first | (go_simp; done) | (go_simp; rfl) | rfl) (fun _ _ _ h => h) hHeld ?_
  simp only [Act.put, List.setIfInBounds_toArray, List.set_cons_zero, List.set_cons_succ]
  refine held_take 5 (o := ⟨some 44, _, _, _, _, _⟩) (.int .i64 (na : Int)) (by kernel_rfl) (by kernel_rfl) (by kernel_rfl) rfl (by rfl) (fun W hSw => by have hc := hSw.2; go_simp; try with_reducible rfl) (fun _ _ _ h => h) hHeld ?_
  simp only [Act.put, List.setIfInBounds_toArray, List.set_cons_zero, List.set_cons_succ]
  refine held_take 6 (o := ⟨some 45, _, _, _, _, _⟩) (.agg (e5 1 (((R nb : Nat) + z) % 4294967296) na 0 0).toArray) (by kernel_rfl) (by kernel_rfl) (by kernel_rfl) rfl (by rfl) (fun W hSw => by first | (go_simp; done) | (go_simp; rfl) | rfl) (fun _ _ _ h => h) hHeld ?_
  simp only [Act.put, List.setIfInBounds_toArray, List.set_cons_zero, List.set_cons_succ]
  refine held_store 7 (o := ⟨none, _, _, _, _, _⟩) (cells := (rg R pc)) (by kernel_rfl) rfl (by rfl) rfl rfl rfl rfl (hHeld.1.t1 (rg_len _ _)) (info_rgl _ _) (rg_ones _ _) (hHeld.keep hMN _).1 ?_
  refine held_store 8 (o := ⟨none, _, _, _, _, _⟩) (cells := (e5 1 (((R nb : Nat) + z) % 4294967296) na 0 0)) (by kernel_rfl) rfl (by rfl) rfl rfl rfl rfl ((hHeld.keep hMN _).1.1.t2 (e5_len _ _ _ _ _)) (info_e5 _ _ _ _ _) (e5_ones _ _ _ _ _) ((hHeld.keep hMN _).1.keep hMN _).2 ?_
  refine wpAnyH_done (by kernel_rfl) ?_ _
  clear hHeld hS6
  have hF := (HF.out _ HT6.out).1
  clear HF HT HR HT6
  generalize ((w5.drewN nq).drew.setCells (N + 1) 0 (rg R pc)).setCells (N + 1 + 1) 0 (e5 1 (((R nb : Nat) + z) % 4294967296) na 0 0) = w7 at *
  have HF := hide hF
  clear hF
  go_wp2
  refine bodyPost_ret (results_rows2 rfl _ _ (N + 1) (N + 1 + 1) 32 34 _ _ _ _ rfl HF.out.a Tryd.underlying32 rfl (info_rg _ _) rfl HF.out.e Tryd.underlying34 rfl (info_e5a _ _ _ _ _)) rfl ?_
  subst hN
  exact ⟨rfl, HF.out.b⟩
end
end Go.Proofs.YtoaplkfmchphbaaDoor

namespace Go.Proofs.YtoaplkfmchphbaaDoor
open Go.RowKit
theorem effcells {w W : World} {N : Nat} (h : Two w W N) (Y : List Value) : (W.setRow (N + 1) Y.toArray).cell? ⟨N + 1 + 1, 0, none⟩ = some (.int .i64 0) ∧ (W.setRow (N + 1) Y.toArray).cell? ⟨N + 1 + 1, 1, none⟩ = some (.int .u32 0) ∧ (W.setRow (N + 1) Y.toArray).cell? ⟨N + 1 + 1, 2, none⟩ = some (.int .i64 0) ∧ (W.setRow (N + 1) Y.toArray).cell? ⟨N + 1 + 1, 3, none⟩ = some (.int .u32 0) ∧ (W.setRow (N + 1) Y.toArray).cell? ⟨N + 1 + 1, 4, none⟩ = some (.int .i64 0) ∧ ∀ o, (W.setRow (N + 1) Y.toArray).frozen? ⟨N + 1 + 1, o, none⟩ = false := by
  have he : (W.setRow (N + 1) Y.toArray).heap[N + 1 + 1]? = some (.cells #[.int .i64 0, .int .u32 0, .int .i64 0, .int .u32 0, .int .i64 0] 34 (0, 0)) := by rw [setRow_other _ _ _ _ (by omega)]; exact h.e
  refine ⟨?_, ?_, ?_, ?_, ?_, fun o => frozen_of_row _ _ o _ _ he⟩
  all_goals rw [cell_of_row _ _ _ _ _ _ he]; rfl
/-- the answer laid down, row by row -/
theorem Two.rows {w W : World} {N : Nat} (h : Two w W N) (Y X : List Value) (hX : X.length = 5) : Fin2 w ((W.setRow (N + 1) Y.toArray).setCells (N + 1 + 1) 0 X) N Y X := by
  refine ⟨?_, ?_, ?_⟩
  · rw [heap_setCells_other _ _ (by omega)]; exact setRow_heap _ _ _ _ _ _ h.a.out
  · exact setCells_whole (by rw [setRow_other _ _ _ _ (by omega)]; exact h.e) (by rw [hX]; rfl)
  · have b1 : Below N w (W.setRow (N + 1) Y.toArray) := ⟨h.b.os, h.b.tape, h.b.output, by simp [World.setRow]; exact h.b.size, fun k hk => by rw [setRow_other W _ k _ (by omega)]; exact h.b.block k hk⟩
    exact below_setCells b1 (by omega) _ _
section
variable (w : World) (R : Nat → Nat) (pc n no na nb : Nat) (z : Int)
set_option maxRecDepth 100000 in
set_option maxHeartbeats 2000000 in
theorem exec_st (hn : n < 4294967296) (hp : parts n = ⟨(no : Int), na, nb, z⟩) (hx : isI ⟨(no : Int), na, nb, z⟩ = true) (hO : Ops w) (h20 : no = 20) : Calls Tryd.prog 11 #[.agg (rg R pc).toArray, .int .u32 (n : Nat)] w fun e w' => e = .returned (.tuple #[.agg (rg R pc).toArray, .agg (e5 2 (((R nb : Nat) + z) % 4294967296) 0 (R na : Nat) 0).toArray]) ∧ Below w.heap.size w w' := by
  have H20 := hide h20
  clear h20
  have hi : decI n = ⟨(no : Int), na, nb, z⟩ := (decI_yes hp hx).1
  have he : decE n = 0 := (decI_yes hp hx).2
  have hbO : ∀ w4, Below w.heap.size w w4 → Ops w4 := fun w4 h => hO.below h
  have hI := isn.1 hx
  have ha : (na : Int) < 8 := (fitsB_range hI.a).2
  have hb8 : (nb : Int) < 8 := (fitsB_range hI.b).2
  have hz1 := hI.imm.1
  have hz2 := hI.imm.2
  have HI := hide hI
  clear hO hx hI hp
  have hz0 : (0 : Int) ≤ (na : Int) := by omega
  have hz00 : (0 : Int) ≤ (nb : Int) := by omega
  have hna : na < 8 := by omega
  have hnb : nb < 8 := by omega
  simp only at hz1 hz2
  go_enter Tryd.func11, Tryd.ntmps11
  go_wp2_with fail
  refine (dec_any _ n hn ?_).mono ?_
  · exact hbO _ (((bel2 w _ _).trans ((bel1 _ _).mono (by simp; omega))))
  rw [hi, he]
  rintro e w4 ⟨rfl, hb⟩
  have hB := Bgn.new rfl hb
  clear hb hi he hbO
  simp only [I.cells]
  obtain ⟨N, hN⟩ : ∃ N, w.heap.size = N := ⟨_, rfl⟩
  have hT : Two w w4 N := by subst hN; exact ⟨hB.r1, hB.e, hB.b, hB.b.size⟩
  have hr : Rb w4 N R pc := by subst hN; exact hB.r
  rw [hN]
  clear hB
  have b5 := bel1 w4 (.cells #[.int .i64 (no : Int), .int .i64 (na : Int), .int .i64 (nb : Int), .int .i64 z] 58)
  have hq := heap_alloc_last w4 (.cells #[.int .i64 (no : Int), .int .i64 (na : Int), .int .i64 (nb : Int), .int .i64 z] 58)
  have HT := hide (hT.below b5)
  have HR := hide (hr.below b5)
  obtain ⟨M, hM⟩ : ∃ M, w4.heap.size = M := ⟨_, rfl⟩
  have hNM : N < M := by rw [← hM]; exact hr.lt
  have hMN : M ≠ N + 1 ∧ M ≠ N + 1 + 1 := by
    have h1 := hT.a.lt
    have h2 := (Array.getElem?_eq_some_iff.1 hT.e).1
    omega
  clear hT hr b5
  go_wp2
  generalize w4.alloc (.cells #[.int .i64 (no : Int), .int .i64 (na : Int), .int .i64 (nb : Int), .int .i64 z] 58) = w5 at *
  rw [hM] at hq
  have i0 : w5.cell? ⟨M, 0, none⟩ = some (.int .i64 (no : Int)) := by rw [cell_of_row _ _ _ _ _ _ hq]; rfl
  have i1 : w5.cell? ⟨M, 1, none⟩ = some (.int .i64 (na : Int)) := by rw [cell_of_row _ _ _ _ _ _ hq]; rfl
  have i2 : w5.cell? ⟨M, 2, none⟩ = some (.int .i64 (nb : Int)) := by rw [cell_of_row _ _ _ _ _ _ hq]; rfl
  have i3 : w5.cell? ⟨M, 3, none⟩ = some (.int .i64 z) := by rw [cell_of_row _ _ _ _ _ _ hq]; rfl
  have ra := HR.out.r hna
  have rb := HR.out.r hnb
  have HQ := hide hq
  clear hq hM
  go_quiet (fail)
  have HT6 := hide (HT.out.same (w' := w5.drewN nq) rfl rfl rfl rfl)
  have HR6 : Hid (Rb (w5.drewN nq) N R pc) := hide ⟨HR.out.out⟩
  have i0' : (w5.drewN nq).cell? ⟨M, 0, none⟩ = some (.int .i64 (no : Int)) := by simpa using i0
  have i1' : (w5.drewN nq).cell? ⟨M, 1, none⟩ = some (.int .i64 (na : Int)) := by simpa using i1
  have p8 := HR6.out.p
  have z8 := HR6.out.frz
  clear HT HR i0 i1 i2 i3 ra rb HQ
  generalize w5.drewN nq = w6 at *
  have h20 : (no : Int) = 20 := by have := H20.out; omega
  obtain ⟨f0, f1, f2, f3, f4, f5⟩ := effcells HT6.out (rg R pc)
  have HF := hide (HT6.out.rows (rg R pc) ([.int .i64 2, .int .u32 (((R nb : Nat) + z) % 4294967296), .int .i64 0, .int .u32 (R na : Nat), .int .i64 0] : List Value) rfl)
  go_wp2_with (first
    | refine wpList_load_row rfl 32 _ rfl N rfl 32 (rg R pc).toArray (0, 0) _ HR6.out.out Tryd.underlying32 rfl (info_rg _ _) ?_
    | refine wpList_store_row rfl 32 _ _ rfl (N + 1) (rg R pc).toArray rfl rfl 32 _ HT6.out.a.out (info_rg _ _) (by rw [rg_size, rg_size]) (rg_one _ _) ?_)
  refine bodyPost_ret (results_rows2 rfl _ _ (N + 1) (N + 1 + 1) 32 34 _ _ _ _ rfl HF.out.a Tryd.underlying32 rfl (info_rg _ _) rfl HF.out.e Tryd.underlying34 rfl info_eff) rfl ?_
  subst hN
  exact ⟨rfl, HF.out.b⟩
end
end Go.Proofs.YtoaplkfmchphbaaDoor

namespace Go.Proofs.YtoaplkfmchphbaaDoor
open Go.RowKit
def nx (pc : Nat) : Nat := (pc + 1) % 4294967296
theorem nx_lt (pc : Nat) : nx pc < 4294967296 := Nat.mod_lt _ (by decide)
theorem nx_cast (pc : Nat) : ((nx pc : Nat) : Int) = ((pc : Int) + 1) % 4294967296 := by unfold nx; omega
theorem rb_nx {w : World} {N : Nat} {R : Nat → Nat} {pc : Nat} (h : Rb w N R pc) : Rb (w.setCell ⟨N, 8, none⟩ (.int .u32 (((pc : Int) + 1) % 4294967296))) N R (nx pc) := by
  have := h.setpc (nx pc); rwa [nx_cast] at this
section
variable (w : World) (R : Nat → Nat) (pc n no na nb : Nat) (z : Int)
set_option maxRecDepth 100000 in
set_option maxHeartbeats 2000000 in
theorem exec_sys (hn : n < 4294967296) (hp : parts n = ⟨(no : Int), na, nb, z⟩) (hx : isI ⟨(no : Int), na, nb, z⟩ = true) (hO : Ops w) (h26 : no = 26) : Calls Tryd.prog 11 #[.agg (rg R pc).toArray, .int .u32 (n : Nat)] w fun e w' => e = .returned (.tuple #[.agg (rg R (nx pc)).toArray, .agg (e5 3 0 0 (z % 4294967296) 0).toArray]) ∧ Below w.heap.size w w' := by
  have H26 := hide h26
  clear h26
  have hi : decI n = ⟨(no : Int), na, nb, z⟩ := (decI_yes hp hx).1
  have he : decE n = 0 := (decI_yes hp hx).2
  have hbO : ∀ w4, Below w.heap.size w w4 → Ops w4 := fun w4 h => hO.below h
  have hI := isn.1 hx
  have ha : (na : Int) < 8 := (fitsB_range hI.a).2
  have hb8 : (nb : Int) < 8 := (fitsB_range hI.b).2
  have hz1 := hI.imm.1
  have hz2 := hI.imm.2
  have HI := hide hI
  clear hO hx hI hp
  have hz0 : (0 : Int) ≤ (na : Int) := by omega
  have hz00 : (0 : Int) ≤ (nb : Int) := by omega
  have hna : na < 8 := by omega
  have hnb : nb < 8 := by omega
  simp only at hz1 hz2
  go_enter Tryd.func11, Tryd.ntmps11
  go_wp2_with fail
  refine (dec_any _ n hn ?_).mono ?_
  · exact hbO _ (((bel2 w _ _).trans ((bel1 _ _).mono (by simp; omega))))
  rw [hi, he]
  rintro e w4 ⟨rfl, hb⟩
  have hB := Bgn.new rfl hb
  clear hb hi he hbO
  simp only [I.cells]
  obtain ⟨N, hN⟩ : ∃ N, w.heap.size = N := ⟨_, rfl⟩
  have hT : Two w w4 N := by subst hN; exact ⟨hB.r1, hB.e, hB.b, hB.b.size⟩
  have hr : Rb w4 N R pc := by subst hN; exact hB.r
  rw [hN]
  clear hB
  have b5 := bel1 w4 (.cells #[.int .i64 (no : Int), .int .i64 (na : Int), .int .i64 (nb : Int), .int .i64 z] 58)
  have hq := heap_alloc_last w4 (.cells #[.int .i64 (no : Int), .int .i64 (na : Int), .int .i64 (nb : Int), .int .i64 z] 58)
  have HT := hide (hT.below b5)
  have HR := hide (hr.below b5)
  obtain ⟨M, hM⟩ : ∃ M, w4.heap.size = M := ⟨_, rfl⟩
  have hNM : N < M := by rw [← hM]; exact hr.lt
  have hMN : M ≠ N + 1 ∧ M ≠ N + 1 + 1 := by
    have h1 := hT.a.lt
    have h2 := (Array.getElem?_eq_some_iff.1 hT.e).1
    omega
  clear hT hr b5
  go_wp2
  generalize w4.alloc (.cells #[.int .i64 (no : Int), .int .i64 (na : Int), .int .i64 (nb : Int), .int .i64 z] 58) = w5 at *
  rw [hM] at hq
  have i0 : w5.cell? ⟨M, 0, none⟩ = some (.int .i64 (no : Int)) := by rw [cell_of_row _ _ _ _ _ _ hq]; rfl
  have i1 : w5.cell? ⟨M, 1, none⟩ = some (.int .i64 (na : Int)) := by rw [cell_of_row _ _ _ _ _ _ hq]; rfl
  have i2 : w5.cell? ⟨M, 2, none⟩ = some (.int .i64 (nb : Int)) := by rw [cell_of_row _ _ _ _ _ _ hq]; rfl
  have i3 : w5.cell? ⟨M, 3, none⟩ = some (.int .i64 z) := by rw [cell_of_row _ _ _ _ _ _ hq]; rfl
  have ra := HR.out.r hna
  have rb := HR.out.r hnb
  have HQ := hide hq
  clear hq hM
  go_quiet (fail)
  have HT6 := hide (HT.out.same (w' := w5.drewN nq) rfl rfl rfl rfl)
  have HR6 : Hid (Rb (w5.drewN nq) N R pc) := hide ⟨HR.out.out⟩
  have i0' : (w5.drewN nq).cell? ⟨M, 0, none⟩ = some (.int .i64 (no : Int)) := by simpa using i0
  have i1' : (w5.drewN nq).cell? ⟨M, 1, none⟩ = some (.int .i64 (na : Int)) := by simpa using i1
  have p8 := HR6.out.p
  have z8 := HR6.out.frz
  clear HT HR i0 i1 i2 i3 ra rb HQ
  generalize w5.drewN nq = w6 at *
  have h26 : (no : Int) = 26 := by have := H26.out; omega
  go_upto_region 16 with fail
  have HT7 := hide (HT6.out.setCell 8 (.int .u32 (((pc : Int) + 1) % 4294967296)))
  have HR7 := hide (rb_nx HR6.out)
  clear HT6 HR6 p8 z8
  generalize w6.setCell ⟨N, 8, none⟩ (.int .u32 (((pc : Int) + 1) % 4294967296)) = w7 at *
  obtain ⟨f0, f1, f2, f3, f4, f5⟩ := effcells HT7.out (rg R (nx pc))
  have HF := hide (HT7.out.rows (rg R (nx pc)) ([.int .i64 3, .int .u32 0, .int .i64 0, .int .u32 (z % 4294967296), .int .i64 0] : List Value) rfl)
  go_wp2_with (first
    | refine wpList_load_row rfl 32 _ rfl N rfl 32 (rg R (nx pc)).toArray (0, 0) _ HR7.out.out Tryd.underlying32 rfl (info_rg _ _) ?_
    | refine wpList_store_row rfl 32 _ _ rfl (N + 1) (rg R (nx pc)).toArray rfl rfl 32 _ HT7.out.a.out (info_rg _ _) (by rw [rg_size, rg_size]) (rg_one _ _) ?_)
  refine bodyPost_ret (results_rows2 rfl _ _ (N + 1) (N + 1 + 1) 32 34 _ _ _ _ rfl HF.out.a Tryd.underlying32 rfl (info_rg _ _) rfl HF.out.e Tryd.underlying34 rfl info_eff) rfl ?_
  subst hN
  exact ⟨rfl, HF.out.b⟩
set_option maxRecDepth 100000 in
set_option maxHeartbeats 2000000 in
theorem exec_div8 (hn : n < 4294967296) (hp : parts n = ⟨(no : Int), na, nb, z⟩) (hx : isI ⟨(no : Int), na, nb, z⟩ = true) (hO : Ops w) (h8 : no = 8) (hy0 : R nb = 0) : Calls Tryd.prog 11 #[.agg (rg R pc).toArray, .int .u32 (n : Nat)] w fun e w' => e = .returned (.tuple #[.agg (rg R pc).toArray, .agg (e5 4 0 0 0 73).toArray]) ∧ Below w.heap.size w w' := by
  have H8 := hide h8
  have HY0 := hide hy0
  clear h8 hy0
  have hi : decI n = ⟨(no : Int), na, nb, z⟩ := (decI_yes hp hx).1
  have he : decE n = 0 := (decI_yes hp hx).2
  have hbO : ∀ w4, Below w.heap.size w w4 → Ops w4 := fun w4 h => hO.below h
  have hI := isn.1 hx
  have ha : (na : Int) < 8 := (fitsB_range hI.a).2
  have hb8 : (nb : Int) < 8 := (fitsB_range hI.b).2
  have hz1 := hI.imm.1
  have hz2 := hI.imm.2
  have HI := hide hI
  clear hO hx hI hp
  have hz0 : (0 : Int) ≤ (na : Int) := by omega
  have hz00 : (0 : Int) ≤ (nb : Int) := by omega
  have hna : na < 8 := by omega
  have hnb : nb < 8 := by omega
  simp only at hz1 hz2
  go_enter Tryd.func11, Tryd.ntmps11
  go_wp2_with fail
  refine (dec_any _ n hn ?_).mono ?_
  · exact hbO _ (((bel2 w _ _).trans ((bel1 _ _).mono (by simp; omega))))
  rw [hi, he]
  rintro e w4 ⟨rfl, hb⟩
  have hB := Bgn.new rfl hb
  clear hb hi he hbO
  simp only [I.cells]
  obtain ⟨N, hN⟩ : ∃ N, w.heap.size = N := ⟨_, rfl⟩
  have hT : Two w w4 N := by subst hN; exact ⟨hB.r1, hB.e, hB.b, hB.b.size⟩
  have hr : Rb w4 N R pc := by subst hN; exact hB.r
  rw [hN]
  clear hB
  have b5 := bel1 w4 (.cells #[.int .i64 (no : Int), .int .i64 (na : Int), .int .i64 (nb : Int), .int .i64 z] 58)
  have hq := heap_alloc_last w4 (.cells #[.int .i64 (no : Int), .int .i64 (na : Int), .int .i64 (nb : Int), .int .i64 z] 58)
  have HT := hide (hT.below b5)
  have HR := hide (hr.below b5)
  obtain ⟨M, hM⟩ : ∃ M, w4.heap.size = M := ⟨_, rfl⟩
  have hNM : N < M := by rw [← hM]; exact hr.lt
  have hMN : M ≠ N + 1 ∧ M ≠ N + 1 + 1 := by
    have h1 := hT.a.lt
    have h2 := (Array.getElem?_eq_some_iff.1 hT.e).1
    omega
  clear hT hr b5
  go_wp2
  generalize w4.alloc (.cells #[.int .i64 (no : Int), .int .i64 (na : Int), .int .i64 (nb : Int), .int .i64 z] 58) = w5 at *
  rw [hM] at hq
  have i0 : w5.cell? ⟨M, 0, none⟩ = some (.int .i64 (no : Int)) := by rw [cell_of_row _ _ _ _ _ _ hq]; rfl
  have i1 : w5.cell? ⟨M, 1, none⟩ = some (.int .i64 (na : Int)) := by rw [cell_of_row _ _ _ _ _ _ hq]; rfl
  have i2 : w5.cell? ⟨M, 2, none⟩ = some (.int .i64 (nb : Int)) := by rw [cell_of_row _ _ _ _ _ _ hq]; rfl
  have i3 : w5.cell? ⟨M, 3, none⟩ = some (.int .i64 z) := by rw [cell_of_row _ _ _ _ _ _ hq]; rfl
  have ra := HR.out.r hna
  have rb := HR.out.r hnb
  have HQ := hide hq
  clear hq hM
  go_quiet (fail)
  have hop : (no : Int) = 8 := by have := H8.out; omega
  have hy0 : (R nb : Int) = 0 := by have := HY0.out; omega
  go_upto_region 13 with fail
  have HT6 := hide (HT.out.same (w' := (w5.drewN nq).drew) rfl rfl rfl rfl)
  have HF := hide fun W (h : Two w W N) => h.fin (rg R pc) (e5 4 0 0 0 73) (rg_len _ _) (e5_len _ _ _ _ _)
  have hS6 : Sx N (rg R pc) (w5.drewN nq).drew := HT6.out.sx ⟨HR.out.out⟩
  refine wp_region_held_drew (S := Sx N (rg R pc)) (by kernel_rfl) hS6 (fun hHeld => ?_)
  refine held_load 0 (o := ⟨some 59, _, _, _, _, _⟩) (by kernel_rfl) (by kernel_rfl) (by kernel_rfl) rfl (by rfl) rfl (rg R pc) rfl (fun W h => h.1) Tryd.underlying32 rfl (by rw [rg_len]; exact info_regs) (fun _ _ _ h => h) hHeld ?_
  simp only [Act.put, List.setIfInBounds_toArray, List.set_cons_zero, List.set_cons_succ]
  refine held_call 1 (o := ⟨some 60, _, _, _, _, _⟩) (by kernel_rfl) rfl (by rfl) (fun K hK => ?_)
  go_simp
  go_wp2_with (go_at_call 27; refine (trap_any _ _).mono ?_; rintro e w6 ⟨rfl, hb⟩)
  have HT7 := hide (HT6.out.below hb)
  have hS7 : Sx N (rg R pc) w6 := HT7.out.sx (Rb.below (w := (w5.drewN nq).drew) ⟨HR.out.out⟩ hb)
  clear hb hHeld hS6 HT6
  refine hK _ _ hS7 ?_
  clear hK K
  refine held_store 2 (o := ⟨none, _, _, _, _, _⟩) (cells := (rg R pc)) (by kernel_rfl) rfl (by rfl) rfl rfl rfl rfl (hS7.t1 (rg_len _ _)) (info_rgl _ _) (rg_ones _ _) (hS7.set1 _) ?_
  refine held_store 3 (o := ⟨none, _, _, _, _, _⟩) (cells := (e5 4 0 0 0 73)) (by kernel_rfl) rfl (by rfl) rfl rfl rfl rfl ((hS7.set1 _).t2 (e5_len _ _ _ _ _)) (info_e5 _ _ _ _ _) (e5_ones _ _ _ _ _) ((hS7.set1 _).set2 _) ?_
  refine wpAnyH_done (by kernel_rfl) ?_ _
  have HT6 := HT7
  clear hS7 HT7
  have hF := (HF.out _ HT6.out).1
  clear HF HT HR HT6
  generalize (w6.setCells (N + 1) 0 (rg R pc)).setCells (N + 1 + 1) 0 (e5 4 0 0 0 73) = w7 at *
  have HF := hide hF
  clear hF
  go_wp2
  refine bodyPost_ret (results_rows2 rfl _ _ (N + 1) (N + 1 + 1) 32 34 _ _ _ _ rfl HF.out.a Tryd.underlying32 rfl (info_rg _ _) rfl HF.out.e Tryd.underlying34 rfl (info_e5a _ _ _ _ _)) rfl ?_
  subst hN
  exact ⟨rfl, HF.out.b⟩
set_option maxRecDepth 100000 in
set_option maxHeartbeats 2000000 in
theorem exec_div9 (hn : n < 4294967296) (hp : parts n = ⟨(no : Int), na, nb, z⟩) (hx : isI ⟨(no : Int), na, nb, z⟩ = true) (hO : Ops w) (h8 : no = 9) (hy0 : R nb = 0) : Calls Tryd.prog 11 #[.agg (rg R pc).toArray, .int .u32 (n : Nat)] w fun e w' => e = .returned (.tuple #[.agg (rg R pc).toArray, .agg (e5 4 0 0 0 73).toArray]) ∧ Below w.heap.size w w' := by
  have H8 := hide h8
  have HY0 := hide hy0
  clear h8 hy0
  have hi : decI n = ⟨(no : Int), na, nb, z⟩ := (decI_yes hp hx).1
  have he : decE n = 0 := (decI_yes hp hx).2
  have hbO : ∀ w4, Below w.heap.size w w4 → Ops w4 := fun w4 h => hO.below h
  have hI := isn.1 hx
  have ha : (na : Int) < 8 := (fitsB_range hI.a).2
  have hb8 : (nb : Int) < 8 := (fitsB_range hI.b).2
  have hz1 := hI.imm.1
  have hz2 := hI.imm.2
  have HI := hide hI
  clear hO hx hI hp
  have hz0 : (0 : Int) ≤ (na : Int) := by omega
  have hz00 : (0 : Int) ≤ (nb : Int) := by omega
  have hna : na < 8 := by omega
  have hnb : nb < 8 := by omega
  simp only at hz1 hz2
  go_enter Tryd.func11, Tryd.ntmps11
  go_wp2_with fail
  refine (dec_any _ n hn ?_).mono ?_
  · exact hbO _ (((bel2 w _ _).trans ((bel1 _ _).mono (by simp; omega))))
  rw [hi, he]
  rintro e w4 ⟨rfl, hb⟩
  have hB := Bgn.new rfl hb
  clear hb hi he hbO
  simp only [I.cells]
  obtain ⟨N, hN⟩ : ∃ N, w.heap.size = N := ⟨_, rfl⟩
  have hT : Two w w4 N := by subst hN; exact ⟨hB.r1, hB.e, hB.b, hB.b.size⟩
  have hr : Rb w4 N R pc := by subst hN; exact hB.r
  rw [hN]
  clear hB
  have b5 := bel1 w4 (.cells #[.int .i64 (no : Int), .int .i64 (na : Int), .int .i64 (nb : Int), .int .i64 z] 58)
  have hq := heap_alloc_last w4 (.cells #[.int .i64 (no : Int), .int .i64 (na : Int), .int .i64 (nb : Int), .int .i64 z] 58)
  have HT := hide (hT.below b5)
  have HR := hide (hr.below b5)
  obtain ⟨M, hM⟩ : ∃ M, w4.heap.size = M := ⟨_, rfl⟩
  have hNM : N < M := by rw [← hM]; exact hr.lt
  have hMN : M ≠ N + 1 ∧ M ≠ N + 1 + 1 := by
    have h1 := hT.a.lt
    have h2 := (Array.getElem?_eq_some_iff.1 hT.e).1
    omega
  clear hT hr b5
  go_wp2
  generalize w4.alloc (.cells #[.int .i64 (no : Int), .int .i64 (na : Int), .int .i64 (nb : Int), .int .i64 z] 58) = w5 at *
  rw [hM] at hq
  have i0 : w5.cell? ⟨M, 0, none⟩ = some (.int .i64 (no : Int)) := by rw [cell_of_row _ _ _ _ _ _ hq]; rfl
  have i1 : w5.cell? ⟨M, 1, none⟩ = some (.int .i64 (na : Int)) := by rw [cell_of_row _ _ _ _ _ _ hq]; rfl
  have i2 : w5.cell? ⟨M, 2, none⟩ = some (.int .i64 (nb : Int)) := by rw [cell_of_row _ _ _ _ _ _ hq]; rfl
  have i3 : w5.cell? ⟨M, 3, none⟩ = some (.int .i64 z) := by rw [cell_of_row _ _ _ _ _ _ hq]; rfl
  have ra := HR.out.r hna
  have rb := HR.out.r hnb
  have HQ := hide hq
  clear hq hM
  go_quiet (fail)
  have hop : (no : Int) = 9 := by have := H8.out; omega
  have hy0 : (R nb : Int) = 0 := by have := HY0.out; omega
  go_upto_region 13 with fail
  have HT6 := hide (HT.out.same (w' := (w5.drewN nq).drew) rfl rfl rfl rfl)
  have HF := hide fun W (h : Two w W N) => h.fin (rg R pc) (e5 4 0 0 0 73) (rg_len _ _) (e5_len _ _ _ _ _)
  have hS6 : Sx N (rg R pc) (w5.drewN nq).drew := HT6.out.sx ⟨HR.out.out⟩
  refine wp_region_held_drew (S := Sx N (rg R pc)) (by kernel_rfl) hS6 (fun hHeld => ?_)
  refine held_load 0 (o := ⟨some 59, _, _, _, _, _⟩) (by kernel_rfl) (by kernel_rfl) (by kernel_rfl) rfl (by rfl) rfl (rg R pc) rfl (fun W h => h.1) Tryd.underlying32 rfl (by rw [rg_len]; exact info_regs) (fun _ _ _ h => h) hHeld ?_
  simp only [Act.put, List.setIfInBounds_toArray, List.set_cons_zero, List.set_cons_succ]
  refine held_call 1 (o := ⟨some 60, _, _, _, _, _⟩) (by kernel_rfl) rfl (by rfl) (fun K hK => ?_)
  go_simp
  go_wp2_with (go_at_call 27; refine (trap_any _ _).mono ?_; rintro e w6 ⟨rfl, hb⟩)
  have HT7 := hide (HT6.out.below hb)
  have hS7 : Sx N (rg R pc) w6 := HT7.out.sx (Rb.below (w := (w5.drewN nq).drew) ⟨HR.out.out⟩ hb)
  clear hb hHeld hS6 HT6
  refine hK _ _ hS7 ?_
  clear hK K
  refine held_store 2 (o := ⟨none, _, _, _, _, _⟩) (cells := (rg R pc)) (by kernel_rfl) rfl (by rfl) rfl rfl rfl rfl (hS7.t1 (rg_len _ _)) (info_rgl _ _) (rg_ones _ _) (hS7.set1 _) ?_
  refine held_store 3 (o := ⟨none, _, _, _, _, _⟩) (cells := (e5 4 0 0 0 73)) (by kernel_rfl) rfl (by rfl) rfl rfl rfl rfl ((hS7.set1 _).t2 (e5_len _ _ _ _ _)) (info_e5 _ _ _ _ _) (e5_ones _ _ _ _ _) ((hS7.set1 _).set2 _) ?_
  refine wpAnyH_done (by kernel_rfl) ?_ _
  have HT6 := HT7
  clear hS7 HT7
  have hF := (HF.out _ HT6.out).1
  clear HF HT HR HT6
  generalize (w6.setCells (N + 1) 0 (rg R pc)).setCells (N + 1 + 1) 0 (e5 4 0 0 0 73) = w7 at *
  have HF := hide hF
  clear hF
  go_wp2
  refine bodyPost_ret (results_rows2 rfl _ _ (N + 1) (N + 1 + 1) 32 34 _ _ _ _ rfl HF.out.a Tryd.underlying32 rfl (info_rg _ _) rfl HF.out.e Tryd.underlying34 rfl (info_e5a _ _ _ _ _)) rfl ?_
  subst hN
  exact ⟨rfl, HF.out.b⟩
end
end Go.Proofs.YtoaplkfmchphbaaDoor
