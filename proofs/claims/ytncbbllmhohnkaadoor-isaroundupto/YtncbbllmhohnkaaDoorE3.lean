import Derived.Test.YtncbbllmhohnkaaDoorE2
import Derived.Deep.Cut
namespace Go.Proofs.YtncbbllmhohnkaaDoor
open Go.RowKit
/-- imm as a word -/
def im (z : Int) : Nat := (z % 4294967296).toNat
theorem im_lt (z : Int) : im z < 4294967296 := by unfold im; omega
theorem im_cast (z : Int) : ((im z : Nat) : Int) = z % 4294967296 := by unfold im; omega
def e5 (k a r v c : Int) : List Value := [.int .i64 k, .int .u32 a, .int .i64 r, .int .u32 v, .int .i64 c]
theorem e5_len (k a r v c : Int) : (e5 k a r v c).length = 5 := rfl
theorem e5_ones (k a r v c : Int) : ∀ u ∈ e5 k a r v c, u.oneCell' = true := ones5 _ _ _ _ _ rfl
theorem info_e5 (k a r v c : Int) : (Tryd.prog.info? 34).map (·.size) = some (e5 k a r v c).length := info_eff
theorem info_e5a (k a r v c : Int) : (Tryd.prog.info? 34).map (·.size) = some (e5 k a r v c).toArray.size := info_eff
theorem Two.same {w W w' : World} {N : Nat} (h : Two w W N) (h1 : w'.heap = W.heap) (h2 : w'.os = W.os) (h3 : w'.tape = W.tape) (h4 : w'.output = W.output) : Two w w' N :=
  ⟨⟨by rw [h1]; exact h.a.out⟩, by rw [h1]; exact h.e, ⟨h2.trans h.b.os, h3.trans h.b.tape, h4.trans h.b.output, by rw [h1]; exact h.b.size, fun k hk => by rw [h1]; exact h.b.block k hk⟩, by rw [h1]; exact h.s⟩
/-- held beside: the instruction's a -/
def Sy (N M na : Nat) (Y : List Value) (W : World) : Prop := Sx N Y W ∧ W.cell? ⟨M, 1, none⟩ = some (.int .i64 (na : Int))
theorem Sy.keep {W : World} {N M na : Nat} {Y : List Value} (h : Sy N M na Y W) (hM : M ≠ N + 1 ∧ M ≠ N + 1 + 1) (Z : List Value) : Sy N M na Y (W.setCells (N + 1) 0 Z) ∧ Sy N M na Y (W.setCells (N + 1 + 1) 0 Z) :=
  ⟨⟨h.1.set1 _, by rw [World.cell?_setCells_out (N + 1) Z 0 W ⟨M, 1, none⟩ (fun e _ => absurd e hM.1)]; exact h.2⟩, ⟨h.1.set2 _, by rw [World.cell?_setCells_out (N + 1 + 1) Z 0 W ⟨M, 1, none⟩ (fun e _ => absurd e hM.2)]; exact h.2⟩⟩
section
variable (w : World) (R : Nat → Nat) (pc n no na nb : Nat) (z : Int)
set_option maxRecDepth 100000 in
set_option maxHeartbeats 2000000 in
theorem exec_ld (hn : n < 4294967296) (hp : parts n = ⟨(no : Int), na, nb, z⟩) (hx : isI ⟨(no : Int), na, nb, z⟩ = true) (hO : Ops w) (h19 : no = 19) : Calls Tryd.prog 11 #[.agg (rg R pc).toArray, .int .u32 (n : Nat)] w fun e w' => e = .returned (.tuple #[.agg (rg R pc).toArray, .agg (e5 1 (((R nb : Nat) + z) % 4294967296) na 0 0).toArray]) ∧ Below w.heap.size w w' := by
  have H19 := hide h19
  clear h19
  have hi : decI n = ⟨(no : Int), na, nb, z⟩ := (decI_yes hp hx).1
  have he : decE n = 0 := (decI_yes hp hx).2
  have hbO : ∀ w4, Below w.heap.size w w4 → Ops w4 := fun w4 h => hO.below h
  have hI := isn.1 hx
  have ha : (na : Int) < 8 := (fitsB_range hI.a).2
  have hb8 : (nb : Int) < 8 := (fitsB_range hI.b).2
  have hz1 := hI.imm.1
  have hz2 := hI.imm.2
  have HI := hide hI
  clear hO hx hI hp
  have hz0 : (0 : Int) ≤ (na : Int) := by omega
  have hz00 : (0 : Int) ≤ (nb : Int) := by omega
  have hna : na < 8 := by omega
  have hnb : nb < 8 := by omega
  simp only at hz1 hz2
  go_enter Tryd.func11, Tryd.ntmps11
  go_wp2_with fail
  refine (dec_any _ n hn ?_).mono ?_
  · exact hbO _ (((bel2 w _ _).trans ((bel1 _ _).mono (by simp; omega))))
  rw [hi, he]
  rintro e w4 ⟨rfl, hb⟩
  have hB := Bgn.new rfl hb
  clear hb hi he hbO
  simp only [I.cells]
  obtain ⟨N, hN⟩ : ∃ N, w.heap.size = N := ⟨_, rfl⟩
  have hT : Two w w4 N := by subst hN; exact ⟨hB.r1, hB.e, hB.b, hB.b.size⟩
  have hr : Rb w4 N R pc := by subst hN; exact hB.r
  rw [hN]
  clear hB
  have b5 := bel1 w4 (.cells #[.int .i64 (no : Int), .int .i64 (na : Int), .int .i64 (nb : Int), .int .i64 z] 58)
  have hq := heap_alloc_last w4 (.cells #[.int .i64 (no : Int), .int .i64 (na : Int), .int .i64 (nb : Int), .int .i64 z] 58)
  have HT := hide (hT.below b5)
  have HR := hide (hr.below b5)
  obtain ⟨M, hM⟩ : ∃ M, w4.heap.size = M := ⟨_, rfl⟩
  have hNM : N < M := by rw [← hM]; exact hr.lt
  have hMN : M ≠ N + 1 ∧ M ≠ N + 1 + 1 := by
    have h1 := hT.a.lt
    have h2 := (Array.getElem?_eq_some_iff.1 hT.e).1
    omega
  clear hT hr b5
  go_wp2
  generalize w4.alloc (.cells #[.int .i64 (no : Int), .int .i64 (na : Int), .int .i64 (nb : Int), .int .i64 z] 58) = w5 at *
  rw [hM] at hq
  have i0 : w5.cell? ⟨M, 0, none⟩ = some (.int .i64 (no : Int)) := by rw [cell_of_row _ _ _ _ _ _ hq]; rfl
  have i1 : w5.cell? ⟨M, 1, none⟩ = some (.int .i64 (na : Int)) := by rw [cell_of_row _ _ _ _ _ _ hq]; rfl
  have i2 : w5.cell? ⟨M, 2, none⟩ = some (.int .i64 (nb : Int)) := by rw [cell_of_row _ _ _ _ _ _ hq]; rfl
  have i3 : w5.cell? ⟨M, 3, none⟩ = some (.int .i64 z) := by rw [cell_of_row _ _ _ _ _ _ hq]; rfl
  have ra := HR.out.r hna
  have rb := HR.out.r hnb
  have HQ := hide hq
  clear hq hM
  go_quiet (fail)
  have HW : Hid ((((R nb : Nat) : Int) + z) % 4294967296 = IntKind.u32.wrap (((R nb : Nat) : Int) + z % 4294967296)) := by apply hide; rw [IntKind.wrap_u32]; omega
  have h19i : (no : Int) = 19 := by have := H19.out; omega
  go_upto_region 7 with fail
  have HT6 := hide (HT.out.same (w' := (w5.drewN nq).drew) rfl rfl rfl rfl)
  have HF := hide fun W (h : Two w W N) => h.fin (rg R pc) (e5 1 (((R nb : Nat) + z) % 4294967296) na 0 0) (rg_len _ _) (e5_len _ _ _ _ _)
  have hS6 : Sy N M na (rg R pc) (w5.drewN nq).drew := ⟨HT6.out.sx ⟨HR.out.out⟩, by simpa using i1⟩
  refine wp_region_held_drew (S := Sy N M na (rg R pc)) (by kernel_rfl) hS6 (fun hHeld => ?_)
  refine held_load 0 (o := ⟨some 39, _, _, _, _, _⟩) (by kernel_rfl) (by kernel_rfl) (by kernel_rfl) rfl (by rfl) rfl (rg R pc) rfl (fun W h => h.1.1) Tryd.underlying32 rfl (by rw [rg_len]; exact info_regs) (fun _ _ _ h => h) hHeld ?_
  simp only [Act.put, List.setIfInBounds_toArray, List.set_cons_zero, List.set_cons_succ]
  refine held_take 1 (o := ⟨some 40, _, _, _, _, _⟩) (.int .u32 (R nb : Nat)) (by kernel_rfl) (by kernel_rfl) (by kernel_rfl) rfl (by rfl) (fun W hSw => by first | (go_simp; done) | (go_simp; rfl) | rfl) (fun _ _ _ h => h) hHeld ?_
  simp only [Act.put, List.setIfInBounds_toArray, List.set_cons_zero, List.set_cons_succ]
  refine held_take 2 (o := ⟨some 41, _, _, _, _, _⟩) (.int .u32 (z % 4294967296)) (by kernel_rfl) (by kernel_rfl) (by kernel_rfl) rfl (by rfl) (fun W hSw => by first | (go_simp; done) | (go_simp; rfl) | rfl) (fun _ _ _ h => h) hHeld ?_
  simp only [Act.put, List.setIfInBounds_toArray, List.set_cons_zero, List.set_cons_succ]
  refine held_take 3 (o := ⟨some 42, _, _, _, _, _⟩) (.int .u32 (((R nb : Nat) + z) % 4294967296)) (by kernel_rfl) (by kernel_rfl) (by kernel_rfl) rfl (by rfl) (fun W hSw => by rw [HW.out]; rfl) (fun _ _ _ h => h) hHeld ?_
  simp only [Act.put, List.setIfInBounds_toArray, List.set_cons_zero, List.set_cons_succ]
  refine held_take 4 (o := ⟨some 43, _, _, _, _, _⟩) (.pointer (some ⟨M, 1, none⟩)) (by kernel_rfl) (by kernel_rfl) (by kernel_rfl) rfl (by rfl) (fun W hSw => by first | (go_simp; done) | (go_simp; rfl) | rfl) (fun _ _ _ h => h) hHeld ?_
  simp only [Act.put, List.setIfInBounds_toArray, List.set_cons_zero, List.set_cons_succ]
  refine held_take 5 (o := ⟨some 44, _, _, _, _, _⟩) (.int .i64 (na : Int)) (by kernel_rfl) (by kernel_rfl) (by kernel_rfl) rfl (by rfl) (fun W hSw => by have hc := hSw.2; go_simp; try with_reducible rfl) (fun _ _ _ h => h) hHeld ?_
  simp only [Act.put, List.setIfInBounds_toArray, List.set_cons_zero, List.set_cons_succ]
  refine held_take 6 (o := ⟨some 45, _, _, _, _, _⟩) (.agg (e5 1 (((R nb : Nat) + z) % 4294967296) na 0 0).toArray) (by kernel_rfl) (by kernel_rfl) (by kernel_rfl) rfl (by rfl) (fun W hSw => by first | (go_simp; done) | (go_simp; rfl) | rfl) (fun _ _ _ h => h) hHeld ?_
  simp only [Act.put, List.setIfInBounds_toArray, List.set_cons_zero, List.set_cons_succ]
  refine held_store 7 (o := ⟨none, _, _, _, _, _⟩) (cells := (rg R pc)) (by kernel_rfl) rfl (by rfl) rfl rfl rfl rfl (hHeld.1.t1 (rg_len _ _)) (info_rgl _ _) (rg_ones _ _) (hHeld.keep hMN _).1 ?_
  refine held_store 8 (o := ⟨none, _, _, _, _, _⟩) (cells := (e5 1 (((R nb : Nat) + z) % 4294967296) na 0 0)) (by kernel_rfl) rfl (by rfl) rfl rfl rfl rfl ((hHeld.keep hMN _).1.1.t2 (e5_len _ _ _ _ _)) (info_e5 _ _ _ _ _) (e5_ones _ _ _ _ _) ((hHeld.keep hMN _).1.keep hMN _).2 ?_
  refine wpAnyH_done (by kernel_rfl) ?_ _
  clear hHeld hS6
  have hF := (HF.out _ HT6.out).1
  clear HF HT HR HT6
  generalize ((w5.drewN nq).drew.setCells (N + 1) 0 (rg R pc)).setCells (N + 1 + 1) 0 (e5 1 (((R nb : Nat) + z) % 4294967296) na 0 0) = w7 at *
  have HF := hide hF
  clear hF
  go_wp2
  refine bodyPost_ret (results_rows2 rfl _ _ (N + 1) (N + 1 + 1) 32 34 _ _ _ _ rfl HF.out.a Tryd.underlying32 rfl (info_rg _ _) rfl HF.out.e Tryd.underlying34 rfl (info_e5a _ _ _ _ _)) rfl ?_
  subst hN
  exact ⟨rfl, HF.out.b⟩
end
end Go.Proofs.YtncbbllmhohnkaaDoor
