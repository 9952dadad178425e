import Derived.Test.YtncbbllmhohnkaaDoorE4
namespace Go.Proofs.YtncbbllmhohnkaaDoor
open Go.RowKit
def nx (pc : Nat) : Nat := (pc + 1) % 4294967296
theorem nx_lt (pc : Nat) : nx pc < 4294967296 := Nat.mod_lt _ (by decide)
theorem nx_cast (pc : Nat) : ((nx pc : Nat) : Int) = ((pc : Int) + 1) % 4294967296 := by unfold nx; omega
theorem rb_nx {w : World} {N : Nat} {R : Nat → Nat} {pc : Nat} (h : Rb w N R pc) : Rb (w.setCell ⟨N, 8, none⟩ (.int .u32 (((pc : Int) + 1) % 4294967296))) N R (nx pc) := by
  have := h.setpc (nx pc); rwa [nx_cast] at this
section
variable (w : World) (R : Nat → Nat) (pc n no na nb : Nat) (z : Int)
set_option maxRecDepth 100000 in
set_option maxHeartbeats 2000000 in
theorem exec_sys (hn : n < 4294967296) (hp : parts n = ⟨(no : Int), na, nb, z⟩) (hx : isI ⟨(no : Int), na, nb, z⟩ = true) (hO : Ops w) (h26 : no = 26) : Calls Tryd.prog 11 #[.agg (rg R pc).toArray, .int .u32 (n : Nat)] w fun e w' => e = .returned (.tuple #[.agg (rg R (nx pc)).toArray, .agg (e5 3 0 0 (z % 4294967296) 0).toArray]) ∧ Below w.heap.size w w' := by
  have H26 := hide h26
  clear h26
  have hi : decI n = ⟨(no : Int), na, nb, z⟩ := (decI_yes hp hx).1
  have he : decE n = 0 := (decI_yes hp hx).2
  have hbO : ∀ w4, Below w.heap.size w w4 → Ops w4 := fun w4 h => hO.below h
  have hI := isn.1 hx
  have ha : (na : Int) < 8 := (fitsB_range hI.a).2
  have hb8 : (nb : Int) < 8 := (fitsB_range hI.b).2
  have hz1 := hI.imm.1
  have hz2 := hI.imm.2
  have HI := hide hI
  clear hO hx hI hp
  have hz0 : (0 : Int) ≤ (na : Int) := by omega
  have hz00 : (0 : Int) ≤ (nb : Int) := by omega
  have hna : na < 8 := by omega
  have hnb : nb < 8 := by omega
  simp only at hz1 hz2
  go_enter Tryd.func11, Tryd.ntmps11
  go_wp2_with fail
  refine (dec_any _ n hn ?_).mono ?_
  · exact hbO _ (((bel2 w _ _).trans ((bel1 _ _).mono (by simp; omega))))
  rw [hi, he]
  rintro e w4 ⟨rfl, hb⟩
  have hB := Bgn.new rfl hb
  clear hb hi he hbO
  simp only [I.cells]
  obtain ⟨N, hN⟩ : ∃ N, w.heap.size = N := ⟨_, rfl⟩
  have hT : Two w w4 N := by subst hN; exact ⟨hB.r1, hB.e, hB.b, hB.b.size⟩
  have hr : Rb w4 N R pc := by subst hN; exact hB.r
  rw [hN]
  clear hB
  have b5 := bel1 w4 (.cells #[.int .i64 (no : Int), .int .i64 (na : Int), .int .i64 (nb : Int), .int .i64 z] 58)
  have hq := heap_alloc_last w4 (.cells #[.int .i64 (no : Int), .int .i64 (na : Int), .int .i64 (nb : Int), .int .i64 z] 58)
  have HT := hide (hT.below b5)
  have HR := hide (hr.below b5)
  obtain ⟨M, hM⟩ : ∃ M, w4.heap.size = M := ⟨_, rfl⟩
  have hNM : N < M := by rw [← hM]; exact hr.lt
  have hMN : M ≠ N + 1 ∧ M ≠ N + 1 + 1 := by
    have h1 := hT.a.lt
    have h2 := (Array.getElem?_eq_some_iff.1 hT.e).1
    omega
  clear hT hr b5
  go_wp2
  generalize w4.alloc (.cells #[.int .i64 (no : Int), .int .i64 (na : Int), .int .i64 (nb : Int), .int .i64 z] 58) = w5 at *
  rw [hM] at hq
  have i0 : w5.cell? ⟨M, 0, none⟩ = some (.int .i64 (no : Int)) := by rw [cell_of_row _ _ _ _ _ _ hq]; rfl
  have i1 : w5.cell? ⟨M, 1, none⟩ = some (.int .i64 (na : Int)) := by rw [cell_of_row _ _ _ _ _ _ hq]; rfl
  have i2 : w5.cell? ⟨M, 2, none⟩ = some (.int .i64 (nb : Int)) := by rw [cell_of_row _ _ _ _ _ _ hq]; rfl
  have i3 : w5.cell? ⟨M, 3, none⟩ = some (.int .i64 z) := by rw [cell_of_row _ _ _ _ _ _ hq]; rfl
  have ra := HR.out.r hna
  have rb := HR.out.r hnb
  have HQ := hide hq
  clear hq hM
  go_quiet (fail)
  have HT6 := hide (HT.out.same (w' := w5.drewN nq) rfl rfl rfl rfl)
  have HR6 : Hid (Rb (w5.drewN nq) N R pc) := hide ⟨HR.out.out⟩
  have i0' : (w5.drewN nq).cell? ⟨M, 0, none⟩ = some (.int .i64 (no : Int)) := by simpa using i0
  have i1' : (w5.drewN nq).cell? ⟨M, 1, none⟩ = some (.int .i64 (na : Int)) := by simpa using i1
  have p8 := HR6.out.p
  have z8 := HR6.out.frz
  clear HT HR i0 i1 i2 i3 ra rb HQ
  generalize w5.drewN nq = w6 at *
  have h26 : (no : Int) = 26 := by have := H26.out; omega
  go_upto_region 16 with fail
  have HT7 := hide (HT6.out.setCell 8 (.int .u32 (((pc : Int) + 1) % 4294967296)))
  have HR7 := hide (rb_nx HR6.out)
  clear HT6 HR6 p8 z8
  generalize w6.setCell ⟨N, 8, none⟩ (.int .u32 (((pc : Int) + 1) % 4294967296)) = w7 at *
  obtain ⟨f0, f1, f2, f3, f4, f5⟩ := effcells HT7.out (rg R (nx pc))
  have HF := hide (HT7.out.rows (rg R (nx pc)) ([.int .i64 3, .int .u32 0, .int .i64 0, .int .u32 (z % 4294967296), .int .i64 0] : List Value) rfl)
  go_wp2_with (first
    | refine wpList_load_row rfl 32 _ rfl N rfl 32 (rg R (nx pc)).toArray (0, 0) _ HR7.out.out Tryd.underlying32 rfl (info_rg _ _) ?_
    | refine wpList_store_row rfl 32 _ _ rfl (N + 1) (rg R (nx pc)).toArray rfl rfl 32 _ HT7.out.a.out (info_rg _ _) (by rw [rg_size, rg_size]) (rg_one _ _) ?_)
  refine bodyPost_ret (results_rows2 rfl _ _ (N + 1) (N + 1 + 1) 32 34 _ _ _ _ rfl HF.out.a Tryd.underlying32 rfl (info_rg _ _) rfl HF.out.e Tryd.underlying34 rfl info_eff) rfl ?_
  subst hN
  exact ⟨rfl, HF.out.b⟩
set_option maxRecDepth 100000 in
set_option maxHeartbeats 2000000 in
theorem exec_div8 (hn : n < 4294967296) (hp : parts n = ⟨(no : Int), na, nb, z⟩) (hx : isI ⟨(no : Int), na, nb, z⟩ = true) (hO : Ops w) (h8 : no = 8) (hy0 : R nb = 0) : Calls Tryd.prog 11 #[.agg (rg R pc).toArray, .int .u32 (n : Nat)] w fun e w' => e = .returned (.tuple #[.agg (rg R pc).toArray, .agg (e5 4 0 0 0 73).toArray]) ∧ Below w.heap.size w w' := by
  have H8 := hide h8
  have HY0 := hide hy0
  clear h8 hy0
  have hi : decI n = ⟨(no : Int), na, nb, z⟩ := (decI_yes hp hx).1
  have he : decE n = 0 := (decI_yes hp hx).2
  have hbO : ∀ w4, Below w.heap.size w w4 → Ops w4 := fun w4 h => hO.below h
  have hI := isn.1 hx
  have ha : (na : Int) < 8 := (fitsB_range hI.a).2
  have hb8 : (nb : Int) < 8 := (fitsB_range hI.b).2
  have hz1 := hI.imm.1
  have hz2 := hI.imm.2
  have HI := hide hI
  clear hO hx hI hp
  have hz0 : (0 : Int) ≤ (na : Int) := by omega
  have hz00 : (0 : Int) ≤ (nb : Int) := by omega
  have hna : na < 8 := by omega
  have hnb : nb < 8 := by omega
  simp only at hz1 hz2
  go_enter Tryd.func11, Tryd.ntmps11
  go_wp2_with fail
  refine (dec_any _ n hn ?_).mono ?_
  · exact hbO _ (((bel2 w _ _).trans ((bel1 _ _).mono (by simp; omega))))
  rw [hi, he]
  rintro e w4 ⟨rfl, hb⟩
  have hB := Bgn.new rfl hb
  clear hb hi he hbO
  simp only [I.cells]
  obtain ⟨N, hN⟩ : ∃ N, w.heap.size = N := ⟨_, rfl⟩
  have hT : Two w w4 N := by subst hN; exact ⟨hB.r1, hB.e, hB.b, hB.b.size⟩
  have hr : Rb w4 N R pc := by subst hN; exact hB.r
  rw [hN]
  clear hB
  have b5 := bel1 w4 (.cells #[.int .i64 (no : Int), .int .i64 (na : Int), .int .i64 (nb : Int), .int .i64 z] 58)
  have hq := heap_alloc_last w4 (.cells #[.int .i64 (no : Int), .int .i64 (na : Int), .int .i64 (nb : Int), .int .i64 z] 58)
  have HT := hide (hT.below b5)
  have HR := hide (hr.below b5)
  obtain ⟨M, hM⟩ : ∃ M, w4.heap.size = M := ⟨_, rfl⟩
  have hNM : N < M := by rw [← hM]; exact hr.lt
  have hMN : M ≠ N + 1 ∧ M ≠ N + 1 + 1 := by
    have h1 := hT.a.lt
    have h2 := (Array.getElem?_eq_some_iff.1 hT.e).1
    omega
  clear hT hr b5
  go_wp2
  generalize w4.alloc (.cells #[.int .i64 (no : Int), .int .i64 (na : Int), .int .i64 (nb : Int), .int .i64 z] 58) = w5 at *
  rw [hM] at hq
  have i0 : w5.cell? ⟨M, 0, none⟩ = some (.int .i64 (no : Int)) := by rw [cell_of_row _ _ _ _ _ _ hq]; rfl
  have i1 : w5.cell? ⟨M, 1, none⟩ = some (.int .i64 (na : Int)) := by rw [cell_of_row _ _ _ _ _ _ hq]; rfl
  have i2 : w5.cell? ⟨M, 2, none⟩ = some (.int .i64 (nb : Int)) := by rw [cell_of_row _ _ _ _ _ _ hq]; rfl
  have i3 : w5.cell? ⟨M, 3, none⟩ = some (.int .i64 z) := by rw [cell_of_row _ _ _ _ _ _ hq]; rfl
  have ra := HR.out.r hna
  have rb := HR.out.r hnb
  have HQ := hide hq
  clear hq hM
  go_quiet (fail)
  have hop : (no : Int) = 8 := by have := H8.out; omega
  have hy0 : (R nb : Int) = 0 := by have := HY0.out; omega
  go_upto_region 13 with fail
  have HT6 := hide (HT.out.same (w' := (w5.drewN nq).drew) rfl rfl rfl rfl)
  have HF := hide fun W (h : Two w W N) => h.fin (rg R pc) (e5 4 0 0 0 73) (rg_len _ _) (e5_len _ _ _ _ _)
  have hS6 : Sx N (rg R pc) (w5.drewN nq).drew := HT6.out.sx ⟨HR.out.out⟩
  refine wp_region_held_drew (S := Sx N (rg R pc)) (by kernel_rfl) hS6 (fun hHeld => ?_)
  refine held_load 0 (o := ⟨some 59, _, _, _, _, _⟩) (by kernel_rfl) (by kernel_rfl) (by kernel_rfl) rfl (by rfl) rfl (rg R pc) rfl (fun W h => h.1) Tryd.underlying32 rfl (by rw [rg_len]; exact info_regs) (fun _ _ _ h => h) hHeld ?_
  simp only [Act.put, List.setIfInBounds_toArray, List.set_cons_zero, List.set_cons_succ]
  refine held_call 1 (o := ⟨some 60, _, _, _, _, _⟩) (by kernel_rfl) rfl (by rfl) (fun K hK => ?_)
  go_simp
  go_wp2_with (go_at_call 27; refine (trap_any _ _).mono ?_; rintro e w6 ⟨rfl, hb⟩)
  have HT7 := hide (HT6.out.below hb)
  have hS7 : Sx N (rg R pc) w6 := HT7.out.sx (Rb.below (w := (w5.drewN nq).drew) ⟨HR.out.out⟩ hb)
  clear hb hHeld hS6 HT6
  refine hK _ _ hS7 ?_
  clear hK K
  refine held_store 2 (o := ⟨none, _, _, _, _, _⟩) (cells := (rg R pc)) (by kernel_rfl) rfl (by rfl) rfl rfl rfl rfl (hS7.t1 (rg_len _ _)) (info_rgl _ _) (rg_ones _ _) (hS7.set1 _) ?_
  refine held_store 3 (o := ⟨none, _, _, _, _, _⟩) (cells := (e5 4 0 0 0 73)) (by kernel_rfl) rfl (by rfl) rfl rfl rfl rfl ((hS7.set1 _).t2 (e5_len _ _ _ _ _)) (info_e5 _ _ _ _ _) (e5_ones _ _ _ _ _) ((hS7.set1 _).set2 _) ?_
  refine wpAnyH_done (by kernel_rfl) ?_ _
  have HT6 := HT7
  clear hS7 HT7
  have hF := (HF.out _ HT6.out).1
  clear HF HT HR HT6
  generalize (w6.setCells (N + 1) 0 (rg R pc)).setCells (N + 1 + 1) 0 (e5 4 0 0 0 73) = w7 at *
  have HF := hide hF
  clear hF
  go_wp2
  refine bodyPost_ret (results_rows2 rfl _ _ (N + 1) (N + 1 + 1) 32 34 _ _ _ _ rfl HF.out.a Tryd.underlying32 rfl (info_rg _ _) rfl HF.out.e Tryd.underlying34 rfl (info_e5a _ _ _ _ _)) rfl ?_
  subst hN
  exact ⟨rfl, HF.out.b⟩
set_option maxRecDepth 100000 in
set_option maxHeartbeats 2000000 in
theorem exec_div9 (hn : n < 4294967296) (hp : parts n = ⟨(no : Int), na, nb, z⟩) (hx : isI ⟨(no : Int), na, nb, z⟩ = true) (hO : Ops w) (h8 : no = 9) (hy0 : R nb = 0) : Calls Tryd.prog 11 #[.agg (rg R pc).toArray, .int .u32 (n : Nat)] w fun e w' => e = .returned (.tuple #[.agg (rg R pc).toArray, .agg (e5 4 0 0 0 73).toArray]) ∧ Below w.heap.size w w' := by
  have H8 := hide h8
  have HY0 := hide hy0
  clear h8 hy0
  have hi : decI n = ⟨(no : Int), na, nb, z⟩ := (decI_yes hp hx).1
  have he : decE n = 0 := (decI_yes hp hx).2
  have hbO : ∀ w4, Below w.heap.size w w4 → Ops w4 := fun w4 h => hO.below h
  have hI := isn.1 hx
  have ha : (na : Int) < 8 := (fitsB_range hI.a).2
  have hb8 : (nb : Int) < 8 := (fitsB_range hI.b).2
  have hz1 := hI.imm.1
  have hz2 := hI.imm.2
  have HI := hide hI
  clear hO hx hI hp
  have hz0 : (0 : Int) ≤ (na : Int) := by omega
  have hz00 : (0 : Int) ≤ (nb : Int) := by omega
  have hna : na < 8 := by omega
  have hnb : nb < 8 := by omega
  simp only at hz1 hz2
  go_enter Tryd.func11, Tryd.ntmps11
  go_wp2_with fail
  refine (dec_any _ n hn ?_).mono ?_
  · exact hbO _ (((bel2 w _ _).trans ((bel1 _ _).mono (by simp; omega))))
  rw [hi, he]
  rintro e w4 ⟨rfl, hb⟩
  have hB := Bgn.new rfl hb
  clear hb hi he hbO
  simp only [I.cells]
  obtain ⟨N, hN⟩ : ∃ N, w.heap.size = N := ⟨_, rfl⟩
  have hT : Two w w4 N := by subst hN; exact ⟨hB.r1, hB.e, hB.b, hB.b.size⟩
  have hr : Rb w4 N R pc := by subst hN; exact hB.r
  rw [hN]
  clear hB
  have b5 := bel1 w4 (.cells #[.int .i64 (no : Int), .int .i64 (na : Int), .int .i64 (nb : Int), .int .i64 z] 58)
  have hq := heap_alloc_last w4 (.cells #[.int .i64 (no : Int), .int .i64 (na : Int), .int .i64 (nb : Int), .int .i64 z] 58)
  have HT := hide (hT.below b5)
  have HR := hide (hr.below b5)
  obtain ⟨M, hM⟩ : ∃ M, w4.heap.size = M := ⟨_, rfl⟩
  have hNM : N < M := by rw [← hM]; exact hr.lt
  have hMN : M ≠ N + 1 ∧ M ≠ N + 1 + 1 := by
    have h1 := hT.a.lt
    have h2 := (Array.getElem?_eq_some_iff.1 hT.e).1
    omega
  clear hT hr b5
  go_wp2
  generalize w4.alloc (.cells #[.int .i64 (no : Int), .int .i64 (na : Int), .int .i64 (nb : Int), .int .i64 z] 58) = w5 at *
  rw [hM] at hq
  have i0 : w5.cell? ⟨M, 0, none⟩ = some (.int .i64 (no : Int)) := by rw [cell_of_row _ _ _ _ _ _ hq]; rfl
  have i1 : w5.cell? ⟨M, 1, none⟩ = some (.int .i64 (na : Int)) := by rw [cell_of_row _ _ _ _ _ _ hq]; rfl
  have i2 : w5.cell? ⟨M, 2, none⟩ = some (.int .i64 (nb : Int)) := by rw [cell_of_row _ _ _ _ _ _ hq]; rfl
  have i3 : w5.cell? ⟨M, 3, none⟩ = some (.int .i64 z) := by rw [cell_of_row _ _ _ _ _ _ hq]; rfl
  have ra := HR.out.r hna
  have rb := HR.out.r hnb
  have HQ := hide hq
  clear hq hM
  go_quiet (fail)
  have hop : (no : Int) = 9 := by have := H8.out; omega
  have hy0 : (R nb : Int) = 0 := by have := HY0.out; omega
  go_upto_region 13 with fail
  have HT6 := hide (HT.out.same (w' := (w5.drewN nq).drew) rfl rfl rfl rfl)
  have HF := hide fun W (h : Two w W N) => h.fin (rg R pc) (e5 4 0 0 0 73) (rg_len _ _) (e5_len _ _ _ _ _)
  have hS6 : Sx N (rg R pc) (w5.drewN nq).drew := HT6.out.sx ⟨HR.out.out⟩
  refine wp_region_held_drew (S := Sx N (rg R pc)) (by kernel_rfl) hS6 (fun hHeld => ?_)
  refine held_load 0 (o := ⟨some 59, _, _, _, _, _⟩) (by kernel_rfl) (by kernel_rfl) (by kernel_rfl) rfl (by rfl) rfl (rg R pc) rfl (fun W h => h.1) Tryd.underlying32 rfl (by rw [rg_len]; exact info_regs) (fun _ _ _ h => h) hHeld ?_
  simp only [Act.put, List.setIfInBounds_toArray, List.set_cons_zero, List.set_cons_succ]
  refine held_call 1 (o := ⟨some 60, _, _, _, _, _⟩) (by kernel_rfl) rfl (by rfl) (fun K hK => ?_)
  go_simp
  go_wp2_with (go_at_call 27; refine (trap_any _ _).mono ?_; rintro e w6 ⟨rfl, hb⟩)
  have HT7 := hide (HT6.out.below hb)
  have hS7 : Sx N (rg R pc) w6 := HT7.out.sx (Rb.below (w := (w5.drewN nq).drew) ⟨HR.out.out⟩ hb)
  clear hb hHeld hS6 HT6
  refine hK _ _ hS7 ?_
  clear hK K
  refine held_store 2 (o := ⟨none, _, _, _, _, _⟩) (cells := (rg R pc)) (by kernel_rfl) rfl (by rfl) rfl rfl rfl rfl (hS7.t1 (rg_len _ _)) (info_rgl _ _) (rg_ones _ _) (hS7.set1 _) ?_
  refine held_store 3 (o := ⟨none, _, _, _, _, _⟩) (cells := (e5 4 0 0 0 73)) (by kernel_rfl) rfl (by rfl) rfl rfl rfl rfl ((hS7.set1 _).t2 (e5_len _ _ _ _ _)) (info_e5 _ _ _ _ _) (e5_ones _ _ _ _ _) ((hS7.set1 _).set2 _) ?_
  refine wpAnyH_done (by kernel_rfl) ?_ _
  have HT6 := HT7
  clear hS7 HT7
  have hF := (HF.out _ HT6.out).1
  clear HF HT HR HT6
  generalize (w6.setCells (N + 1) 0 (rg R pc)).setCells (N + 1 + 1) 0 (e5 4 0 0 0 73) = w7 at *
  have HF := hide hF
  clear hF
  go_wp2
  refine bodyPost_ret (results_rows2 rfl _ _ (N + 1) (N + 1 + 1) 32 34 _ _ _ _ rfl HF.out.a Tryd.underlying32 rfl (info_rg _ _) rfl HF.out.e Tryd.underlying34 rfl (info_e5a _ _ _ _ _)) rfl ?_
  subst hN
  exact ⟨rfl, HF.out.b⟩
end
end Go.Proofs.YtncbbllmhohnkaaDoor
