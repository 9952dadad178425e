import Derived.Test.YtoaplkfmchphbaaDoorE17
namespace Go.Proofs.YtoaplkfmchphbaaDoor
open Go.RowKit
def nx (pc : Nat) : Nat := (pc + 1) % 4294967296
theorem nx_lt (pc : Nat) : nx pc < 4294967296 := Nat.mod_lt _ (by decide)
theorem nx_cast (pc : Nat) : ((nx pc : Nat) : Int) = ((pc : Int) + 1) % 4294967296 := by unfold nx; omega
theorem rb_nx {w : World} {N : Nat} {R : Nat → Nat} {pc : Nat} (h : Rb w N R pc) : Rb (w.setCell ⟨N, 8, none⟩ (.int .u32 (((pc : Int) + 1) % 4294967296))) N R (nx pc) := by
  have := h.setpc (nx pc); rwa [nx_cast] at this
section
variable (w : World) (R : Nat → Nat) (pc n no na nb : Nat) (z : Int)
set_option maxRecDepth 100000 in
set_option maxHeartbeats 2000000 in
theorem exec_sys (hn : n < 4294967296) (hp : parts n = ⟨(no : Int), na, nb, z⟩) (hx : isI ⟨(no : Int), na, nb, z⟩ = true) (hO : Ops w) (h26 : no = 26) : Calls Tryd.prog 11 #[.agg (rg R pc).toArray, .int .u32 (n : Nat)] w fun e w' => e = .returned (.tuple #[.agg (rg R (nx pc)).toArray, .agg (e5 3 0 0 (z % 4294967296) 0).toArray]) ∧ Below w.heap.size w w' := by
  have H26 := hide h26
  clear h26
  have hi : decI n = ⟨(no : Int), na, nb, z⟩ := (decI_yes hp hx).1
  have he : decE n = 0 := (decI_yes hp hx).2
  have hbO : ∀ w4, Below w.heap.size w w4 → Ops w4 := fun w4 h => hO.below h
  have hI := isn.1 hx
  have ha : (na : Int) < 8 := (fitsB_range hI.a).2
  have hb8 : (nb : Int) < 8 := (fitsB_range hI.b).2
  have hz1 := hI.imm.1
  have hz2 := hI.imm.2
  have HI := hide hI
  clear hO hx hI hp
  have hz0 : (0 : Int) ≤ (na : Int) := by omega
  have hz00 : (0 : Int) ≤ (nb : Int) := by omega
  have hna : na < 8 := by omega
  have hnb : nb < 8 := by omega
  simp only at hz1 hz2
  go_enter Tryd.func11, Tryd.ntmps11
  go_wp2_with fail
  refine (dec_any _ n hn ?_).mono ?_
  · exact hbO _ (((bel2 w _ _).trans ((bel1 _ _).mono (by simp; omega))))
  rw [hi, he]
  rintro e w4 ⟨rfl, hb⟩
  have hB := Bgn.new rfl hb
  clear hb hi he hbO
  simp only [I.cells]
  obtain ⟨N, hN⟩ : ∃ N, w.heap.size = N := ⟨_, rfl⟩
  have hT : Two w w4 N := by subst hN; exact ⟨hB.r1, hB.e, hB.b, hB.b.size⟩
  have hr : Rb w4 N R pc := by subst hN; exact hB.r
  rw [hN]
  clear hB
  have b5 := bel1 w4 (.cells #[.int .i64 (no : Int), .int .i64 (na : Int), .int .i64 (nb : Int), .int .i64 z] 58)
  have hq := heap_alloc_last w4 (.cells #[.int .i64 (no : Int), .int .i64 (na : Int), .int .i64 (nb : Int), .int .i64 z] 58)
  have HT := hide (hT.below b5)
  have HR := hide (hr.below b5)
  obtain ⟨M, hM⟩ : ∃ M, w4.heap.size = M := ⟨_, rfl⟩
  have hNM : N < M := by rw [← hM]; exact hr.lt
  have hMN : M ≠ N + 1 ∧ M ≠ N + 1 + 1 := by
    have h1 := hT.a.lt
    have h2 := (Array.getElem?_eq_some_iff.1 hT.e).1
    omega
  clear hT hr b5
  go_wp2
  generalize w4.alloc (.cells #[.int .i64 (no : Int), .int .i64 (na : Int), .int .i64 (nb : Int), .int .i64 z] 58) = w5 at *
  rw [hM] at hq
  have i0 : w5.cell? ⟨M, 0, none⟩ = some (.int .i64 (no : Int)) := by rw [cell_of_row _ _ _ _ _ _ hq]; rfl
  have i1 : w5.cell? ⟨M, 1, none⟩ = some (.int .i64 (na : Int)) := by rw [cell_of_row _ _ _ _ _ _ hq]; rfl
  have i2 : w5.cell? ⟨M, 2, none⟩ = some (.int .i64 (nb : Int)) := by rw [cell_of_row _ _ _ _ _ _ hq]; rfl
  have i3 : w5.cell? ⟨M, 3, none⟩ = some (.int .i64 z) := by rw [cell_of_row _ _ _ _ _ _ hq]; rfl
  have ra := HR.out.r hna
  have rb := HR.out.r hnb
  have HQ := hide hq
  clear hq hM
  go_quiet (fail)
  have HT6 := hide (HT.out.same (w' := w5.drewN nq) rfl rfl rfl rfl)
  have HR6 : Hid (Rb (w5.drewN nq) N R pc) := hide ⟨HR.out.out⟩
  have i0' : (w5.drewN nq).cell? ⟨M, 0, none⟩ = some (.int .i64 (no : Int)) := by simpa using i0
  have i1' : (w5.drewN nq).cell? ⟨M, 1, none⟩ = some (.int .i64 (na : Int)) := by simpa using i1
  have p8 := HR6.out.p
  have z8 := HR6.out.frz
  clear HT HR i0 i1 i2 i3 ra rb HQ
  generalize w5.drewN nq = w6 at *
  have h26 : (no : Int) = 26 := by have := H26.out; omega
  go_upto_region 16 with fail
  have HT7 := hide (HT6.out.setCell 8 (.int .u32 (((pc : Int) + 1) % 4294967296)))
  have HR7 := hide (rb_nx HR6.out)
  clear HT6 HR6 p8 z8
  generalize w6.setCell ⟨N, 8, none⟩ (.int .u32 (((pc : Int) + 1) % 4294967296)) = w7 at *
  obtain ⟨f0, f1, f2, f3, f4, f5⟩ := effcells HT7.out (rg R (nx pc))
  have HF := hide (HT7.out.rows (rg R (nx pc)) ([.int .i64 3, .int .u32 0, .int .i64 0, .int .u32 (z % 4294967296), .int .i64 0] : List Value) rfl)
  go_wp2_with (first
    | refine wpList_load_row rfl 32 _ rfl N rfl 32 (rg R (nx pc)).toArray (0, 0) _ HR7.out.out Tryd.underlying32 rfl (info_rg _ _) ?_
    | refine wpList_store_row rfl 32 _ _ rfl (N + 1) (rg R (nx pc)).toArray rfl rfl 32 _ HT7.out.a.out (info_rg _ _) (by rw [rg_size, rg_size]) (rg_one _ _) ?_)
  refine bodyPost_ret (results_rows2 rfl _ _ (N + 1) (N + 1 + 1) 32 34 _ _ _ _ rfl HF.out.a Tryd.underlying32 rfl (info_rg _ _) rfl HF.out.e Tryd.underlying34 rfl info_eff) rfl ?_
  subst hN
  exact ⟨rfl, HF.out.b⟩
set_option maxRecDepth 100000 in
set_option maxHeartbeats 2000000 in
theorem exec_div8 (hn : n < 4294967296) (hp : parts n = ⟨(no : Int), na, nb, z⟩) (hx : isI ⟨(no : Int), na, nb, z⟩ = true) (hO : Ops w) (h8 : no = 8) (hy0 : R nb = 0) : Calls Tryd.prog 11 #[.agg (rg R pc).toArray, .int .u32 (n : Nat)] w fun e w' => e = .returned (.tuple #[.agg (rg R pc).toArray, .agg (e5 4 0 0 0 73).toArray]) ∧ Below w.heap.size w w' := by
  have H8 := hide h8
  have HY0 := hide hy0
  clear h8 hy0
  have hi : decI n = ⟨(no : Int), na, nb, z⟩ := (decI_yes hp hx).1
  have he : decE n = 0 := (decI_yes hp hx).2
  have hbO : ∀ w4, Below w.heap.size w w4 → Ops w4 := fun w4 h => hO.below h
  have hI := isn.1 hx
  have ha : (na : Int) < 8 := (fitsB_range hI.a).2
  have hb8 : (nb : Int) < 8 := (fitsB_range hI.b).2
  have hz1 := hI.imm.1
  have hz2 := hI.imm.2
  have HI := hide hI
  clear hO hx hI hp
  have hz0 : (0 : Int) ≤ (na : Int) := by omega
  have hz00 : (0 : Int) ≤ (nb : Int) := by omega
  have hna : na < 8 := by omega
  have hnb : nb < 8 := by omega
  simp only at hz1 hz2
  go_enter Tryd.func11, Tryd.ntmps11
  go_wp2_with fail
  refine (dec_any _ n hn ?_).mono ?_
  · exact hbO _ (((bel2 w _ _).trans ((bel1 _ _).mono (by simp; omega))))
  rw [hi, he]
  rintro e w4 ⟨rfl, hb⟩
  have hB := Bgn.new rfl hb
  clear hb hi he hbO
  simp only [I.cells]
  obtain ⟨N, hN⟩ : ∃ N, w.heap.size = N := ⟨_, rfl⟩
  have hT : Two w w4 N := by subst hN; exact ⟨hB.r1, hB.e, hB.b, hB.b.size⟩
  have hr : Rb w4 N R pc := by subst hN; exact hB.r
  rw [hN]
  clear hB
  have b5 := bel1 w4 (.cells #[.int .i64 (no : Int), .int .i64 (na : Int), .int .i64 (nb : Int), .int .i64 z] 58)
  have hq := heap_alloc_last w4 (.cells #[.int .i64 (no : Int), .int .i64 (na : Int), .int .i64 (nb : Int), .int .i64 z] 58)
  have HT := hide (hT.below b5)
  have HR := hide (hr.below b5)
  obtain ⟨M, hM⟩ : ∃ M, w4.heap.size = M := ⟨_, rfl⟩
  have hNM : N < M := by rw [← hM]; exact hr.lt
  have hMN : M ≠ N + 1 ∧ M ≠ N + 1 + 1 := by
    have h1 := hT.a.lt
    have h2 := (Array.getElem?_eq_some_iff.1 hT.e).1
    omega
  clear hT hr b5
  go_wp2
  generalize w4.alloc (.cells #[.int .i64 (no : Int), .int .i64 (na : Int), .int .i64 (nb : Int), .int .i64 z] 58) = w5 at *
  rw [hM] at hq
  have i0 : w5.cell? ⟨M, 0, none⟩ = some (.int .i64 (no : Int)) := by rw [cell_of_row _ _ _ _ _ _ hq]; rfl
  have i1 : w5.cell? ⟨M, 1, none⟩ = some (.int .i64 (na : Int)) := by rw [cell_of_row _ _ _ _ _ _ hq]; rfl
  have i2 : w5.cell? ⟨M, 2, none⟩ = some (.int .i64 (nb : Int)) := by rw [cell_of_row _ _ _ _ _ _ hq]; rfl
  have i3 : w5.cell? ⟨M, 3, none⟩ = some (.int .i64 z) := by rw [cell_of_row _ _ _ _ _ _ hq]; rfl
  have ra := HR.out.r hna
  have rb := HR.out.r hnb
  have HQ := hide hq
  clear hq hM
  go_quiet (fail)
  have hop : (no : Int) = 8 := by have := H8.out; omega
  have hy0 : (R nb : Int) = 0 := by have := HY0.out; omega
  go_upto_region 13 with fail
  have HT6 := hide (HT.out.same (w' := (w5.drewN nq).drew) rfl rfl rfl rfl)
  have HF := hide fun W (h : Two w W N) => h.fin (rg R pc) (e5 4 0 0 0 73) (rg_len _ _) (e5_len _ _ _ _ _)
  have hS6 : Sx N (rg R pc) (w5.drewN nq).drew := HT6.out.sx ⟨HR.out.out⟩
  refine wp_region_held_drew (S := Sx N (rg R pc)) (by kernel_rfl) hS6 (fun hHeld => ?_)
  refine held_load 0 (o := ⟨some 59, _, _, _, _, _⟩) (by kernel_rfl) (by kernel_rfl) (by kernel_rfl) rfl (by rfl) rfl (rg R pc) rfl (fun W h => h.1) Tryd.underlying32 rfl (by rw [rg_len]; exact info_regs) (fun _ _ _ h => h) hHeld ?_
  simp only [Act.put, List.setIfInBounds_toArray, List.set_cons_zero, List.set_cons_succ]
  refine held_call 1 (o := ⟨some 60, _, _, _, _, _⟩) (by kernel_rfl) rfl (by rfl) (fun K hK => ?_)
  go_simp
  go_wp2_with (go_at_call 27; refine (trap_any _ _).mono ?_; rintro e w6 ⟨rfl, hb⟩)
  have HT7 := hide (HT6.out.below hb)
  have hS7 : Sx N (rg R pc) w6 := HT7.out.sx (Rb.below (w := (w5.drewN nq).drew) ⟨HR.out.out⟩ hb)
  clear hb hHeld hS6 HT6
  refine hK _ _ hS7 ?_
  clear hK K
  refine held_store 2 (o := ⟨none, _, _, _, _, _⟩) (cells := (rg R pc)) (by kernel_rfl) rfl (by rfl) rfl rfl rfl rfl (hS7.t1 (rg_len _ _)) (info_rgl _ _) (rg_ones _ _) (hS7.set1 _) ?_
  refine held_store 3 (o := ⟨none, _, _, _, _, _⟩) (cells := (e5 4 0 0 0 73)) (by kernel_rfl) rfl (by rfl) rfl rfl rfl rfl ((hS7.set1 _).t2 (e5_len _ _ _ _ _)) (info_e5 _ _ _ _ _) (e5_ones _ _ _ _ _) ((hS7.set1 _).set2 _) ?_
  refine wpAnyH_done (by kernel_rfl) ?_ _
  have HT6 := HT7
  clear hS7 HT7
  have hF := (HF.out _ HT6.out).1
  clear HF HT HR HT6
  generalize (w6.setCells (N + 1) 0 (rg R pc)).setCells (N + 1 + 1) 0 (e5 4 0 0 0 73) = w7 at *
  have HF := hide hF
  clear hF
  go_wp2
  refine bodyPost_ret (results_rows2 rfl _ _ (N + 1) (N + 1 + 1) 32 34 _ _ _ _ rfl HF.out.a Tryd.underlying32 rfl (info_rg _ _) rfl HF.out.e Tryd.underlying34 rfl (info_e5a _ _ _ _ _)) rfl ?_
  subst hN
  exact ⟨rfl, HF.out.b⟩
set_option maxRecDepth 100000 in
set_option maxHeartbeats 2000000 in
theorem exec_div9 (hn : n < 4294967296) (hp : parts n = ⟨(no : Int), na, nb, z⟩) (hx : isI ⟨(no : Int), na, nb, z⟩ = true) (hO : Ops w) (h8 : no = 9) (hy0 : R nb = 0) : Calls Tryd.prog 11 #[.agg (rg R pc).toArray, .int .u32 (n : Nat)] w fun e w' => e = .returned (.tuple #[.agg (rg R pc).toArray, .agg (e5 4 0 0 0 73).toArray]) ∧ Below w.heap.size w w' := by
  have H8 := hide h8
  have HY0 := hide hy0
  clear h8 hy0
  have hi : decI n = ⟨(no : Int), na, nb, z⟩ := (decI_yes hp hx).1
  have he : decE n = 0 := (decI_yes hp hx).2
  have hbO : ∀ w4, Below w.heap.size w w4 → Ops w4 := fun w4 h => hO.below h
  have hI := isn.1 hx
  have ha : (na : Int) < 8 := (fitsB_range hI.a).2
  have hb8 : (nb : Int) < 8 := (fitsB_range hI.b).2
  have hz1 := hI.imm.1
  have hz2 := hI.imm.2
  have HI := hide hI
  clear hO hx hI hp
  have hz0 : (0 : Int) ≤ (na : Int) := by omega
  have hz00 : (0 : Int) ≤ (nb : Int) := by omega
  have hna : na < 8 := by omega
  have hnb : nb < 8 := by omega
  simp only at hz1 hz2
  go_enter Tryd.func11, Tryd.ntmps11
  go_wp2_with fail
  refine (dec_any _ n hn ?_).mono ?_
  · exact hbO _ (((bel2 w _ _).trans ((bel1 _ _).mono (by simp; omega))))
  rw [hi, he]
  rintro e w4 ⟨rfl, hb⟩
  have hB := Bgn.new rfl hb
  clear hb hi he hbO
  simp only [I.cells]
  obtain ⟨N, hN⟩ : ∃ N, w.heap.size = N := ⟨_, rfl⟩
  have hT : Two w w4 N := by subst hN; exact ⟨hB.r1, hB.e, hB.b, hB.b.size⟩
  have hr : Rb w4 N R pc := by subst hN; exact hB.r
  rw [hN]
  clear hB
  have b5 := bel1 w4 (.cells #[.int .i64 (no : Int), .int .i64 (na : Int), .int .i64 (nb : Int), .int .i64 z] 58)
  have hq := heap_alloc_last w4 (.cells #[.int .i64 (no : Int), .int .i64 (na : Int), .int .i64 (nb : Int), .int .i64 z] 58)
  have HT := hide (hT.below b5)
  have HR := hide (hr.below b5)
  obtain ⟨M, hM⟩ : ∃ M, w4.heap.size = M := ⟨_, rfl⟩
  have hNM : N < M := by rw [← hM]; exact hr.lt
  have hMN : M ≠ N + 1 ∧ M ≠ N + 1 + 1 := by
    have h1 := hT.a.lt
    have h2 := (Array.getElem?_eq_some_iff.1 hT.e).1
    omega
  clear hT hr b5
  go_wp2
  generalize w4.alloc (.cells #[.int .i64 (no : Int), .int .i64 (na : Int), .int .i64 (nb : Int), .int .i64 z] 58) = w5 at *
  rw [hM] at hq
  have i0 : w5.cell? ⟨M, 0, none⟩ = some (.int .i64 (no : Int)) := by rw [cell_of_row _ _ _ _ _ _ hq]; rfl
  have i1 : w5.cell? ⟨M, 1, none⟩ = some (.int .i64 (na : Int)) := by rw [cell_of_row _ _ _ _ _ _ hq]; rfl
  have i2 : w5.cell? ⟨M, 2, none⟩ = some (.int .i64 (nb : Int)) := by rw [cell_of_row _ _ _ _ _ _ hq]; rfl
  have i3 : w5.cell? ⟨M, 3, none⟩ = some (.int .i64 z) := by rw [cell_of_row _ _ _ _ _ _ hq]; rfl
  have ra := HR.out.r hna
  have rb := HR.out.r hnb
  have HQ := hide hq
  clear hq hM
  go_quiet (fail)
  have hop : (no : Int) = 9 := by have := H8.out; omega
  have hy0 : (R nb : Int) = 0 := by have := HY0.out; omega
  go_upto_region 13 with fail
  have HT6 := hide (HT.out.same (w' := (w5.drewN nq).drew) rfl rfl rfl rfl)
  have HF := hide fun W (h : Two w W N) => h.fin (rg R pc) (e5 4 0 0 0 73) (rg_len _ _) (e5_len _ _ _ _ _)
  have hS6 : Sx N (rg R pc) (w5.drewN nq).drew := HT6.out.sx ⟨HR.out.out⟩
  refine wp_region_held_drew (S := Sx N (rg R pc)) (by kernel_rfl) hS6 (fun hHeld => ?_)
  refine held_load 0 (o := ⟨some 59, _, _, _, _, _⟩) (by kernel_rfl) (by kernel_rfl) (by kernel_rfl) rfl (by rfl) rfl (rg R pc) rfl (fun W h => h.1) Tryd.underlying32 rfl (by rw [rg_len]; exact info_regs) (fun _ _ _ h => h) hHeld ?_
  simp only [Act.put, List.setIfInBounds_toArray, List.set_cons_zero, List.set_cons_succ]
  refine held_call 1 (o := ⟨some 60, _, _, _, _, _⟩) (by kernel_rfl) rfl (by rfl) (fun K hK => ?_)
  go_simp
  go_wp2_with (go_at_call 27; refine (trap_any _ _).mono ?_; rintro e w6 ⟨rfl, hb⟩)
  have HT7 := hide (HT6.out.below hb)
  have hS7 : Sx N (rg R pc) w6 := HT7.out.sx (Rb.below (w := (w5.drewN nq).drew) ⟨HR.out.out⟩ hb)
  clear hb hHeld hS6 HT6
  refine hK _ _ hS7 ?_
  clear hK K
  refine held_store 2 (o := ⟨none, _, _, _, _, _⟩) (cells := (rg R pc)) (by kernel_rfl) rfl (by rfl) rfl rfl rfl rfl (hS7.t1 (rg_len _ _)) (info_rgl _ _) (rg_ones _ _) (hS7.set1 _) ?_
  refine held_store 3 (o := ⟨none, _, _, _, _, _⟩) (cells := (e5 4 0 0 0 73)) (by kernel_rfl) rfl (by rfl) rfl rfl rfl rfl ((hS7.set1 _).t2 (e5_len _ _ _ _ _)) (info_e5 _ _ _ _ _) (e5_ones _ _ _ _ _) ((hS7.set1 _).set2 _) ?_
  refine wpAnyH_done (by kernel_rfl) ?_ _
  have HT6 := HT7
  clear hS7 HT7
  have hF := (HF.out _ HT6.out).1
  clear HF HT HR HT6
  generalize (w6.setCells (N + 1) 0 (rg R pc)).setCells (N + 1 + 1) 0 (e5 4 0 0 0 73) = w7 at *
  have HF := hide hF
  clear hF
  go_wp2
  refine bodyPost_ret (results_rows2 rfl _ _ (N + 1) (N + 1 + 1) 32 34 _ _ _ _ rfl HF.out.a Tryd.underlying32 rfl (info_rg _ _) rfl HF.out.e Tryd.underlying34 rfl (info_e5a _ _ _ _ _)) rfl ?_
  subst hN
  exact ⟨rfl, HF.out.b⟩
end
end Go.Proofs.YtoaplkfmchphbaaDoor

namespace Go.Proofs.YtoaplkfmchphbaaDoor
open Go.RowKit
theorem result_any (w : World) (x y imm : Nat) (hx : x < 4294967296) (hy : y < 4294967296) (hm : imm < 4294967296) (n : Nat) (h1 : 1 ≤ n) (h2 : n < 25) (h19 : n ≠ 19) (h20 : n ≠ 20) (h0 : n = 8 ∨ n = 9 → y ≠ 0) :
    Calls Tryd.prog 29 #[.int .i64 (n : Int), .int .u32 (x : Nat), .int .u32 (y : Nat), .int .u32 (imm : Nat)] w fun e w' => e = .returned (.int .u32 (res n x y imm : Nat)) ∧ w' = w := by
  have h : n = 1 ∨ n = 2 ∨ n = 3 ∨ n = 4 ∨ n = 5 ∨ n = 6 ∨ n = 7 ∨ n = 8 ∨ n = 9 ∨ n = 10 ∨ n = 11 ∨ n = 12 ∨ n = 13 ∨ n = 14 ∨ n = 15 ∨ n = 16 ∨ n = 17 ∨ n = 18 ∨ n = 21 ∨ n = 22 ∨ n = 23 ∨ n = 24 := by omega
  rcases h with rfl | rfl | rfl | rfl | rfl | rfl | rfl | rfl | rfl | rfl | rfl | rfl | rfl | rfl | rfl | rfl | rfl | rfl | rfl | rfl | rfl | rfl
  · exact result_1 w x y imm
  · exact result_2 w x y imm
  · exact result_3 w x y imm hx hy hm
  · exact result_4 w x y imm
  · exact result_5 w x y imm hx hy hm
  · exact result_6 w x y imm hx hy hm
  · exact result_7 w x y imm hx hy hm
  · exact result_8 w x y imm hx hy hm (h0 (by omega))
  · exact result_9 w x y imm hx hy hm (h0 (by omega))
  · exact result_10 w x y imm hx hy hm
  · exact result_11 w x y imm hx hy hm
  · exact result_12 w x y imm hx hy hm
  · exact result_13 w x y imm hx hy hm
  · exact result_14 w x y imm hx hy hm
  · exact result_15 w x y imm hx hy hm
  · exact result_16 w x y imm hx hy hm
  · exact result_17 w x y imm hx hy hm
  · exact result_18 w x y imm hx hy hm
  · exact result_21 w x y imm
  · exact result_22 w x y imm
  · exact result_23 w x y imm
  · exact result_24 w x y imm
def effz : List Value := e5 0 0 0 0 0
section
variable (w : World) (R : Nat → Nat) (pc n no na nb : Nat) (z : Int)
set_option maxRecDepth 100000 in
set_option maxHeartbeats 2000000 in
theorem exec_call (hn : n < 4294967296) (hp : parts n = ⟨(no : Int), na, nb, z⟩) (hx : isI ⟨(no : Int), na, nb, z⟩ = true) (hO : Ops w) (hno2 : no < 27) (hR : RgOk R pc) (h25 : no = 25) : Calls Tryd.prog 11 #[.agg (rg R pc).toArray, .int .u32 (n : Nat)] w fun e w' => e = .returned (.tuple #[.agg (rg (put R na (nx pc)) (tgt no (R na) (im z) (nx pc))).toArray, .agg effz.toArray]) ∧ Below w.heap.size w w' := by
  have H25 := hide h25
  clear h25
  have hi : decI n = ⟨(no : Int), na, nb, z⟩ := (decI_yes hp hx).1
  have he : decE n = 0 := (decI_yes hp hx).2
  have hbO : ∀ w4, Below w.heap.size w w4 → Ops w4 := fun w4 h => hO.below h
  have hI := isn.1 hx
  have ha : (na : Int) < 8 := (fitsB_range hI.a).2
  have hb8 : (nb : Int) < 8 := (fitsB_range hI.b).2
  have hz1 := hI.imm.1
  have hz2 := hI.imm.2
  have HI := hide hI
  clear hO hx hI hp
  have hz0 : (0 : Int) ≤ (na : Int) := by omega
  have hz00 : (0 : Int) ≤ (nb : Int) := by omega
  have hna : na < 8 := by omega
  have hnb : nb < 8 := by omega
  simp only at hz1 hz2
  go_enter Tryd.func11, Tryd.ntmps11
  go_wp2_with fail
  refine (dec_any _ n hn ?_).mono ?_
  · exact hbO _ (((bel2 w _ _).trans ((bel1 _ _).mono (by simp; omega))))
  rw [hi, he]
  rintro e w4 ⟨rfl, hb⟩
  have hB := Bgn.new rfl hb
  clear hb hi he hbO
  simp only [I.cells]
  obtain ⟨N, hN⟩ : ∃ N, w.heap.size = N := ⟨_, rfl⟩
  have hT : Two w w4 N := by subst hN; exact ⟨hB.r1, hB.e, hB.b, hB.b.size⟩
  have hr : Rb w4 N R pc := by subst hN; exact hB.r
  rw [hN]
  clear hB
  have b5 := bel1 w4 (.cells #[.int .i64 (no : Int), .int .i64 (na : Int), .int .i64 (nb : Int), .int .i64 z] 58)
  have hq := heap_alloc_last w4 (.cells #[.int .i64 (no : Int), .int .i64 (na : Int), .int .i64 (nb : Int), .int .i64 z] 58)
  have HT := hide (hT.below b5)
  have HR := hide (hr.below b5)
  obtain ⟨M, hM⟩ : ∃ M, w4.heap.size = M := ⟨_, rfl⟩
  have hNM : N < M := by rw [← hM]; exact hr.lt
  have hMN : M ≠ N + 1 ∧ M ≠ N + 1 + 1 := by
    have h1 := hT.a.lt
    have h2 := (Array.getElem?_eq_some_iff.1 hT.e).1
    omega
  clear hT hr b5
  go_wp2
  generalize w4.alloc (.cells #[.int .i64 (no : Int), .int .i64 (na : Int), .int .i64 (nb : Int), .int .i64 z] 58) = w5 at *
  rw [hM] at hq
  have i0 : w5.cell? ⟨M, 0, none⟩ = some (.int .i64 (no : Int)) := by rw [cell_of_row _ _ _ _ _ _ hq]; rfl
  have i1 : w5.cell? ⟨M, 1, none⟩ = some (.int .i64 (na : Int)) := by rw [cell_of_row _ _ _ _ _ _ hq]; rfl
  have i2 : w5.cell? ⟨M, 2, none⟩ = some (.int .i64 (nb : Int)) := by rw [cell_of_row _ _ _ _ _ _ hq]; rfl
  have i3 : w5.cell? ⟨M, 3, none⟩ = some (.int .i64 z) := by rw [cell_of_row _ _ _ _ _ _ hq]; rfl
  have ra := HR.out.r hna
  have rb := HR.out.r hnb
  have HQ := hide hq
  clear hq hM
  go_quiet (fail)
  have HT6 := hide (HT.out.same (w' := w5.drewN nq) rfl rfl rfl rfl)
  have HR6 : Hid (Rb (w5.drewN nq) N R pc) := hide ⟨HR.out.out⟩
  have i0' : (w5.drewN nq).cell? ⟨M, 0, none⟩ = some (.int .i64 (no : Int)) := by simpa using i0
  have i1' : (w5.drewN nq).cell? ⟨M, 1, none⟩ = some (.int .i64 (na : Int)) := by simpa using i1
  have p8 := HR6.out.p
  have z8 := HR6.out.frz
  clear HT HR i0 i1 i2 i3 ra rb HQ
  generalize w5.drewN nq = w6 at *
  have r1' := HR6.out.r hna
  have hRa := hR.r na hna
  have hRb := hR.r nb hnb
  have ht := target_any w6 (R na) (im z) (nx pc) (im_lt z) (nx_lt pc) no hno2
  rw [im_cast, nx_cast] at ht
  have h25 : (no : Int) = 25 := by have := H25.out; omega
  rw [h25] at ht
  go_upto_region 19 with (go_at_call 28; refine ht.mono ?_; rintro e w6 ⟨rfl, rfl⟩)
  clear ht
  have HT7 := hide (HT6.out.setCell 8 (.int .u32 ((tgt no (R na) (im z) (nx pc)) : Nat)))
  have HR7 := hide (HR6.out.setpc (tgt no (R na) (im z) (nx pc)))
  have j0 : (w6.setCell ⟨N, 8, none⟩ (.int .u32 ((tgt no (R na) (im z) (nx pc)) : Nat))).cell? ⟨M, 0, none⟩ = some (.int .i64 (no : Int)) := by rw [World.cell?_setCell_far _ _ _ _ (by show N ≠ M; omega)]; exact i0'
  have j1 : (w6.setCell ⟨N, 8, none⟩ (.int .u32 ((tgt no (R na) (im z) (nx pc)) : Nat))).cell? ⟨M, 1, none⟩ = some (.int .i64 (na : Int)) := by rw [World.cell?_setCell_far _ _ _ _ (by show N ≠ M; omega)]; exact i1'
  clear HT6 HR6 p8 z8 i0' i1' r1'
  generalize w6.setCell ⟨N, 8, none⟩ (.int .u32 ((tgt no (R na) (im z) (nx pc)) : Nat)) = w7 at *
  have q1 := HR7.out.r hna
  have q2 := HR7.out.frz na
  go_upto_region 22 with fail
  have HT8 := hide (HT7.out.setCell na (.int .u32 (nx pc : Nat)))
  have HR8 := hide (HR7.out.put hna (nx pc))
  clear HT7 HR7 q1 q2 j0 j1
  rw [nx_cast] at HT8 HR8
  generalize w7.setCell ⟨N, na, none⟩ (.int .u32 (((pc : Int) + 1) % 4294967296)) = w8 at *
  obtain ⟨f0, f1, f2, f3, f4, f5⟩ := effcells HT8.out (rg (put R na (nx pc)) (tgt no (R na) (im z) (nx pc)))
  have HF := hide (HT8.out.rows (rg (put R na (nx pc)) (tgt no (R na) (im z) (nx pc))) ([.int .i64 0, .int .u32 0, .int .i64 0, .int .u32 0, .int .i64 0] : List Value) rfl)
  go_wp2_with (first
    | refine wpList_load_row rfl 32 _ rfl N rfl 32 (rg (put R na (nx pc)) (tgt no (R na) (im z) (nx pc))).toArray (0, 0) _ HR8.out.out Tryd.underlying32 rfl (info_rg _ _) ?_
    | refine wpList_store_row rfl 32 _ _ rfl (N + 1) (rg (put R na (nx pc)) (tgt no (R na) (im z) (nx pc))).toArray rfl rfl 32 _ HT8.out.a.out (info_rg _ _) (by rw [rg_size, rg_size]) (rg_one _ _) ?_)
  refine bodyPost_ret (results_rows2 rfl _ _ (N + 1) (N + 1 + 1) 32 34 _ _ _ _ rfl HF.out.a Tryd.underlying32 rfl (info_rg _ _) rfl HF.out.e Tryd.underlying34 rfl info_eff) rfl ?_
  subst hN
  exact ⟨rfl, HF.out.b⟩
end
end Go.Proofs.YtoaplkfmchphbaaDoor

namespace Go.Proofs.YtoaplkfmchphbaaDoor
open Go.RowKit
section
variable (w : World) (R : Nat → Nat) (pc n no na nb : Nat) (z : Int)
set_option maxRecDepth 100000 in
set_option maxHeartbeats 2000000 in
theorem exec_op8 (hn : n < 4294967296) (hp : parts n = ⟨(no : Int), na, nb, z⟩) (hx : isI ⟨(no : Int), na, nb, z⟩ = true) (hO : Ops w) (hno1 : 1 ≤ no) (hno2 : no < 27) (hR : RgOk R pc) (h8 : no = 8) (hy0 : R nb ≠ 0) : Calls Tryd.prog 11 #[.agg (rg R pc).toArray, .int .u32 (n : Nat)] w fun e w' => e = .returned (.tuple #[.agg (rg (put R na (res no (R na) (R nb) (im z))) (tgt no (R na) (im z) (nx pc))).toArray, .agg effz.toArray]) ∧ Below w.heap.size w w' := by
  have H8 := hide h8
  have HY0 := hide hy0
  clear h8 hy0
  have hi : decI n = ⟨(no : Int), na, nb, z⟩ := (decI_yes hp hx).1
  have he : decE n = 0 := (decI_yes hp hx).2
  have hbO : ∀ w4, Below w.heap.size w w4 → Ops w4 := fun w4 h => hO.below h
  have hI := isn.1 hx
  have ha : (na : Int) < 8 := (fitsB_range hI.a).2
  have hb8 : (nb : Int) < 8 := (fitsB_range hI.b).2
  have hz1 := hI.imm.1
  have hz2 := hI.imm.2
  have HI := hide hI
  clear hO hx hI hp
  have hz0 : (0 : Int) ≤ (na : Int) := by omega
  have hz00 : (0 : Int) ≤ (nb : Int) := by omega
  have hna : na < 8 := by omega
  have hnb : nb < 8 := by omega
  simp only at hz1 hz2
  go_enter Tryd.func11, Tryd.ntmps11
  go_wp2_with fail
  refine (dec_any _ n hn ?_).mono ?_
  · exact hbO _ (((bel2 w _ _).trans ((bel1 _ _).mono (by simp; omega))))
  rw [hi, he]
  rintro e w4 ⟨rfl, hb⟩
  have hB := Bgn.new rfl hb
  clear hb hi he hbO
  simp only [I.cells]
  obtain ⟨N, hN⟩ : ∃ N, w.heap.size = N := ⟨_, rfl⟩
  have hT : Two w w4 N := by subst hN; exact ⟨hB.r1, hB.e, hB.b, hB.b.size⟩
  have hr : Rb w4 N R pc := by subst hN; exact hB.r
  rw [hN]
  clear hB
  have b5 := bel1 w4 (.cells #[.int .i64 (no : Int), .int .i64 (na : Int), .int .i64 (nb : Int), .int .i64 z] 58)
  have hq := heap_alloc_last w4 (.cells #[.int .i64 (no : Int), .int .i64 (na : Int), .int .i64 (nb : Int), .int .i64 z] 58)
  have HT := hide (hT.below b5)
  have HR := hide (hr.below b5)
  obtain ⟨M, hM⟩ : ∃ M, w4.heap.size = M := ⟨_, rfl⟩
  have hNM : N < M := by rw [← hM]; exact hr.lt
  have hMN : M ≠ N + 1 ∧ M ≠ N + 1 + 1 := by
    have h1 := hT.a.lt
    have h2 := (Array.getElem?_eq_some_iff.1 hT.e).1
    omega
  clear hT hr b5
  go_wp2
  generalize w4.alloc (.cells #[.int .i64 (no : Int), .int .i64 (na : Int), .int .i64 (nb : Int), .int .i64 z] 58) = w5 at *
  rw [hM] at hq
  have i0 : w5.cell? ⟨M, 0, none⟩ = some (.int .i64 (no : Int)) := by rw [cell_of_row _ _ _ _ _ _ hq]; rfl
  have i1 : w5.cell? ⟨M, 1, none⟩ = some (.int .i64 (na : Int)) := by rw [cell_of_row _ _ _ _ _ _ hq]; rfl
  have i2 : w5.cell? ⟨M, 2, none⟩ = some (.int .i64 (nb : Int)) := by rw [cell_of_row _ _ _ _ _ _ hq]; rfl
  have i3 : w5.cell? ⟨M, 3, none⟩ = some (.int .i64 z) := by rw [cell_of_row _ _ _ _ _ _ hq]; rfl
  have ra := HR.out.r hna
  have rb := HR.out.r hnb
  have HQ := hide hq
  clear hq hM
  go_quiet (fail)
  have HT6 := hide (HT.out.same (w' := w5.drewN nq) rfl rfl rfl rfl)
  have HR6 : Hid (Rb (w5.drewN nq) N R pc) := hide ⟨HR.out.out⟩
  have i0' : (w5.drewN nq).cell? ⟨M, 0, none⟩ = some (.int .i64 (no : Int)) := by simpa using i0
  have i1' : (w5.drewN nq).cell? ⟨M, 1, none⟩ = some (.int .i64 (na : Int)) := by simpa using i1
  have p8 := HR6.out.p
  have z8 := HR6.out.frz
  clear HT HR i0 i1 i2 i3 ra rb HQ
  generalize w5.drewN nq = w6 at *
  have r1' := HR6.out.r hna
  have hRa := hR.r na hna
  have hRb := hR.r nb hnb
  have ht := target_any w6 (R na) (im z) (nx pc) (im_lt z) (nx_lt pc) no hno2
  rw [im_cast, nx_cast] at ht
  have hres := fun w' => result_any w' (R na) (R nb) (im z) hRa hRb (im_lt z) no hno1 (by have := H8.out; omega) (by have := H8.out; omega) (by have := H8.out; omega) (fun _ => HY0.out)
  simp only [im_cast] at hres
  have hop : (no : Int) = 8 := by have := H8.out; omega
  rw [hop] at ht
  simp only [hop] at hres
  have hy0 : ¬ (R nb : Int) = 0 := by have := HY0.out; omega
  go_upto_region 19 with (go_at_call 28; refine ht.mono ?_; rintro e w6 ⟨rfl, rfl⟩)
  clear ht
  have HT7 := hide (HT6.out.setCell 8 (.int .u32 ((tgt no (R na) (im z) (nx pc)) : Nat)))
  have HR7 := hide (HR6.out.setpc (tgt no (R na) (im z) (nx pc)))
  have j0 : (w6.setCell ⟨N, 8, none⟩ (.int .u32 ((tgt no (R na) (im z) (nx pc)) : Nat))).cell? ⟨M, 0, none⟩ = some (.int .i64 (no : Int)) := by rw [World.cell?_setCell_far _ _ _ _ (by show N ≠ M; omega)]; exact i0'
  have j1 : (w6.setCell ⟨N, 8, none⟩ (.int .u32 ((tgt no (R na) (im z) (nx pc)) : Nat))).cell? ⟨M, 1, none⟩ = some (.int .i64 (na : Int)) := by rw [World.cell?_setCell_far _ _ _ _ (by show N ≠ M; omega)]; exact i1'
  clear HT6 HR6 p8 z8 i0' i1' r1'
  generalize w6.setCell ⟨N, 8, none⟩ (.int .u32 ((tgt no (R na) (im z) (nx pc)) : Nat)) = w7 at *
  have q1 := HR7.out.r hna
  have q2 := HR7.out.frz na
  go_upto_region 21 with fail
  have k0 : (w7.setCell ⟨N, na, none⟩ (.int .u32 ((res no (R na) (R nb) (im z)) : Nat))).drew.cell? ⟨M, 0, none⟩ = some (.int .i64 (no : Int)) := by show (w7.setCell ⟨N, na, none⟩ (.int .u32 ((res no (R na) (R nb) (im z)) : Nat))).cell? ⟨M, 0, none⟩ = _; rw [World.cell?_setCell_far _ _ _ _ (by show N ≠ M; omega)]; exact j0
  have k1 : (w7.setCell ⟨N, na, none⟩ (.int .u32 ((res no (R na) (R nb) (im z)) : Nat))).drew.cell? ⟨M, 1, none⟩ = some (.int .i64 (na : Int)) := by show (w7.setCell ⟨N, na, none⟩ (.int .u32 ((res no (R na) (R nb) (im z)) : Nat))).cell? ⟨M, 1, none⟩ = _; rw [World.cell?_setCell_far _ _ _ _ (by show N ≠ M; omega)]; exact j1
  rw [hop] at j0 k0
  go_region_held (fun W => W.cell? ⟨M, 0, none⟩ = some (.int .i64 8) ∧ W.cell? ⟨M, 1, none⟩ = some (.int .i64 (na : Int)))
    (first | exact ⟨j0, j1⟩ | exact ⟨k0, k1⟩)
    (first | (go_at_call 29; refine (hres _).mono ?_; rintro e w' ⟨rfl, rfl⟩))
  rename_i hHeld
  have HT8 : Hid (Two w (w7.setCell ⟨N, na, none⟩ (.int .u32 ((res no (R na) (R nb) (im z)) : Nat))).drew N) := hide (HT7.out.setCell na (.int .u32 ((res no (R na) (R nb) (im z)) : Nat))).drew
  have HR8 : Hid (Rb (w7.setCell ⟨N, na, none⟩ (.int .u32 ((res no (R na) (R nb) (im z)) : Nat))).drew N (put R na (res no (R na) (R nb) (im z))) (tgt no (R na) (im z) (nx pc))) := hide ⟨(HR7.out.put hna (res no (R na) (R nb) (im z))).out⟩
  clear hHeld HT7 HR7 q1 q2 j0 j1 k0 k1 hres
  generalize (w7.setCell ⟨N, na, none⟩ (.int .u32 ((res no (R na) (R nb) (im z)) : Nat))).drew = w8 at *
  obtain ⟨f0, f1, f2, f3, f4, f5⟩ := effcells HT8.out (rg (put R na (res no (R na) (R nb) (im z))) (tgt no (R na) (im z) (nx pc)))
  have HF := hide (HT8.out.rows (rg (put R na (res no (R na) (R nb) (im z))) (tgt no (R na) (im z) (nx pc))) ([.int .i64 0, .int .u32 0, .int .i64 0, .int .u32 0, .int .i64 0] : List Value) rfl)
  go_wp2_with (first
    | refine wpList_load_row rfl 32 _ rfl N rfl 32 (rg (put R na (res no (R na) (R nb) (im z))) (tgt no (R na) (im z) (nx pc))).toArray (0, 0) _ HR8.out.out Tryd.underlying32 rfl (info_rg _ _) ?_
    | refine wpList_store_row rfl 32 _ _ rfl (N + 1) (rg (put R na (res no (R na) (R nb) (im z))) (tgt no (R na) (im z) (nx pc))).toArray rfl rfl 32 _ HT8.out.a.out (info_rg _ _) (by rw [rg_size, rg_size]) (rg_one _ _) ?_)
  refine bodyPost_ret (results_rows2 rfl _ _ (N + 1) (N + 1 + 1) 32 34 _ _ _ _ rfl HF.out.a Tryd.underlying32 rfl (info_rg _ _) rfl HF.out.e Tryd.underlying34 rfl info_eff) rfl ?_
  subst hN
  exact ⟨rfl, HF.out.b⟩
end
end Go.Proofs.YtoaplkfmchphbaaDoor
