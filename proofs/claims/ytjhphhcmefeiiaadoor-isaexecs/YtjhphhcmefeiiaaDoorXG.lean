import Derived.Test.YtjhphhcmefeiiaaDoorXD
namespace Go.Proofs.YtjhphhcmefeiiaaDoor
open Go.RowKit
set_option linter.unusedVariables false
section
variable (w : World) (R : Nat → Nat) (pc n no na nb : Nat) (z : Int)
set_option maxRecDepth 100000 in
set_option maxHeartbeats 3200000 in
theorem rexec_ld (hn : n < 4294967296) (hp : parts n = ⟨(no : Int), na, nb, z⟩) (hx : isI ⟨(no : Int), na, nb, z⟩ = true) (hR : RgOk R pc) (hc : no = 19) : Calls Tryd.prog 5 #[.agg (rg R pc).toArray, .int .u32 (n : Nat)] w fun e w' => e = .returned (.tuple #[.agg (rg R pc).toArray, .agg (e5 1 (((R nb : Nat) + z) % 4294967296) na 0 0).toArray]) ∧ Below w.heap.size w w' := by
  have HC := hide hc
  clear hc
  have hi : decI n = ⟨(no : Int), na, nb, z⟩ := (decI_yes hp hx).1
  have he : decE n = 0 := (decI_yes hp hx).2
  have hI := isn.1 hx
  have ha : (na : Int) < 8 := (fitsB_range hI.a).2
  have hb8 : (nb : Int) < 8 := (fitsB_range hI.b).2
  have hzz := parts_imm n
  rw [hp] at hzz
  simp only at hzz
  clear hx hI hp
  have hz0 : (0 : Int) ≤ (na : Int) := by omega
  have hz00 : (0 : Int) ≤ (nb : Int) := by omega
  have hna : na < 8 := by omega
  have hnb : nb < 8 := by omega
  have hx32 := hR.r na hna
  have hy32 := hR.r nb hnb
  have hp32 := hR.p
  go_enter Tryd.func5, Tryd.ntmps5
  go_wp2_with fail
  refine (rdec_any _ n hn).mono ?_
  rw [hi, he]
  rintro e w4 ⟨rfl, hb⟩
  have hB := Bgn.new rfl hb
  clear hb hi he
  simp only [I.cells]
  obtain ⟨N, hN⟩ : ∃ N, w.heap.size = N := ⟨_, rfl⟩
  have hT : Two w w4 N := by subst hN; exact ⟨hB.r1, hB.e, hB.b, hB.b.size⟩
  have hr : Rb w4 N R pc := by subst hN; exact hB.r
  rw [hN]
  clear hB
  have b5 := bel1 w4 (.cells #[.int .i64 (no : Int), .int .i64 (na : Int), .int .i64 (nb : Int), .int .i64 z] 33)
  have hq := heap_alloc_last w4 (.cells #[.int .i64 (no : Int), .int .i64 (na : Int), .int .i64 (nb : Int), .int .i64 z] 33)
  have HT := hide (hT.below b5)
  have HR := hide (hr.below b5)
  obtain ⟨M, hM⟩ : ∃ M, w4.heap.size = M := ⟨_, rfl⟩
  have hNM : N < M := by rw [← hM]; exact hr.lt
  have hMN : M ≠ N + 1 ∧ M ≠ N + 1 + 1 := by
    have h1 := hT.a.lt
    have h2 := (Array.getElem?_eq_some_iff.1 hT.e).1
    omega
  clear hT hr b5
  go_upto_region 2 with fail
  generalize w4.alloc (.cells #[.int .i64 (no : Int), .int .i64 (na : Int), .int .i64 (nb : Int), .int .i64 z] 33) = w5 at *
  rw [hM] at hq
  have i0 : w5.cell? ⟨M, 0, none⟩ = some (.int .i64 (no : Int)) := by rw [cell_of_row _ _ _ _ _ _ hq]; rfl
  have i1 : w5.cell? ⟨M, 1, none⟩ = some (.int .i64 (na : Int)) := by rw [cell_of_row _ _ _ _ _ _ hq]; rfl
  have i2 : w5.cell? ⟨M, 2, none⟩ = some (.int .i64 (nb : Int)) := by rw [cell_of_row _ _ _ _ _ _ hq]; rfl
  have i3 : w5.cell? ⟨M, 3, none⟩ = some (.int .i64 z) := by rw [cell_of_row _ _ _ _ _ _ hq]; rfl
  have ra := HR.out.r hna
  have rb := HR.out.r hnb
  have HQ := hide hq
  clear hq hM
  have hyz : wrap64 ((R nb : Int) + z) = (R nb : Int) + z := by unfold wrap64; omega
  have hno : (no : Int) = 19 := by have := HC.out; omega
  go_upto_region 20 with (go_at_call 11; refine (word_any _ _).mono ?_; rintro e9 w9 ⟨rfl, hw9⟩; rw [hw9]; clear hw9 w9)
  have HT6 := hide (HT.out.same (w' := w5.drew) rfl rfl rfl rfl)
  have HF := hide fun W (h : Two w W N) => h.fin (rg (R) (pc)) (e5 1 (((R nb : Nat) + z) % 4294967296) na 0 0) (rg_len _ _) (e5_len _ _ _ _ _)
  have hS6 : Sq N M 1 (.int .i64 (na : Int)) (rg (R) (pc)) w5.drew := ⟨HT6.out.sx ⟨HR.out.out⟩, by simpa using i1⟩
  refine wp_region_held_drew (S := Sq N M 1 (.int .i64 (na : Int)) (rg (R) (pc))) (by kernel_rfl) hS6 (fun hHeld => ?_)
  clear HT HR i0 i1 i2 i3 ra rb HQ
  refine held_load 0 (o := ⟨some 90, _, _, _, _, _⟩) (by kernel_rfl) (by kernel_rfl) (by kernel_rfl) rfl (by rfl) rfl (rg (R) (pc)) rfl (fun W h => h.1.1) Tryd.underlying25 rfl (by rw [rg_len]; exact info_regs) (fun _ _ _ h => h) hHeld ?_
  try simp only [Act.put, List.setIfInBounds_toArray, List.set_cons_zero, List.set_cons_succ]
  refine hd_take 1 (o := ⟨some 91, _, _, _, _, _⟩) (.int .u32 (((R nb : Nat) + z) % 4294967296)) (by kernel_rfl) (by kernel_rfl) (by kernel_rfl) rfl (by rfl) (fun W hSw => by first | (go_simp; done) | (go_simp; rfl) | rfl) (fun _ _ _ h => h) hHeld ?_
  try simp only [Act.put, List.setIfInBounds_toArray, List.set_cons_zero, List.set_cons_succ]
  refine hd_take 2 (o := ⟨some 92, _, _, _, _, _⟩) (.pointer (some ⟨M, 1, none⟩)) (by kernel_rfl) (by kernel_rfl) (by kernel_rfl) rfl (by rfl) (fun W hSw => by first | (go_simp; done) | (go_simp; rfl) | rfl) (fun _ _ _ h => h) hHeld ?_
  try simp only [Act.put, List.setIfInBounds_toArray, List.set_cons_zero, List.set_cons_succ]
  refine hd_take 3 (o := ⟨some 93, _, _, _, _, _⟩) (.int .i64 (na : Int)) (by kernel_rfl) (by kernel_rfl) (by kernel_rfl) rfl (by rfl) (fun W hSw => by have hc := hSw.2; go_simp; try with_reducible rfl) (fun _ _ _ h => h) hHeld ?_
  try simp only [Act.put, List.setIfInBounds_toArray, List.set_cons_zero, List.set_cons_succ]
  refine hd_take 4 (o := ⟨some 94, _, _, _, _, _⟩) (.agg (e5 1 (((R nb : Nat) + z) % 4294967296) na 0 0).toArray) (by kernel_rfl) (by kernel_rfl) (by kernel_rfl) rfl (by rfl) (fun W hSw => by first | (go_simp; done) | (go_simp; rfl) | rfl) (fun _ _ _ h => h) hHeld ?_
  try simp only [Act.put, List.setIfInBounds_toArray, List.set_cons_zero, List.set_cons_succ]
  refine held_store 5 (o := ⟨none, _, _, _, _, _⟩) (cells := (rg (R) (pc))) (by kernel_rfl) rfl (by rfl) rfl rfl rfl rfl (hHeld.1.t1 (rg_len _ _)) (info_rgl _ _) (rg_ones _ _) (hHeld.keep hMN _).1 ?_
  refine held_store 6 (o := ⟨none, _, _, _, _, _⟩) (cells := (e5 1 (((R nb : Nat) + z) % 4294967296) na 0 0)) (by kernel_rfl) rfl (by rfl) rfl rfl rfl rfl ((hHeld.keep hMN _).1.1.t2 (e5_len _ _ _ _ _)) (info_e5 _ _ _ _ _) (e5_ones _ _ _ _ _) ((hHeld.keep hMN _).1.keep hMN _).2 ?_
  refine wpAnyH_done (by kernel_rfl) ?_ _
  clear hHeld hS6
  have hF := (HF.out _ HT6.out).1
  clear HF HT6
  generalize (w5.drew.setCells (N + 1) 0 (rg (R) (pc))).setCells (N + 1 + 1) 0 (e5 1 (((R nb : Nat) + z) % 4294967296) na 0 0) = w7 at *
  have HF := hide hF
  clear hF
  go_wp2
  refine bodyPost_ret (results_rows2 rfl _ _ (N + 1) (N + 1 + 1) 25 28 _ _ _ _ rfl HF.out.a Tryd.underlying25 rfl (info_rg _ _) rfl HF.out.e Tryd.underlying28 rfl (info_e5a _ _ _ _ _)) rfl ?_
  subst hN
  exact ⟨rfl, HF.out.b⟩
set_option maxRecDepth 100000 in
set_option maxHeartbeats 3200000 in
theorem rexec_st (hn : n < 4294967296) (hp : parts n = ⟨(no : Int), na, nb, z⟩) (hx : isI ⟨(no : Int), na, nb, z⟩ = true) (hR : RgOk R pc) (hc : no = 20) : Calls Tryd.prog 5 #[.agg (rg R pc).toArray, .int .u32 (n : Nat)] w fun e w' => e = .returned (.tuple #[.agg (rg R pc).toArray, .agg (e5 2 (((R nb : Nat) + z) % 4294967296) 0 (R na : Nat) 0).toArray]) ∧ Below w.heap.size w w' := by
  have HC := hide hc
  clear hc
  have hi : decI n = ⟨(no : Int), na, nb, z⟩ := (decI_yes hp hx).1
  have he : decE n = 0 := (decI_yes hp hx).2
  have hI := isn.1 hx
  have ha : (na : Int) < 8 := (fitsB_range hI.a).2
  have hb8 : (nb : Int) < 8 := (fitsB_range hI.b).2
  have hzz := parts_imm n
  rw [hp] at hzz
  simp only at hzz
  clear hx hI hp
  have hz0 : (0 : Int) ≤ (na : Int) := by omega
  have hz00 : (0 : Int) ≤ (nb : Int) := by omega
  have hna : na < 8 := by omega
  have hnb : nb < 8 := by omega
  have hx32 := hR.r na hna
  have hy32 := hR.r nb hnb
  have hp32 := hR.p
  go_enter Tryd.func5, Tryd.ntmps5
  go_wp2_with fail
  refine (rdec_any _ n hn).mono ?_
  rw [hi, he]
  rintro e w4 ⟨rfl, hb⟩
  have hB := Bgn.new rfl hb
  clear hb hi he
  simp only [I.cells]
  obtain ⟨N, hN⟩ : ∃ N, w.heap.size = N := ⟨_, rfl⟩
  have hT : Two w w4 N := by subst hN; exact ⟨hB.r1, hB.e, hB.b, hB.b.size⟩
  have hr : Rb w4 N R pc := by subst hN; exact hB.r
  rw [hN]
  clear hB
  have b5 := bel1 w4 (.cells #[.int .i64 (no : Int), .int .i64 (na : Int), .int .i64 (nb : Int), .int .i64 z] 33)
  have hq := heap_alloc_last w4 (.cells #[.int .i64 (no : Int), .int .i64 (na : Int), .int .i64 (nb : Int), .int .i64 z] 33)
  have HT := hide (hT.below b5)
  have HR := hide (hr.below b5)
  obtain ⟨M, hM⟩ : ∃ M, w4.heap.size = M := ⟨_, rfl⟩
  have hNM : N < M := by rw [← hM]; exact hr.lt
  have hMN : M ≠ N + 1 ∧ M ≠ N + 1 + 1 := by
    have h1 := hT.a.lt
    have h2 := (Array.getElem?_eq_some_iff.1 hT.e).1
    omega
  clear hT hr b5
  go_upto_region 2 with fail
  generalize w4.alloc (.cells #[.int .i64 (no : Int), .int .i64 (na : Int), .int .i64 (nb : Int), .int .i64 z] 33) = w5 at *
  rw [hM] at hq
  have i0 : w5.cell? ⟨M, 0, none⟩ = some (.int .i64 (no : Int)) := by rw [cell_of_row _ _ _ _ _ _ hq]; rfl
  have i1 : w5.cell? ⟨M, 1, none⟩ = some (.int .i64 (na : Int)) := by rw [cell_of_row _ _ _ _ _ _ hq]; rfl
  have i2 : w5.cell? ⟨M, 2, none⟩ = some (.int .i64 (nb : Int)) := by rw [cell_of_row _ _ _ _ _ _ hq]; rfl
  have i3 : w5.cell? ⟨M, 3, none⟩ = some (.int .i64 z) := by rw [cell_of_row _ _ _ _ _ _ hq]; rfl
  have ra := HR.out.r hna
  have rb := HR.out.r hnb
  have HQ := hide hq
  clear hq hM
  have hyz : wrap64 ((R nb : Int) + z) = (R nb : Int) + z := by unfold wrap64; omega
  have hno : (no : Int) = 20 := by have := HC.out; omega
  go_upto_region 22 with (go_at_call 11; refine (word_any _ _).mono ?_; rintro e9 w9 ⟨rfl, hw9⟩; rw [hw9]; clear hw9 w9)
  have HT6 := hide (HT.out.same (w' := w5.drew) rfl rfl rfl rfl)
  have HF := hide fun W (h : Two w W N) => h.fin (rg (R) (pc)) (e5 2 (((R nb : Nat) + z) % 4294967296) 0 (R na : Nat) 0) (rg_len _ _) (e5_len _ _ _ _ _)
  have hS6 : Sq N M 1 (.int .i64 (na : Int)) (rg (R) (pc)) w5.drew := ⟨HT6.out.sx ⟨HR.out.out⟩, by simpa using i1⟩
  refine wp_region_held_drew (S := Sq N M 1 (.int .i64 (na : Int)) (rg (R) (pc))) (by kernel_rfl) hS6 (fun hHeld => ?_)
  clear HT HR i0 i1 i2 i3 ra rb HQ
  refine held_load 0 (o := ⟨some 97, _, _, _, _, _⟩) (by kernel_rfl) (by kernel_rfl) (by kernel_rfl) rfl (by rfl) rfl (rg (R) (pc)) rfl (fun W h => h.1.1) Tryd.underlying25 rfl (by rw [rg_len]; exact info_regs) (fun _ _ _ h => h) hHeld ?_
  try simp only [Act.put, List.setIfInBounds_toArray, List.set_cons_zero, List.set_cons_succ]
  refine hd_take 1 (o := ⟨some 98, _, _, _, _, _⟩) (.int .u32 (((R nb : Nat) + z) % 4294967296)) (by kernel_rfl) (by kernel_rfl) (by kernel_rfl) rfl (by rfl) (fun W hSw => by first | (go_simp; done) | (go_simp; rfl) | rfl) (fun _ _ _ h => h) hHeld ?_
  try simp only [Act.put, List.setIfInBounds_toArray, List.set_cons_zero, List.set_cons_succ]
  refine hd_take 2 (o := ⟨some 99, _, _, _, _, _⟩) (.pointer (some ⟨M, 1, none⟩)) (by kernel_rfl) (by kernel_rfl) (by kernel_rfl) rfl (by rfl) (fun W hSw => by first | (go_simp; done) | (go_simp; rfl) | rfl) (fun _ _ _ h => h) hHeld ?_
  try simp only [Act.put, List.setIfInBounds_toArray, List.set_cons_zero, List.set_cons_succ]
  refine hd_take 3 (o := ⟨some 100, _, _, _, _, _⟩) (.int .i64 (na : Int)) (by kernel_rfl) (by kernel_rfl) (by kernel_rfl) rfl (by rfl) (fun W hSw => by have hc := hSw.2; go_simp; try with_reducible rfl) (fun _ _ _ h => h) hHeld ?_
  try simp only [Act.put, List.setIfInBounds_toArray, List.set_cons_zero, List.set_cons_succ]
  refine hd_take 4 (o := ⟨some 101, _, _, _, _, _⟩) (.pointer (some ⟨N, 0, none⟩)) (by kernel_rfl) (by kernel_rfl) (by kernel_rfl) rfl (by rfl) (fun W hSw => by first | (go_simp; done) | (go_simp; rfl) | rfl) (fun _ _ _ h => h) hHeld ?_
  try simp only [Act.put, List.setIfInBounds_toArray, List.set_cons_zero, List.set_cons_succ]
  refine hd_take 5 (o := ⟨some 102, _, _, _, _, _⟩) (.pointer (some ⟨N, na, none⟩)) (by kernel_rfl) (by kernel_rfl) (by kernel_rfl) rfl (by rfl) (fun W hSw => by first | (go_simp; done) | (go_simp; rfl) | rfl) (fun _ _ _ h => h) hHeld ?_
  try simp only [Act.put, List.setIfInBounds_toArray, List.set_cons_zero, List.set_cons_succ]
  refine hd_take 6 (o := ⟨some 103, _, _, _, _, _⟩) (.int .u32 (R na : Nat)) (by kernel_rfl) (by kernel_rfl) (by kernel_rfl) rfl (by rfl) (fun W hSw => by have hc := hSw.1.1 na _ (rg_get R pc hna); rw [Nat.zero_add] at hc; go_simp) (fun _ _ _ h => h) hHeld ?_
  try simp only [Act.put, List.setIfInBounds_toArray, List.set_cons_zero, List.set_cons_succ]
  refine hd_take 7 (o := ⟨some 104, _, _, _, _, _⟩) (.agg (e5 2 (((R nb : Nat) + z) % 4294967296) 0 (R na : Nat) 0).toArray) (by kernel_rfl) (by kernel_rfl) (by kernel_rfl) rfl (by rfl) (fun W hSw => by first | (go_simp; done) | (go_simp; rfl) | rfl) (fun _ _ _ h => h) hHeld ?_
  try simp only [Act.put, List.setIfInBounds_toArray, List.set_cons_zero, List.set_cons_succ]
  refine held_store 8 (o := ⟨none, _, _, _, _, _⟩) (cells := (rg (R) (pc))) (by kernel_rfl) rfl (by rfl) rfl rfl rfl rfl (hHeld.1.t1 (rg_len _ _)) (info_rgl _ _) (rg_ones _ _) (hHeld.keep hMN _).1 ?_
  refine held_store 9 (o := ⟨none, _, _, _, _, _⟩) (cells := (e5 2 (((R nb : Nat) + z) % 4294967296) 0 (R na : Nat) 0)) (by kernel_rfl) rfl (by rfl) rfl rfl rfl rfl ((hHeld.keep hMN _).1.1.t2 (e5_len _ _ _ _ _)) (info_e5 _ _ _ _ _) (e5_ones _ _ _ _ _) ((hHeld.keep hMN _).1.keep hMN _).2 ?_
  refine wpAnyH_done (by kernel_rfl) ?_ _
  clear hHeld hS6
  have hF := (HF.out _ HT6.out).1
  clear HF HT6
  generalize (w5.drew.setCells (N + 1) 0 (rg (R) (pc))).setCells (N + 1 + 1) 0 (e5 2 (((R nb : Nat) + z) % 4294967296) 0 (R na : Nat) 0) = w7 at *
  have HF := hide hF
  clear hF
  go_wp2
  refine bodyPost_ret (results_rows2 rfl _ _ (N + 1) (N + 1 + 1) 25 28 _ _ _ _ rfl HF.out.a Tryd.underlying25 rfl (info_rg _ _) rfl HF.out.e Tryd.underlying28 rfl (info_e5a _ _ _ _ _)) rfl ?_
  subst hN
  exact ⟨rfl, HF.out.b⟩
set_option maxRecDepth 100000 in
set_option maxHeartbeats 3200000 in
theorem rexec_sys (hn : n < 4294967296) (hp : parts n = ⟨(no : Int), na, nb, z⟩) (hx : isI ⟨(no : Int), na, nb, z⟩ = true) (hR : RgOk R pc) (hc : no = 26) : Calls Tryd.prog 5 #[.agg (rg R pc).toArray, .int .u32 (n : Nat)] w fun e w' => e = .returned (.tuple #[.agg (rg R (nx pc)).toArray, .agg (e5 3 0 0 (z % 4294967296) 0).toArray]) ∧ Below w.heap.size w w' := by
  have HC := hide hc
  clear hc
  have hi : decI n = ⟨(no : Int), na, nb, z⟩ := (decI_yes hp hx).1
  have he : decE n = 0 := (decI_yes hp hx).2
  have hI := isn.1 hx
  have ha : (na : Int) < 8 := (fitsB_range hI.a).2
  have hb8 : (nb : Int) < 8 := (fitsB_range hI.b).2
  have hzz := parts_imm n
  rw [hp] at hzz
  simp only at hzz
  clear hx hI hp
  have hz0 : (0 : Int) ≤ (na : Int) := by omega
  have hz00 : (0 : Int) ≤ (nb : Int) := by omega
  have hna : na < 8 := by omega
  have hnb : nb < 8 := by omega
  have hx32 := hR.r na hna
  have hy32 := hR.r nb hnb
  have hp32 := hR.p
  go_enter Tryd.func5, Tryd.ntmps5
  go_wp2_with fail
  refine (rdec_any _ n hn).mono ?_
  rw [hi, he]
  rintro e w4 ⟨rfl, hb⟩
  have hB := Bgn.new rfl hb
  clear hb hi he
  simp only [I.cells]
  obtain ⟨N, hN⟩ : ∃ N, w.heap.size = N := ⟨_, rfl⟩
  have hT : Two w w4 N := by subst hN; exact ⟨hB.r1, hB.e, hB.b, hB.b.size⟩
  have hr : Rb w4 N R pc := by subst hN; exact hB.r
  rw [hN]
  clear hB
  have b5 := bel1 w4 (.cells #[.int .i64 (no : Int), .int .i64 (na : Int), .int .i64 (nb : Int), .int .i64 z] 33)
  have hq := heap_alloc_last w4 (.cells #[.int .i64 (no : Int), .int .i64 (na : Int), .int .i64 (nb : Int), .int .i64 z] 33)
  have HT := hide (hT.below b5)
  have HR := hide (hr.below b5)
  obtain ⟨M, hM⟩ : ∃ M, w4.heap.size = M := ⟨_, rfl⟩
  have hNM : N < M := by rw [← hM]; exact hr.lt
  have hMN : M ≠ N + 1 ∧ M ≠ N + 1 + 1 := by
    have h1 := hT.a.lt
    have h2 := (Array.getElem?_eq_some_iff.1 hT.e).1
    omega
  clear hT hr b5
  go_upto_region 2 with fail
  generalize w4.alloc (.cells #[.int .i64 (no : Int), .int .i64 (na : Int), .int .i64 (nb : Int), .int .i64 z] 33) = w5 at *
  rw [hM] at hq
  have i0 : w5.cell? ⟨M, 0, none⟩ = some (.int .i64 (no : Int)) := by rw [cell_of_row _ _ _ _ _ _ hq]; rfl
  have i1 : w5.cell? ⟨M, 1, none⟩ = some (.int .i64 (na : Int)) := by rw [cell_of_row _ _ _ _ _ _ hq]; rfl
  have i2 : w5.cell? ⟨M, 2, none⟩ = some (.int .i64 (nb : Int)) := by rw [cell_of_row _ _ _ _ _ _ hq]; rfl
  have i3 : w5.cell? ⟨M, 3, none⟩ = some (.int .i64 z) := by rw [cell_of_row _ _ _ _ _ _ hq]; rfl
  have ra := HR.out.r hna
  have rb := HR.out.r hnb
  have HQ := hide hq
  clear hq hM
  have hyz : wrap64 ((R nb : Int) + z) = (R nb : Int) + z := by unfold wrap64; omega
  have hno : (no : Int) = 26 := by have := HC.out; omega
  have p8 := HR.out.p
  have z8 := HR.out.frz
  go_upto_region 32 with (go_at_call 11; refine (word_any _ _).mono ?_; rintro e9 w9 ⟨rfl, hw9⟩; rw [hw9]; clear hw9 w9)
  have HT7 := hide (HT.out.setCell 8 (.int .u32 (((pc : Int) + 1) % 4294967296)))
  have HR7 := hide (rb_nx HR.out)
  have i3' : (w5.setCell ⟨N, 8, none⟩ (.int .u32 (((pc : Int) + 1) % 4294967296))).cell? ⟨M, 3, none⟩ = some (.int .i64 z) := by rw [World.cell?_setCell_far _ _ _ _ (by show N ≠ M; omega)]; exact i3
  clear HT HR p8 z8 i0 i1 i2 i3 ra rb HQ
  generalize w5.setCell ⟨N, 8, none⟩ (.int .u32 (((pc : Int) + 1) % 4294967296)) = w6 at *
  have HT6 := hide (HT7.out.same (w' := w6.drew) rfl rfl rfl rfl)
  have HF := hide fun W (h : Two w W N) => h.fin (rg (R) (nx pc)) (e5 3 0 0 (z % 4294967296) 0) (rg_len _ _) (e5_len _ _ _ _ _)
  have hS6 : Sq N M 3 (.int .i64 z) (rg (R) (nx pc)) w6.drew := ⟨HT6.out.sx ⟨HR7.out.out⟩, by simpa using i3'⟩
  refine wp_region_held_drew (S := Sq N M 3 (.int .i64 z) (rg (R) (nx pc))) (by kernel_rfl) hS6 (fun hHeld => ?_)
  clear HT7 HR7 i3'
  refine held_load 0 (o := ⟨some 124, _, _, _, _, _⟩) (by kernel_rfl) (by kernel_rfl) (by kernel_rfl) rfl (by rfl) rfl (rg (R) (nx pc)) rfl (fun W h => h.1.1) Tryd.underlying25 rfl (by rw [rg_len]; exact info_regs) (fun _ _ _ h => h) hHeld ?_
  try simp only [Act.put, List.setIfInBounds_toArray, List.set_cons_zero, List.set_cons_succ]
  refine hd_take 1 (o := ⟨some 125, _, _, _, _, _⟩) (.pointer (some ⟨M, 3, none⟩)) (by kernel_rfl) (by kernel_rfl) (by kernel_rfl) rfl (by rfl) (fun W hSw => by first | (go_simp; done) | (go_simp; rfl) | rfl) (fun _ _ _ h => h) hHeld ?_
  try simp only [Act.put, List.setIfInBounds_toArray, List.set_cons_zero, List.set_cons_succ]
  refine hd_take 2 (o := ⟨some 126, _, _, _, _, _⟩) (.int .i64 z) (by kernel_rfl) (by kernel_rfl) (by kernel_rfl) rfl (by rfl) (fun W hSw => by have hc := hSw.2; go_simp; try with_reducible rfl) (fun _ _ _ h => h) hHeld ?_
  try simp only [Act.put, List.setIfInBounds_toArray, List.set_cons_zero, List.set_cons_succ]
  refine held_call 3 (o := ⟨some 127, _, _, _, _, _⟩) (by kernel_rfl) rfl (by rfl) (fun K hK => ?_)
  go_simp
  go_wp2_with (go_at_call 11; refine (word_any _ _).mono ?_; rintro e9 w9 ⟨rfl, hw9⟩; rw [hw9]; clear hw9 w9)
  refine hK _ _ hHeld ?_
  clear hK K
  try simp only [Act.put, List.setIfInBounds_toArray, List.set_cons_zero, List.set_cons_succ]
  refine hd_take 4 (o := ⟨some 128, _, _, _, _, _⟩) (.agg (e5 3 0 0 (z % 4294967296) 0).toArray) (by kernel_rfl) (by kernel_rfl) (by kernel_rfl) rfl (by rfl) (fun W hSw => by first | (go_simp; done) | (go_simp; rfl) | rfl) (fun _ _ _ h => h) hHeld ?_
  try simp only [Act.put, List.setIfInBounds_toArray, List.set_cons_zero, List.set_cons_succ]
  refine held_store 5 (o := ⟨none, _, _, _, _, _⟩) (cells := (rg (R) (nx pc))) (by kernel_rfl) rfl (by rfl) rfl rfl rfl rfl (hHeld.1.t1 (rg_len _ _)) (info_rgl _ _) (rg_ones _ _) (hHeld.keep hMN _).1 ?_
  refine held_store 6 (o := ⟨none, _, _, _, _, _⟩) (cells := (e5 3 0 0 (z % 4294967296) 0)) (by kernel_rfl) rfl (by rfl) rfl rfl rfl rfl ((hHeld.keep hMN _).1.1.t2 (e5_len _ _ _ _ _)) (info_e5 _ _ _ _ _) (e5_ones _ _ _ _ _) ((hHeld.keep hMN _).1.keep hMN _).2 ?_
  refine wpAnyH_done (by kernel_rfl) ?_ _
  clear hHeld hS6
  have hF := (HF.out _ HT6.out).1
  clear HF HT6
  generalize (w6.drew.setCells (N + 1) 0 (rg (R) (nx pc))).setCells (N + 1 + 1) 0 (e5 3 0 0 (z % 4294967296) 0) = w7 at *
  have HF := hide hF
  clear hF
  go_wp2
  refine bodyPost_ret (results_rows2 rfl _ _ (N + 1) (N + 1 + 1) 25 28 _ _ _ _ rfl HF.out.a Tryd.underlying25 rfl (info_rg _ _) rfl HF.out.e Tryd.underlying28 rfl (info_e5a _ _ _ _ _)) rfl ?_
  subst hN
  exact ⟨rfl, HF.out.b⟩
set_option maxRecDepth 100000 in
set_option maxHeartbeats 3200000 in
theorem rexec_trap (hn : n < 4294967296) (hx : isI (parts n) = false) : Calls Tryd.prog 5 #[.agg (rg R pc).toArray, .int .u32 (n : Nat)] w fun e w' => e = .returned (.tuple #[.agg (rg R pc).toArray, .agg (e5 4 0 0 0 70).toArray]) ∧ Below w.heap.size w w' := by
  have hi : decI n = ⟨0, 0, 0, 0⟩ := (decI_no rfl hx).1
  have he : decE n = 70 := (decI_no rfl hx).2
  clear hx
  go_enter Tryd.func5, Tryd.ntmps5
  go_wp2_with fail
  refine (rdec_any _ n hn).mono ?_
  rw [hi, he]
  rintro e w4 ⟨rfl, hb⟩
  have hB := Bgn.new rfl hb
  clear hb hi he
  simp only [I.cells]
  obtain ⟨N, hN⟩ : ∃ N, w.heap.size = N := ⟨_, rfl⟩
  have hT : Two w w4 N := by subst hN; exact ⟨hB.r1, hB.e, hB.b, hB.b.size⟩
  have hr : Rb w4 N R pc := by subst hN; exact hB.r
  rw [hN]
  clear hB
  have b5 := bel1 w4 (.cells #[.int .i64 0, .int .i64 0, .int .i64 0, .int .i64 0] 33)
  have HT := hide (hT.below b5)
  have HR := hide (hr.below b5)
  clear hT hr b5
  go_upto_region 3 with fail
  generalize w4.alloc (.cells #[.int .i64 0, .int .i64 0, .int .i64 0, .int .i64 0] 33) = w5 at *
  obtain ⟨f0, f1, f2, f3, f4, f5⟩ := effcells HT.out (rg (R) (pc))
  have HF := hide (HT.out.rows (rg (R) (pc)) (e5 4 0 0 0 70 : List Value) rfl)
  go_wp2_with (first
    | refine wpList_load_row rfl 25 _ rfl N rfl 25 (rg (R) (pc)).toArray (0, 0) _ HR.out.out Tryd.underlying25 rfl (info_rg _ _) ?_
    | refine wpList_store_row rfl 25 _ _ rfl (N + 1) (rg (R) (pc)).toArray rfl rfl 25 _ HT.out.a.out (info_rg _ _) (by rw [rg_size, rg_size]) (rg_one _ _) ?_)
  refine bodyPost_ret (results_rows2 rfl _ _ (N + 1) (N + 1 + 1) 25 28 _ _ _ _ rfl HF.out.a Tryd.underlying25 rfl (info_rg _ _) rfl HF.out.e Tryd.underlying28 rfl info_eff) rfl ?_
  subst hN
  exact ⟨rfl, HF.out.b⟩
set_option maxRecDepth 100000 in
set_option maxHeartbeats 3200000 in
theorem rexec_jump (hn : n < 4294967296) (hp : parts n = ⟨(no : Int), na, nb, z⟩) (hx : isI ⟨(no : Int), na, nb, z⟩ = true) (hR : RgOk R pc) (R2 : Nat → Nat) (p2 : Nat) (hc : (21 ≤ no ∧ no ≤ 25) ∧ R2 = (if no = 25 then put R na (nx pc) else R) ∧ p2 = (tgt no (R na) (im z) (nx pc))) : Calls Tryd.prog 5 #[.agg (rg R pc).toArray, .int .u32 (n : Nat)] w fun e w' => e = .returned (.tuple #[.agg (rg R2 p2).toArray, .agg effz.toArray]) ∧ Below w.heap.size w w' := by
  have HC := hide hc
  clear hc
  have hi : decI n = ⟨(no : Int), na, nb, z⟩ := (decI_yes hp hx).1
  have he : decE n = 0 := (decI_yes hp hx).2
  have hI := isn.1 hx
  have ha : (na : Int) < 8 := (fitsB_range hI.a).2
  have hb8 : (nb : Int) < 8 := (fitsB_range hI.b).2
  have hzz := parts_imm n
  rw [hp] at hzz
  simp only at hzz
  clear hx hI hp
  have hz0 : (0 : Int) ≤ (na : Int) := by omega
  have hz00 : (0 : Int) ≤ (nb : Int) := by omega
  have hna : na < 8 := by omega
  have hnb : nb < 8 := by omega
  have hx32 := hR.r na hna
  have hy32 := hR.r nb hnb
  have hp32 := hR.p
  go_enter Tryd.func5, Tryd.ntmps5
  go_wp2_with fail
  refine (rdec_any _ n hn).mono ?_
  rw [hi, he]
  rintro e w4 ⟨rfl, hb⟩
  have hB := Bgn.new rfl hb
  clear hb hi he
  simp only [I.cells]
  obtain ⟨N, hN⟩ : ∃ N, w.heap.size = N := ⟨_, rfl⟩
  have hT : Two w w4 N := by subst hN; exact ⟨hB.r1, hB.e, hB.b, hB.b.size⟩
  have hr : Rb w4 N R pc := by subst hN; exact hB.r
  rw [hN]
  clear hB
  have b5 := bel1 w4 (.cells #[.int .i64 (no : Int), .int .i64 (na : Int), .int .i64 (nb : Int), .int .i64 z] 33)
  have hq := heap_alloc_last w4 (.cells #[.int .i64 (no : Int), .int .i64 (na : Int), .int .i64 (nb : Int), .int .i64 z] 33)
  have HT := hide (hT.below b5)
  have HR := hide (hr.below b5)
  obtain ⟨M, hM⟩ : ∃ M, w4.heap.size = M := ⟨_, rfl⟩
  have hNM : N < M := by rw [← hM]; exact hr.lt
  have hMN : M ≠ N + 1 ∧ M ≠ N + 1 + 1 := by
    have h1 := hT.a.lt
    have h2 := (Array.getElem?_eq_some_iff.1 hT.e).1
    omega
  clear hT hr b5
  go_upto_region 2 with fail
  generalize w4.alloc (.cells #[.int .i64 (no : Int), .int .i64 (na : Int), .int .i64 (nb : Int), .int .i64 z] 33) = w5 at *
  rw [hM] at hq
  have i0 : w5.cell? ⟨M, 0, none⟩ = some (.int .i64 (no : Int)) := by rw [cell_of_row _ _ _ _ _ _ hq]; rfl
  have i1 : w5.cell? ⟨M, 1, none⟩ = some (.int .i64 (na : Int)) := by rw [cell_of_row _ _ _ _ _ _ hq]; rfl
  have i2 : w5.cell? ⟨M, 2, none⟩ = some (.int .i64 (nb : Int)) := by rw [cell_of_row _ _ _ _ _ _ hq]; rfl
  have i3 : w5.cell? ⟨M, 3, none⟩ = some (.int .i64 z) := by rw [cell_of_row _ _ _ _ _ _ hq]; rfl
  have ra := HR.out.r hna
  have rb := HR.out.r hnb
  have HQ := hide hq
  clear hq hM
  have hyz : wrap64 ((R nb : Int) + z) = (R nb : Int) + z := by unfold wrap64; omega
  have hcc := HC.out.1
  have q1 : ((no : Int) == 1) = false := by simp; omega
  have q2 : ((no : Int) == 2) = false := by simp; omega
  have q3 : ((no : Int) == 3) = false := by simp; omega
  have q19 : ((no : Int) == 19) = false := by simp; omega
  have q20 : ((no : Int) == 20) = false := by simp; omega
  have HJ := hide (fun W => jumped_any W R pc no na nb z hna hR hzz hcc)
  rw [← HC.out.2.1, ← HC.out.2.2] at HJ
  go_upto_region 7 with (go_at_call 11; refine (word_any _ _).mono ?_; rintro e9 w9 ⟨rfl, hw9⟩; rw [hw9]; clear hw9 w9)
  have hcs : no = 21 ∨ no = 22 ∨ no = 23 ∨ no = 24 ∨ no = 25 := by omega
  clear hcc
  rcases hcs with h9 | h9 | h9 | h9 | h9
  · have hno : (no : Int) = 21 := by omega
    have HJ2 := HJ
    rw [h9] at HJ2
    clear h9
    go_upto_region 28 with fail
    go_wp2_with (refine wpList_load_row rfl 25 _ rfl N rfl 25 (rg R pc).toArray (0, 0) _ HR.out.out Tryd.underlying25 rfl (info_rg _ _) ?_)
    refine (HJ2.out _).mono ?_
    rintro e w6 ⟨rfl, hb6⟩
    have HR6 := hide (HR.out.below hb6)
    have HX := hide ((HT.out.below hb6).setRowN (rg R2 p2).toArray)
    have HY : Hid (Rb (w6.setRow N (rg R2 p2).toArray) N R2 p2) := hide ⟨setRow_heap _ _ _ _ _ _ HR6.out.out⟩
    clear HR HT hb6 i0 i1 i2 i3 ra rb HQ HJ HJ2
    go_upto_region 29 with (refine wpList_store_row rfl 25 _ _ rfl N (rg R2 p2).toArray rfl rfl 25 _ HR6.out.out (info_rg _ _) (by rw [rg_size, rg_size]) (rg_one _ _) ?_)
    clear HR6
    generalize w6.setRow N (rg R2 p2).toArray = w7 at *
    obtain ⟨f0, f1, f2, f3, f4, f5⟩ := effcells HX.out (rg (R2) (p2))
    have HF := hide (HX.out.rows (rg (R2) (p2)) (effz : List Value) rfl)
    go_wp2_with (first
      | refine wpList_load_row rfl 25 _ rfl N rfl 25 (rg (R2) (p2)).toArray (0, 0) _ HY.out.out Tryd.underlying25 rfl (info_rg _ _) ?_
      | refine wpList_store_row rfl 25 _ _ rfl (N + 1) (rg (R2) (p2)).toArray rfl rfl 25 _ HX.out.a.out (info_rg _ _) (by rw [rg_size, rg_size]) (rg_one _ _) ?_)
    refine bodyPost_ret (results_rows2 rfl _ _ (N + 1) (N + 1 + 1) 25 28 _ _ _ _ rfl HF.out.a Tryd.underlying25 rfl (info_rg _ _) rfl HF.out.e Tryd.underlying28 rfl info_eff) rfl ?_
    subst hN
    exact ⟨rfl, HF.out.b⟩
  · have hno : (no : Int) = 22 := by omega
    have HJ2 := HJ
    rw [h9] at HJ2
    clear h9
    go_upto_region 28 with fail
    go_wp2_with (refine wpList_load_row rfl 25 _ rfl N rfl 25 (rg R pc).toArray (0, 0) _ HR.out.out Tryd.underlying25 rfl (info_rg _ _) ?_)
    refine (HJ2.out _).mono ?_
    rintro e w6 ⟨rfl, hb6⟩
    have HR6 := hide (HR.out.below hb6)
    have HX := hide ((HT.out.below hb6).setRowN (rg R2 p2).toArray)
    have HY : Hid (Rb (w6.setRow N (rg R2 p2).toArray) N R2 p2) := hide ⟨setRow_heap _ _ _ _ _ _ HR6.out.out⟩
    clear HR HT hb6 i0 i1 i2 i3 ra rb HQ HJ HJ2
    go_upto_region 29 with (refine wpList_store_row rfl 25 _ _ rfl N (rg R2 p2).toArray rfl rfl 25 _ HR6.out.out (info_rg _ _) (by rw [rg_size, rg_size]) (rg_one _ _) ?_)
    clear HR6
    generalize w6.setRow N (rg R2 p2).toArray = w7 at *
    obtain ⟨f0, f1, f2, f3, f4, f5⟩ := effcells HX.out (rg (R2) (p2))
    have HF := hide (HX.out.rows (rg (R2) (p2)) (effz : List Value) rfl)
    go_wp2_with (first
      | refine wpList_load_row rfl 25 _ rfl N rfl 25 (rg (R2) (p2)).toArray (0, 0) _ HY.out.out Tryd.underlying25 rfl (info_rg _ _) ?_
      | refine wpList_store_row rfl 25 _ _ rfl (N + 1) (rg (R2) (p2)).toArray rfl rfl 25 _ HX.out.a.out (info_rg _ _) (by rw [rg_size, rg_size]) (rg_one _ _) ?_)
    refine bodyPost_ret (results_rows2 rfl _ _ (N + 1) (N + 1 + 1) 25 28 _ _ _ _ rfl HF.out.a Tryd.underlying25 rfl (info_rg _ _) rfl HF.out.e Tryd.underlying28 rfl info_eff) rfl ?_
    subst hN
    exact ⟨rfl, HF.out.b⟩
  · have hno : (no : Int) = 23 := by omega
    have HJ2 := HJ
    rw [h9] at HJ2
    clear h9
    go_upto_region 28 with fail
    go_wp2_with (refine wpList_load_row rfl 25 _ rfl N rfl 25 (rg R pc).toArray (0, 0) _ HR.out.out Tryd.underlying25 rfl (info_rg _ _) ?_)
    refine (HJ2.out _).mono ?_
    rintro e w6 ⟨rfl, hb6⟩
    have HR6 := hide (HR.out.below hb6)
    have HX := hide ((HT.out.below hb6).setRowN (rg R2 p2).toArray)
    have HY : Hid (Rb (w6.setRow N (rg R2 p2).toArray) N R2 p2) := hide ⟨setRow_heap _ _ _ _ _ _ HR6.out.out⟩
    clear HR HT hb6 i0 i1 i2 i3 ra rb HQ HJ HJ2
    go_upto_region 29 with (refine wpList_store_row rfl 25 _ _ rfl N (rg R2 p2).toArray rfl rfl 25 _ HR6.out.out (info_rg _ _) (by rw [rg_size, rg_size]) (rg_one _ _) ?_)
    clear HR6
    generalize w6.setRow N (rg R2 p2).toArray = w7 at *
    obtain ⟨f0, f1, f2, f3, f4, f5⟩ := effcells HX.out (rg (R2) (p2))
    have HF := hide (HX.out.rows (rg (R2) (p2)) (effz : List Value) rfl)
    go_wp2_with (first
      | refine wpList_load_row rfl 25 _ rfl N rfl 25 (rg (R2) (p2)).toArray (0, 0) _ HY.out.out Tryd.underlying25 rfl (info_rg _ _) ?_
      | refine wpList_store_row rfl 25 _ _ rfl (N + 1) (rg (R2) (p2)).toArray rfl rfl 25 _ HX.out.a.out (info_rg _ _) (by rw [rg_size, rg_size]) (rg_one _ _) ?_)
    refine bodyPost_ret (results_rows2 rfl _ _ (N + 1) (N + 1 + 1) 25 28 _ _ _ _ rfl HF.out.a Tryd.underlying25 rfl (info_rg _ _) rfl HF.out.e Tryd.underlying28 rfl info_eff) rfl ?_
    subst hN
    exact ⟨rfl, HF.out.b⟩
  · have hno : (no : Int) = 24 := by omega
    have HJ2 := HJ
    rw [h9] at HJ2
    clear h9
    go_upto_region 28 with fail
    go_wp2_with (refine wpList_load_row rfl 25 _ rfl N rfl 25 (rg R pc).toArray (0, 0) _ HR.out.out Tryd.underlying25 rfl (info_rg _ _) ?_)
    refine (HJ2.out _).mono ?_
    rintro e w6 ⟨rfl, hb6⟩
    have HR6 := hide (HR.out.below hb6)
    have HX := hide ((HT.out.below hb6).setRowN (rg R2 p2).toArray)
    have HY : Hid (Rb (w6.setRow N (rg R2 p2).toArray) N R2 p2) := hide ⟨setRow_heap _ _ _ _ _ _ HR6.out.out⟩
    clear HR HT hb6 i0 i1 i2 i3 ra rb HQ HJ HJ2
    go_upto_region 29 with (refine wpList_store_row rfl 25 _ _ rfl N (rg R2 p2).toArray rfl rfl 25 _ HR6.out.out (info_rg _ _) (by rw [rg_size, rg_size]) (rg_one _ _) ?_)
    clear HR6
    generalize w6.setRow N (rg R2 p2).toArray = w7 at *
    obtain ⟨f0, f1, f2, f3, f4, f5⟩ := effcells HX.out (rg (R2) (p2))
    have HF := hide (HX.out.rows (rg (R2) (p2)) (effz : List Value) rfl)
    go_wp2_with (first
      | refine wpList_load_row rfl 25 _ rfl N rfl 25 (rg (R2) (p2)).toArray (0, 0) _ HY.out.out Tryd.underlying25 rfl (info_rg _ _) ?_
      | refine wpList_store_row rfl 25 _ _ rfl (N + 1) (rg (R2) (p2)).toArray rfl rfl 25 _ HX.out.a.out (info_rg _ _) (by rw [rg_size, rg_size]) (rg_one _ _) ?_)
    refine bodyPost_ret (results_rows2 rfl _ _ (N + 1) (N + 1 + 1) 25 28 _ _ _ _ rfl HF.out.a Tryd.underlying25 rfl (info_rg _ _) rfl HF.out.e Tryd.underlying28 rfl info_eff) rfl ?_
    subst hN
    exact ⟨rfl, HF.out.b⟩
  · have hno : (no : Int) = 25 := by omega
    have HJ2 := HJ
    rw [h9] at HJ2
    clear h9
    go_upto_region 28 with fail
    go_wp2_with (refine wpList_load_row rfl 25 _ rfl N rfl 25 (rg R pc).toArray (0, 0) _ HR.out.out Tryd.underlying25 rfl (info_rg _ _) ?_)
    refine (HJ2.out _).mono ?_
    rintro e w6 ⟨rfl, hb6⟩
    have HR6 := hide (HR.out.below hb6)
    have HX := hide ((HT.out.below hb6).setRowN (rg R2 p2).toArray)
    have HY : Hid (Rb (w6.setRow N (rg R2 p2).toArray) N R2 p2) := hide ⟨setRow_heap _ _ _ _ _ _ HR6.out.out⟩
    clear HR HT hb6 i0 i1 i2 i3 ra rb HQ HJ HJ2
    go_upto_region 29 with (refine wpList_store_row rfl 25 _ _ rfl N (rg R2 p2).toArray rfl rfl 25 _ HR6.out.out (info_rg _ _) (by rw [rg_size, rg_size]) (rg_one _ _) ?_)
    clear HR6
    generalize w6.setRow N (rg R2 p2).toArray = w7 at *
    obtain ⟨f0, f1, f2, f3, f4, f5⟩ := effcells HX.out (rg (R2) (p2))
    have HF := hide (HX.out.rows (rg (R2) (p2)) (effz : List Value) rfl)
    go_wp2_with (first
      | refine wpList_load_row rfl 25 _ rfl N rfl 25 (rg (R2) (p2)).toArray (0, 0) _ HY.out.out Tryd.underlying25 rfl (info_rg _ _) ?_
      | refine wpList_store_row rfl 25 _ _ rfl (N + 1) (rg (R2) (p2)).toArray rfl rfl 25 _ HX.out.a.out (info_rg _ _) (by rw [rg_size, rg_size]) (rg_one _ _) ?_)
    refine bodyPost_ret (results_rows2 rfl _ _ (N + 1) (N + 1 + 1) 25 28 _ _ _ _ rfl HF.out.a Tryd.underlying25 rfl (info_rg _ _) rfl HF.out.e Tryd.underlying28 rfl info_eff) rfl ?_
    subst hN
    exact ⟨rfl, HF.out.b⟩
end
end Go.Proofs.YtjhphhcmefeiiaaDoor
