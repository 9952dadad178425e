import Derived.Test.YtjhphhcmefeiiaaDoorXD
namespace Go.Proofs.YtjhphhcmefeiiaaDoor
open Go.RowKit
set_option linter.unusedVariables false
section
variable (w : World) (R : Nat → Nat) (pc n no na nb : Nat) (z : Int)
set_option maxRecDepth 100000 in
set_option maxHeartbeats 3200000 in
theorem rexec_nop (hn : n < 4294967296) (hp : parts n = ⟨(no : Int), na, nb, z⟩) (hx : isI ⟨(no : Int), na, nb, z⟩ = true) (hR : RgOk R pc) (hc : no = 1) : Calls Tryd.prog 5 #[.agg (rg R pc).toArray, .int .u32 (n : Nat)] w fun e w' => e = .returned (.tuple #[.agg (rg R (nx pc)).toArray, .agg effz.toArray]) ∧ Below w.heap.size w w' := by
  have HC := hide hc
  clear hc
  have hi : decI n = ⟨(no : Int), na, nb, z⟩ := (decI_yes hp hx).1
  have he : decE n = 0 := (decI_yes hp hx).2
  have hI := isn.1 hx
  have ha : (na : Int) < 8 := (fitsB_range hI.a).2
  have hb8 : (nb : Int) < 8 := (fitsB_range hI.b).2
  have hzz := parts_imm n
  rw [hp] at hzz
  simp only at hzz
  clear hx hI hp
  have hz0 : (0 : Int) ≤ (na : Int) := by omega
  have hz00 : (0 : Int) ≤ (nb : Int) := by omega
  have hna : na < 8 := by omega
  have hnb : nb < 8 := by omega
  have hx32 := hR.r na hna
  have hy32 := hR.r nb hnb
  have hp32 := hR.p
  go_enter Tryd.func5, Tryd.ntmps5
  go_wp2_with fail
  refine (rdec_any _ n hn).mono ?_
  rw [hi, he]
  rintro e w4 ⟨rfl, hb⟩
  have hB := Bgn.new rfl hb
  clear hb hi he
  simp only [I.cells]
  obtain ⟨N, hN⟩ : ∃ N, w.heap.size = N := ⟨_, rfl⟩
  have hT : Two w w4 N := by subst hN; exact ⟨hB.r1, hB.e, hB.b, hB.b.size⟩
  have hr : Rb w4 N R pc := by subst hN; exact hB.r
  rw [hN]
  clear hB
  have b5 := bel1 w4 (.cells #[.int .i64 (no : Int), .int .i64 (na : Int), .int .i64 (nb : Int), .int .i64 z] 33)
  have hq := heap_alloc_last w4 (.cells #[.int .i64 (no : Int), .int .i64 (na : Int), .int .i64 (nb : Int), .int .i64 z] 33)
  have HT := hide (hT.below b5)
  have HR := hide (hr.below b5)
  obtain ⟨M, hM⟩ : ∃ M, w4.heap.size = M := ⟨_, rfl⟩
  have hNM : N < M := by rw [← hM]; exact hr.lt
  have hMN : M ≠ N + 1 ∧ M ≠ N + 1 + 1 := by
    have h1 := hT.a.lt
    have h2 := (Array.getElem?_eq_some_iff.1 hT.e).1
    omega
  clear hT hr b5
  go_upto_region 2 with fail
  generalize w4.alloc (.cells #[.int .i64 (no : Int), .int .i64 (na : Int), .int .i64 (nb : Int), .int .i64 z] 33) = w5 at *
  rw [hM] at hq
  have i0 : w5.cell? ⟨M, 0, none⟩ = some (.int .i64 (no : Int)) := by rw [cell_of_row _ _ _ _ _ _ hq]; rfl
  have i1 : w5.cell? ⟨M, 1, none⟩ = some (.int .i64 (na : Int)) := by rw [cell_of_row _ _ _ _ _ _ hq]; rfl
  have i2 : w5.cell? ⟨M, 2, none⟩ = some (.int .i64 (nb : Int)) := by rw [cell_of_row _ _ _ _ _ _ hq]; rfl
  have i3 : w5.cell? ⟨M, 3, none⟩ = some (.int .i64 z) := by rw [cell_of_row _ _ _ _ _ _ hq]; rfl
  have ra := HR.out.r hna
  have rb := HR.out.r hnb
  have HQ := hide hq
  clear hq hM
  have hyz : wrap64 ((R nb : Int) + z) = (R nb : Int) + z := by unfold wrap64; omega
  have hno : (no : Int) = 1 := by have := HC.out; omega
  have p8 := HR.out.p
  have z8 := HR.out.frz
  go_upto_region 34 with (go_at_call 11; refine (word_any _ _).mono ?_; rintro e9 w9 ⟨rfl, hw9⟩; rw [hw9]; clear hw9 w9)
  have HT7 := hide (HT.out.setCell 8 (.int .u32 (((pc : Int) + 1) % 4294967296)))
  have HR7 := hide (rb_nx HR.out)
  clear HT HR p8 z8 i0 i1 i2 i3 ra rb HQ
  generalize w5.setCell ⟨N, 8, none⟩ (.int .u32 (((pc : Int) + 1) % 4294967296)) = w7 at *
  obtain ⟨f0, f1, f2, f3, f4, f5⟩ := effcells HT7.out (rg (R) (nx pc))
  have HF := hide (HT7.out.rows (rg (R) (nx pc)) (effz : List Value) rfl)
  go_wp2_with (first
    | refine wpList_load_row rfl 25 _ rfl N rfl 25 (rg (R) (nx pc)).toArray (0, 0) _ HR7.out.out Tryd.underlying25 rfl (info_rg _ _) ?_
    | refine wpList_store_row rfl 25 _ _ rfl (N + 1) (rg (R) (nx pc)).toArray rfl rfl 25 _ HT7.out.a.out (info_rg _ _) (by rw [rg_size, rg_size]) (rg_one _ _) ?_)
  refine bodyPost_ret (results_rows2 rfl _ _ (N + 1) (N + 1 + 1) 25 28 _ _ _ _ rfl HF.out.a Tryd.underlying25 rfl (info_rg _ _) rfl HF.out.e Tryd.underlying28 rfl info_eff) rfl ?_
  subst hN
  exact ⟨rfl, HF.out.b⟩
set_option maxRecDepth 100000 in
set_option maxHeartbeats 3200000 in
theorem rexec_li (hn : n < 4294967296) (hp : parts n = ⟨(no : Int), na, nb, z⟩) (hx : isI ⟨(no : Int), na, nb, z⟩ = true) (hR : RgOk R pc) (hc : no = 2) : Calls Tryd.prog 5 #[.agg (rg R pc).toArray, .int .u32 (n : Nat)] w fun e w' => e = .returned (.tuple #[.agg (rg (put R na (im z)) (nx pc)).toArray, .agg effz.toArray]) ∧ Below w.heap.size w w' := by
  have HC := hide hc
  clear hc
  have hi : decI n = ⟨(no : Int), na, nb, z⟩ := (decI_yes hp hx).1
  have he : decE n = 0 := (decI_yes hp hx).2
  have hI := isn.1 hx
  have ha : (na : Int) < 8 := (fitsB_range hI.a).2
  have hb8 : (nb : Int) < 8 := (fitsB_range hI.b).2
  have hzz := parts_imm n
  rw [hp] at hzz
  simp only at hzz
  clear hx hI hp
  have hz0 : (0 : Int) ≤ (na : Int) := by omega
  have hz00 : (0 : Int) ≤ (nb : Int) := by omega
  have hna : na < 8 := by omega
  have hnb : nb < 8 := by omega
  have hx32 := hR.r na hna
  have hy32 := hR.r nb hnb
  have hp32 := hR.p
  go_enter Tryd.func5, Tryd.ntmps5
  go_wp2_with fail
  refine (rdec_any _ n hn).mono ?_
  rw [hi, he]
  rintro e w4 ⟨rfl, hb⟩
  have hB := Bgn.new rfl hb
  clear hb hi he
  simp only [I.cells]
  obtain ⟨N, hN⟩ : ∃ N, w.heap.size = N := ⟨_, rfl⟩
  have hT : Two w w4 N := by subst hN; exact ⟨hB.r1, hB.e, hB.b, hB.b.size⟩
  have hr : Rb w4 N R pc := by subst hN; exact hB.r
  rw [hN]
  clear hB
  have b5 := bel1 w4 (.cells #[.int .i64 (no : Int), .int .i64 (na : Int), .int .i64 (nb : Int), .int .i64 z] 33)
  have hq := heap_alloc_last w4 (.cells #[.int .i64 (no : Int), .int .i64 (na : Int), .int .i64 (nb : Int), .int .i64 z] 33)
  have HT := hide (hT.below b5)
  have HR := hide (hr.below b5)
  obtain ⟨M, hM⟩ : ∃ M, w4.heap.size = M := ⟨_, rfl⟩
  have hNM : N < M := by rw [← hM]; exact hr.lt
  have hMN : M ≠ N + 1 ∧ M ≠ N + 1 + 1 := by
    have h1 := hT.a.lt
    have h2 := (Array.getElem?_eq_some_iff.1 hT.e).1
    omega
  clear hT hr b5
  go_upto_region 2 with fail
  generalize w4.alloc (.cells #[.int .i64 (no : Int), .int .i64 (na : Int), .int .i64 (nb : Int), .int .i64 z] 33) = w5 at *
  rw [hM] at hq
  have i0 : w5.cell? ⟨M, 0, none⟩ = some (.int .i64 (no : Int)) := by rw [cell_of_row _ _ _ _ _ _ hq]; rfl
  have i1 : w5.cell? ⟨M, 1, none⟩ = some (.int .i64 (na : Int)) := by rw [cell_of_row _ _ _ _ _ _ hq]; rfl
  have i2 : w5.cell? ⟨M, 2, none⟩ = some (.int .i64 (nb : Int)) := by rw [cell_of_row _ _ _ _ _ _ hq]; rfl
  have i3 : w5.cell? ⟨M, 3, none⟩ = some (.int .i64 z) := by rw [cell_of_row _ _ _ _ _ _ hq]; rfl
  have ra := HR.out.r hna
  have rb := HR.out.r hnb
  have HQ := hide hq
  clear hq hM
  have hyz : wrap64 ((R nb : Int) + z) = (R nb : Int) + z := by unfold wrap64; omega
  have hno : (no : Int) = 2 := by have := HC.out; omega
  go_upto_region 16 with (go_at_call 11; refine (word_any _ _).mono ?_; rintro e9 w9 ⟨rfl, hw9⟩; rw [hw9]; clear hw9 w9)
  have cN : w5.cell? ⟨N, na, none⟩ = some (.int .u32 (R na : Nat)) := HR.out.r hna
  have fN := HR.out.frz na
  obtain ⟨wd, hdx⟩ : ∃ v, v = w5.drew := ⟨_, rfl⟩
  have HS : Hid (wd.cell? ⟨M, 1, none⟩ = some (.int .i64 (na : Int)) ∧ wd.cell? ⟨M, 3, none⟩ = some (.int .i64 z)) := hide (by rw [hdx]; exact ⟨i1, i3⟩)
  have cN' : wd.cell? ⟨N, na, none⟩ = some (.int .u32 (R na : Nat)) := by rw [hdx]; exact cN
  have fN' : wd.frozen? ⟨N, na, none⟩ = false := by rw [hdx]; exact fN
  have HTd : Hid (Two w wd N) := hide (by rw [hdx]; exact HT.out.drew)
  have HRd : Hid (Rb wd N R pc) := hide (by rw [hdx]; exact ⟨HR.out.out⟩)
  refine wp_region_held_drew (S := fun W => W.cell? ⟨M, 1, none⟩ = some (.int .i64 (na : Int)) ∧ W.cell? ⟨M, 3, none⟩ = some (.int .i64 z)) (by kernel_rfl) (by rw [← hdx]; exact HS.out) (fun _ => ?_)
  rw [← hdx]
  clear hdx HT HR i0 i1 i2 i3 ra rb HQ cN fN
  refine hd_take 0 (o := ⟨some 68, _, _, _, _, _⟩) (.pointer (some ⟨M, 1, none⟩)) (by kernel_rfl) (by kernel_rfl) (by kernel_rfl) rfl (by rfl) (fun W hSw => by go_simp) (fun _ _ _ h => h) HS.out ?_
  try simp only [Act.put, List.setIfInBounds_toArray, List.set_cons_zero, List.set_cons_succ]
  refine hd_take 1 (o := ⟨some 69, _, _, _, _, _⟩) (.int .i64 (na : Int)) (by kernel_rfl) (by kernel_rfl) (by kernel_rfl) rfl (by rfl) (fun W hSw => by obtain ⟨s1, s3⟩ := hSw; go_simp) (fun _ _ _ h => h) HS.out ?_
  try simp only [Act.put, List.setIfInBounds_toArray, List.set_cons_zero, List.set_cons_succ]
  refine hd_take 2 (o := ⟨some 70, _, _, _, _, _⟩) (.pointer (some ⟨M, 3, none⟩)) (by kernel_rfl) (by kernel_rfl) (by kernel_rfl) rfl (by rfl) (fun W hSw => by go_simp) (fun _ _ _ h => h) HS.out ?_
  try simp only [Act.put, List.setIfInBounds_toArray, List.set_cons_zero, List.set_cons_succ]
  refine hd_take 3 (o := ⟨some 71, _, _, _, _, _⟩) (.int .i64 z) (by kernel_rfl) (by kernel_rfl) (by kernel_rfl) rfl (by rfl) (fun W hSw => by obtain ⟨s1, s3⟩ := hSw; go_simp) (fun _ _ _ h => h) HS.out ?_
  try simp only [Act.put, List.setIfInBounds_toArray, List.set_cons_zero, List.set_cons_succ]
  refine hd_take 5 (o := ⟨some 73, _, _, _, _, _⟩) (.pointer (some ⟨N, 0, none⟩)) (by kernel_rfl) (by kernel_rfl) (by kernel_rfl) rfl (by rfl) (fun W hSw => by go_simp) (fun _ _ _ h => h) HS.out ?_
  try simp only [Act.put, List.setIfInBounds_toArray, List.set_cons_zero, List.set_cons_succ]
  refine hd_call 4 (o := ⟨some 72, _, _, _, _, _⟩) (by kernel_rfl) rfl (by rfl) (fun K hK => ?_)
  go_simp
  go_wp2_with (go_at_call 11; refine (word_any _ _).mono ?_; rintro e9 w9 ⟨rfl, hw9⟩; rw [hw9]; clear hw9 w9)
  refine hK _ _ HS.out ?_
  clear hK K
  try simp only [Act.put, List.setIfInBounds_toArray, List.set_cons_zero, List.set_cons_succ]
  refine hd_take 6 (o := ⟨some 74, _, _, _, _, _⟩) (.pointer (some ⟨N, na, none⟩)) (by kernel_rfl) (by kernel_rfl) (by kernel_rfl) rfl (by rfl) (fun W hSw => by go_simp) (fun _ _ _ h => h) HS.out ?_
  try simp only [Act.put, List.setIfInBounds_toArray, List.set_cons_zero, List.set_cons_succ]
  rw [← im_cast z]
  refine hd_call 7 (o := ⟨none, _, _, _, _, _⟩) (by kernel_rfl) rfl (by rfl) (fun K hK => ?_)
  go_simp
  have HX := hide ((HTd.out.setCell na (.int .u32 ((im z : Nat) : Int))))
  have HY := hide (HRd.out.put hna (im z))
  refine hK _ _ ⟨by rw [World.cell?_setCell_far _ _ _ _ (by show N ≠ M; omega)]; exact HS.out.1, by rw [World.cell?_setCell_far _ _ _ _ (by show N ≠ M; omega)]; exact HS.out.2⟩ ?_
  clear hK K HS
  refine wpAnyH_done (by kernel_rfl) ?_ _
  clear HTd HRd cN' fN'
  generalize wd.setCell ⟨N, na, none⟩ (.int .u32 ((im z : Nat) : Int)) = w6 at *
  have p8 := HY.out.p
  have z8 := HY.out.frz
  go_upto_region 34 with (go_at_call 11; refine (word_any _ _).mono ?_; rintro e9 w9 ⟨rfl, hw9⟩; rw [hw9]; clear hw9 w9)
  have HT7 := hide (HX.out.setCell 8 (.int .u32 (((pc : Int) + 1) % 4294967296)))
  have HR7 := hide (rb_nx HY.out)
  clear HX HY p8 z8
  generalize w6.setCell ⟨N, 8, none⟩ (.int .u32 (((pc : Int) + 1) % 4294967296)) = w7 at *
  obtain ⟨f0, f1, f2, f3, f4, f5⟩ := effcells HT7.out (rg (put R na (im z)) (nx pc))
  have HF := hide (HT7.out.rows (rg (put R na (im z)) (nx pc)) (effz : List Value) rfl)
  go_wp2_with (first
    | refine wpList_load_row rfl 25 _ rfl N rfl 25 (rg (put R na (im z)) (nx pc)).toArray (0, 0) _ HR7.out.out Tryd.underlying25 rfl (info_rg _ _) ?_
    | refine wpList_store_row rfl 25 _ _ rfl (N + 1) (rg (put R na (im z)) (nx pc)).toArray rfl rfl 25 _ HT7.out.a.out (info_rg _ _) (by rw [rg_size, rg_size]) (rg_one _ _) ?_)
  refine bodyPost_ret (results_rows2 rfl _ _ (N + 1) (N + 1 + 1) 25 28 _ _ _ _ rfl HF.out.a Tryd.underlying25 rfl (info_rg _ _) rfl HF.out.e Tryd.underlying28 rfl info_eff) rfl ?_
  subst hN
  exact ⟨rfl, HF.out.b⟩
set_option maxRecDepth 100000 in
set_option maxHeartbeats 3200000 in
theorem rexec_lui (hn : n < 4294967296) (hp : parts n = ⟨(no : Int), na, nb, z⟩) (hx : isI ⟨(no : Int), na, nb, z⟩ = true) (hR : RgOk R pc) (hc : no = 3) : Calls Tryd.prog 5 #[.agg (rg R pc).toArray, .int .u32 (n : Nat)] w fun e w' => e = .returned (.tuple #[.agg (rg (put R na (res 3 (R na) (R nb) (im z))) (nx pc)).toArray, .agg effz.toArray]) ∧ Below w.heap.size w w' := by
  have HC := hide hc
  clear hc
  have hi : decI n = ⟨(no : Int), na, nb, z⟩ := (decI_yes hp hx).1
  have he : decE n = 0 := (decI_yes hp hx).2
  have hI := isn.1 hx
  have ha : (na : Int) < 8 := (fitsB_range hI.a).2
  have hb8 : (nb : Int) < 8 := (fitsB_range hI.b).2
  have hzz := parts_imm n
  rw [hp] at hzz
  simp only at hzz
  clear hx hI hp
  have hz0 : (0 : Int) ≤ (na : Int) := by omega
  have hz00 : (0 : Int) ≤ (nb : Int) := by omega
  have hna : na < 8 := by omega
  have hnb : nb < 8 := by omega
  have hx32 := hR.r na hna
  have hy32 := hR.r nb hnb
  have hp32 := hR.p
  go_enter Tryd.func5, Tryd.ntmps5
  go_wp2_with fail
  refine (rdec_any _ n hn).mono ?_
  rw [hi, he]
  rintro e w4 ⟨rfl, hb⟩
  have hB := Bgn.new rfl hb
  clear hb hi he
  simp only [I.cells]
  obtain ⟨N, hN⟩ : ∃ N, w.heap.size = N := ⟨_, rfl⟩
  have hT : Two w w4 N := by subst hN; exact ⟨hB.r1, hB.e, hB.b, hB.b.size⟩
  have hr : Rb w4 N R pc := by subst hN; exact hB.r
  rw [hN]
  clear hB
  have b5 := bel1 w4 (.cells #[.int .i64 (no : Int), .int .i64 (na : Int), .int .i64 (nb : Int), .int .i64 z] 33)
  have hq := heap_alloc_last w4 (.cells #[.int .i64 (no : Int), .int .i64 (na : Int), .int .i64 (nb : Int), .int .i64 z] 33)
  have HT := hide (hT.below b5)
  have HR := hide (hr.below b5)
  obtain ⟨M, hM⟩ : ∃ M, w4.heap.size = M := ⟨_, rfl⟩
  have hNM : N < M := by rw [← hM]; exact hr.lt
  have hMN : M ≠ N + 1 ∧ M ≠ N + 1 + 1 := by
    have h1 := hT.a.lt
    have h2 := (Array.getElem?_eq_some_iff.1 hT.e).1
    omega
  clear hT hr b5
  go_upto_region 2 with fail
  generalize w4.alloc (.cells #[.int .i64 (no : Int), .int .i64 (na : Int), .int .i64 (nb : Int), .int .i64 z] 33) = w5 at *
  rw [hM] at hq
  have i0 : w5.cell? ⟨M, 0, none⟩ = some (.int .i64 (no : Int)) := by rw [cell_of_row _ _ _ _ _ _ hq]; rfl
  have i1 : w5.cell? ⟨M, 1, none⟩ = some (.int .i64 (na : Int)) := by rw [cell_of_row _ _ _ _ _ _ hq]; rfl
  have i2 : w5.cell? ⟨M, 2, none⟩ = some (.int .i64 (nb : Int)) := by rw [cell_of_row _ _ _ _ _ _ hq]; rfl
  have i3 : w5.cell? ⟨M, 3, none⟩ = some (.int .i64 z) := by rw [cell_of_row _ _ _ _ _ _ hq]; rfl
  have ra := HR.out.r hna
  have rb := HR.out.r hnb
  have HQ := hide hq
  clear hq hM
  have hyz : wrap64 ((R nb : Int) + z) = (R nb : Int) + z := by unfold wrap64; omega
  have hno : (no : Int) = 3 := by have := HC.out; omega
  have HV : Hid ((z * 65536 + (R na : Int) % 65536) % 4294967296 = ((res 3 (R na) (R nb) (im z) : Nat) : Int)) := hide (by show (z * 65536 + (R na : Int) % 65536) % 4294967296 = ((im z * 65536 % 4294967296 + R na % 65536 : Nat) : Int); unfold im; omega)
  have hwz : wrap64 (z * 65536) = z * 65536 := by unfold wrap64; omega
  have hws : wrap64 (z * 65536 + (R na : Int) % 65536) = z * 65536 + (R na : Int) % 65536 := by unfold wrap64; omega
  have hwz2 : IntKind.i64.wrap (z * 65536) = z * 65536 := by rw [IntKind.wrap_i64]; omega
  have hws2 : IntKind.i64.wrap (z * 65536 + (R na : Int) % 65536) = z * 65536 + (R na : Int) % 65536 := by rw [IntKind.wrap_i64]; omega
  go_upto_region 18 with (go_at_call 11; refine (word_any _ _).mono ?_; rintro e9 w9 ⟨rfl, hw9⟩; rw [hw9]; clear hw9 w9)
  have cN : w5.cell? ⟨N, na, none⟩ = some (.int .u32 (R na : Nat)) := HR.out.r hna
  have fN := HR.out.frz na
  obtain ⟨wd, hdx⟩ : ∃ v, v = w5.drew := ⟨_, rfl⟩
  have HS : Hid (wd.cell? ⟨M, 1, none⟩ = some (.int .i64 (na : Int)) ∧ wd.cell? ⟨M, 3, none⟩ = some (.int .i64 z)) := hide (by rw [hdx]; exact ⟨i1, i3⟩)
  have cN' : wd.cell? ⟨N, na, none⟩ = some (.int .u32 (R na : Nat)) := by rw [hdx]; exact cN
  have fN' : wd.frozen? ⟨N, na, none⟩ = false := by rw [hdx]; exact fN
  have HTd : Hid (Two w wd N) := hide (by rw [hdx]; exact HT.out.drew)
  have HRd : Hid (Rb wd N R pc) := hide (by rw [hdx]; exact ⟨HR.out.out⟩)
  refine wp_region_held_drew (S := fun W => W.cell? ⟨M, 1, none⟩ = some (.int .i64 (na : Int)) ∧ W.cell? ⟨M, 3, none⟩ = some (.int .i64 z)) (by kernel_rfl) (by rw [← hdx]; exact HS.out) (fun _ => ?_)
  rw [← hdx]
  clear hdx HT HR i0 i1 i2 i3 ra rb HQ cN fN
  refine hd_take 0 (o := ⟨some 77, _, _, _, _, _⟩) (.pointer (some ⟨M, 1, none⟩)) (by kernel_rfl) (by kernel_rfl) (by kernel_rfl) rfl (by rfl) (fun W hSw => by go_simp) (fun _ _ _ h => h) HS.out ?_
  try simp only [Act.put, List.setIfInBounds_toArray, List.set_cons_zero, List.set_cons_succ]
  refine hd_take 1 (o := ⟨some 78, _, _, _, _, _⟩) (.int .i64 (na : Int)) (by kernel_rfl) (by kernel_rfl) (by kernel_rfl) rfl (by rfl) (fun W hSw => by obtain ⟨s1, s3⟩ := hSw; go_simp) (fun _ _ _ h => h) HS.out ?_
  try simp only [Act.put, List.setIfInBounds_toArray, List.set_cons_zero, List.set_cons_succ]
  refine hd_take 2 (o := ⟨some 79, _, _, _, _, _⟩) (.pointer (some ⟨M, 3, none⟩)) (by kernel_rfl) (by kernel_rfl) (by kernel_rfl) rfl (by rfl) (fun W hSw => by go_simp) (fun _ _ _ h => h) HS.out ?_
  try simp only [Act.put, List.setIfInBounds_toArray, List.set_cons_zero, List.set_cons_succ]
  refine hd_take 3 (o := ⟨some 80, _, _, _, _, _⟩) (.int .i64 z) (by kernel_rfl) (by kernel_rfl) (by kernel_rfl) rfl (by rfl) (fun W hSw => by obtain ⟨s1, s3⟩ := hSw; go_simp) (fun _ _ _ h => h) HS.out ?_
  try simp only [Act.put, List.setIfInBounds_toArray, List.set_cons_zero, List.set_cons_succ]
  refine hd_take 4 (o := ⟨some 81, _, _, _, _, _⟩) (.int .i64 (z * 65536)) (by kernel_rfl) (by kernel_rfl) (by kernel_rfl) rfl (by rfl) (fun W hSw => by go_simp) (fun _ _ _ h => h) HS.out ?_
  try simp only [Act.put, List.setIfInBounds_toArray, List.set_cons_zero, List.set_cons_succ]
  refine hd_take 5 (o := ⟨some 82, _, _, _, _, _⟩) (.int .i64 (R na : Int)) (by kernel_rfl) (by kernel_rfl) (by kernel_rfl) rfl (by rfl) (fun W hSw => by go_simp) (fun _ _ _ h => h) HS.out ?_
  try simp only [Act.put, List.setIfInBounds_toArray, List.set_cons_zero, List.set_cons_succ]
  refine hd_take 6 (o := ⟨some 83, _, _, _, _, _⟩) (.int .i64 ((R na : Int) % 65536)) (by kernel_rfl) (by kernel_rfl) (by kernel_rfl) rfl (by rfl) (fun W hSw => by go_simp; exact Int.tmod_eq_emod_of_nonneg (by omega)) (fun _ _ _ h => h) HS.out ?_
  try simp only [Act.put, List.setIfInBounds_toArray, List.set_cons_zero, List.set_cons_succ]
  refine hd_take 7 (o := ⟨some 84, _, _, _, _, _⟩) (.int .i64 (z * 65536 + (R na : Int) % 65536)) (by kernel_rfl) (by kernel_rfl) (by kernel_rfl) rfl (by rfl) (fun W hSw => by go_simp) (fun _ _ _ h => h) HS.out ?_
  try simp only [Act.put, List.setIfInBounds_toArray, List.set_cons_zero, List.set_cons_succ]
  refine hd_take 9 (o := ⟨some 86, _, _, _, _, _⟩) (.pointer (some ⟨N, 0, none⟩)) (by kernel_rfl) (by kernel_rfl) (by kernel_rfl) rfl (by rfl) (fun W hSw => by go_simp) (fun _ _ _ h => h) HS.out ?_
  try simp only [Act.put, List.setIfInBounds_toArray, List.set_cons_zero, List.set_cons_succ]
  refine hd_call 8 (o := ⟨some 85, _, _, _, _, _⟩) (by kernel_rfl) rfl (by rfl) (fun K hK => ?_)
  go_simp
  go_wp2_with (go_at_call 11; refine (word_any _ _).mono ?_; rintro e9 w9 ⟨rfl, hw9⟩; rw [hw9]; clear hw9 w9)
  refine hK _ _ HS.out ?_
  clear hK K
  try simp only [Act.put, List.setIfInBounds_toArray, List.set_cons_zero, List.set_cons_succ]
  refine hd_take 10 (o := ⟨some 87, _, _, _, _, _⟩) (.pointer (some ⟨N, na, none⟩)) (by kernel_rfl) (by kernel_rfl) (by kernel_rfl) rfl (by rfl) (fun W hSw => by go_simp) (fun _ _ _ h => h) HS.out ?_
  try simp only [Act.put, List.setIfInBounds_toArray, List.set_cons_zero, List.set_cons_succ]
  rw [HV.out]
  refine hd_call 11 (o := ⟨none, _, _, _, _, _⟩) (by kernel_rfl) rfl (by rfl) (fun K hK => ?_)
  go_simp
  have HX := hide ((HTd.out.setCell na (.int .u32 ((res 3 (R na) (R nb) (im z) : Nat) : Int))))
  have HY := hide (HRd.out.put hna (res 3 (R na) (R nb) (im z)))
  refine hK _ _ ⟨by rw [World.cell?_setCell_far _ _ _ _ (by show N ≠ M; omega)]; exact HS.out.1, by rw [World.cell?_setCell_far _ _ _ _ (by show N ≠ M; omega)]; exact HS.out.2⟩ ?_
  clear hK K HS
  refine wpAnyH_done (by kernel_rfl) ?_ _
  clear HTd HRd cN' fN'
  generalize wd.setCell ⟨N, na, none⟩ (.int .u32 ((res 3 (R na) (R nb) (im z) : Nat) : Int)) = w6 at *
  have p8 := HY.out.p
  have z8 := HY.out.frz
  go_upto_region 34 with (go_at_call 11; refine (word_any _ _).mono ?_; rintro e9 w9 ⟨rfl, hw9⟩; rw [hw9]; clear hw9 w9)
  have HT7 := hide (HX.out.setCell 8 (.int .u32 (((pc : Int) + 1) % 4294967296)))
  have HR7 := hide (rb_nx HY.out)
  clear HX HY p8 z8
  generalize w6.setCell ⟨N, 8, none⟩ (.int .u32 (((pc : Int) + 1) % 4294967296)) = w7 at *
  obtain ⟨f0, f1, f2, f3, f4, f5⟩ := effcells HT7.out (rg (put R na (res 3 (R na) (R nb) (im z))) (nx pc))
  have HF := hide (HT7.out.rows (rg (put R na (res 3 (R na) (R nb) (im z))) (nx pc)) (effz : List Value) rfl)
  go_wp2_with (first
    | refine wpList_load_row rfl 25 _ rfl N rfl 25 (rg (put R na (res 3 (R na) (R nb) (im z))) (nx pc)).toArray (0, 0) _ HR7.out.out Tryd.underlying25 rfl (info_rg _ _) ?_
    | refine wpList_store_row rfl 25 _ _ rfl (N + 1) (rg (put R na (res 3 (R na) (R nb) (im z))) (nx pc)).toArray rfl rfl 25 _ HT7.out.a.out (info_rg _ _) (by rw [rg_size, rg_size]) (rg_one _ _) ?_)
  refine bodyPost_ret (results_rows2 rfl _ _ (N + 1) (N + 1 + 1) 25 28 _ _ _ _ rfl HF.out.a Tryd.underlying25 rfl (info_rg _ _) rfl HF.out.e Tryd.underlying28 rfl info_eff) rfl ?_
  subst hN
  exact ⟨rfl, HF.out.b⟩
set_option maxRecDepth 100000 in
set_option maxHeartbeats 3200000 in
theorem rexec_op (hn : n < 4294967296) (hp : parts n = ⟨(no : Int), na, nb, z⟩) (hx : isI ⟨(no : Int), na, nb, z⟩ = true) (hR : RgOk R pc) (hc : 4 ≤ no ∧ no ≤ 17 ∧ (no = 8 ∨ no = 9 → R nb ≠ 0)) : Calls Tryd.prog 5 #[.agg (rg R pc).toArray, .int .u32 (n : Nat)] w fun e w' => e = .returned (.tuple #[.agg (rg (put R na (res no (R na) (R nb) (im z))) (nx pc)).toArray, .agg effz.toArray]) ∧ Below w.heap.size w w' := by
  have HC := hide hc
  clear hc
  have hi : decI n = ⟨(no : Int), na, nb, z⟩ := (decI_yes hp hx).1
  have he : decE n = 0 := (decI_yes hp hx).2
  have hI := isn.1 hx
  have ha : (na : Int) < 8 := (fitsB_range hI.a).2
  have hb8 : (nb : Int) < 8 := (fitsB_range hI.b).2
  have hzz := parts_imm n
  rw [hp] at hzz
  simp only at hzz
  clear hx hI hp
  have hz0 : (0 : Int) ≤ (na : Int) := by omega
  have hz00 : (0 : Int) ≤ (nb : Int) := by omega
  have hna : na < 8 := by omega
  have hnb : nb < 8 := by omega
  have hx32 := hR.r na hna
  have hy32 := hR.r nb hnb
  have hp32 := hR.p
  go_enter Tryd.func5, Tryd.ntmps5
  go_wp2_with fail
  refine (rdec_any _ n hn).mono ?_
  rw [hi, he]
  rintro e w4 ⟨rfl, hb⟩
  have hB := Bgn.new rfl hb
  clear hb hi he
  simp only [I.cells]
  obtain ⟨N, hN⟩ : ∃ N, w.heap.size = N := ⟨_, rfl⟩
  have hT : Two w w4 N := by subst hN; exact ⟨hB.r1, hB.e, hB.b, hB.b.size⟩
  have hr : Rb w4 N R pc := by subst hN; exact hB.r
  rw [hN]
  clear hB
  have b5 := bel1 w4 (.cells #[.int .i64 (no : Int), .int .i64 (na : Int), .int .i64 (nb : Int), .int .i64 z] 33)
  have hq := heap_alloc_last w4 (.cells #[.int .i64 (no : Int), .int .i64 (na : Int), .int .i64 (nb : Int), .int .i64 z] 33)
  have HT := hide (hT.below b5)
  have HR := hide (hr.below b5)
  obtain ⟨M, hM⟩ : ∃ M, w4.heap.size = M := ⟨_, rfl⟩
  have hNM : N < M := by rw [← hM]; exact hr.lt
  have hMN : M ≠ N + 1 ∧ M ≠ N + 1 + 1 := by
    have h1 := hT.a.lt
    have h2 := (Array.getElem?_eq_some_iff.1 hT.e).1
    omega
  clear hT hr b5
  go_upto_region 2 with fail
  generalize w4.alloc (.cells #[.int .i64 (no : Int), .int .i64 (na : Int), .int .i64 (nb : Int), .int .i64 z] 33) = w5 at *
  rw [hM] at hq
  have i0 : w5.cell? ⟨M, 0, none⟩ = some (.int .i64 (no : Int)) := by rw [cell_of_row _ _ _ _ _ _ hq]; rfl
  have i1 : w5.cell? ⟨M, 1, none⟩ = some (.int .i64 (na : Int)) := by rw [cell_of_row _ _ _ _ _ _ hq]; rfl
  have i2 : w5.cell? ⟨M, 2, none⟩ = some (.int .i64 (nb : Int)) := by rw [cell_of_row _ _ _ _ _ _ hq]; rfl
  have i3 : w5.cell? ⟨M, 3, none⟩ = some (.int .i64 z) := by rw [cell_of_row _ _ _ _ _ _ hq]; rfl
  have ra := HR.out.r hna
  have rb := HR.out.r hnb
  have HQ := hide hq
  clear hq hM
  have hyz : wrap64 ((R nb : Int) + z) = (R nb : Int) + z := by unfold wrap64; omega
  have hcc := HC.out
  have q1 : ((no : Int) == 1) = false := by simp; omega
  have q2 : ((no : Int) == 2) = false := by simp; omega
  have q3 : ((no : Int) == 3) = false := by simp; omega
  have q19 : ((no : Int) == 19) = false := by simp; omega
  have q20 : ((no : Int) == 20) = false := by simp; omega
  have q21 : ((no : Int) == 21) = false := by simp; omega
  have q22 : ((no : Int) == 22) = false := by simp; omega
  have q23 : ((no : Int) == 23) = false := by simp; omega
  have q24 : ((no : Int) == 24) = false := by simp; omega
  have q25 : ((no : Int) == 25) = false := by simp; omega
  have q26 : ((no : Int) == 26) = false := by simp; omega
  have q18 : ((no : Int) == 18) = false := by simp; omega
  obtain ⟨v, hv⟩ : ∃ v, v = rk no (R na : Int) ((R nb : Int)) := ⟨_, rfl⟩
  have HV : Hid (v % 4294967296 = ((res no (R na) (R nb) (im z) : Nat) : Int)) := hide (by rw [hv]; exact rk_res hx32 hy32 hcc)
  have HRk := hide (fun W => reck_op W no (R na) (R nb) hx32 hy32 hcc)
  rw [← hv] at HRk
  clear hv hcc
  go_upto_region 7 with (go_at_call 11; refine (word_any _ _).mono ?_; rintro e9 w9 ⟨rfl, hw9⟩; rw [hw9]; clear hw9 w9)
  go_upto_region 10 with fail
  go_wp2_with fail
  refine (HRk.out _).mono ?_
  rintro e w9 ⟨rfl, hw9⟩
  rw [hw9]
  clear hw9 w9
  go_upto_region 13 with fail
  have cN : w5.cell? ⟨N, na, none⟩ = some (.int .u32 (R na : Nat)) := HR.out.r hna
  have fN := HR.out.frz na
  obtain ⟨wd, hdx⟩ : ∃ v, v = w5.drew := ⟨_, rfl⟩
  have HS : Hid (wd.cell? ⟨M, 1, none⟩ = some (.int .i64 (na : Int)) ∧ wd.cell? ⟨M, 3, none⟩ = some (.int .i64 z)) := hide (by rw [hdx]; exact ⟨i1, i3⟩)
  have cN' : wd.cell? ⟨N, na, none⟩ = some (.int .u32 (R na : Nat)) := by rw [hdx]; exact cN
  have fN' : wd.frozen? ⟨N, na, none⟩ = false := by rw [hdx]; exact fN
  have HTd : Hid (Two w wd N) := hide (by rw [hdx]; exact HT.out.drew)
  have HRd : Hid (Rb wd N R pc) := hide (by rw [hdx]; exact ⟨HR.out.out⟩)
  refine wp_region_held_drew (S := fun W => W.cell? ⟨M, 1, none⟩ = some (.int .i64 (na : Int)) ∧ W.cell? ⟨M, 3, none⟩ = some (.int .i64 z)) (by kernel_rfl) (by rw [← hdx]; exact HS.out) (fun _ => ?_)
  rw [← hdx]
  clear hdx HT HR i0 i1 i2 i3 ra rb HQ cN fN
  refine hd_take 0 (o := ⟨some 58, _, _, _, _, _⟩) (.pointer (some ⟨M, 1, none⟩)) (by kernel_rfl) (by kernel_rfl) (by kernel_rfl) rfl (by rfl) (fun W hSw => by go_simp) (fun _ _ _ h => h) HS.out ?_
  try simp only [Act.put, List.setIfInBounds_toArray, List.set_cons_zero, List.set_cons_succ]
  refine hd_take 1 (o := ⟨some 59, _, _, _, _, _⟩) (.int .i64 (na : Int)) (by kernel_rfl) (by kernel_rfl) (by kernel_rfl) rfl (by rfl) (fun W hSw => by obtain ⟨s1, s3⟩ := hSw; go_simp) (fun _ _ _ h => h) HS.out ?_
  try simp only [Act.put, List.setIfInBounds_toArray, List.set_cons_zero, List.set_cons_succ]
  refine hd_take 2 (o := ⟨some 60, _, _, _, _, _⟩) (.int .i64 v) (by kernel_rfl) (by kernel_rfl) (by kernel_rfl) rfl (by rfl) (fun W hSw => by go_simp) (fun _ _ _ h => h) HS.out ?_
  try simp only [Act.put, List.setIfInBounds_toArray, List.set_cons_zero, List.set_cons_succ]
  refine hd_take 4 (o := ⟨some 62, _, _, _, _, _⟩) (.pointer (some ⟨N, 0, none⟩)) (by kernel_rfl) (by kernel_rfl) (by kernel_rfl) rfl (by rfl) (fun W hSw => by go_simp) (fun _ _ _ h => h) HS.out ?_
  try simp only [Act.put, List.setIfInBounds_toArray, List.set_cons_zero, List.set_cons_succ]
  refine hd_call 3 (o := ⟨some 61, _, _, _, _, _⟩) (by kernel_rfl) rfl (by rfl) (fun K hK => ?_)
  go_simp
  go_wp2_with (go_at_call 11; refine (word_any _ _).mono ?_; rintro e9 w9 ⟨rfl, hw9⟩; rw [hw9]; clear hw9 w9)
  refine hK _ _ HS.out ?_
  clear hK K
  try simp only [Act.put, List.setIfInBounds_toArray, List.set_cons_zero, List.set_cons_succ]
  refine hd_take 5 (o := ⟨some 63, _, _, _, _, _⟩) (.pointer (some ⟨N, na, none⟩)) (by kernel_rfl) (by kernel_rfl) (by kernel_rfl) rfl (by rfl) (fun W hSw => by go_simp) (fun _ _ _ h => h) HS.out ?_
  try simp only [Act.put, List.setIfInBounds_toArray, List.set_cons_zero, List.set_cons_succ]
  rw [HV.out]
  refine hd_call 6 (o := ⟨none, _, _, _, _, _⟩) (by kernel_rfl) rfl (by rfl) (fun K hK => ?_)
  go_simp
  have HX := hide ((HTd.out.setCell na (.int .u32 ((res no (R na) (R nb) (im z) : Nat) : Int))))
  have HY := hide (HRd.out.put hna (res no (R na) (R nb) (im z)))
  refine hK _ _ ⟨by rw [World.cell?_setCell_far _ _ _ _ (by show N ≠ M; omega)]; exact HS.out.1, by rw [World.cell?_setCell_far _ _ _ _ (by show N ≠ M; omega)]; exact HS.out.2⟩ ?_
  clear hK K HS
  refine wpAnyH_done (by kernel_rfl) ?_ _
  clear HTd HRd cN' fN'
  generalize wd.setCell ⟨N, na, none⟩ (.int .u32 ((res no (R na) (R nb) (im z) : Nat) : Int)) = w6 at *
  have p8 := HY.out.p
  have z8 := HY.out.frz
  go_upto_region 34 with (go_at_call 11; refine (word_any _ _).mono ?_; rintro e9 w9 ⟨rfl, hw9⟩; rw [hw9]; clear hw9 w9)
  have HT7 := hide (HX.out.setCell 8 (.int .u32 (((pc : Int) + 1) % 4294967296)))
  have HR7 := hide (rb_nx HY.out)
  clear HX HY p8 z8
  generalize w6.setCell ⟨N, 8, none⟩ (.int .u32 (((pc : Int) + 1) % 4294967296)) = w7 at *
  obtain ⟨f0, f1, f2, f3, f4, f5⟩ := effcells HT7.out (rg (put R na (res no (R na) (R nb) (im z))) (nx pc))
  have HF := hide (HT7.out.rows (rg (put R na (res no (R na) (R nb) (im z))) (nx pc)) (effz : List Value) rfl)
  go_wp2_with (first
    | refine wpList_load_row rfl 25 _ rfl N rfl 25 (rg (put R na (res no (R na) (R nb) (im z))) (nx pc)).toArray (0, 0) _ HR7.out.out Tryd.underlying25 rfl (info_rg _ _) ?_
    | refine wpList_store_row rfl 25 _ _ rfl (N + 1) (rg (put R na (res no (R na) (R nb) (im z))) (nx pc)).toArray rfl rfl 25 _ HT7.out.a.out (info_rg _ _) (by rw [rg_size, rg_size]) (rg_one _ _) ?_)
  refine bodyPost_ret (results_rows2 rfl _ _ (N + 1) (N + 1 + 1) 25 28 _ _ _ _ rfl HF.out.a Tryd.underlying25 rfl (info_rg _ _) rfl HF.out.e Tryd.underlying28 rfl info_eff) rfl ?_
  subst hN
  exact ⟨rfl, HF.out.b⟩
set_option maxRecDepth 100000 in
set_option maxHeartbeats 3200000 in
theorem rexec_addi (hn : n < 4294967296) (hp : parts n = ⟨(no : Int), na, nb, z⟩) (hx : isI ⟨(no : Int), na, nb, z⟩ = true) (hR : RgOk R pc) (hc : no = 18) : Calls Tryd.prog 5 #[.agg (rg R pc).toArray, .int .u32 (n : Nat)] w fun e w' => e = .returned (.tuple #[.agg (rg (put R na (res no (R na) (R nb) (im z))) (nx pc)).toArray, .agg effz.toArray]) ∧ Below w.heap.size w w' := by
  have HC := hide hc
  clear hc
  have hi : decI n = ⟨(no : Int), na, nb, z⟩ := (decI_yes hp hx).1
  have he : decE n = 0 := (decI_yes hp hx).2
  have hI := isn.1 hx
  have ha : (na : Int) < 8 := (fitsB_range hI.a).2
  have hb8 : (nb : Int) < 8 := (fitsB_range hI.b).2
  have hzz := parts_imm n
  rw [hp] at hzz
  simp only at hzz
  clear hx hI hp
  have hz0 : (0 : Int) ≤ (na : Int) := by omega
  have hz00 : (0 : Int) ≤ (nb : Int) := by omega
  have hna : na < 8 := by omega
  have hnb : nb < 8 := by omega
  have hx32 := hR.r na hna
  have hy32 := hR.r nb hnb
  have hp32 := hR.p
  go_enter Tryd.func5, Tryd.ntmps5
  go_wp2_with fail
  refine (rdec_any _ n hn).mono ?_
  rw [hi, he]
  rintro e w4 ⟨rfl, hb⟩
  have hB := Bgn.new rfl hb
  clear hb hi he
  simp only [I.cells]
  obtain ⟨N, hN⟩ : ∃ N, w.heap.size = N := ⟨_, rfl⟩
  have hT : Two w w4 N := by subst hN; exact ⟨hB.r1, hB.e, hB.b, hB.b.size⟩
  have hr : Rb w4 N R pc := by subst hN; exact hB.r
  rw [hN]
  clear hB
  have b5 := bel1 w4 (.cells #[.int .i64 (no : Int), .int .i64 (na : Int), .int .i64 (nb : Int), .int .i64 z] 33)
  have hq := heap_alloc_last w4 (.cells #[.int .i64 (no : Int), .int .i64 (na : Int), .int .i64 (nb : Int), .int .i64 z] 33)
  have HT := hide (hT.below b5)
  have HR := hide (hr.below b5)
  obtain ⟨M, hM⟩ : ∃ M, w4.heap.size = M := ⟨_, rfl⟩
  have hNM : N < M := by rw [← hM]; exact hr.lt
  have hMN : M ≠ N + 1 ∧ M ≠ N + 1 + 1 := by
    have h1 := hT.a.lt
    have h2 := (Array.getElem?_eq_some_iff.1 hT.e).1
    omega
  clear hT hr b5
  go_upto_region 2 with fail
  generalize w4.alloc (.cells #[.int .i64 (no : Int), .int .i64 (na : Int), .int .i64 (nb : Int), .int .i64 z] 33) = w5 at *
  rw [hM] at hq
  have i0 : w5.cell? ⟨M, 0, none⟩ = some (.int .i64 (no : Int)) := by rw [cell_of_row _ _ _ _ _ _ hq]; rfl
  have i1 : w5.cell? ⟨M, 1, none⟩ = some (.int .i64 (na : Int)) := by rw [cell_of_row _ _ _ _ _ _ hq]; rfl
  have i2 : w5.cell? ⟨M, 2, none⟩ = some (.int .i64 (nb : Int)) := by rw [cell_of_row _ _ _ _ _ _ hq]; rfl
  have i3 : w5.cell? ⟨M, 3, none⟩ = some (.int .i64 z) := by rw [cell_of_row _ _ _ _ _ _ hq]; rfl
  have ra := HR.out.r hna
  have rb := HR.out.r hnb
  have HQ := hide hq
  clear hq hM
  have hyz : wrap64 ((R nb : Int) + z) = (R nb : Int) + z := by unfold wrap64; omega
  have hcc := HC.out
  have q1 : ((no : Int) == 1) = false := by simp; omega
  have q2 : ((no : Int) == 2) = false := by simp; omega
  have q3 : ((no : Int) == 3) = false := by simp; omega
  have q19 : ((no : Int) == 19) = false := by simp; omega
  have q20 : ((no : Int) == 20) = false := by simp; omega
  have q21 : ((no : Int) == 21) = false := by simp; omega
  have q22 : ((no : Int) == 22) = false := by simp; omega
  have q23 : ((no : Int) == 23) = false := by simp; omega
  have q24 : ((no : Int) == 24) = false := by simp; omega
  have q25 : ((no : Int) == 25) = false := by simp; omega
  have q26 : ((no : Int) == 26) = false := by simp; omega
  have q18 : ((no : Int) == 18) = true := by simp; omega
  obtain ⟨v, hv⟩ : ∃ v, v = rk no (R na : Int) (z) := ⟨_, rfl⟩
  have HV : Hid (v % 4294967296 = ((res no (R na) (R nb) (im z) : Nat) : Int)) := hide (by rw [hv]; exact (by rw [hcc]; show ((R na : Int) + z) % 4294967296 = (((R na + im z) % 4294967296 : Nat) : Int); unfold im; omega))
  have HRk := hide (fun W => (by have h9 := reck_sum W no (by omega) (R na : Int) z (by omega) (by omega); exact h9))
  rw [← hv] at HRk
  clear hv hcc
  go_upto_region 7 with (go_at_call 11; refine (word_any _ _).mono ?_; rintro e9 w9 ⟨rfl, hw9⟩; rw [hw9]; clear hw9 w9)
  go_upto_region 10 with fail
  go_wp2_with fail
  refine (HRk.out _).mono ?_
  rintro e w9 ⟨rfl, hw9⟩
  rw [hw9]
  clear hw9 w9
  go_upto_region 13 with fail
  have cN : w5.cell? ⟨N, na, none⟩ = some (.int .u32 (R na : Nat)) := HR.out.r hna
  have fN := HR.out.frz na
  obtain ⟨wd, hdx⟩ : ∃ v, v = w5.drew := ⟨_, rfl⟩
  have HS : Hid (wd.cell? ⟨M, 1, none⟩ = some (.int .i64 (na : Int)) ∧ wd.cell? ⟨M, 3, none⟩ = some (.int .i64 z)) := hide (by rw [hdx]; exact ⟨i1, i3⟩)
  have cN' : wd.cell? ⟨N, na, none⟩ = some (.int .u32 (R na : Nat)) := by rw [hdx]; exact cN
  have fN' : wd.frozen? ⟨N, na, none⟩ = false := by rw [hdx]; exact fN
  have HTd : Hid (Two w wd N) := hide (by rw [hdx]; exact HT.out.drew)
  have HRd : Hid (Rb wd N R pc) := hide (by rw [hdx]; exact ⟨HR.out.out⟩)
  refine wp_region_held_drew (S := fun W => W.cell? ⟨M, 1, none⟩ = some (.int .i64 (na : Int)) ∧ W.cell? ⟨M, 3, none⟩ = some (.int .i64 z)) (by kernel_rfl) (by rw [← hdx]; exact HS.out) (fun _ => ?_)
  rw [← hdx]
  clear hdx HT HR i0 i1 i2 i3 ra rb HQ cN fN
  refine hd_take 0 (o := ⟨some 58, _, _, _, _, _⟩) (.pointer (some ⟨M, 1, none⟩)) (by kernel_rfl) (by kernel_rfl) (by kernel_rfl) rfl (by rfl) (fun W hSw => by go_simp) (fun _ _ _ h => h) HS.out ?_
  try simp only [Act.put, List.setIfInBounds_toArray, List.set_cons_zero, List.set_cons_succ]
  refine hd_take 1 (o := ⟨some 59, _, _, _, _, _⟩) (.int .i64 (na : Int)) (by kernel_rfl) (by kernel_rfl) (by kernel_rfl) rfl (by rfl) (fun W hSw => by obtain ⟨s1, s3⟩ := hSw; go_simp) (fun _ _ _ h => h) HS.out ?_
  try simp only [Act.put, List.setIfInBounds_toArray, List.set_cons_zero, List.set_cons_succ]
  refine hd_take 2 (o := ⟨some 60, _, _, _, _, _⟩) (.int .i64 v) (by kernel_rfl) (by kernel_rfl) (by kernel_rfl) rfl (by rfl) (fun W hSw => by go_simp) (fun _ _ _ h => h) HS.out ?_
  try simp only [Act.put, List.setIfInBounds_toArray, List.set_cons_zero, List.set_cons_succ]
  refine hd_take 4 (o := ⟨some 62, _, _, _, _, _⟩) (.pointer (some ⟨N, 0, none⟩)) (by kernel_rfl) (by kernel_rfl) (by kernel_rfl) rfl (by rfl) (fun W hSw => by go_simp) (fun _ _ _ h => h) HS.out ?_
  try simp only [Act.put, List.setIfInBounds_toArray, List.set_cons_zero, List.set_cons_succ]
  refine hd_call 3 (o := ⟨some 61, _, _, _, _, _⟩) (by kernel_rfl) rfl (by rfl) (fun K hK => ?_)
  go_simp
  go_wp2_with (go_at_call 11; refine (word_any _ _).mono ?_; rintro e9 w9 ⟨rfl, hw9⟩; rw [hw9]; clear hw9 w9)
  refine hK _ _ HS.out ?_
  clear hK K
  try simp only [Act.put, List.setIfInBounds_toArray, List.set_cons_zero, List.set_cons_succ]
  refine hd_take 5 (o := ⟨some 63, _, _, _, _, _⟩) (.pointer (some ⟨N, na, none⟩)) (by kernel_rfl) (by kernel_rfl) (by kernel_rfl) rfl (by rfl) (fun W hSw => by go_simp) (fun _ _ _ h => h) HS.out ?_
  try simp only [Act.put, List.setIfInBounds_toArray, List.set_cons_zero, List.set_cons_succ]
  rw [HV.out]
  refine hd_call 6 (o := ⟨none, _, _, _, _, _⟩) (by kernel_rfl) rfl (by rfl) (fun K hK => ?_)
  go_simp
  have HX := hide ((HTd.out.setCell na (.int .u32 ((res no (R na) (R nb) (im z) : Nat) : Int))))
  have HY := hide (HRd.out.put hna (res no (R na) (R nb) (im z)))
  refine hK _ _ ⟨by rw [World.cell?_setCell_far _ _ _ _ (by show N ≠ M; omega)]; exact HS.out.1, by rw [World.cell?_setCell_far _ _ _ _ (by show N ≠ M; omega)]; exact HS.out.2⟩ ?_
  clear hK K HS
  refine wpAnyH_done (by kernel_rfl) ?_ _
  clear HTd HRd cN' fN'
  generalize wd.setCell ⟨N, na, none⟩ (.int .u32 ((res no (R na) (R nb) (im z) : Nat) : Int)) = w6 at *
  have p8 := HY.out.p
  have z8 := HY.out.frz
  go_upto_region 34 with (go_at_call 11; refine (word_any _ _).mono ?_; rintro e9 w9 ⟨rfl, hw9⟩; rw [hw9]; clear hw9 w9)
  have HT7 := hide (HX.out.setCell 8 (.int .u32 (((pc : Int) + 1) % 4294967296)))
  have HR7 := hide (rb_nx HY.out)
  clear HX HY p8 z8
  generalize w6.setCell ⟨N, 8, none⟩ (.int .u32 (((pc : Int) + 1) % 4294967296)) = w7 at *
  obtain ⟨f0, f1, f2, f3, f4, f5⟩ := effcells HT7.out (rg (put R na (res no (R na) (R nb) (im z))) (nx pc))
  have HF := hide (HT7.out.rows (rg (put R na (res no (R na) (R nb) (im z))) (nx pc)) (effz : List Value) rfl)
  go_wp2_with (first
    | refine wpList_load_row rfl 25 _ rfl N rfl 25 (rg (put R na (res no (R na) (R nb) (im z))) (nx pc)).toArray (0, 0) _ HR7.out.out Tryd.underlying25 rfl (info_rg _ _) ?_
    | refine wpList_store_row rfl 25 _ _ rfl (N + 1) (rg (put R na (res no (R na) (R nb) (im z))) (nx pc)).toArray rfl rfl 25 _ HT7.out.a.out (info_rg _ _) (by rw [rg_size, rg_size]) (rg_one _ _) ?_)
  refine bodyPost_ret (results_rows2 rfl _ _ (N + 1) (N + 1 + 1) 25 28 _ _ _ _ rfl HF.out.a Tryd.underlying25 rfl (info_rg _ _) rfl HF.out.e Tryd.underlying28 rfl info_eff) rfl ?_
  subst hN
  exact ⟨rfl, HF.out.b⟩
set_option maxRecDepth 100000 in
set_option maxHeartbeats 3200000 in
theorem rexec_div (hn : n < 4294967296) (hp : parts n = ⟨(no : Int), na, nb, z⟩) (hx : isI ⟨(no : Int), na, nb, z⟩ = true) (hR : RgOk R pc) (hc : (no = 8 ∨ no = 9) ∧ R nb = 0) : Calls Tryd.prog 5 #[.agg (rg R pc).toArray, .int .u32 (n : Nat)] w fun e w' => e = .returned (.tuple #[.agg (rg R pc).toArray, .agg (e5 4 0 0 0 73).toArray]) ∧ Below w.heap.size w w' := by
  have HC := hide hc
  clear hc
  have hi : decI n = ⟨(no : Int), na, nb, z⟩ := (decI_yes hp hx).1
  have he : decE n = 0 := (decI_yes hp hx).2
  have hI := isn.1 hx
  have ha : (na : Int) < 8 := (fitsB_range hI.a).2
  have hb8 : (nb : Int) < 8 := (fitsB_range hI.b).2
  have hzz := parts_imm n
  rw [hp] at hzz
  simp only at hzz
  clear hx hI hp
  have hz0 : (0 : Int) ≤ (na : Int) := by omega
  have hz00 : (0 : Int) ≤ (nb : Int) := by omega
  have hna : na < 8 := by omega
  have hnb : nb < 8 := by omega
  have hx32 := hR.r na hna
  have hy32 := hR.r nb hnb
  have hp32 := hR.p
  go_enter Tryd.func5, Tryd.ntmps5
  go_wp2_with fail
  refine (rdec_any _ n hn).mono ?_
  rw [hi, he]
  rintro e w4 ⟨rfl, hb⟩
  have hB := Bgn.new rfl hb
  clear hb hi he
  simp only [I.cells]
  obtain ⟨N, hN⟩ : ∃ N, w.heap.size = N := ⟨_, rfl⟩
  have hT : Two w w4 N := by subst hN; exact ⟨hB.r1, hB.e, hB.b, hB.b.size⟩
  have hr : Rb w4 N R pc := by subst hN; exact hB.r
  rw [hN]
  clear hB
  have b5 := bel1 w4 (.cells #[.int .i64 (no : Int), .int .i64 (na : Int), .int .i64 (nb : Int), .int .i64 z] 33)
  have hq := heap_alloc_last w4 (.cells #[.int .i64 (no : Int), .int .i64 (na : Int), .int .i64 (nb : Int), .int .i64 z] 33)
  have HT := hide (hT.below b5)
  have HR := hide (hr.below b5)
  obtain ⟨M, hM⟩ : ∃ M, w4.heap.size = M := ⟨_, rfl⟩
  have hNM : N < M := by rw [← hM]; exact hr.lt
  have hMN : M ≠ N + 1 ∧ M ≠ N + 1 + 1 := by
    have h1 := hT.a.lt
    have h2 := (Array.getElem?_eq_some_iff.1 hT.e).1
    omega
  clear hT hr b5
  go_upto_region 2 with fail
  generalize w4.alloc (.cells #[.int .i64 (no : Int), .int .i64 (na : Int), .int .i64 (nb : Int), .int .i64 z] 33) = w5 at *
  rw [hM] at hq
  have i0 : w5.cell? ⟨M, 0, none⟩ = some (.int .i64 (no : Int)) := by rw [cell_of_row _ _ _ _ _ _ hq]; rfl
  have i1 : w5.cell? ⟨M, 1, none⟩ = some (.int .i64 (na : Int)) := by rw [cell_of_row _ _ _ _ _ _ hq]; rfl
  have i2 : w5.cell? ⟨M, 2, none⟩ = some (.int .i64 (nb : Int)) := by rw [cell_of_row _ _ _ _ _ _ hq]; rfl
  have i3 : w5.cell? ⟨M, 3, none⟩ = some (.int .i64 z) := by rw [cell_of_row _ _ _ _ _ _ hq]; rfl
  have ra := HR.out.r hna
  have rb := HR.out.r hnb
  have HQ := hide hq
  clear hq hM
  have hyz : wrap64 ((R nb : Int) + z) = (R nb : Int) + z := by unfold wrap64; omega
  have hcc := HC.out
  have q1 : ((no : Int) == 1) = false := by simp; omega
  have q2 : ((no : Int) == 2) = false := by simp; omega
  have q3 : ((no : Int) == 3) = false := by simp; omega
  have q19 : ((no : Int) == 19) = false := by simp; omega
  have q20 : ((no : Int) == 20) = false := by simp; omega
  have q21 : ((no : Int) == 21) = false := by simp; omega
  have q22 : ((no : Int) == 22) = false := by simp; omega
  have q23 : ((no : Int) == 23) = false := by simp; omega
  have q24 : ((no : Int) == 24) = false := by simp; omega
  have q25 : ((no : Int) == 25) = false := by simp; omega
  have q26 : ((no : Int) == 26) = false := by simp; omega
  have q18 : ((no : Int) == 18) = false := by simp; omega
  have HRk := hide (fun W => reck_zero W no hcc.1 (R na : Int))
  have hy0 := hcc.2
  clear hcc
  have rb0 : w5.cell? ⟨N, nb, none⟩ = some (.int .u32 0) := by rw [rb, hy0]; rfl
  clear rb hyz
  have hyz : wrap64 z = z := by unfold wrap64; omega
  have hyz2 : wrap64 (0 + z) = z := by rw [Int.zero_add]; exact hyz
  go_upto_region 7 with (go_at_call 11; refine (word_any _ _).mono ?_; rintro e9 w9 ⟨rfl, hw9⟩; rw [hw9]; clear hw9 w9)
  go_upto_region 10 with fail
  go_wp2_with fail
  refine (HRk.out _).mono ?_
  rintro e w9 ⟨rfl, hw9⟩
  rw [hw9]
  clear hw9 w9 HRk
  go_upto_region 12 with fail
  clear i0 i1 i2 i3 ra rb0 HQ
  obtain ⟨f0, f1, f2, f3, f4, f5⟩ := effcells HT.out (rg (R) (pc))
  have HF := hide (HT.out.rows (rg (R) (pc)) (e5 4 0 0 0 73 : List Value) rfl)
  go_wp2_with (first
    | refine wpList_load_row rfl 25 _ rfl N rfl 25 (rg (R) (pc)).toArray (0, 0) _ HR.out.out Tryd.underlying25 rfl (info_rg _ _) ?_
    | refine wpList_store_row rfl 25 _ _ rfl (N + 1) (rg (R) (pc)).toArray rfl rfl 25 _ HT.out.a.out (info_rg _ _) (by rw [rg_size, rg_size]) (rg_one _ _) ?_)
  refine bodyPost_ret (results_rows2 rfl _ _ (N + 1) (N + 1 + 1) 25 28 _ _ _ _ rfl HF.out.a Tryd.underlying25 rfl (info_rg _ _) rfl HF.out.e Tryd.underlying28 rfl info_eff) rfl ?_
  subst hN
  exact ⟨rfl, HF.out.b⟩
end
end Go.Proofs.YtjhphhcmefeiiaaDoor
