import Derived.Test.YtoaplkfmchphbaaDoorS16
namespace Go.Proofs.YtoaplkfmchphbaaDoor
open Go.RowKit
theorem result_any (w : World) (x y imm : Nat) (hx : x < 4294967296) (hy : y < 4294967296) (hm : imm < 4294967296) (n : Nat) (h1 : 1 ≤ n) (h2 : n < 25) (h19 : n ≠ 19) (h20 : n ≠ 20) (h0 : n = 8 ∨ n = 9 → y ≠ 0) :
    Calls Tryd.prog 29 #[.int .i64 (n : Int), .int .u32 (x : Nat), .int .u32 (y : Nat), .int .u32 (imm : Nat)] w fun e w' => e = .returned (.int .u32 (res n x y imm : Nat)) ∧ w' = w := by
  have h : n = 1 ∨ n = 2 ∨ n = 3 ∨ n = 4 ∨ n = 5 ∨ n = 6 ∨ n = 7 ∨ n = 8 ∨ n = 9 ∨ n = 10 ∨ n = 11 ∨ n = 12 ∨ n = 13 ∨ n = 14 ∨ n = 15 ∨ n = 16 ∨ n = 17 ∨ n = 18 ∨ n = 21 ∨ n = 22 ∨ n = 23 ∨ n = 24 := by omega
  rcases h with rfl | rfl | rfl | rfl | rfl | rfl | rfl | rfl | rfl | rfl | rfl | rfl | rfl | rfl | rfl | rfl | rfl | rfl | rfl | rfl | rfl | rfl
  · exact result_1 w x y imm
  · exact result_2 w x y imm
  · exact result_3 w x y imm hx hy hm
  · exact result_4 w x y imm
  · exact result_5 w x y imm hx hy hm
  · exact result_6 w x y imm hx hy hm
  · exact result_7 w x y imm hx hy hm
  · exact result_8 w x y imm hx hy hm (h0 (by omega))
  · exact result_9 w x y imm hx hy hm (h0 (by omega))
  · exact result_10 w x y imm hx hy hm
  · exact result_11 w x y imm hx hy hm
  · exact result_12 w x y imm hx hy hm
  · exact result_13 w x y imm hx hy hm
  · exact result_14 w x y imm hx hy hm
  · exact result_15 w x y imm hx hy hm
  · exact result_16 w x y imm hx hy hm
  · exact result_17 w x y imm hx hy hm
  · exact result_18 w x y imm hx hy hm
  · exact result_21 w x y imm
  · exact result_22 w x y imm
  · exact result_23 w x y imm
  · exact result_24 w x y imm
def effz : List Value := e5 0 0 0 0 0
section
variable (w : World) (R : Nat → Nat) (pc n no na nb : Nat) (z : Int)
set_option maxRecDepth 100000 in
set_option maxHeartbeats 2000000 in
theorem exec_call (hn : n < 4294967296) (hp : parts n = ⟨(no : Int), na, nb, z⟩) (hx : isI ⟨(no : Int), na, nb, z⟩ = true) (hO : Ops w) (hno2 : no < 27) (hR : RgOk R pc) (h25 : no = 25) : Calls Tryd.prog 11 #[.agg (rg R pc).toArray, .int .u32 (n : Nat)] w fun e w' => e = .returned (.tuple #[.agg (rg (put R na (nx pc)) (tgt no (R na) (im z) (nx pc))).toArray, .agg effz.toArray]) ∧ Below w.heap.size w w' := by
  have H25 := hide h25
  clear h25
  have hi : decI n = ⟨(no : Int), na, nb, z⟩ := (decI_yes hp hx).1
  have he : decE n = 0 := (decI_yes hp hx).2
  have hbO : ∀ w4, Below w.heap.size w w4 → Ops w4 := fun w4 h => hO.below h
  have hI := isn.1 hx
  have ha : (na : Int) < 8 := (fitsB_range hI.a).2
  have hb8 : (nb : Int) < 8 := (fitsB_range hI.b).2
  have hz1 := hI.imm.1
  have hz2 := hI.imm.2
  have HI := hide hI
  clear hO hx hI hp
  have hz0 : (0 : Int) ≤ (na : Int) := by omega
  have hz00 : (0 : Int) ≤ (nb : Int) := by omega
  have hna : na < 8 := by omega
  have hnb : nb < 8 := by omega
  simp only at hz1 hz2
  go_enter Tryd.func11, Tryd.ntmps11
  go_wp2_with fail
  refine (dec_any _ n hn ?_).mono ?_
  · exact hbO _ (((bel2 w _ _).trans ((bel1 _ _).mono (by simp; omega))))
  rw [hi, he]
  rintro e w4 ⟨rfl, hb⟩
  have hB := Bgn.new rfl hb
  clear hb hi he hbO
  simp only [I.cells]
  obtain ⟨N, hN⟩ : ∃ N, w.heap.size = N := ⟨_, rfl⟩
  have hT : Two w w4 N := by subst hN; exact ⟨hB.r1, hB.e, hB.b, hB.b.size⟩
  have hr : Rb w4 N R pc := by subst hN; exact hB.r
  rw [hN]
  clear hB
  have b5 := bel1 w4 (.cells #[.int .i64 (no : Int), .int .i64 (na : Int), .int .i64 (nb : Int), .int .i64 z] 58)
  have hq := heap_alloc_last w4 (.cells #[.int .i64 (no : Int), .int .i64 (na : Int), .int .i64 (nb : Int), .int .i64 z] 58)
  have HT := hide (hT.below b5)
  have HR := hide (hr.below b5)
  obtain ⟨M, hM⟩ : ∃ M, w4.heap.size = M := ⟨_, rfl⟩
  have hNM : N < M := by rw [← hM]; exact hr.lt
  have hMN : M ≠ N + 1 ∧ M ≠ N + 1 + 1 := by
    have h1 := hT.a.lt
    have h2 := (Array.getElem?_eq_some_iff.1 hT.e).1
    omega
  clear hT hr b5
  go_wp2
  generalize w4.alloc (.cells #[.int .i64 (no : Int), .int .i64 (na : Int), .int .i64 (nb : Int), .int .i64 z] 58) = w5 at *
  rw [hM] at hq
  have i0 : w5.cell? ⟨M, 0, none⟩ = some (.int .i64 (no : Int)) := by rw [cell_of_row _ _ _ _ _ _ hq]; rfl
  have i1 : w5.cell? ⟨M, 1, none⟩ = some (.int .i64 (na : Int)) := by rw [cell_of_row _ _ _ _ _ _ hq]; rfl
  have i2 : w5.cell? ⟨M, 2, none⟩ = some (.int .i64 (nb : Int)) := by rw [cell_of_row _ _ _ _ _ _ hq]; rfl
  have i3 : w5.cell? ⟨M, 3, none⟩ = some (.int .i64 z) := by rw [cell_of_row _ _ _ _ _ _ hq]; rfl
  have ra := HR.out.r hna
  have rb := HR.out.r hnb
  have HQ := hide hq
  clear hq hM
  go_quiet (fail)
  have HT6 := hide (HT.out.same (w' := w5.drewN nq) rfl rfl rfl rfl)
  have HR6 : Hid (Rb (w5.drewN nq) N R pc) := hide ⟨HR.out.out⟩
  have i0' : (w5.drewN nq).cell? ⟨M, 0, none⟩ = some (.int .i64 (no : Int)) := by simpa using i0
  have i1' : (w5.drewN nq).cell? ⟨M, 1, none⟩ = some (.int .i64 (na : Int)) := by simpa using i1
  have p8 := HR6.out.p
  have z8 := HR6.out.frz
  clear HT HR i0 i1 i2 i3 ra rb HQ
  generalize w5.drewN nq = w6 at *
  have r1' := HR6.out.r hna
  have hRa := hR.r na hna
  have hRb := hR.r nb hnb
  have ht := target_any w6 (R na) (im z) (nx pc) (im_lt z) (nx_lt pc) no hno2
  rw [im_cast, nx_cast] at ht
  have h25 : (no : Int) = 25 := by have := H25.out; omega
  rw [h25] at ht
  go_upto_region 19 with (go_at_call 28; refine ht.mono ?_; rintro e w6 ⟨rfl, rfl⟩)
  clear ht
  have HT7 := hide (HT6.out.setCell 8 (.int .u32 ((tgt no (R na) (im z) (nx pc)) : Nat)))
  have HR7 := hide (HR6.out.setpc (tgt no (R na) (im z) (nx pc)))
  have j0 : (w6.setCell ⟨N, 8, none⟩ (.int .u32 ((tgt no (R na) (im z) (nx pc)) : Nat))).cell? ⟨M, 0, none⟩ = some (.int .i64 (no : Int)) := by rw [World.cell?_setCell_far _ _ _ _ (by show N ≠ M; omega)]; exact i0'
  have j1 : (w6.setCell ⟨N, 8, none⟩ (.int .u32 ((tgt no (R na) (im z) (nx pc)) : Nat))).cell? ⟨M, 1, none⟩ = some (.int .i64 (na : Int)) := by rw [World.cell?_setCell_far _ _ _ _ (by show N ≠ M; omega)]; exact i1'
  clear HT6 HR6 p8 z8 i0' i1' r1'
  generalize w6.setCell ⟨N, 8, none⟩ (.int .u32 ((tgt no (R na) (im z) (nx pc)) : Nat)) = w7 at *
  have q1 := HR7.out.r hna
  have q2 := HR7.out.frz na
  go_upto_region 22 with fail
  have HT8 := hide (HT7.out.setCell na (.int .u32 (nx pc : Nat)))
  have HR8 := hide (HR7.out.put hna (nx pc))
  clear HT7 HR7 q1 q2 j0 j1
  rw [nx_cast] at HT8 HR8
  generalize w7.setCell ⟨N, na, none⟩ (.int .u32 (((pc : Int) + 1) % 4294967296)) = w8 at *
  obtain ⟨f0, f1, f2, f3, f4, f5⟩ := effcells HT8.out (rg (put R na (nx pc)) (tgt no (R na) (im z) (nx pc)))
  have HF := hide (HT8.out.rows (rg (put R na (nx pc)) (tgt no (R na) (im z) (nx pc))) ([.int .i64 0, .int .u32 0, .int .i64 0, .int .u32 0, .int .i64 0] : List Value) rfl)
  go_wp2_with (first
    | refine wpList_load_row rfl 32 _ rfl N rfl 32 (rg (put R na (nx pc)) (tgt no (R na) (im z) (nx pc))).toArray (0, 0) _ HR8.out.out Tryd.underlying32 rfl (info_rg _ _) ?_
    | refine wpList_store_row rfl 32 _ _ rfl (N + 1) (rg (put R na (nx pc)) (tgt no (R na) (im z) (nx pc))).toArray rfl rfl 32 _ HT8.out.a.out (info_rg _ _) (by rw [rg_size, rg_size]) (rg_one _ _) ?_)
  refine bodyPost_ret (results_rows2 rfl _ _ (N + 1) (N + 1 + 1) 32 34 _ _ _ _ rfl HF.out.a Tryd.underlying32 rfl (info_rg _ _) rfl HF.out.e Tryd.underlying34 rfl info_eff) rfl ?_
  subst hN
  exact ⟨rfl, HF.out.b⟩
end
end Go.Proofs.YtoaplkfmchphbaaDoor

namespace Go.Proofs.YtoaplkfmchphbaaDoor
open Go.RowKit
section
variable (w : World) (R : Nat → Nat) (pc n no na nb : Nat) (z : Int)
set_option maxRecDepth 100000 in
set_option maxHeartbeats 2000000 in
theorem exec_op8 (hn : n < 4294967296) (hp : parts n = ⟨(no : Int), na, nb, z⟩) (hx : isI ⟨(no : Int), na, nb, z⟩ = true) (hO : Ops w) (hno1 : 1 ≤ no) (hno2 : no < 27) (hR : RgOk R pc) (h8 : no = 8) (hy0 : R nb ≠ 0) : Calls Tryd.prog 11 #[.agg (rg R pc).toArray, .int .u32 (n : Nat)] w fun e w' => e = .returned (.tuple #[.agg (rg (put R na (res no (R na) (R nb) (im z))) (tgt no (R na) (im z) (nx pc))).toArray, .agg effz.toArray]) ∧ Below w.heap.size w w' := by
  have H8 := hide h8
  have HY0 := hide hy0
  clear h8 hy0
  have hi : decI n = ⟨(no : Int), na, nb, z⟩ := (decI_yes hp hx).1
  have he : decE n = 0 := (decI_yes hp hx).2
  have hbO : ∀ w4, Below w.heap.size w w4 → Ops w4 := fun w4 h => hO.below h
  have hI := isn.1 hx
  have ha : (na : Int) < 8 := (fitsB_range hI.a).2
  have hb8 : (nb : Int) < 8 := (fitsB_range hI.b).2
  have hz1 := hI.imm.1
  have hz2 := hI.imm.2
  have HI := hide hI
  clear hO hx hI hp
  have hz0 : (0 : Int) ≤ (na : Int) := by omega
  have hz00 : (0 : Int) ≤ (nb : Int) := by omega
  have hna : na < 8 := by omega
  have hnb : nb < 8 := by omega
  simp only at hz1 hz2
  go_enter Tryd.func11, Tryd.ntmps11
  go_wp2_with fail
  refine (dec_any _ n hn ?_).mono ?_
  · exact hbO _ (((bel2 w _ _).trans ((bel1 _ _).mono (by simp; omega))))
  rw [hi, he]
  rintro e w4 ⟨rfl, hb⟩
  have hB := Bgn.new rfl hb
  clear hb hi he hbO
  simp only [I.cells]
  obtain ⟨N, hN⟩ : ∃ N, w.heap.size = N := ⟨_, rfl⟩
  have hT : Two w w4 N := by subst hN; exact ⟨hB.r1, hB.e, hB.b, hB.b.size⟩
  have hr : Rb w4 N R pc := by subst hN; exact hB.r
  rw [hN]
  clear hB
  have b5 := bel1 w4 (.cells #[.int .i64 (no : Int), .int .i64 (na : Int), .int .i64 (nb : Int), .int .i64 z] 58)
  have hq := heap_alloc_last w4 (.cells #[.int .i64 (no : Int), .int .i64 (na : Int), .int .i64 (nb : Int), .int .i64 z] 58)
  have HT := hide (hT.below b5)
  have HR := hide (hr.below b5)
  obtain ⟨M, hM⟩ : ∃ M, w4.heap.size = M := ⟨_, rfl⟩
  have hNM : N < M := by rw [← hM]; exact hr.lt
  have hMN : M ≠ N + 1 ∧ M ≠ N + 1 + 1 := by
    have h1 := hT.a.lt
    have h2 := (Array.getElem?_eq_some_iff.1 hT.e).1
    omega
  clear hT hr b5
  go_wp2
  generalize w4.alloc (.cells #[.int .i64 (no : Int), .int .i64 (na : Int), .int .i64 (nb : Int), .int .i64 z] 58) = w5 at *
  rw [hM] at hq
  have i0 : w5.cell? ⟨M, 0, none⟩ = some (.int .i64 (no : Int)) := by rw [cell_of_row _ _ _ _ _ _ hq]; rfl
  have i1 : w5.cell? ⟨M, 1, none⟩ = some (.int .i64 (na : Int)) := by rw [cell_of_row _ _ _ _ _ _ hq]; rfl
  have i2 : w5.cell? ⟨M, 2, none⟩ = some (.int .i64 (nb : Int)) := by rw [cell_of_row _ _ _ _ _ _ hq]; rfl
  have i3 : w5.cell? ⟨M, 3, none⟩ = some (.int .i64 z) := by rw [cell_of_row _ _ _ _ _ _ hq]; rfl
  have ra := HR.out.r hna
  have rb := HR.out.r hnb
  have HQ := hide hq
  clear hq hM
  go_quiet (fail)
  have HT6 := hide (HT.out.same (w' := w5.drewN nq) rfl rfl rfl rfl)
  have HR6 : Hid (Rb (w5.drewN nq) N R pc) := hide ⟨HR.out.out⟩
  have i0' : (w5.drewN nq).cell? ⟨M, 0, none⟩ = some (.int .i64 (no : Int)) := by simpa using i0
  have i1' : (w5.drewN nq).cell? ⟨M, 1, none⟩ = some (.int .i64 (na : Int)) := by simpa using i1
  have p8 := HR6.out.p
  have z8 := HR6.out.frz
  clear HT HR i0 i1 i2 i3 ra rb HQ
  generalize w5.drewN nq = w6 at *
  have r1' := HR6.out.r hna
  have hRa := hR.r na hna
  have hRb := hR.r nb hnb
  have ht := target_any w6 (R na) (im z) (nx pc) (im_lt z) (nx_lt pc) no hno2
  rw [im_cast, nx_cast] at ht
  have hres := fun w' => result_any w' (R na) (R nb) (im z) hRa hRb (im_lt z) no hno1 (by have := H8.out; omega) (by have := H8.out; omega) (by have := H8.out; omega) (fun _ => HY0.out)
  simp only [im_cast] at hres
  have hop : (no : Int) = 8 := by have := H8.out; omega
  rw [hop] at ht
  simp only [hop] at hres
  have hy0 : ¬ (R nb : Int) = 0 := by have := HY0.out; omega
  go_upto_region 19 with (go_at_call 28; refine ht.mono ?_; rintro e w6 ⟨rfl, rfl⟩)
  clear ht
  have HT7 := hide (HT6.out.setCell 8 (.int .u32 ((tgt no (R na) (im z) (nx pc)) : Nat)))
  have HR7 := hide (HR6.out.setpc (tgt no (R na) (im z) (nx pc)))
  have j0 : (w6.setCell ⟨N, 8, none⟩ (.int .u32 ((tgt no (R na) (im z) (nx pc)) : Nat))).cell? ⟨M, 0, none⟩ = some (.int .i64 (no : Int)) := by rw [World.cell?_setCell_far _ _ _ _ (by show N ≠ M; omega)]; exact i0'
  have j1 : (w6.setCell ⟨N, 8, none⟩ (.int .u32 ((tgt no (R na) (im z) (nx pc)) : Nat))).cell? ⟨M, 1, none⟩ = some (.int .i64 (na : Int)) := by rw [World.cell?_setCell_far _ _ _ _ (by show N ≠ M; omega)]; exact i1'
  clear HT6 HR6 p8 z8 i0' i1' r1'
  generalize w6.setCell ⟨N, 8, none⟩ (.int .u32 ((tgt no (R na) (im z) (nx pc)) : Nat)) = w7 at *
  have q1 := HR7.out.r hna
  have q2 := HR7.out.frz na
  go_upto_region 21 with fail
  have k0 : (w7.setCell ⟨N, na, none⟩ (.int .u32 ((res no (R na) (R nb) (im z)) : Nat))).drew.cell? ⟨M, 0, none⟩ = some (.int .i64 (no : Int)) := by show (w7.setCell ⟨N, na, none⟩ (.int .u32 ((res no (R na) (R nb) (im z)) : Nat))).cell? ⟨M, 0, none⟩ = _; rw [World.cell?_setCell_far _ _ _ _ (by show N ≠ M; omega)]; exact j0
  have k1 : (w7.setCell ⟨N, na, none⟩ (.int .u32 ((res no (R na) (R nb) (im z)) : Nat))).drew.cell? ⟨M, 1, none⟩ = some (.int .i64 (na : Int)) := by show (w7.setCell ⟨N, na, none⟩ (.int .u32 ((res no (R na) (R nb) (im z)) : Nat))).cell? ⟨M, 1, none⟩ = _; rw [World.cell?_setCell_far _ _ _ _ (by show N ≠ M; omega)]; exact j1
  rw [hop] at j0 k0
  go_region_held (fun W => W.cell? ⟨M, 0, none⟩ = some (.int .i64 8) ∧ W.cell? ⟨M, 1, none⟩ = some (.int .i64 (na : Int)))
    (first | exact ⟨j0, j1⟩ | exact ⟨k0, k1⟩)
    (first | (go_at_call 29; refine (hres _).mono ?_; rintro e w' ⟨rfl, rfl⟩))
  rename_i hHeld
  have HT8 : Hid (Two w (w7.setCell ⟨N, na, none⟩ (.int .u32 ((res no (R na) (R nb) (im z)) : Nat))).drew N) := hide (HT7.out.setCell na (.int .u32 ((res no (R na) (R nb) (im z)) : Nat))).drew
  have HR8 : Hid (Rb (w7.setCell ⟨N, na, none⟩ (.int .u32 ((res no (R na) (R nb) (im z)) : Nat))).drew N (put R na (res no (R na) (R nb) (im z))) (tgt no (R na) (im z) (nx pc))) := hide ⟨(HR7.out.put hna (res no (R na) (R nb) (im z))).out⟩
  clear hHeld HT7 HR7 q1 q2 j0 j1 k0 k1 hres
  generalize (w7.setCell ⟨N, na, none⟩ (.int .u32 ((res no (R na) (R nb) (im z)) : Nat))).drew = w8 at *
  obtain ⟨f0, f1, f2, f3, f4, f5⟩ := effcells HT8.out (rg (put R na (res no (R na) (R nb) (im z))) (tgt no (R na) (im z) (nx pc)))
  have HF := hide (HT8.out.rows (rg (put R na (res no (R na) (R nb) (im z))) (tgt no (R na) (im z) (nx pc))) ([.int .i64 0, .int .u32 0, .int .i64 0, .int .u32 0, .int .i64 0] : List Value) rfl)
  go_wp2_with (first
    | refine wpList_load_row rfl 32 _ rfl N rfl 32 (rg (put R na (res no (R na) (R nb) (im z))) (tgt no (R na) (im z) (nx pc))).toArray (0, 0) _ HR8.out.out Tryd.underlying32 rfl (info_rg _ _) ?_
    | refine wpList_store_row rfl 32 _ _ rfl (N + 1) (rg (put R na (res no (R na) (R nb) (im z))) (tgt no (R na) (im z) (nx pc))).toArray rfl rfl 32 _ HT8.out.a.out (info_rg _ _) (by rw [rg_size, rg_size]) (rg_one _ _) ?_)
  refine bodyPost_ret (results_rows2 rfl _ _ (N + 1) (N + 1 + 1) 32 34 _ _ _ _ rfl HF.out.a Tryd.underlying32 rfl (info_rg _ _) rfl HF.out.e Tryd.underlying34 rfl info_eff) rfl ?_
  subst hN
  exact ⟨rfl, HF.out.b⟩
end
end Go.Proofs.YtoaplkfmchphbaaDoor

namespace Go.Proofs.YtoaplkfmchphbaaDoor
open Go.RowKit
section
variable (w : World) (R : Nat → Nat) (pc n no na nb : Nat) (z : Int)
set_option maxRecDepth 100000 in
set_option maxHeartbeats 2000000 in
theorem exec_op9 (hn : n < 4294967296) (hp : parts n = ⟨(no : Int), na, nb, z⟩) (hx : isI ⟨(no : Int), na, nb, z⟩ = true) (hO : Ops w) (hno1 : 1 ≤ no) (hno2 : no < 27) (hR : RgOk R pc) (h8 : no = 9) (hy0 : R nb ≠ 0) : Calls Tryd.prog 11 #[.agg (rg R pc).toArray, .int .u32 (n : Nat)] w fun e w' => e = .returned (.tuple #[.agg (rg (put R na (res no (R na) (R nb) (im z))) (tgt no (R na) (im z) (nx pc))).toArray, .agg effz.toArray]) ∧ Below w.heap.size w w' := by
  have H8 := hide h8
  have HY0 := hide hy0
  clear h8 hy0
  have hi : decI n = ⟨(no : Int), na, nb, z⟩ := (decI_yes hp hx).1
  have he : decE n = 0 := (decI_yes hp hx).2
  have hbO : ∀ w4, Below w.heap.size w w4 → Ops w4 := fun w4 h => hO.below h
  have hI := isn.1 hx
  have ha : (na : Int) < 8 := (fitsB_range hI.a).2
  have hb8 : (nb : Int) < 8 := (fitsB_range hI.b).2
  have hz1 := hI.imm.1
  have hz2 := hI.imm.2
  have HI := hide hI
  clear hO hx hI hp
  have hz0 : (0 : Int) ≤ (na : Int) := by omega
  have hz00 : (0 : Int) ≤ (nb : Int) := by omega
  have hna : na < 8 := by omega
  have hnb : nb < 8 := by omega
  simp only at hz1 hz2
  go_enter Tryd.func11, Tryd.ntmps11
  go_wp2_with fail
  refine (dec_any _ n hn ?_).mono ?_
  · exact hbO _ (((bel2 w _ _).trans ((bel1 _ _).mono (by simp; omega))))
  rw [hi, he]
  rintro e w4 ⟨rfl, hb⟩
  have hB := Bgn.new rfl hb
  clear hb hi he hbO
  simp only [I.cells]
  obtain ⟨N, hN⟩ : ∃ N, w.heap.size = N := ⟨_, rfl⟩
  have hT : Two w w4 N := by subst hN; exact ⟨hB.r1, hB.e, hB.b, hB.b.size⟩
  have hr : Rb w4 N R pc := by subst hN; exact hB.r
  rw [hN]
  clear hB
  have b5 := bel1 w4 (.cells #[.int .i64 (no : Int), .int .i64 (na : Int), .int .i64 (nb : Int), .int .i64 z] 58)
  have hq := heap_alloc_last w4 (.cells #[.int .i64 (no : Int), .int .i64 (na : Int), .int .i64 (nb : Int), .int .i64 z] 58)
  have HT := hide (hT.below b5)
  have HR := hide (hr.below b5)
  obtain ⟨M, hM⟩ : ∃ M, w4.heap.size = M := ⟨_, rfl⟩
  have hNM : N < M := by rw [← hM]; exact hr.lt
  have hMN : M ≠ N + 1 ∧ M ≠ N + 1 + 1 := by
    have h1 := hT.a.lt
    have h2 := (Array.getElem?_eq_some_iff.1 hT.e).1
    omega
  clear hT hr b5
  go_wp2
  generalize w4.alloc (.cells #[.int .i64 (no : Int), .int .i64 (na : Int), .int .i64 (nb : Int), .int .i64 z] 58) = w5 at *
  rw [hM] at hq
  have i0 : w5.cell? ⟨M, 0, none⟩ = some (.int .i64 (no : Int)) := by rw [cell_of_row _ _ _ _ _ _ hq]; rfl
  have i1 : w5.cell? ⟨M, 1, none⟩ = some (.int .i64 (na : Int)) := by rw [cell_of_row _ _ _ _ _ _ hq]; rfl
  have i2 : w5.cell? ⟨M, 2, none⟩ = some (.int .i64 (nb : Int)) := by rw [cell_of_row _ _ _ _ _ _ hq]; rfl
  have i3 : w5.cell? ⟨M, 3, none⟩ = some (.int .i64 z) := by rw [cell_of_row _ _ _ _ _ _ hq]; rfl
  have ra := HR.out.r hna
  have rb := HR.out.r hnb
  have HQ := hide hq
  clear hq hM
  go_quiet (fail)
  have HT6 := hide (HT.out.same (w' := w5.drewN nq) rfl rfl rfl rfl)
  have HR6 : Hid (Rb (w5.drewN nq) N R pc) := hide ⟨HR.out.out⟩
  have i0' : (w5.drewN nq).cell? ⟨M, 0, none⟩ = some (.int .i64 (no : Int)) := by simpa using i0
  have i1' : (w5.drewN nq).cell? ⟨M, 1, none⟩ = some (.int .i64 (na : Int)) := by simpa using i1
  have p8 := HR6.out.p
  have z8 := HR6.out.frz
  clear HT HR i0 i1 i2 i3 ra rb HQ
  generalize w5.drewN nq = w6 at *
  have r1' := HR6.out.r hna
  have hRa := hR.r na hna
  have hRb := hR.r nb hnb
  have ht := target_any w6 (R na) (im z) (nx pc) (im_lt z) (nx_lt pc) no hno2
  rw [im_cast, nx_cast] at ht
  have hres := fun w' => result_any w' (R na) (R nb) (im z) hRa hRb (im_lt z) no hno1 (by have := H8.out; omega) (by have := H8.out; omega) (by have := H8.out; omega) (fun _ => HY0.out)
  simp only [im_cast] at hres
  have hop : (no : Int) = 9 := by have := H8.out; omega
  rw [hop] at ht
  simp only [hop] at hres
  have hy0 : ¬ (R nb : Int) = 0 := by have := HY0.out; omega
  go_upto_region 19 with (go_at_call 28; refine ht.mono ?_; rintro e w6 ⟨rfl, rfl⟩)
  clear ht
  have HT7 := hide (HT6.out.setCell 8 (.int .u32 ((tgt no (R na) (im z) (nx pc)) : Nat)))
  have HR7 := hide (HR6.out.setpc (tgt no (R na) (im z) (nx pc)))
  have j0 : (w6.setCell ⟨N, 8, none⟩ (.int .u32 ((tgt no (R na) (im z) (nx pc)) : Nat))).cell? ⟨M, 0, none⟩ = some (.int .i64 (no : Int)) := by rw [World.cell?_setCell_far _ _ _ _ (by show N ≠ M; omega)]; exact i0'
  have j1 : (w6.setCell ⟨N, 8, none⟩ (.int .u32 ((tgt no (R na) (im z) (nx pc)) : Nat))).cell? ⟨M, 1, none⟩ = some (.int .i64 (na : Int)) := by rw [World.cell?_setCell_far _ _ _ _ (by show N ≠ M; omega)]; exact i1'
  clear HT6 HR6 p8 z8 i0' i1' r1'
  generalize w6.setCell ⟨N, 8, none⟩ (.int .u32 ((tgt no (R na) (im z) (nx pc)) : Nat)) = w7 at *
  have q1 := HR7.out.r hna
  have q2 := HR7.out.frz na
  go_upto_region 21 with fail
  have k0 : (w7.setCell ⟨N, na, none⟩ (.int .u32 ((res no (R na) (R nb) (im z)) : Nat))).drew.cell? ⟨M, 0, none⟩ = some (.int .i64 (no : Int)) := by show (w7.setCell ⟨N, na, none⟩ (.int .u32 ((res no (R na) (R nb) (im z)) : Nat))).cell? ⟨M, 0, none⟩ = _; rw [World.cell?_setCell_far _ _ _ _ (by show N ≠ M; omega)]; exact j0
  have k1 : (w7.setCell ⟨N, na, none⟩ (.int .u32 ((res no (R na) (R nb) (im z)) : Nat))).drew.cell? ⟨M, 1, none⟩ = some (.int .i64 (na : Int)) := by show (w7.setCell ⟨N, na, none⟩ (.int .u32 ((res no (R na) (R nb) (im z)) : Nat))).cell? ⟨M, 1, none⟩ = _; rw [World.cell?_setCell_far _ _ _ _ (by show N ≠ M; omega)]; exact j1
  rw [hop] at j0 k0
  go_region_held (fun W => W.cell? ⟨M, 0, none⟩ = some (.int .i64 9) ∧ W.cell? ⟨M, 1, none⟩ = some (.int .i64 (na : Int)))
    (first | exact ⟨j0, j1⟩ | exact ⟨k0, k1⟩)
    (first | (go_at_call 29; refine (hres _).mono ?_; rintro e w' ⟨rfl, rfl⟩))
  rename_i hHeld
  have HT8 : Hid (Two w (w7.setCell ⟨N, na, none⟩ (.int .u32 ((res no (R na) (R nb) (im z)) : Nat))).drew N) := hide (HT7.out.setCell na (.int .u32 ((res no (R na) (R nb) (im z)) : Nat))).drew
  have HR8 : Hid (Rb (w7.setCell ⟨N, na, none⟩ (.int .u32 ((res no (R na) (R nb) (im z)) : Nat))).drew N (put R na (res no (R na) (R nb) (im z))) (tgt no (R na) (im z) (nx pc))) := hide ⟨(HR7.out.put hna (res no (R na) (R nb) (im z))).out⟩
  clear hHeld HT7 HR7 q1 q2 j0 j1 k0 k1 hres
  generalize (w7.setCell ⟨N, na, none⟩ (.int .u32 ((res no (R na) (R nb) (im z)) : Nat))).drew = w8 at *
  obtain ⟨f0, f1, f2, f3, f4, f5⟩ := effcells HT8.out (rg (put R na (res no (R na) (R nb) (im z))) (tgt no (R na) (im z) (nx pc)))
  have HF := hide (HT8.out.rows (rg (put R na (res no (R na) (R nb) (im z))) (tgt no (R na) (im z) (nx pc))) ([.int .i64 0, .int .u32 0, .int .i64 0, .int .u32 0, .int .i64 0] : List Value) rfl)
  go_wp2_with (first
    | refine wpList_load_row rfl 32 _ rfl N rfl 32 (rg (put R na (res no (R na) (R nb) (im z))) (tgt no (R na) (im z) (nx pc))).toArray (0, 0) _ HR8.out.out Tryd.underlying32 rfl (info_rg _ _) ?_
    | refine wpList_store_row rfl 32 _ _ rfl (N + 1) (rg (put R na (res no (R na) (R nb) (im z))) (tgt no (R na) (im z) (nx pc))).toArray rfl rfl 32 _ HT8.out.a.out (info_rg _ _) (by rw [rg_size, rg_size]) (rg_one _ _) ?_)
  refine bodyPost_ret (results_rows2 rfl _ _ (N + 1) (N + 1 + 1) 32 34 _ _ _ _ rfl HF.out.a Tryd.underlying32 rfl (info_rg _ _) rfl HF.out.e Tryd.underlying34 rfl info_eff) rfl ?_
  subst hN
  exact ⟨rfl, HF.out.b⟩
end
end Go.Proofs.YtoaplkfmchphbaaDoor
