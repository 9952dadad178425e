import Derived.Test.YtncbbllmhohnkaaDoorE3
import Derived.Deep.Cut
namespace Go.Proofs.YtncbbllmhohnkaaDoor
open Go.RowKit
theorem effcells {w W : World} {N : Nat} (h : Two w W N) (Y : List Value) : (W.setRow (N + 1) Y.toArray).cell? ⟨N + 1 + 1, 0, none⟩ = some (.int .i64 0) ∧ (W.setRow (N + 1) Y.toArray).cell? ⟨N + 1 + 1, 1, none⟩ = some (.int .u32 0) ∧ (W.setRow (N + 1) Y.toArray).cell? ⟨N + 1 + 1, 2, none⟩ = some (.int .i64 0) ∧ (W.setRow (N + 1) Y.toArray).cell? ⟨N + 1 + 1, 3, none⟩ = some (.int .u32 0) ∧ (W.setRow (N + 1) Y.toArray).cell? ⟨N + 1 + 1, 4, none⟩ = some (.int .i64 0) ∧ ∀ o, (W.setRow (N + 1) Y.toArray).frozen? ⟨N + 1 + 1, o, none⟩ = false := by
  have he : (W.setRow (N + 1) Y.toArray).heap[N + 1 + 1]? = some (.cells #[.int .i64 0, .int .u32 0, .int .i64 0, .int .u32 0, .int .i64 0] 34 (0, 0)) := by rw [setRow_other _ _ _ _ (by omega)]; exact h.e
  refine ⟨?_, ?_, ?_, ?_, ?_, fun o => frozen_of_row _ _ o _ _ he⟩
  all_goals rw [cell_of_row _ _ _ _ _ _ he]; rfl
/-- the answer laid down, row by row -/
theorem Two.rows {w W : World} {N : Nat} (h : Two w W N) (Y X : List Value) (hX : X.length = 5) : Fin2 w ((W.setRow (N + 1) Y.toArray).setCells (N + 1 + 1) 0 X) N Y X := by
  refine ⟨?_, ?_, ?_⟩
  · rw [heap_setCells_other _ _ (by omega)]; exact setRow_heap _ _ _ _ _ _ h.a.out
  · exact setCells_whole (by rw [setRow_other _ _ _ _ (by omega)]; exact h.e) (by rw [hX]; rfl)
  · have b1 : Below N w (W.setRow (N + 1) Y.toArray) := ⟨h.b.os, h.b.tape, h.b.output, by simp [World.setRow]; exact h.b.size, fun k hk => by rw [setRow_other W _ k _ (by omega)]; exact h.b.block k hk⟩
    exact below_setCells b1 (by omega) _ _
section
variable (w : World) (R : Nat → Nat) (pc n no na nb : Nat) (z : Int)
set_option maxRecDepth 100000 in
set_option maxHeartbeats 2000000 in
theorem exec_st (hn : n < 4294967296) (hp : parts n = ⟨(no : Int), na, nb, z⟩) (hx : isI ⟨(no : Int), na, nb, z⟩ = true) (hO : Ops w) (h20 : no = 20) : Calls Tryd.prog 11 #[.agg (rg R pc).toArray, .int .u32 (n : Nat)] w fun e w' => e = .returned (.tuple #[.agg (rg R pc).toArray, .agg (e5 2 (((R nb : Nat) + z) % 4294967296) 0 (R na : Nat) 0).toArray]) ∧ Below w.heap.size w w' := by
  have H20 := hide h20
  clear h20
  have hi : decI n = ⟨(no : Int), na, nb, z⟩ := (decI_yes hp hx).1
  have he : decE n = 0 := (decI_yes hp hx).2
  have hbO : ∀ w4, Below w.heap.size w w4 → Ops w4 := fun w4 h => hO.below h
  have hI := isn.1 hx
  have ha : (na : Int) < 8 := (fitsB_range hI.a).2
  have hb8 : (nb : Int) < 8 := (fitsB_range hI.b).2
  have hz1 := hI.imm.1
  have hz2 := hI.imm.2
  have HI := hide hI
  clear hO hx hI hp
  have hz0 : (0 : Int) ≤ (na : Int) := by omega
  have hz00 : (0 : Int) ≤ (nb : Int) := by omega
  have hna : na < 8 := by omega
  have hnb : nb < 8 := by omega
  simp only at hz1 hz2
  go_enter Tryd.func11, Tryd.ntmps11
  go_wp2_with fail
  refine (dec_any _ n hn ?_).mono ?_
  · exact hbO _ (((bel2 w _ _).trans ((bel1 _ _).mono (by simp; omega))))
  rw [hi, he]
  rintro e w4 ⟨rfl, hb⟩
  have hB := Bgn.new rfl hb
  clear hb hi he hbO
  simp only [I.cells]
  obtain ⟨N, hN⟩ : ∃ N, w.heap.size = N := ⟨_, rfl⟩
  have hT : Two w w4 N := by subst hN; exact ⟨hB.r1, hB.e, hB.b, hB.b.size⟩
  have hr : Rb w4 N R pc := by subst hN; exact hB.r
  rw [hN]
  clear hB
  have b5 := bel1 w4 (.cells #[.int .i64 (no : Int), .int .i64 (na : Int), .int .i64 (nb : Int), .int .i64 z] 58)
  have hq := heap_alloc_last w4 (.cells #[.int .i64 (no : Int), .int .i64 (na : Int), .int .i64 (nb : Int), .int .i64 z] 58)
  have HT := hide (hT.below b5)
  have HR := hide (hr.below b5)
  obtain ⟨M, hM⟩ : ∃ M, w4.heap.size = M := ⟨_, rfl⟩
  have hNM : N < M := by rw [← hM]; exact hr.lt
  have hMN : M ≠ N + 1 ∧ M ≠ N + 1 + 1 := by
    have h1 := hT.a.lt
    have h2 := (Array.getElem?_eq_some_iff.1 hT.e).1
    omega
  clear hT hr b5
  go_wp2
  generalize w4.alloc (.cells #[.int .i64 (no : Int), .int .i64 (na : Int), .int .i64 (nb : Int), .int .i64 z] 58) = w5 at *
  rw [hM] at hq
  have i0 : w5.cell? ⟨M, 0, none⟩ = some (.int .i64 (no : Int)) := by rw [cell_of_row _ _ _ _ _ _ hq]; rfl
  have i1 : w5.cell? ⟨M, 1, none⟩ = some (.int .i64 (na : Int)) := by rw [cell_of_row _ _ _ _ _ _ hq]; rfl
  have i2 : w5.cell? ⟨M, 2, none⟩ = some (.int .i64 (nb : Int)) := by rw [cell_of_row _ _ _ _ _ _ hq]; rfl
  have i3 : w5.cell? ⟨M, 3, none⟩ = some (.int .i64 z) := by rw [cell_of_row _ _ _ _ _ _ hq]; rfl
  have ra := HR.out.r hna
  have rb := HR.out.r hnb
  have HQ := hide hq
  clear hq hM
  go_quiet (fail)
  have HT6 := hide (HT.out.same (w' := w5.drewN nq) rfl rfl rfl rfl)
  have HR6 : Hid (Rb (w5.drewN nq) N R pc) := hide ⟨HR.out.out⟩
  have i0' : (w5.drewN nq).cell? ⟨M, 0, none⟩ = some (.int .i64 (no : Int)) := by simpa using i0
  have i1' : (w5.drewN nq).cell? ⟨M, 1, none⟩ = some (.int .i64 (na : Int)) := by simpa using i1
  have p8 := HR6.out.p
  have z8 := HR6.out.frz
  clear HT HR i0 i1 i2 i3 ra rb HQ
  generalize w5.drewN nq = w6 at *
  have h20 : (no : Int) = 20 := by have := H20.out; omega
  obtain ⟨f0, f1, f2, f3, f4, f5⟩ := effcells HT6.out (rg R pc)
  have HF := hide (HT6.out.rows (rg R pc) ([.int .i64 2, .int .u32 (((R nb : Nat) + z) % 4294967296), .int .i64 0, .int .u32 (R na : Nat), .int .i64 0] : List Value) rfl)
  go_wp2_with (first
    | refine wpList_load_row rfl 32 _ rfl N rfl 32 (rg R pc).toArray (0, 0) _ HR6.out.out Tryd.underlying32 rfl (info_rg _ _) ?_
    | refine wpList_store_row rfl 32 _ _ rfl (N + 1) (rg R pc).toArray rfl rfl 32 _ HT6.out.a.out (info_rg _ _) (by rw [rg_size, rg_size]) (rg_one _ _) ?_)
  refine bodyPost_ret (results_rows2 rfl _ _ (N + 1) (N + 1 + 1) 32 34 _ _ _ _ rfl HF.out.a Tryd.underlying32 rfl (info_rg _ _) rfl HF.out.e Tryd.underlying34 rfl info_eff) rfl ?_
  subst hN
  exact ⟨rfl, HF.out.b⟩
end
end Go.Proofs.YtncbbllmhohnkaaDoor
