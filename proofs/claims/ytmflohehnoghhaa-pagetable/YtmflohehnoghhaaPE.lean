import Derived.Test.YtmflohehnoghhaaPD
namespace Go.Proofs.Ytmflohehnoghhaa
open Go.RowKit

section
variable {P : Program} {ops : Array Oper} {Q : Exit → Act → World → Prop} {S : World → Prop} {fuel : Nat} {listed : Array Bool} {a : Act} {w : World}
/-- the one operation that may come up -/
theorem hd_call (i : Nat) {o : Oper} (hr : Region.ready .any ops listed = [i]) (ho : ops[i]? = some o) (hw : Region.wanted o (yielded ops a.tmps) = true)
    (h : ∀ K : Act → World → Prop, (∀ a w, S w → wpAnyH P .any ops Q S fuel (listed.setIfInBounds i true) a w → K a w) → Oper.wp P o a w K Q) : wpAnyH P .any ops Q S (fuel + 1) listed a w := by
  refine wpAnyH_ready hr (by simp) (AllReadyH.cons ho (fun K hK => ?_) AllReadyH.nil)
  rw [if_pos hw]
  exact h K (fun a w hS hh => hK.out a w hS (fun _ => hh))
/-- what yields in whatever world that meets S -/
theorem hd_take (i : Nat) {o : Oper} (v : Value) (hs : Region.noSelect ops = true) (hf : Region.free .any ops listed i = true) (hr : (Region.ready .any ops listed).contains i = true) (ho : ops[i]? = some o) (hw : Region.wanted o (yielded ops a.tmps) = true)
    (hy : ∀ w, S w → (execOp a.eval o).run P w = .ok (.value v) w)
    (hQ : ∀ c a w, Q (.panic c) (a.put o.dst v) w → Q (.panic c) a w) (h0 : S w) (h : wpAnyH P .any ops Q S fuel (listed.setIfInBounds i true) (a.put o.dst v) w) : wpAnyH P .any ops Q S (fuel + 1) listed a w :=
  wpAnyH_take ho hs hf hr hQ (Or.inl ⟨hw, hy⟩) h0 h
/-- what its guard leaves out -/
theorem hd_skip (i : Nat) {o : Oper} (hs : Region.noSelect ops = true) (hf : Region.free .any ops listed i = true) (hr : (Region.ready .any ops listed).contains i = true) (ho : ops[i]? = some o) (hw : Region.wanted o (yielded ops a.tmps) = false)
    (hQ : ∀ c a w, Q (.panic c) (a.put o.dst undef) w → Q (.panic c) a w) (h0 : S w) (h : wpAnyH P .any ops Q S fuel (listed.setIfInBounds i true) (a.put o.dst undef) w) : wpAnyH P .any ops Q S (fuel + 1) listed a w :=
  wpAnyH_take ho hs hf hr hQ (Or.inr ⟨hw, rfl⟩) h0 h
end
theorem cup {w W : World} {p : Addr} {v : Value} (h : w.cell? p = some v) (hb : Below w.heap.size w W) : W.cell? p = some v := by
  rw [hb.cell (World.block_lt_of_cell? w _ h)]; exact h
section
variable {w : World} {R : Nat} {L : List Mp} {m : Nat → E} {F : Nat → Prop}
theorem entryR_no (v : Int) (hv : NoPage v) : Calls Try.prog 28 #[rp' R, .int .i64 v] w fun e w' => e = .returned (.tuple #[.agg (ent none).toArray, .int .i64 60]) ∧ Below w.heap.size w w' := by
  have hz := heap_alloc_last w (.cells (ent none).toArray 59)
  rcases hv with hv | hv
  · have d1 : decide (v < 0) = true := by simp; omega
    go_enter Try.func28, Try.ntmps28
    go_wp2_with (refine wpList_store_row rfl 59 _ _ rfl w.heap.size (ent none).toArray rfl rfl 59 _ (heap_alloc_last w _) info33 rfl rfl ?_)
    refine bodyPost_ret (results_row2 rfl _ _ w.heap.size 59 (ent none).toArray (0, 0) _ rfl hz Try.underlying59 rfl info33) rfl ?_
    exact ⟨rfl, (Below.refl _ _).alloc (Nat.le_refl _) _⟩
  · have d1 : decide (v < 0) = false := by simp; omega
    have d2 : decide (16 ≤ v) = true := by simp; omega
    go_enter Try.func28, Try.ntmps28
    go_wp2_with (refine wpList_store_row rfl 59 _ _ rfl w.heap.size (ent none).toArray rfl rfl 59 _ (heap_alloc_last w _) info33 rfl rfl ?_)
    refine bodyPost_ret (results_row2 rfl _ _ w.heap.size 59 (ent none).toArray (0, 0) _ rfl hz Try.underlying59 rfl info33) rfl ?_
    exact ⟨rfl, (Below.refl _ _).alloc (Nat.le_refl _) _⟩
theorem entryR_un (h : RtA R L w F) (hg : Ag m L) (v : Nat) (hv : v < 16) (hm : m v = none) : Calls Try.prog 28 #[rp' R, .int .i64 (v : Int)] w fun e w' => e = .returned (.tuple #[.agg (ent none).toArray, .int .i64 0]) ∧ Below w.heap.size w w' := by
  have hz := heap_alloc_last w (.cells #[.bool false, .int .i64 0, .bool false] 59)
  have hb := (Below.refl w.heap.size w).alloc (Nat.le_refl _) (.cells #[.bool false, .int .i64 0, .bool false] 59)
  obtain ⟨va, hR0, _⟩ := h
  have hR := hR0.below hb
  have c0 := hR.cell
  have d0 : decide ((v : Int) < 0) = false := by simp
  have d00 : decide (16 ≤ (v : Int)) = false := by simp; omega
  have HA := hide (at_miss hR.row (by have := hg.len; omega) (hg.no hv hm))
  have d9 : decide ((-1 : Int) < 0) = true := rfl
  have HB := hide hb
  have HZ := hide hz
  clear hR hR0 hb hz hg
  go_enter Try.func28, Try.ntmps28
  go_wp2_with fail
  refine HA.out.mono ?_
  rintro e w1 ⟨rfl, hw1⟩
  rw [hw1]
  clear hw1 w1 HA
  go_wp2_with (refine wpList_store_row rfl 59 _ _ rfl w.heap.size #[.bool false, .int .i64 0, .bool false] rfl rfl 59 _ (heap_alloc_last w _) info33 rfl rfl ?_)
  refine bodyPost_ret (results_row2 rfl _ _ w.heap.size 59 #[.bool false, .int .i64 0, .bool false] (0, 0) _ rfl HZ.out Try.underlying59 rfl info33) rfl ?_
  exact ⟨rfl, HB.out⟩
set_option maxHeartbeats 2000000 in
theorem entryR_ok (h : RtA R L w F) (hg : Ag m L) (v s : Nat) (b : Bool) (hv : v < 16) (hm : m v = some (s, b)) : Calls Try.prog 28 #[rp' R, .int .i64 (v : Int)] w fun e w' => e = .returned (.tuple #[.agg (ent (some (s, b))).toArray, .int .i64 0]) ∧ Below w.heap.size w w' := by
  have hz := heap_alloc_last w (.cells #[.bool false, .int .i64 0, .bool false] 59)
  have hb := (Below.refl w.heap.size w).alloc (Nat.le_refl _) (.cells #[.bool false, .int .i64 0, .bool false] 59)
  obtain ⟨va, hR0, _⟩ := h
  have hR := hR0.below hb
  obtain ⟨i, hi⟩ := hg.hit hv hm
  have hil : i < L.length := (List.getElem?_eq_some_iff.1 hi).1
  have d0 : decide ((v : Int) < 0) = false := by simp
  have d00 : decide (16 ≤ (v : Int)) = false := by simp; omega
  have HA := hide (at_hit hR.row (by have := hg.len; omega) hg.ne hi (v := (v : Int)) rfl)
  obtain ⟨g, cp, hva, -, -, -⟩ := hR.row.some_of (by omega)
  obtain ⟨t, ht⟩ : ∃ t, L.length = t := ⟨_, rfl⟩
  rw [ht] at hva hil
  subst hva
  have c0 := hR.cell
  obtain ⟨q0, q1, q2⟩ := hR.row.cell hi
  have d3 : decide ((i : Int) < 0) = false := by simp
  have hil2 : (i : Int) < (t : Int) := by omega
  have hRne : R ≠ w.heap.size := by have := hR0.lt; omega
  have hgne : g ≠ w.heap.size := by have := (hR0.row.blk (b := g) rfl).2; omega
  have HB := hide hb
  have HZ := hide hz
  clear hR hR0 hb hz hg ht hi
  go_enter Try.func28, Try.ntmps28
  go_wp2_with fail
  refine HA.out.mono ?_
  rintro e w1 ⟨rfl, hw1⟩
  rw [hw1]
  clear hw1 w1 HA
  go_upto_region 6 with fail
  generalize w.alloc (.cells #[.bool false, .int .i64 0, .bool false] 59) = w0 at *
  generalize hN : w.heap.size = N at *
  have hRn2 : N ≠ R := fun e => hRne e.symm
  have hgn2 : N ≠ g := fun e => hgne e.symm
  have e0 : w0.cell? ⟨N, 0, none⟩ = some (.bool false) := by rw [cell_of_row _ _ _ _ _ _ HZ.out]; rfl
  have e1 : w0.cell? ⟨N, 1, none⟩ = some (.int .i64 0) := by rw [cell_of_row _ _ _ _ _ _ HZ.out]; rfl
  have e2 : w0.cell? ⟨N, 2, none⟩ = some (.bool false) := by rw [cell_of_row _ _ _ _ _ _ HZ.out]; rfl
  have g0 := frozen_of_row _ _ 0 _ _ HZ.out
  have g1 := frozen_of_row _ _ 1 _ _ HZ.out
  have g2 := frozen_of_row _ _ 2 _ _ HZ.out
  go_region_held (fun W => W.cell? ⟨R, 0, none⟩ = some (.slice (some ⟨g, 0, none⟩) t cp) ∧ W.cell? ⟨g, i * 3 + 1, none⟩ = some (.int .i64 (s : Int)) ∧ W.cell? ⟨g, i * 3 + 2, none⟩ = some (.bool b)) (go_keep) (fail)
  go_wp2
  refine bodyPost_ret (results_row2 rfl _ _ N 59 #[.bool true, .int .i64 (s : Int), .bool b] (0, 0) _ rfl (ent_laid (cs := (_, _, _)) HZ.out) Try.underlying59 rfl info33) rfl ?_
  refine ⟨rfl, ?_⟩
  rw [hN]
  have x1 := HB.out
  exact (((x1.setCell (p := ⟨N, 0, none⟩) (Nat.le_refl _) _).setCell (p := ⟨N, 1, none⟩) (Nat.le_refl _) _).setCell (p := ⟨N, 2, none⟩) (Nat.le_refl _) _).drew
end
end Go.Proofs.Ytmflohehnoghhaa
