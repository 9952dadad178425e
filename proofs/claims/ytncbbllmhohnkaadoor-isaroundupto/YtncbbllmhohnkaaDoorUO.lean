import Derived.Test.YtncbbllmhohnkaaDoorUN
namespace Go.Proofs.YtncbbllmhohnkaaDoor
open Go.RowKit
theorem info_line : (Tryd.prog.info? 60).map (·.size) = some 8 := by kernel_rfl
theorem cut_len (ms : Tx) : ∀ (s : Tx), ((cutT ms s).getD (s, [])).1.length ≤ s.length ∧ ((cutT ms s).getD (s, [])).2.length ≤ s.length
  | [] => by simp [cutT]
  | c :: r => by
    have ih := cut_len ms r
    unfold cutT
    cases h : ms.contains c with
    | true => simp
    | false =>
      simp only [Bool.false_eq_true, if_false]
      cases h2 : cutT ms r with
      | none => simp
      | some p =>
        rw [h2] at ih
        simp only [Option.map_some, Option.getD_some, List.length_cons] at ih ⊢
        omega
theorem LnAt.wr {w : World} {g : Nat} {l : Ln} (h : LnAt w g l) (b : Bool) : LnAt (w.setCell ⟨g, 0, none⟩ (.bool b)) g { l with wrong := b } := heap_setCell_same w g 0 _ _ _ h
theorem sf_len (r f : Tx) (h : f ∈ sfT r) : f.length ≤ r.length := by
  unfold sfT at h
  split at h
  · simp at h
  · obtain ⟨p, hp, rfl⟩ := List.mem_map.1 h
    have h1 := trimT_len p
    have h2 := split_len 44 (trimT r) p hp
    have h3 := trimT_len r
    omega
theorem sf_count (r : Tx) : (sfT r).length ≤ r.length + 1 := by
  unfold sfT
  split
  · simp
  · rw [List.length_map]
    have h2 := split_count 44 (trimT r)
    have h3 := trimT_len r
    omega
theorem ln_sets {w1 : World} {g : Nat} {l0 : Ln} (q : LnAt w1 g l0) (l : Ln) :
    LnAt ((((((((w1.setCell ⟨g, 0, none⟩ (.bool l.wrong)).setCell ⟨g, 1, none⟩ (.string ⟨l.label.toArray⟩)).setCell ⟨g, 2, none⟩ (.int .i64 l.i.op)).setCell ⟨g, 3, none⟩ (.int .i64 l.i.a)).setCell ⟨g, 4, none⟩ (.int .i64 l.i.b)).setCell ⟨g, 5, none⟩ (.int .i64 l.i.imm)).setCell ⟨g, 6, none⟩ (.string ⟨l.name.toArray⟩)).setCell ⟨g, 7, none⟩ (.int .i64 l.words)) g l := by
  have h1 := LnAt.wr q l.wrong
  have h2 := h1.label l.label
  have h3 := h2.op l.i.op
  have h4 := h3.a l.i.a
  have h5 := h4.b l.i.b
  have h6 := h5.imm l.i.imm
  have h7 := h6.name l.name
  exact h7.words l.words
section
variable (w : World)
set_option maxRecDepth 100000 in
set_option maxHeartbeats 2000000 in
theorem readSt_any (s : Tx) (hs : s.length ≤ 16384) (hO : Ops w) : Calls Tryd.prog 55 #[.string ⟨s.toArray⟩] w fun e w' => e = .returned (.agg (lnC (stT s))) ∧ Below w.heap.size w w' := by
  by_cases h0 : s = []
  · subst h0
    go_enter Tryd.func55, Tryd.ntmps55
    go_wp2
    refine bodyPost_ret (results_cell_row rfl _ _ w.heap.size 60 (lnC ln0) (0, 0) _ rfl (heap_alloc_last _ _) Tryd.underlying60 rfl info_line) rfl ?_
    exact ⟨rfl, bel1 _ _⟩
  · have hne : List.isEmpty s = false := by simpa using h0
    have HV : Hid (stT s = (stmT ((cutT [32, 9] s).getD (s, [])).1 (sfT ((cutT [32, 9] s).getD (s, [])).2)).getD lnBad) := hide (by unfold stT; rw [if_neg h0])
    have hcl := cut_len [32, 9] s
    have HC := hide (fun W => cutAt_any W [32, 9] s (by decide) (by decide) hs)
    have hol := hO.lt
    have HO := hide hO
    clear h0 hO
    generalize ((cutT [32, 9] s).getD (s, [])).1 = nme at *
    generalize ((cutT [32, 9] s).getD (s, [])).2 = rst at *
    go_enter Tryd.func55, Tryd.ntmps55
    go_wp2_with fail
    refine (HC.out _).mono ?_
    rintro e w1 ⟨rfl, hb1⟩
    have hs1 := hb1.size
    simp only [World.size_alloc] at hs1
    have HB1 := hide ((bel1 w (.cells (lnC ln0) 60)).trans (hb1.mono (by simp)))
    have HR1 : Hid (LnAt w1 w.heap.size ln0) := hide (LnAt.keep (w := w.alloc (.cells (lnC ln0) 60)) (heap_alloc_last _ _) hb1)
    clear hb1 HC
    go_wp2_with fail
    refine (sf_any _ rst (by omega)).mono ?_
    rintro e w2 ⟨v, rfl, ho2, hb2⟩
    obtain ⟨ao, cc, rfl, hrow⟩ := Row.of ho2 (show w1.heap.size < _ by simp)
    have hs2 := hb2.size
    simp only [World.size_alloc] at hs2
    have hbA := (bel1 w1 (.cells (lnC ln0) 60)).trans (hb2.mono (by simp))
    have hG2 : LnAt w2 w1.heap.size ln0 := LnAt.keep (w := w1.alloc (.cells (lnC ln0) 60)) (heap_alloc_last _ _) hb2
    have hR2 := HR1.out.keep hbA
    have HB2 := hide (HB1.out.trans (hbA.mono (by omega)))
    have HF := hide (readFields_any w2 w1.heap.size nme ao cc (sfT rst) (by omega) (fun f hf => by have := sf_len rst f hf; omega) (by have := sf_count rst; omega) hG2 hrow (HO.out.below HB2.out) (by omega))
    have HR2 := hide hR2
    clear hbA hb2 ho2 hrow hG2 hR2 HR1 HB1
    go_wp2_with fail
    refine HF.out.mono ?_
    rintro e w3 ⟨rfl, hl9, hl8, hk9⟩
    have hR3 : LnAt w3 w.heap.size ln0 := by
      show w3.heap[w.heap.size]? = _
      rw [hk9.block _ (by omega) (by omega)]
      exact HR2.out
    have HB3 := hide (Kp.below HB2.out hk9 (by omega) (by omega : w.heap.size ≤ w1.heap.size))
    have hs3 := hk9.size
    cases hst : stmT nme (sfT rst) with
    | none =>
      rw [hst] at HV
      have fr := fun j => hR3.frz j
      obtain ⟨r0, r1, r2, r3, r4, r5, r6, r7⟩ := hR3.cells
      have HS := hide (ln_sets hR3 lnBad)
      clear hl9 hl8 hk9 hR3 hst HF HR2 HB2
      go_wp2
      refine bodyPost_ret (results_cell_row rfl _ _ w.heap.size 60 (lnC lnBad) (0, 0) _ rfl HS.out Tryd.underlying60 rfl info_line) rfl ?_
      exact ⟨by rw [HV.out]; rfl, (((((((HB3.out.setCell (Nat.le_refl _) _).setCell (Nat.le_refl _) _).setCell (Nat.le_refl _) _).setCell (Nat.le_refl _) _).setCell (Nat.le_refl _) _).setCell (Nat.le_refl _) _).setCell (Nat.le_refl _) _).setCell (Nat.le_refl _) _⟩
    | some l9 =>
      rw [hst] at HV
      have hL9 := hl9 l9 hst
      obtain ⟨q0, q1, q2, q3, q4, q5, q6, q7⟩ := hL9.cells
      have fr := fun j => hR3.frz j
      obtain ⟨r0, r1, r2, r3, r4, r5, r6, r7⟩ := hR3.cells
      have HS := hide (ln_sets hR3 l9)
      clear hl9 hl8 hk9 hR3 hst HF HR2 HB2 hL9
      go_wp2
      refine bodyPost_ret (results_cell_row rfl _ _ w.heap.size 60 (lnC l9) (0, 0) _ rfl HS.out Tryd.underlying60 rfl info_line) rfl ?_
      exact ⟨by rw [HV.out]; rfl, (((((((HB3.out.setCell (Nat.le_refl _) _).setCell (Nat.le_refl _) _).setCell (Nat.le_refl _) _).setCell (Nat.le_refl _) _).setCell (Nat.le_refl _) _).setCell (Nat.le_refl _) _).setCell (Nat.le_refl _) _).setCell (Nat.le_refl _) _⟩
end
end Go.Proofs.YtncbbllmhohnkaaDoor
