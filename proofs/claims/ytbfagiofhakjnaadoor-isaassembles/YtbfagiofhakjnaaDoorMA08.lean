import Derived.Test.YtbfagiofhakjnaaDoorMA07
namespace Go.Proofs.YtbfagiofhakjnaaDoor
open Go.RowKit
theorem info_line : (Tryd.prog.info? 35).map (·.size) = some 8 := by kernel_rfl
theorem cut_len (ms : Tx) : ∀ (s : Tx), ((cutT ms s).getD (s, [])).1.length ≤ s.length ∧ ((cutT ms s).getD (s, [])).2.length ≤ s.length
  | [] => by simp [cutT]
  | c :: r => by
    have ih := cut_len ms r
    unfold cutT
    cases h : ms.contains c with
    | true => simp
    | false =>
      simp only [Bool.false_eq_true, if_false]
      cases h2 : cutT ms r with
      | none => simp
      | some p =>
        rw [h2] at ih
        simp only [Option.map_some, Option.getD_some, List.length_cons] at ih ⊢
        omega
theorem LnAt.wr {w : World} {g : Nat} {l : Ln} (h : LnAt w g l) (b : Bool) : LnAt (w.setCell ⟨g, 0, none⟩ (.bool b)) g { l with wrong := b } := heap_setCell_same w g 0 _ _ _ h
theorem sf_len (r f : Tx) (h : f ∈ sfT r) : f.length ≤ r.length := by
  unfold sfT at h
  split at h
  · simp at h
  · obtain ⟨p, hp, rfl⟩ := List.mem_map.1 h
    have h1 := trimT_len p
    have h2 := split_len 44 (trimT r) p hp
    have h3 := trimT_len r
    omega
theorem sf_count (r : Tx) : (sfT r).length ≤ r.length + 1 := by
  unfold sfT
  split
  · simp
  · rw [List.length_map]
    have h2 := split_count 44 (trimT r)
    have h3 := trimT_len r
    omega
theorem ln_sets {w1 : World} {g : Nat} {l0 : Ln} (q : LnAt w1 g l0) (l : Ln) :
    LnAt ((((((((w1.setCell ⟨g, 0, none⟩ (.bool l.wrong)).setCell ⟨g, 1, none⟩ (.string ⟨l.label.toArray⟩)).setCell ⟨g, 2, none⟩ (.int .i64 l.i.op)).setCell ⟨g, 3, none⟩ (.int .i64 l.i.a)).setCell ⟨g, 4, none⟩ (.int .i64 l.i.b)).setCell ⟨g, 5, none⟩ (.int .i64 l.i.imm)).setCell ⟨g, 6, none⟩ (.string ⟨l.name.toArray⟩)).setCell ⟨g, 7, none⟩ (.int .i64 l.words)) g l := by
  have h1 := LnAt.wr q l.wrong
  have h2 := h1.label l.label
  have h3 := h2.op l.i.op
  have h4 := h3.a l.i.a
  have h5 := h4.b l.i.b
  have h6 := h5.imm l.i.imm
  have h7 := h6.name l.name
  exact h7.words l.words
section
variable (w : World)
set_option maxRecDepth 100000 in
set_option maxHeartbeats 2000000 in
theorem readSt_any (s : Tx) (hs : s.length ≤ 16384) (hO : Ops w) : Calls Tryd.prog 31 #[.string ⟨s.toArray⟩] w fun e w' => e = .returned (.agg (lnC (stT s))) ∧ Below w.heap.size w w' := by
  by_cases h0 : s = []
  · subst h0
    go_enter Tryd.func31, Tryd.ntmps31
    go_wp2
    refine bodyPost_ret (results_cell_row rfl _ _ w.heap.size 35 (lnC ln0) (0, 0) _ rfl (heap_alloc_last _ _) Tryd.underlying35 rfl info_line) rfl ?_
    exact ⟨rfl, bel1 _ _⟩
  · have hne : List.isEmpty s = false := by simpa using h0
    have HV : Hid (stT s = (stmT ((cutT [32, 9] s).getD (s, [])).1 (sfT ((cutT [32, 9] s).getD (s, [])).2)).getD lnBad) := hide (by unfold stT; rw [if_neg h0])
    have hcl := cut_len [32, 9] s
    have HC := hide (fun W => cutAt_any W [32, 9] s (by decide) (by decide) hs)
    have hol := hO.lt
    have HO := hide hO
    clear h0 hO
    generalize ((cutT [32, 9] s).getD (s, [])).1 = nme at *
    generalize ((cutT [32, 9] s).getD (s, [])).2 = rst at *
    go_enter Tryd.func31, Tryd.ntmps31
    go_wp2_with fail
    refine (HC.out _).mono ?_
    rintro e w1 ⟨rfl, hb1⟩
    have hs1 := hb1.size
    simp only [World.size_alloc] at hs1
    have HB1 := hide ((bel1 w (.cells (lnC ln0) 35)).trans (hb1.mono (by simp)))
    have HR1 : Hid (LnAt w1 w.heap.size ln0) := hide (LnAt.keep (w := w.alloc (.cells (lnC ln0) 35)) (heap_alloc_last _ _) hb1)
    clear hb1 HC
    go_wp2_with fail
    refine (sf_any _ rst (by omega)).mono ?_
    rintro e w2 ⟨v, rfl, ho2, hb2⟩
    obtain ⟨ao, cc, rfl, hrow⟩ := Row.of ho2 (show w1.heap.size < _ by simp)
    have hs2 := hb2.size
    simp only [World.size_alloc] at hs2
    have hbA := (bel1 w1 (.cells (lnC ln0) 35)).trans (hb2.mono (by simp))
    have hG2 : LnAt w2 w1.heap.size ln0 := LnAt.keep (w := w1.alloc (.cells (lnC ln0) 35)) (heap_alloc_last _ _) hb2
    have hR2 := HR1.out.keep hbA
    have HB2 := hide (HB1.out.trans (hbA.mono (by omega)))
    have HF := hide (readFields_any w2 w1.heap.size nme ao cc (sfT rst) (by omega) (fun f hf => by have := sf_len rst f hf; omega) (by have := sf_count rst; omega) hG2 hrow (HO.out.below HB2.out) (by omega))
    have HR2 := hide hR2
    clear hbA hb2 ho2 hrow hG2 hR2 HR1 HB1
    go_wp2_with fail
    refine HF.out.mono ?_
    rintro e w3 ⟨rfl, hl9, hl8, hk9⟩
    have hR3 : LnAt w3 w.heap.size ln0 := by
      show w3.heap[w.heap.size]? = _
      rw [hk9.block _ (by omega) (by omega)]
      exact HR2.out
    have HB3 := hide (Kp.below HB2.out hk9 (by omega) (by omega : w.heap.size ≤ w1.heap.size))
    have hs3 := hk9.size
    cases hst : stmT nme (sfT rst) with
    | none =>
      rw [hst] at HV
      have fr := fun j => hR3.frz j
      obtain ⟨r0, r1, r2, r3, r4, r5, r6, r7⟩ := hR3.cells
      have HS := hide (ln_sets hR3 lnBad)
      clear hl9 hl8 hk9 hR3 hst HF HR2 HB2
      go_wp2
      refine bodyPost_ret (results_cell_row rfl _ _ w.heap.size 35 (lnC lnBad) (0, 0) _ rfl HS.out Tryd.underlying35 rfl info_line) rfl ?_
      exact ⟨by rw [HV.out]; rfl, (((((((HB3.out.setCell (Nat.le_refl _) _).setCell (Nat.le_refl _) _).setCell (Nat.le_refl _) _).setCell (Nat.le_refl _) _).setCell (Nat.le_refl _) _).setCell (Nat.le_refl _) _).setCell (Nat.le_refl _) _).setCell (Nat.le_refl _) _⟩
    | some l9 =>
      rw [hst] at HV
      have hL9 := hl9 l9 hst
      obtain ⟨q0, q1, q2, q3, q4, q5, q6, q7⟩ := hL9.cells
      have fr := fun j => hR3.frz j
      obtain ⟨r0, r1, r2, r3, r4, r5, r6, r7⟩ := hR3.cells
      have HS := hide (ln_sets hR3 l9)
      clear hl9 hl8 hk9 hR3 hst HF HR2 HB2 hL9
      go_wp2
      refine bodyPost_ret (results_cell_row rfl _ _ w.heap.size 35 (lnC l9) (0, 0) _ rfl HS.out Tryd.underlying35 rfl info_line) rfl ?_
      exact ⟨by rw [HV.out]; rfl, (((((((HB3.out.setCell (Nat.le_refl _) _).setCell (Nat.le_refl _) _).setCell (Nat.le_refl _) _).setCell (Nat.le_refl _) _).setCell (Nat.le_refl _) _).setCell (Nat.le_refl _) _).setCell (Nat.le_refl _) _).setCell (Nat.le_refl _) _⟩
end
end Go.Proofs.YtbfagiofhakjnaaDoor

namespace Go.Proofs.YtbfagiofhakjnaaDoor
open Go.RowKit
theorem set8 {w v : World} {g B : Nat} (h : Below B w v) (hg : B ≤ g) (a0 a1 a2 a3 a4 a5 a6 a7 : Value) : Below B w ((((((((v.setCell ⟨g, 0, none⟩ a0).setCell ⟨g, 1, none⟩ a1).setCell ⟨g, 2, none⟩ a2).setCell ⟨g, 3, none⟩ a3).setCell ⟨g, 4, none⟩ a4).setCell ⟨g, 5, none⟩ a5).setCell ⟨g, 6, none⟩ a6).setCell ⟨g, 7, none⟩ a7) :=
  (((((((h.setCell hg _).setCell hg _).setCell hg _).setCell hg _).setCell hg _).setCell hg _).setCell hg _).setCell hg _
section
variable (w : World)
set_option maxRecDepth 100000 in
set_option maxHeartbeats 2000000 in
theorem readLine_any (s : Tx) (hs : s.length ≤ 16384) (hO : Ops w) : Calls Tryd.prog 16 #[.string ⟨s.toArray⟩] w fun e w' => e = .returned (.agg (lnC (lineT s))) ∧ Below w.heap.size w w' := by
  have HV : Hid (lineT s = match cutT [58] (trimT ((cutT [59] s).getD (s, [])).1) with | none => stT (trimT ((cutT [59] s).getD (s, [])).1) | some (a, b) => if isLbl a then { stT (trimT b) with label := a } else lnBad) := hide rfl
  have hcl := (cut_len [59] s).1
  have HC := hide (fun W => cutAt_any W [59] s (by decide) (by decide) hs)
  have HO := hide hO
  clear hO
  generalize ((cutT [59] s).getD (s, [])).1 = t1 at *
  generalize ((cutT [59] s).getD (s, [])).2 = t1b at *
  have htl := trimT_len t1
  have HT := hide (fun W => trim_any W t1 (by omega))
  generalize trimT t1 = t at *
  have hcl2 := cut_len [58] t
  have HC2 := hide (fun W => cutAt_any W [58] t (by decide) (by decide) (by omega))
  go_enter Tryd.func16, Tryd.ntmps16
  go_wp2_with fail
  refine (HC.out _).mono ?_
  rintro e w1 ⟨rfl, hb1⟩
  have hs1 := hb1.size
  simp only [World.size_alloc] at hs1
  have HB1 := hide ((bel1 w (.cells (lnC ln0) 35)).trans (hb1.mono (by simp)))
  have HR1 : Hid (LnAt w1 w.heap.size ln0) := hide (LnAt.keep (w := w.alloc (.cells (lnC ln0) 35)) (heap_alloc_last _ _) hb1)
  clear hb1 HC
  go_wp2_with fail
  refine (HT.out _).mono ?_
  rintro e w2 ⟨rfl, hb2⟩
  have HB2 := hide (HB1.out.trans (hb2.mono (by omega)))
  have HR2 := hide (HR1.out.keep hb2)
  have hs2 := hb2.size
  clear hb2 HT HB1 HR1
  go_wp2_with fail
  refine (HC2.out _).mono ?_
  rintro e w3 ⟨rfl, hb3⟩
  have HB3 := hide (HB2.out.trans (hb3.mono (by omega)))
  have HR3 := hide (HR2.out.keep hb3)
  have hs3 := hb3.size
  clear hb3 HC2 HB2 HR2
  cases hct : cutT [58] t with
  | none =>
    rw [hct] at HV
    have HL := hide (readSt_any w3 t (by omega) (HO.out.below HB3.out))
    clear hct
    simp only [Option.getD_none, Option.isSome_none] at *
    generalize stT t = L at *
    go_wp2_with fail
    refine HL.out.mono ?_
    rintro e w4 ⟨rfl, hb4⟩
    have HB4 := hide (HB3.out.trans (hb4.mono (by omega)))
    have hR4 := HR3.out.keep hb4
    have fr := fun j => hR4.frz j
    obtain ⟨r0, r1, r2, r3, r4, r5, r6, r7⟩ := hR4.cells
    have HS := hide (ln_sets hR4 L)
    clear hb4 hR4 HL HB3 HR3
    simp only [lnC]
    go_wp2
    refine bodyPost_ret (results_cell_row rfl _ _ w.heap.size 35 (lnC L) (0, 0) _ rfl HS.out Tryd.underlying35 rfl info_line) rfl ?_
    exact ⟨by rw [HV.out], set8 HB4.out (Nat.le_refl _) _ _ _ _ _ _ _ _⟩
  | some p =>
    obtain ⟨a, b⟩ := p
    rw [hct] at HV hcl2
    simp only [Option.getD_some] at hcl2
    have HLb := hide (isLabel_any w3 a (by omega))
    clear hct
    simp only [Option.getD_some, Option.isSome_some] at *
    cases hla : isLbl a with
    | false =>
      rw [hla] at HLb
      have HV2 : Hid (lineT s = lnBad) := hide (by rw [HV.out]; simp [hla])
      clear hla HV
      go_wp2_with fail
      refine HLb.out.mono ?_
      rintro e w4 ⟨rfl, hb4⟩
      have HB4 := hide (HB3.out.trans (hb4.mono (by omega)))
      have hR4 := HR3.out.keep hb4
      have fr := fun j => hR4.frz j
      obtain ⟨r0, r1, r2, r3, r4, r5, r6, r7⟩ := hR4.cells
      have HS := hide (ln_sets hR4 lnBad)
      clear hb4 hR4 HLb HB3 HR3
      go_wp2
      refine bodyPost_ret (results_cell_row rfl _ _ w.heap.size 35 (lnC lnBad) (0, 0) _ rfl HS.out Tryd.underlying35 rfl info_line) rfl ?_
      exact ⟨by rw [HV2.out], set8 HB4.out (Nat.le_refl _) _ _ _ _ _ _ _ _⟩
    | true =>
      rw [hla] at HLb
      have HV2 : Hid (lineT s = { stT (trimT b) with label := a }) := hide (by rw [HV.out]; simp [hla])
      have htb := trimT_len b
      clear hla HV
      go_wp2_with fail
      refine HLb.out.mono ?_
      rintro e w4 ⟨rfl, hb4⟩
      have HB4 := hide (HB3.out.trans (hb4.mono (by omega)))
      have HR4 := hide (HR3.out.keep hb4)
      have hs4 := hb4.size
      clear hb4 HLb HB3 HR3
      go_wp2_with fail
      refine (trim_any _ b (by omega)).mono ?_
      rintro e w5 ⟨rfl, hb5⟩
      have HB5 := hide (HB4.out.trans (hb5.mono (by omega)))
      have HR5 := hide (HR4.out.keep hb5)
      have hs5 := hb5.size
      clear hb5 HB4 HR4
      have HL := hide (readSt_any w5 (trimT b) (by omega) (HO.out.below HB5.out))
      generalize stT (trimT b) = L at *
      go_wp2_with fail
      refine HL.out.mono ?_
      rintro e w6 ⟨rfl, hb6⟩
      have HB6 := hide (HB5.out.trans (hb6.mono (by omega)))
      have HR6 := hide (HR5.out.keep hb6)
      have hs6 := hb6.size
      clear hb6 HB5 HR5 HL
      simp only [lnC]
      go_upto_region 10 with fail
      have hG : LnAt (w6.alloc (.cells #[.bool L.wrong, .string ⟨a.toArray⟩, .int .i64 L.i.op, .int .i64 L.i.a, .int .i64 L.i.b, .int .i64 L.i.imm, .string ⟨L.name.toArray⟩, .int .i64 L.words] 35)) w6.heap.size { L with label := a } := heap_alloc_last _ _
      have hR7 := HR6.out.keep (bel1 w6 (.cells #[.bool L.wrong, .string ⟨a.toArray⟩, .int .i64 L.i.op, .int .i64 L.i.a, .int .i64 L.i.b, .int .i64 L.i.imm, .string ⟨L.name.toArray⟩, .int .i64 L.words] 35))
      have HB7 := hide (HB6.out.alloc HB6.out.size (.cells #[.bool L.wrong, .string ⟨a.toArray⟩, .int .i64 L.i.op, .int .i64 L.i.a, .int .i64 L.i.b, .int .i64 L.i.imm, .string ⟨L.name.toArray⟩, .int .i64 L.words] 35))
      generalize w6.alloc (.cells #[.bool L.wrong, .string ⟨a.toArray⟩, .int .i64 L.i.op, .int .i64 L.i.a, .int .i64 L.i.b, .int .i64 L.i.imm, .string ⟨L.name.toArray⟩, .int .i64 L.words] 35) = W7 at *
      generalize w6.heap.size = g7 at *
      obtain ⟨q0, q1, q2, q3, q4, q5, q6, q7⟩ := hG.cells
      have fr := fun j => hR7.frz j
      obtain ⟨r0, r1, r2, r3, r4, r5, r6, r7⟩ := hR7.cells
      have HS := hide (ln_sets hR7 { L with label := a })
      clear hG hR7 HR6 HB6
      go_wp2
      refine bodyPost_ret (results_cell_row rfl _ _ w.heap.size 35 (lnC { L with label := a }) (0, 0) _ rfl HS.out Tryd.underlying35 rfl info_line) rfl ?_
      exact ⟨by rw [HV2.out], set8 HB7.out (Nat.le_refl _) _ _ _ _ _ _ _ _⟩
end
end Go.Proofs.YtbfagiofhakjnaaDoor

namespace Go.Proofs.YtbfagiofhakjnaaDoor
open Go.RowKit
theorem info_ln : ∃ i, Tryd.prog.info? 35 = some i ∧ i.zero = some (.agg (lnC ln0)) ∧ i.size = 8 ∧ i.bytes = 80 := info_parts (by kernel_rfl)
def lnL (l : Ln) : List Value := [.bool l.wrong, .string ⟨l.label.toArray⟩, .int .i64 l.i.op, .int .i64 l.i.a, .int .i64 l.i.b, .int .i64 l.i.imm, .string ⟨l.name.toArray⟩, .int .i64 l.words]
/-- lines, one behind the other -/
def lns (ls : List Ln) : List Value := ls.flatMap lnL
theorem lns_snoc (ls : List Ln) (l : Ln) : lns (ls ++ [l]) = lns ls ++ lnL l := by simp [lns]
theorem lns_len (ls : List Ln) : (lns ls).length = ls.length * 8 := by
  induction ls with
  | nil => rfl
  | cons l r ih => simp only [lns, List.flatMap_cons, List.length_append, List.length_cons] at ih ⊢; rw [ih]; simp [lnL]; omega
theorem lns_at {ls : List Ln} {k : Nat} (hk : k < ls.length) {j : Nat} (hj : j < 8) : (lns ls)[k * 8 + j]? = (lnL ls[k])[j]? := by
  induction ls generalizing k with
  | nil => simp at hk
  | cons l r ih =>
    cases k with
    | zero =>
      simp only [lns, List.flatMap_cons, Nat.zero_mul, Nat.zero_add, List.getElem_cons_zero]
      rw [List.getElem?_append_left (by simpa [lnL] using hj)]
    | succ k =>
      simp only [lns, List.flatMap_cons, List.getElem_cons_succ]
      rw [List.getElem?_append_right (by simp [lnL]; omega)]
      have e : (k + 1) * 8 + j - (lnL l).length = k * 8 + j := by simp [lnL]; omega
      rw [e]
      exact ih (by simpa using hk)
theorem cells_new (w : World) (cs : List Value) (t : TypeId) : ∀ j u, cs[j]? = some u → (w.alloc (.cells cs.toArray t)).cell? ((⟨w.heap.size, 0, none⟩ : Addr).add j) = some u := by
  intro j u h
  rw [add0, World.cell?_alloc_new]
  simpa using h
theorem lnL_one (l : Ln) : ∀ u ∈ lnL l, u.oneCell' = true := by
  intro u hu
  simp [lnL] at hu
  rcases hu with rfl | rfl | rfl | rfl | rfl | rfl | rfl | rfl <;> rfl
section
variable (w : World)
set_option maxRecDepth 100000 in
set_option maxHeartbeats 2000000 in
theorem readLines_any (s : Tx) (hs : s.length ≤ 16384) (hO : Ops w) : Calls Tryd.prog 7 #[.string ⟨s.toArray⟩] w fun e w' => ∃ v, e = .returned v ∧ w'.ownsRow w.heap.size 35 8 v (splitT 10 s).length (lns ((splitT 10 s).map lineT)) ∧ Below w.heap.size w w' := by
  obtain ⟨i9, hi, hz, hsz, hb⟩ := info_ln
  have HO := hide hO
  clear hO
  go_enter Tryd.func7, Tryd.ntmps7
  go_wp2_with fail
  refine (cutAll_any _ s 10 (by decide) hs).mono ?_
  rintro e w1 ⟨v, rfl, hP, hb1⟩
  have hcnt := split_count 10 s
  have HPl : Hid (∀ p ∈ splitT 10 s, p.length ≤ 16384) := hide (fun p hp => by have := split_len 10 s p hp; omega)
  obtain ⟨ap, cp, rfl, hRow⟩ := Row.of (g := w.heap.size) hP (Nat.lt_succ_self _)
  have HRow := hide hRow
  have HB := hide hb1
  have hs1 := hb1.size
  clear hRow hP hb1
  generalize hps : splitT 10 s = ps at *
  have HPs := hide hps
  clear hps
  go_upto_region 3 with fail
  go_loopw [3, 9] (fun v u wr => ∃ j : Nat, u = .int .i64 (j : Int) ∧ j ≤ ps.length ∧ wr.ownsRow w1.heap.size 35 8 v j (lns ((ps.take j).map lineT)) ∧ Below w1.heap.size w1 wr) (fun _ u _ => ps.length - (intOf u).toNat)
  case atStart => exact ⟨0, rfl, by omega, ⟨rfl, .inl ⟨rfl, rfl⟩⟩, Below.refl _ _⟩
  case round =>
  obtain ⟨j, rfl, hj, hOw, hBw⟩ := hrel
  obtain ⟨au, cu, rfl⟩ := own_shape hOw
  have HOw := hide hOw
  have HBw := hide hBw
  have hsw := hBw.size
  by_cases hlt : j < ps.length
  · obtain ⟨a, rfl, hab, ca⟩ := HRow.out j (by simpa [strs] using hlt)
    have ea : (strs ps)[j]'(by simpa [strs] using hlt) = .string ⟨ps[j].toArray⟩ := by simp [strs]
    rw [ea] at ca
    have cw : wr.cell? (a.add j) = some (.string ⟨ps[j].toArray⟩) := by rw [hBw.cell (cell_blk ca)]; exact ca
    have HE : Hid (lns ((ps.take (j + 1)).map lineT) = lns ((ps.take j).map lineT) ++ lnL (lineT ps[j])) := hide (by rw [List.take_succ_eq_append_getElem hlt, List.map_append, ← lns_snoc]; rfl)
    have hpl := HPl.out ps[j] (List.getElem_mem hlt)
    have HL := hide (readLine_any wr ps[j] hpl ((HO.out.below HB.out).below HBw.out))
    have hd : (j : Int) < (ps.length : Int) := by omega
    clear hOw hBw ea ca
    generalize ps[j] = p at *
    generalize lineT p = L at *
    go_wp2_with fail
    refine HL.out.mono ?_
    rintro e w2 ⟨rfl, hb2⟩
    have HO2 := hide (own_keep HOw.out hb2)
    have HB2 := hide (HBw.out.trans (hb2.mono hsw))
    have hs2 := hb2.size
    clear hb2 HOw HBw HL cw
    simp only [lnC]
    go_upto_region 6 with (at_builtin; refine wpList_append_own _ rfl _ _ 28 rfl w1.heap.size 35 i9 (.agg (lnC ln0)) 8 80 Tryd.underlying28 hi hz hsz hb rfl (by decide) _ _ _ rfl (HO2.out.alloc _) ⟨_, 0, none⟩ 1 1 (lnL L) rfl rfl (cells_new _ _ _) (lnL_one L) (by unfold maxLen; omega) (by omega) (by simp; omega) ?_; intro v3 w3 ho3 hg3 _; obtain ⟨a3, c3, rfl⟩ := own_shape ho3)
    have HO3 : Hid (w3.ownsRow w1.heap.size 35 8 (.slice a3 (j + 1) c3) (j + 1) (lns ((ps.take (j + 1)).map lineT))) := hide (by rw [HE.out]; exact ho3)
    have HB3 := hide ((HB2.out.alloc (by omega) _).grown hg3 (by simp; omega) (fun k hk => (HO2.out.lt k hk).1))
    clear ho3 hg3 HO2 HB2
    go_wp2
    refine ⟨⟨j + 1, by simp, by omega, HO3.out, HB3.out⟩, ?_⟩
    simp [intOf]
    omega
  · obtain rfl : j = ps.length := by omega
    rw [List.take_length] at hOw
    have HO2 := hide hOw
    clear hOw hBw HOw
    go_wp2
    go_ret
    exact ⟨_, rfl, by rw [HPs.out]; exact own_mono HO2.out hs1, HB.out.trans (HBw.out.mono hs1)⟩
end
end Go.Proofs.YtbfagiofhakjnaaDoor
