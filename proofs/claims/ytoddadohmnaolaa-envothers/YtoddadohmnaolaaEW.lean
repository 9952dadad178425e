import Derived.Test.YtoddadohmnaolaaEV
namespace Go.Proofs.Ytoddadohmnaolaa
open Go.RowKit Go.Shelf

section
variable {P : Program} {ops : Array Oper} {Q : Exit → Act → World → Prop} {S : World → Prop} {fuel : Nat} {listed : Array Bool} {a : Act} {w : World}
/-- what its guard leaves out -/
theorem hd_skip (i : Nat) {o : Oper} (hs : Region.noSelect ops = true) (hf : Region.free .any ops listed i = true) (hr : (Region.ready .any ops listed).contains i = true) (ho : ops[i]? = some o) (hw : Region.wanted o (yielded ops a.tmps) = false)
    (hQ : ∀ c a w, Q (.panic c) (a.put o.dst undef) w → Q (.panic c) a w) (h0 : S w) (h : wpAnyH P .any ops Q S fuel (listed.setIfInBounds i true) (a.put o.dst undef) w) : wpAnyH P .any ops Q S (fuel + 1) listed a w :=
  wpAnyH_take ho hs hf hr hQ (Or.inr ⟨hw, rfl⟩) h0 h
end
set_option maxRecDepth 100000 in
set_option maxHeartbeats 3200000 in
theorem payBad_any (w : World) (b : Nat) (q : Qt) (hg : ¬ q.good) : Calls Try.prog 52 #[.pointer (some ⟨b, 21, none⟩), q.val] w fun e w' => e = .returned (.int .i64 1) ∧ Below w.heap.size w w' := by
  have hb1 := (Below.refl w.heap.size w).alloc (Nat.le_refl _) (.cells #[.int .i64 q.f, .int .i64 q.e, .int .i64 q.x] 39)
  have HB1 := hide hb1
  have HC1 := hide (fun W => isGood_any W q)
  rw [show decide q.good = false by simpa using hg] at HC1
  clear hb1 hg
  unfold Qt.val at *
  go_enter Try.func52, Try.ntmps52
  go_wp2_with fail
  refine (HC1.out _).mono ?_
  rintro e1 w2 ⟨rfl, hb2⟩
  have HB2 := hide (HB1.out.trans (hb2.mono HB1.out.size))
  clear hb2
  go_wp2
  go_ret
  exact ⟨rfl, HB2.out⟩
set_option maxRecDepth 100000 in
set_option maxHeartbeats 3200000 in
theorem payFull_any (w : World) (b : Nat) (r : Er) (h : Rb w b r) (q : Qt) (hg : q.good) (hf : ¬ q.le r.le) : Calls Try.prog 52 #[.pointer (some ⟨b, 21, none⟩), q.val] w fun e w' => e = .returned (.int .i64 2) ∧ Below w.heap.size w w' := by
  have hb1 := (Below.refl w.heap.size w).alloc (Nat.le_refl _) (.cells #[.int .i64 q.f, .int .i64 q.e, .int .i64 q.x] 39)
  have a1 := heap_alloc_new w (.cells #[.int .i64 q.f, .int .i64 q.e, .int .i64 q.x] 39)
  have HR := hide (h.keep (hb1.block b h.lt))
  have HB1 := hide hb1
  have HA := hide a1
  have HC1 := hide (fun W => isGood_any W q)
  rw [show decide q.good = true by simpa using hg] at HC1
  have HC2 := hide (fun W (hb : Rb W b r) => affords_any W b r hb q)
  rw [show decide (q.le r.le) = false by simpa using hf] at HC2
  clear hb1 hg h hf a1
  unfold Qt.val at *
  go_enter Try.func52, Try.ntmps52
  go_wp2_with fail
  refine (HC1.out _).mono ?_
  rintro e1 w2 ⟨rfl, hb2⟩
  have HB2 := hide (HB1.out.trans (hb2.mono HB1.out.size))
  have HR2 := hide (HR.out.keep (hb2.block b HR.out.lt))
  have a2 := (hb2.block _ (Array.getElem?_eq_some_iff.1 HA.out).1).trans HA.out
  obtain ⟨c0, c1, c2, -, -, -⟩ := blk3 a2
  clear hb2 HB1 HR a2
  go_wp2_with fail
  refine (HC2.out _ HR2.out).mono ?_
  rintro e1 w3 ⟨rfl, hb3⟩
  have HB3 := hide (HB2.out.trans (hb3.mono HB2.out.size))
  clear hb3
  go_wp2
  go_ret
  exact ⟨rfl, HB3.out⟩
set_option maxRecDepth 100000 in
set_option maxHeartbeats 6400000 in
theorem refundOk_any (w : World) (b : Nat) (r : Er) (h : Rb w b r) (q : Qt) (hg : q.good) (hq : q.ok) (hf : q.le r.pd) (hle : r.le.ok) (hpd : r.pd.ok) : Calls Try.prog 53 #[.pointer (some ⟨b, 21, none⟩), q.val] w fun e w' => e = .returned (.int .i64 0) ∧ Rb w' b { r with pd := r.pd.less q, le := r.le.plus q } ∧ At w b w' := by
  have hb1 := (Below.refl w.heap.size w).alloc (Nat.le_refl _) (.cells #[.int .i64 q.f, .int .i64 q.e, .int .i64 q.x] 39)
  have a1 := heap_alloc_new w (.cells #[.int .i64 q.f, .int .i64 q.e, .int .i64 q.x] 39)
  have hR := h.keep (hb1.block b h.lt)
  have HA1 := hide (At.of_below (b := b) hb1)
  have HNE : Hid (w.heap.size ≠ b) := hide (fun e => by have := h.lt; omega)
  have HC1 := hide (fun W => isGood_any W q)
  rw [show decide q.good = true by simpa using hg] at HC1
  have HC2 := hide (fun W => fits_any W q r.pd)
  rw [show decide (q.le r.pd) = true by simpa using hf] at HC2
  have HP := hide (fun W => plus_any W r.le q hle hq)
  have HL := hide (fun W => less_any W r.pd q hpd hq)
  clear h hb1 hg hq hf hle hpd
  unfold Qt.val at *
  simp only [Qt.less] at HL
  simp only [Qt.plus] at HP
  go_enter Try.func53, Try.ntmps53
  go_upto_region 1 with fail
  generalize w.alloc (.cells #[.int .i64 q.f, .int .i64 q.e, .int .i64 q.x] 39) = w1 at *
  obtain ⟨N, hN⟩ : ∃ N, w.heap.size = N := ⟨_, rfl⟩
  rw [hN] at a1 HNE ⊢
  clear hN
  have HR1 := hide hR
  have HN1 := hide a1
  clear hR a1
  obtain ⟨w2, hw2⟩ : ∃ w2, w2 = w1.drew := ⟨_, rfl⟩
  have HS : Hid (w2.heap[N]? = some (.cells #[.int .i64 q.f, .int .i64 q.e, .int .i64 q.x] 39 (0, 0)) ∧ Rb w2 b r) := by rw [hw2]; exact hide ⟨HN1.out, ⟨HR1.out.out⟩⟩
  have HT2 : Hid (At w b w2) := by rw [hw2]; exact ⟨HA1.out.os, HA1.out.tape, HA1.out.output, HA1.out.size, HA1.out.block⟩
  clear HN1 HR1 HA1
  refine wp_region_held_drew (S := fun W => W.heap[N]? = some (.cells #[.int .i64 q.f, .int .i64 q.e, .int .i64 q.x] 39 (0, 0)) ∧ Rb W b r) (by kernel_rfl) (by rw [← hw2]; exact HS.out) (fun _ => ?_)
  rw [← hw2]
  clear hw2
  refine hd_take 0 (o := ⟨some 5, _, _, _, _, _⟩) (.agg #[.int .i64 q.f, .int .i64 q.e, .int .i64 q.x]) (by kernel_rfl) (by kernel_rfl) (by kernel_rfl) rfl (by rfl) (fun W hSw => by obtain ⟨q9, q8⟩ := hSw; obtain ⟨c0, c1, c2, -, -, -⟩ := blk3 q9; go_simp) (fun _ _ _ h => h) HS.out ?_
  try simp only [Act.put, List.setIfInBounds_toArray, List.set_cons_zero, List.set_cons_succ]
  refine hd_call 1 (o := ⟨some 6, _, _, _, _, _⟩) (by kernel_rfl) rfl (by rfl) (fun K hK => ?_)
  go_simp
  go_wp2_with (go_at_call 42; refine (HC1.out _).mono ?_; rintro e1 w3 ⟨rfl, hb3⟩)
  have HS3 : Hid (w3.heap[N]? = some (.cells #[.int .i64 q.f, .int .i64 q.e, .int .i64 q.x] 39 (0, 0)) ∧ Rb w3 b r) := hide ⟨(hb3.block N (Array.getElem?_eq_some_iff.1 HS.out.1).1).trans HS.out.1, HS.out.2.keep (hb3.block b HS.out.2.lt)⟩
  have HT3 := hide (HT2.out.below hb3)
  clear hb3 HS HT2
  refine hK _ _ HS3.out ?_
  clear hK K
  try simp only [Act.put, List.setIfInBounds_toArray, List.set_cons_zero, List.set_cons_succ]
  refine hd_take 2 (o := ⟨some 7, _, _, _, _, _⟩) (.bool false) (by kernel_rfl) (by kernel_rfl) (by kernel_rfl) rfl (by rfl) (fun W hSw => by go_simp) (fun _ _ _ h => h) HS3.out ?_
  try simp only [Act.put, List.setIfInBounds_toArray, List.set_cons_zero, List.set_cons_succ]
  refine hd_take 3 (o := ⟨some 8, _, _, _, _, _⟩) (.bool false) (by kernel_rfl) (by kernel_rfl) (by kernel_rfl) rfl (by rfl) (fun W hSw => by go_simp) (fun _ _ _ h => h) HS3.out ?_
  try simp only [Act.put, List.setIfInBounds_toArray, List.set_cons_zero, List.set_cons_succ]
  refine hd_take 4 (o := ⟨some 9, _, _, _, _, _⟩) (.agg #[.int .i64 q.f, .int .i64 q.e, .int .i64 q.x]) (by kernel_rfl) (by kernel_rfl) (by kernel_rfl) rfl (by rfl) (fun W hSw => by obtain ⟨q9, q8⟩ := hSw; obtain ⟨c0, c1, c2, -, -, -⟩ := blk3 q9; go_simp) (fun _ _ _ h => h) HS3.out ?_
  try simp only [Act.put, List.setIfInBounds_toArray, List.set_cons_zero, List.set_cons_succ]
  refine hd_take 5 (o := ⟨some 10, _, _, _, _, _⟩) (.pointer (some ⟨b, 21, none⟩)) (by kernel_rfl) (by kernel_rfl) (by kernel_rfl) rfl (by rfl) (fun W hSw => by go_simp) (fun _ _ _ h => h) HS3.out ?_
  try simp only [Act.put, List.setIfInBounds_toArray, List.set_cons_zero, List.set_cons_succ]
  refine hd_take 6 (o := ⟨some 11, _, _, _, _, _⟩) (.pointer (some ⟨b, 21, none⟩)) (by kernel_rfl) (by kernel_rfl) (by kernel_rfl) rfl (by rfl) (fun W hSw => by go_simp) (fun _ _ _ h => h) HS3.out ?_
  try simp only [Act.put, List.setIfInBounds_toArray, List.set_cons_zero, List.set_cons_succ]
  refine hd_take 7 (o := ⟨some 12, _, _, _, _, _⟩) (.pointer (some ⟨b, 21, none⟩)) (by kernel_rfl) (by kernel_rfl) (by kernel_rfl) rfl (by rfl) (fun W hSw => by go_simp) (fun _ _ _ h => h) HS3.out ?_
  try simp only [Act.put, List.setIfInBounds_toArray, List.set_cons_zero, List.set_cons_succ]
  refine hd_take 8 (o := ⟨some 13, _, _, _, _, _⟩) (.agg #[.int .i64 r.pd.f, .int .i64 r.pd.e, .int .i64 r.pd.x]) (by kernel_rfl) (by kernel_rfl) (by kernel_rfl) rfl (by rfl) (fun W hSw => by obtain ⟨q9, q8⟩ := hSw; have d0 := q8.get (j := 21) rfl; have d1 := q8.get (j := 22) rfl; have d2 := q8.get (j := 23) rfl; go_simp) (fun _ _ _ h => h) HS3.out ?_
  try simp only [Act.put, List.setIfInBounds_toArray, List.set_cons_zero, List.set_cons_succ]
  refine hd_call 9 (o := ⟨some 14, _, _, _, _, _⟩) (by kernel_rfl) rfl (by rfl) (fun K hK => ?_)
  go_simp
  go_wp2_with (go_at_call 60; refine (HC2.out _).mono ?_; rintro e1 w4 ⟨rfl, hb4⟩)
  have HS4 : Hid (w4.heap[N]? = some (.cells #[.int .i64 q.f, .int .i64 q.e, .int .i64 q.x] 39 (0, 0)) ∧ Rb w4 b r) := hide ⟨(hb4.block N (Array.getElem?_eq_some_iff.1 HS3.out.1).1).trans HS3.out.1, HS3.out.2.keep (hb4.block b HS3.out.2.lt)⟩
  have HT4 := hide (HT3.out.below hb4)
  clear hb4 HS3 HT3
  refine hK _ _ HS4.out ?_
  clear hK K
  try simp only [Act.put, List.setIfInBounds_toArray, List.set_cons_zero, List.set_cons_succ]
  refine hd_take 10 (o := ⟨some 15, _, _, _, _, _⟩) (.bool false) (by kernel_rfl) (by kernel_rfl) (by kernel_rfl) rfl (by rfl) (fun W hSw => by go_simp) (fun _ _ _ h => h) HS4.out ?_
  try simp only [Act.put, List.setIfInBounds_toArray, List.set_cons_zero, List.set_cons_succ]
  refine hd_take 11 (o := ⟨some 16, _, _, _, _, _⟩) (.bool false) (by kernel_rfl) (by kernel_rfl) (by kernel_rfl) rfl (by rfl) (fun W hSw => by go_simp) (fun _ _ _ h => h) HS4.out ?_
  try simp only [Act.put, List.setIfInBounds_toArray, List.set_cons_zero, List.set_cons_succ]
  refine wpAnyH_done (by kernel_rfl) ?_ _
  have HRC := hide HS4.out.2
  have HNC := hide HS4.out.1
  have HAC := HT4
  clear HS4 HT4
  go_upto_region 3 with fail
  obtain ⟨w3, hw3⟩ : ∃ w3, w3 = w4.drew := ⟨_, rfl⟩
  have hR3 : Rb w3 b r := by rw [hw3]; exact ⟨HRC.out.out⟩
  have a3 : w3.heap[N]? = some (.cells #[.int .i64 q.f, .int .i64 q.e, .int .i64 q.x] 39 (0, 0)) := by rw [hw3]; exact HNC.out
  have HA3 : Hid (At w b w3) := by rw [hw3]; exact ⟨HAC.out.os, HAC.out.tape, HAC.out.output, HAC.out.size, HAC.out.block⟩
  have HR3 := hide hR3
  have HA := hide a3
  clear hR3 HRC HNC HAC
  refine wp_region_held_drew (S := fun W => W.heap[N]? = some (.cells #[.int .i64 q.f, .int .i64 q.e, .int .i64 q.x] 39 (0, 0))) (by kernel_rfl) (by rw [← hw3]; exact a3) (fun _ => ?_)
  rw [← hw3]
  clear hw3 a3
  refine hd_take 0 (o := ⟨some 17, _, _, _, _, _⟩) (.pointer (some ⟨b, 21, none⟩)) (by kernel_rfl) (by kernel_rfl) (by kernel_rfl) rfl (by rfl) (fun W hSw => by go_simp) (fun _ _ _ h => h) HA.out ?_
  try simp only [Act.put, List.setIfInBounds_toArray, List.set_cons_zero, List.set_cons_succ]
  refine hd_take 1 (o := ⟨some 18, _, _, _, _, _⟩) (.pointer (some ⟨b, 21, none⟩)) (by kernel_rfl) (by kernel_rfl) (by kernel_rfl) rfl (by rfl) (fun W hSw => by go_simp) (fun _ _ _ h => h) HA.out ?_
  try simp only [Act.put, List.setIfInBounds_toArray, List.set_cons_zero, List.set_cons_succ]
  refine hd_take 2 (o := ⟨some 19, _, _, _, _, _⟩) (.pointer (some ⟨b, 21, none⟩)) (by kernel_rfl) (by kernel_rfl) (by kernel_rfl) rfl (by rfl) (fun W hSw => by go_simp) (fun _ _ _ h => h) HA.out ?_
  try simp only [Act.put, List.setIfInBounds_toArray, List.set_cons_zero, List.set_cons_succ]
  refine hd_take 3 (o := ⟨some 20, _, _, _, _, _⟩) (.pointer (some ⟨b, 21, none⟩)) (by kernel_rfl) (by kernel_rfl) (by kernel_rfl) rfl (by rfl) (fun W hSw => by go_simp) (fun _ _ _ h => h) HA.out ?_
  try simp only [Act.put, List.setIfInBounds_toArray, List.set_cons_zero, List.set_cons_succ]
  refine hd_take 4 (o := ⟨some 21, _, _, _, _, _⟩) (.pointer (some ⟨b, 21, none⟩)) (by kernel_rfl) (by kernel_rfl) (by kernel_rfl) rfl (by rfl) (fun W hSw => by go_simp) (fun _ _ _ h => h) HA.out ?_
  try simp only [Act.put, List.setIfInBounds_toArray, List.set_cons_zero, List.set_cons_succ]
  refine hd_take 6 (o := ⟨some 23, _, _, _, _, _⟩) (.agg #[.int .i64 q.f, .int .i64 q.e, .int .i64 q.x]) (by kernel_rfl) (by kernel_rfl) (by kernel_rfl) rfl (by rfl) (fun W hSw => by obtain ⟨c0, c1, c2, -, -, -⟩ := blk3 hSw; go_simp) (fun _ _ _ h => h) HA.out ?_
  try simp only [Act.put, List.setIfInBounds_toArray, List.set_cons_zero, List.set_cons_succ]
  refine hd_take 8 (o := ⟨some 25, _, _, _, _, _⟩) (.pointer (some ⟨b, 21, none⟩)) (by kernel_rfl) (by kernel_rfl) (by kernel_rfl) rfl (by rfl) (fun W hSw => by go_simp) (fun _ _ _ h => h) HA.out ?_
  try simp only [Act.put, List.setIfInBounds_toArray, List.set_cons_zero, List.set_cons_succ]
  refine hd_take 9 (o := ⟨some 26, _, _, _, _, _⟩) (.pointer (some ⟨b, 21, none⟩)) (by kernel_rfl) (by kernel_rfl) (by kernel_rfl) rfl (by rfl) (fun W hSw => by go_simp) (fun _ _ _ h => h) HA.out ?_
  try simp only [Act.put, List.setIfInBounds_toArray, List.set_cons_zero, List.set_cons_succ]
  refine hd_take 10 (o := ⟨some 27, _, _, _, _, _⟩) (.pointer (some ⟨b, 24, none⟩)) (by kernel_rfl) (by kernel_rfl) (by kernel_rfl) rfl (by rfl) (fun W hSw => by go_simp) (fun _ _ _ h => h) HA.out ?_
  try simp only [Act.put, List.setIfInBounds_toArray, List.set_cons_zero, List.set_cons_succ]
  refine hd_take 12 (o := ⟨some 29, _, _, _, _, _⟩) (.agg #[.int .i64 q.f, .int .i64 q.e, .int .i64 q.x]) (by kernel_rfl) (by kernel_rfl) (by kernel_rfl) rfl (by rfl) (fun W hSw => by obtain ⟨c0, c1, c2, -, -, -⟩ := blk3 hSw; go_simp) (fun _ _ _ h => h) HA.out ?_
  try simp only [Act.put, List.setIfInBounds_toArray, List.set_cons_zero, List.set_cons_succ]
  refine hd_two 5 11 (o1 := ⟨some 22, _, _, _, _, _⟩) (o2 := ⟨some 28, _, _, _, _, _⟩) (by kernel_rfl) rfl rfl (by rfl) (by rfl) (fun K hK => ?_) (fun K hK => ?_)
  · have d0 := HR3.out.get (j := 21) rfl
    have d1 := HR3.out.get (j := 22) rfl
    have d2 := HR3.out.get (j := 23) rfl
    go_simp
    refine hK _ _ HA.out ?_
    clear hK K d0 d1 d2
    try simp only [Act.put, List.setIfInBounds_toArray, List.set_cons_zero, List.set_cons_succ]
    refine hd_two 7 11 (o1 := ⟨some 24, _, _, _, _, _⟩) (o2 := ⟨some 28, _, _, _, _, _⟩) (by kernel_rfl) rfl rfl (by rfl) (by rfl) (fun K hK => ?_) (fun K hK => ?_)
    · go_simp
      go_wp2_with (go_at_call 63; refine (HL.out _).mono ?_; rintro e1 w7 ⟨rfl, hb7⟩)
      have HA7 : Hid (w7.heap[N]? = some (.cells #[.int .i64 q.f, .int .i64 q.e, .int .i64 q.x] 39 (0, 0))) := hide ((hb7.block N (Array.getElem?_eq_some_iff.1 HA.out).1).trans HA.out)
      have HR7 : Hid (Rb w7 b r) := hide (HR3.out.keep (hb7.block b HR3.out.lt))
      have HT7 := hide (HA3.out.below hb7)
      clear hb7
      refine hK _ _ HA7.out ?_
      clear hK K
      try simp only [Act.put, List.setIfInBounds_toArray, List.set_cons_zero, List.set_cons_succ]
      refine hd_call 11 (o := ⟨some 28, _, _, _, _, _⟩) (by kernel_rfl) rfl (by rfl) (fun K hK => ?_)
      have d0 := HR7.out.get (j := 24) rfl
      have d1 := HR7.out.get (j := 25) rfl
      have d2 := HR7.out.get (j := 26) rfl
      go_simp
      refine hK _ _ HA7.out ?_
      clear hK K d0 d1 d2
      try simp only [Act.put, List.setIfInBounds_toArray, List.set_cons_zero, List.set_cons_succ]
      refine hd_call 13 (o := ⟨some 30, _, _, _, _, _⟩) (by kernel_rfl) rfl (by rfl) (fun K hK => ?_)
      go_simp
      go_wp2_with (go_at_call 61; refine (HP.out _).mono ?_; rintro e1 w13 ⟨rfl, hb13⟩)
      have HA13 : Hid (w13.heap[N]? = some (.cells #[.int .i64 q.f, .int .i64 q.e, .int .i64 q.x] 39 (0, 0))) := hide ((hb13.block N (Array.getElem?_eq_some_iff.1 HA7.out).1).trans HA7.out)
      have HR13 : Hid (Rb w13 b r) := hide (HR7.out.keep (hb13.block b HR7.out.lt))
      have HT13 := hide (HT7.out.below hb13)
      clear hb13
      refine hK _ _ HA13.out ?_
      clear hK K
      try simp only [Act.put, List.setIfInBounds_toArray, List.set_cons_zero, List.set_cons_succ]
      refine hd_take 14 (o := ⟨some 31, _, _, _, _, _⟩) (.pointer (some ⟨b, 21, none⟩)) (by kernel_rfl) (by kernel_rfl) (by kernel_rfl) rfl (by rfl) (fun W hSw => by go_simp) (fun _ _ _ h => h) HA13.out ?_
      try simp only [Act.put, List.setIfInBounds_toArray, List.set_cons_zero, List.set_cons_succ]
      refine hd_take 15 (o := ⟨some 32, _, _, _, _, _⟩) (.pointer (some ⟨b, 21, none⟩)) (by kernel_rfl) (by kernel_rfl) (by kernel_rfl) rfl (by rfl) (fun W hSw => by go_simp) (fun _ _ _ h => h) HA13.out ?_
      try simp only [Act.put, List.setIfInBounds_toArray, List.set_cons_zero, List.set_cons_succ]
      have d0 := HR13.out.get (j := 21) rfl
      have f0 := HR13.out.frz 21
      have d1 := HR13.out.get (j := 22) rfl
      have f1 := HR13.out.frz 22
      have d2 := HR13.out.get (j := 23) rfl
      have f2 := HR13.out.frz 23
      have d3 := HR13.out.get (j := 24) rfl
      have f3 := HR13.out.frz 24
      have d4 := HR13.out.get (j := 25) rfl
      have f4 := HR13.out.frz 25
      have d5 := HR13.out.get (j := 26) rfl
      have f5 := HR13.out.frz 26
      refine hd_call 16 (o := ⟨none, _, _, _, _, _⟩) (by kernel_rfl) rfl (by rfl) (fun K hK => ?_)
      go_simp
      refine hK _ _ (by rw [heap_setCell_other _ _ _ _ HNE.out, heap_setCell_other _ _ _ _ HNE.out, heap_setCell_other _ _ _ _ HNE.out]; exact HA13.out) ?_
      clear hK K
      have HF1 : Hid (Rb (((w13.setCell ⟨b, 21, none⟩ (.int .i64 (r.pd.f - q.f))).setCell ⟨b, 22, none⟩ (.int .i64 (r.pd.e - q.e))).setCell ⟨b, 23, none⟩ (.int .i64 (r.pd.x - q.x))) b { r with pd := ⟨r.pd.f - q.f, r.pd.e - q.e, r.pd.x - q.x⟩ }) := hide (Rb.set (e := { r with pd := ⟨r.pd.f - q.f, r.pd.e - q.e, r.pd.x⟩ }) (Rb.set (e := { r with pd := ⟨r.pd.f - q.f, r.pd.e, r.pd.x⟩ }) (HR13.out.set rfl) rfl) rfl)
      have HG1 := hide (((HT13.out.set 21 (.int .i64 (r.pd.f - q.f))).set 22 (.int .i64 (r.pd.e - q.e))).set 23 (.int .i64 (r.pd.x - q.x)))
      have HA1 : Hid ((((w13.setCell ⟨b, 21, none⟩ (.int .i64 (r.pd.f - q.f))).setCell ⟨b, 22, none⟩ (.int .i64 (r.pd.e - q.e))).setCell ⟨b, 23, none⟩ (.int .i64 (r.pd.x - q.x))).heap[N]? = some (.cells #[.int .i64 q.f, .int .i64 q.e, .int .i64 q.x] 39 (0, 0))) := hide (by rw [heap_setCell_other _ _ _ _ HNE.out, heap_setCell_other _ _ _ _ HNE.out, heap_setCell_other _ _ _ _ HNE.out]; exact HA13.out)
      clear d0 d1 d2 d3 d4 d5 f0 f1 f2 f3 f4 f5
      generalize (((w13.setCell ⟨b, 21, none⟩ (.int .i64 (r.pd.f - q.f))).setCell ⟨b, 22, none⟩ (.int .i64 (r.pd.e - q.e))).setCell ⟨b, 23, none⟩ (.int .i64 (r.pd.x - q.x))) = wz at *
      try simp only [Act.put, List.setIfInBounds_toArray, List.set_cons_zero, List.set_cons_succ]
      refine hd_take 17 (o := ⟨some 33, _, _, _, _, _⟩) (.pointer (some ⟨b, 21, none⟩)) (by kernel_rfl) (by kernel_rfl) (by kernel_rfl) rfl (by rfl) (fun W hSw => by go_simp) (fun _ _ _ h => h) HA1.out ?_
      try simp only [Act.put, List.setIfInBounds_toArray, List.set_cons_zero, List.set_cons_succ]
      refine hd_take 18 (o := ⟨some 34, _, _, _, _, _⟩) (.pointer (some ⟨b, 24, none⟩)) (by kernel_rfl) (by kernel_rfl) (by kernel_rfl) rfl (by rfl) (fun W hSw => by go_simp) (fun _ _ _ h => h) HA1.out ?_
      try simp only [Act.put, List.setIfInBounds_toArray, List.set_cons_zero, List.set_cons_succ]
      have d0 := HF1.out.get (j := 24) rfl
      have f0 := HF1.out.frz 24
      have d1 := HF1.out.get (j := 25) rfl
      have f1 := HF1.out.frz 25
      have d2 := HF1.out.get (j := 26) rfl
      have f2 := HF1.out.frz 26
      refine hd_call 19 (o := ⟨none, _, _, _, _, _⟩) (by kernel_rfl) rfl (by rfl) (fun K hK => ?_)
      go_simp
      refine hK _ _ (by rw [heap_setCell_other _ _ _ _ HNE.out, heap_setCell_other _ _ _ _ HNE.out, heap_setCell_other _ _ _ _ HNE.out]; exact HA1.out) ?_
      clear hK K
      refine wpAnyH_done (by kernel_rfl) ?_ _
      have HF2 := hide (Rb.set (e' := { r with pd := ⟨r.pd.f - q.f, r.pd.e - q.e, r.pd.x - q.x⟩, le := ⟨r.le.f + q.f, r.le.e + q.e, r.le.x + q.x⟩ }) (u := .int .i64 (r.le.x + q.x)) (j := 26) (Rb.set (e' := { r with pd := ⟨r.pd.f - q.f, r.pd.e - q.e, r.pd.x - q.x⟩, le := ⟨r.le.f + q.f, r.le.e + q.e, r.le.x⟩ }) (u := .int .i64 (r.le.e + q.e)) (j := 25) (Rb.set (e' := { r with pd := ⟨r.pd.f - q.f, r.pd.e - q.e, r.pd.x - q.x⟩, le := ⟨r.le.f + q.f, r.le.e, r.le.x⟩ }) (u := .int .i64 (r.le.f + q.f)) (j := 24) HF1.out rfl) rfl) rfl)
      have HG2 := hide (((HG1.out.set 24 (.int .i64 (r.le.f + q.f))).set 25 (.int .i64 (r.le.e + q.e))).set 26 (.int .i64 (r.le.x + q.x)))
      go_wp2
      go_ret
      exact ⟨rfl, HF2.out, HG2.out⟩
    · have d0 := HR3.out.get (j := 24) rfl
      have d1 := HR3.out.get (j := 25) rfl
      have d2 := HR3.out.get (j := 26) rfl
      go_simp
      refine hK _ _ HA.out ?_
      clear hK K d0 d1 d2
      try simp only [Act.put, List.setIfInBounds_toArray, List.set_cons_zero, List.set_cons_succ]
      refine hd_call 7 (o := ⟨some 24, _, _, _, _, _⟩) (by kernel_rfl) rfl (by rfl) (fun K hK => ?_)
      go_simp
      go_wp2_with (go_at_call 63; refine (HL.out _).mono ?_; rintro e1 w7 ⟨rfl, hb7⟩)
      have HA7 : Hid (w7.heap[N]? = some (.cells #[.int .i64 q.f, .int .i64 q.e, .int .i64 q.x] 39 (0, 0))) := hide ((hb7.block N (Array.getElem?_eq_some_iff.1 HA.out).1).trans HA.out)
      have HR7 : Hid (Rb w7 b r) := hide (HR3.out.keep (hb7.block b HR3.out.lt))
      have HT7 := hide (HA3.out.below hb7)
      clear hb7
      refine hK _ _ HA7.out ?_
      clear hK K
      try simp only [Act.put, List.setIfInBounds_toArray, List.set_cons_zero, List.set_cons_succ]
      refine hd_call 13 (o := ⟨some 30, _, _, _, _, _⟩) (by kernel_rfl) rfl (by rfl) (fun K hK => ?_)
      go_simp
      go_wp2_with (go_at_call 61; refine (HP.out _).mono ?_; rintro e1 w13 ⟨rfl, hb13⟩)
      have HA13 : Hid (w13.heap[N]? = some (.cells #[.int .i64 q.f, .int .i64 q.e, .int .i64 q.x] 39 (0, 0))) := hide ((hb13.block N (Array.getElem?_eq_some_iff.1 HA7.out).1).trans HA7.out)
      have HR13 : Hid (Rb w13 b r) := hide (HR7.out.keep (hb13.block b HR7.out.lt))
      have HT13 := hide (HT7.out.below hb13)
      clear hb13
      refine hK _ _ HA13.out ?_
      clear hK K
      try simp only [Act.put, List.setIfInBounds_toArray, List.set_cons_zero, List.set_cons_succ]
      refine hd_take 14 (o := ⟨some 31, _, _, _, _, _⟩) (.pointer (some ⟨b, 21, none⟩)) (by kernel_rfl) (by kernel_rfl) (by kernel_rfl) rfl (by rfl) (fun W hSw => by go_simp) (fun _ _ _ h => h) HA13.out ?_
      try simp only [Act.put, List.setIfInBounds_toArray, List.set_cons_zero, List.set_cons_succ]
      refine hd_take 15 (o := ⟨some 32, _, _, _, _, _⟩) (.pointer (some ⟨b, 21, none⟩)) (by kernel_rfl) (by kernel_rfl) (by kernel_rfl) rfl (by rfl) (fun W hSw => by go_simp) (fun _ _ _ h => h) HA13.out ?_
      try simp only [Act.put, List.setIfInBounds_toArray, List.set_cons_zero, List.set_cons_succ]
      have d0 := HR13.out.get (j := 21) rfl
      have f0 := HR13.out.frz 21
      have d1 := HR13.out.get (j := 22) rfl
      have f1 := HR13.out.frz 22
      have d2 := HR13.out.get (j := 23) rfl
      have f2 := HR13.out.frz 23
      have d3 := HR13.out.get (j := 24) rfl
      have f3 := HR13.out.frz 24
      have d4 := HR13.out.get (j := 25) rfl
      have f4 := HR13.out.frz 25
      have d5 := HR13.out.get (j := 26) rfl
      have f5 := HR13.out.frz 26
      refine hd_call 16 (o := ⟨none, _, _, _, _, _⟩) (by kernel_rfl) rfl (by rfl) (fun K hK => ?_)
      go_simp
      refine hK _ _ (by rw [heap_setCell_other _ _ _ _ HNE.out, heap_setCell_other _ _ _ _ HNE.out, heap_setCell_other _ _ _ _ HNE.out]; exact HA13.out) ?_
      clear hK K
      have HF1 : Hid (Rb (((w13.setCell ⟨b, 21, none⟩ (.int .i64 (r.pd.f - q.f))).setCell ⟨b, 22, none⟩ (.int .i64 (r.pd.e - q.e))).setCell ⟨b, 23, none⟩ (.int .i64 (r.pd.x - q.x))) b { r with pd := ⟨r.pd.f - q.f, r.pd.e - q.e, r.pd.x - q.x⟩ }) := hide (Rb.set (e := { r with pd := ⟨r.pd.f - q.f, r.pd.e - q.e, r.pd.x⟩ }) (Rb.set (e := { r with pd := ⟨r.pd.f - q.f, r.pd.e, r.pd.x⟩ }) (HR13.out.set rfl) rfl) rfl)
      have HG1 := hide (((HT13.out.set 21 (.int .i64 (r.pd.f - q.f))).set 22 (.int .i64 (r.pd.e - q.e))).set 23 (.int .i64 (r.pd.x - q.x)))
      have HA1 : Hid ((((w13.setCell ⟨b, 21, none⟩ (.int .i64 (r.pd.f - q.f))).setCell ⟨b, 22, none⟩ (.int .i64 (r.pd.e - q.e))).setCell ⟨b, 23, none⟩ (.int .i64 (r.pd.x - q.x))).heap[N]? = some (.cells #[.int .i64 q.f, .int .i64 q.e, .int .i64 q.x] 39 (0, 0))) := hide (by rw [heap_setCell_other _ _ _ _ HNE.out, heap_setCell_other _ _ _ _ HNE.out, heap_setCell_other _ _ _ _ HNE.out]; exact HA13.out)
      clear d0 d1 d2 d3 d4 d5 f0 f1 f2 f3 f4 f5
      generalize (((w13.setCell ⟨b, 21, none⟩ (.int .i64 (r.pd.f - q.f))).setCell ⟨b, 22, none⟩ (.int .i64 (r.pd.e - q.e))).setCell ⟨b, 23, none⟩ (.int .i64 (r.pd.x - q.x))) = wz at *
      try simp only [Act.put, List.setIfInBounds_toArray, List.set_cons_zero, List.set_cons_succ]
      refine hd_take 17 (o := ⟨some 33, _, _, _, _, _⟩) (.pointer (some ⟨b, 21, none⟩)) (by kernel_rfl) (by kernel_rfl) (by kernel_rfl) rfl (by rfl) (fun W hSw => by go_simp) (fun _ _ _ h => h) HA1.out ?_
      try simp only [Act.put, List.setIfInBounds_toArray, List.set_cons_zero, List.set_cons_succ]
      refine hd_take 18 (o := ⟨some 34, _, _, _, _, _⟩) (.pointer (some ⟨b, 24, none⟩)) (by kernel_rfl) (by kernel_rfl) (by kernel_rfl) rfl (by rfl) (fun W hSw => by go_simp) (fun _ _ _ h => h) HA1.out ?_
      try simp only [Act.put, List.setIfInBounds_toArray, List.set_cons_zero, List.set_cons_succ]
      have d0 := HF1.out.get (j := 24) rfl
      have f0 := HF1.out.frz 24
      have d1 := HF1.out.get (j := 25) rfl
      have f1 := HF1.out.frz 25
      have d2 := HF1.out.get (j := 26) rfl
      have f2 := HF1.out.frz 26
      refine hd_call 19 (o := ⟨none, _, _, _, _, _⟩) (by kernel_rfl) rfl (by rfl) (fun K hK => ?_)
      go_simp
      refine hK _ _ (by rw [heap_setCell_other _ _ _ _ HNE.out, heap_setCell_other _ _ _ _ HNE.out, heap_setCell_other _ _ _ _ HNE.out]; exact HA1.out) ?_
      clear hK K
      refine wpAnyH_done (by kernel_rfl) ?_ _
      have HF2 := hide (Rb.set (e' := { r with pd := ⟨r.pd.f - q.f, r.pd.e - q.e, r.pd.x - q.x⟩, le := ⟨r.le.f + q.f, r.le.e + q.e, r.le.x + q.x⟩ }) (u := .int .i64 (r.le.x + q.x)) (j := 26) (Rb.set (e' := { r with pd := ⟨r.pd.f - q.f, r.pd.e - q.e, r.pd.x - q.x⟩, le := ⟨r.le.f + q.f, r.le.e + q.e, r.le.x⟩ }) (u := .int .i64 (r.le.e + q.e)) (j := 25) (Rb.set (e' := { r with pd := ⟨r.pd.f - q.f, r.pd.e - q.e, r.pd.x - q.x⟩, le := ⟨r.le.f + q.f, r.le.e, r.le.x⟩ }) (u := .int .i64 (r.le.f + q.f)) (j := 24) HF1.out rfl) rfl) rfl)
      have HG2 := hide (((HG1.out.set 24 (.int .i64 (r.le.f + q.f))).set 25 (.int .i64 (r.le.e + q.e))).set 26 (.int .i64 (r.le.x + q.x)))
      go_wp2
      go_ret
      exact ⟨rfl, HF2.out, HG2.out⟩
  · have d0 := HR3.out.get (j := 24) rfl
    have d1 := HR3.out.get (j := 25) rfl
    have d2 := HR3.out.get (j := 26) rfl
    go_simp
    refine hK _ _ HA.out ?_
    clear hK K d0 d1 d2
    try simp only [Act.put, List.setIfInBounds_toArray, List.set_cons_zero, List.set_cons_succ]
    refine hd_call 5 (o := ⟨some 22, _, _, _, _, _⟩) (by kernel_rfl) rfl (by rfl) (fun K hK => ?_)
    have d0 := HR3.out.get (j := 21) rfl
    have d1 := HR3.out.get (j := 22) rfl
    have d2 := HR3.out.get (j := 23) rfl
    go_simp
    refine hK _ _ HA.out ?_
    clear hK K d0 d1 d2
    try simp only [Act.put, List.setIfInBounds_toArray, List.set_cons_zero, List.set_cons_succ]
    refine hd_call 7 (o := ⟨some 24, _, _, _, _, _⟩) (by kernel_rfl) rfl (by rfl) (fun K hK => ?_)
    go_simp
    go_wp2_with (go_at_call 63; refine (HL.out _).mono ?_; rintro e1 w7 ⟨rfl, hb7⟩)
    have HA7 : Hid (w7.heap[N]? = some (.cells #[.int .i64 q.f, .int .i64 q.e, .int .i64 q.x] 39 (0, 0))) := hide ((hb7.block N (Array.getElem?_eq_some_iff.1 HA.out).1).trans HA.out)
    have HR7 : Hid (Rb w7 b r) := hide (HR3.out.keep (hb7.block b HR3.out.lt))
    have HT7 := hide (HA3.out.below hb7)
    clear hb7
    refine hK _ _ HA7.out ?_
    clear hK K
    try simp only [Act.put, List.setIfInBounds_toArray, List.set_cons_zero, List.set_cons_succ]
    refine hd_call 13 (o := ⟨some 30, _, _, _, _, _⟩) (by kernel_rfl) rfl (by rfl) (fun K hK => ?_)
    go_simp
    go_wp2_with (go_at_call 61; refine (HP.out _).mono ?_; rintro e1 w13 ⟨rfl, hb13⟩)
    have HA13 : Hid (w13.heap[N]? = some (.cells #[.int .i64 q.f, .int .i64 q.e, .int .i64 q.x] 39 (0, 0))) := hide ((hb13.block N (Array.getElem?_eq_some_iff.1 HA7.out).1).trans HA7.out)
    have HR13 : Hid (Rb w13 b r) := hide (HR7.out.keep (hb13.block b HR7.out.lt))
    have HT13 := hide (HT7.out.below hb13)
    clear hb13
    refine hK _ _ HA13.out ?_
    clear hK K
    try simp only [Act.put, List.setIfInBounds_toArray, List.set_cons_zero, List.set_cons_succ]
    refine hd_take 14 (o := ⟨some 31, _, _, _, _, _⟩) (.pointer (some ⟨b, 21, none⟩)) (by kernel_rfl) (by kernel_rfl) (by kernel_rfl) rfl (by rfl) (fun W hSw => by go_simp) (fun _ _ _ h => h) HA13.out ?_
    try simp only [Act.put, List.setIfInBounds_toArray, List.set_cons_zero, List.set_cons_succ]
    refine hd_take 15 (o := ⟨some 32, _, _, _, _, _⟩) (.pointer (some ⟨b, 21, none⟩)) (by kernel_rfl) (by kernel_rfl) (by kernel_rfl) rfl (by rfl) (fun W hSw => by go_simp) (fun _ _ _ h => h) HA13.out ?_
    try simp only [Act.put, List.setIfInBounds_toArray, List.set_cons_zero, List.set_cons_succ]
    have d0 := HR13.out.get (j := 21) rfl
    have f0 := HR13.out.frz 21
    have d1 := HR13.out.get (j := 22) rfl
    have f1 := HR13.out.frz 22
    have d2 := HR13.out.get (j := 23) rfl
    have f2 := HR13.out.frz 23
    have d3 := HR13.out.get (j := 24) rfl
    have f3 := HR13.out.frz 24
    have d4 := HR13.out.get (j := 25) rfl
    have f4 := HR13.out.frz 25
    have d5 := HR13.out.get (j := 26) rfl
    have f5 := HR13.out.frz 26
    refine hd_call 16 (o := ⟨none, _, _, _, _, _⟩) (by kernel_rfl) rfl (by rfl) (fun K hK => ?_)
    go_simp
    refine hK _ _ (by rw [heap_setCell_other _ _ _ _ HNE.out, heap_setCell_other _ _ _ _ HNE.out, heap_setCell_other _ _ _ _ HNE.out]; exact HA13.out) ?_
    clear hK K
    have HF1 : Hid (Rb (((w13.setCell ⟨b, 21, none⟩ (.int .i64 (r.pd.f - q.f))).setCell ⟨b, 22, none⟩ (.int .i64 (r.pd.e - q.e))).setCell ⟨b, 23, none⟩ (.int .i64 (r.pd.x - q.x))) b { r with pd := ⟨r.pd.f - q.f, r.pd.e - q.e, r.pd.x - q.x⟩ }) := hide (Rb.set (e := { r with pd := ⟨r.pd.f - q.f, r.pd.e - q.e, r.pd.x⟩ }) (Rb.set (e := { r with pd := ⟨r.pd.f - q.f, r.pd.e, r.pd.x⟩ }) (HR13.out.set rfl) rfl) rfl)
    have HG1 := hide (((HT13.out.set 21 (.int .i64 (r.pd.f - q.f))).set 22 (.int .i64 (r.pd.e - q.e))).set 23 (.int .i64 (r.pd.x - q.x)))
    have HA1 : Hid ((((w13.setCell ⟨b, 21, none⟩ (.int .i64 (r.pd.f - q.f))).setCell ⟨b, 22, none⟩ (.int .i64 (r.pd.e - q.e))).setCell ⟨b, 23, none⟩ (.int .i64 (r.pd.x - q.x))).heap[N]? = some (.cells #[.int .i64 q.f, .int .i64 q.e, .int .i64 q.x] 39 (0, 0))) := hide (by rw [heap_setCell_other _ _ _ _ HNE.out, heap_setCell_other _ _ _ _ HNE.out, heap_setCell_other _ _ _ _ HNE.out]; exact HA13.out)
    clear d0 d1 d2 d3 d4 d5 f0 f1 f2 f3 f4 f5
    generalize (((w13.setCell ⟨b, 21, none⟩ (.int .i64 (r.pd.f - q.f))).setCell ⟨b, 22, none⟩ (.int .i64 (r.pd.e - q.e))).setCell ⟨b, 23, none⟩ (.int .i64 (r.pd.x - q.x))) = wz at *
    try simp only [Act.put, List.setIfInBounds_toArray, List.set_cons_zero, List.set_cons_succ]
    refine hd_take 17 (o := ⟨some 33, _, _, _, _, _⟩) (.pointer (some ⟨b, 21, none⟩)) (by kernel_rfl) (by kernel_rfl) (by kernel_rfl) rfl (by rfl) (fun W hSw => by go_simp) (fun _ _ _ h => h) HA1.out ?_
    try simp only [Act.put, List.setIfInBounds_toArray, List.set_cons_zero, List.set_cons_succ]
    refine hd_take 18 (o := ⟨some 34, _, _, _, _, _⟩) (.pointer (some ⟨b, 24, none⟩)) (by kernel_rfl) (by kernel_rfl) (by kernel_rfl) rfl (by rfl) (fun W hSw => by go_simp) (fun _ _ _ h => h) HA1.out ?_
    try simp only [Act.put, List.setIfInBounds_toArray, List.set_cons_zero, List.set_cons_succ]
    have d0 := HF1.out.get (j := 24) rfl
    have f0 := HF1.out.frz 24
    have d1 := HF1.out.get (j := 25) rfl
    have f1 := HF1.out.frz 25
    have d2 := HF1.out.get (j := 26) rfl
    have f2 := HF1.out.frz 26
    refine hd_call 19 (o := ⟨none, _, _, _, _, _⟩) (by kernel_rfl) rfl (by rfl) (fun K hK => ?_)
    go_simp
    refine hK _ _ (by rw [heap_setCell_other _ _ _ _ HNE.out, heap_setCell_other _ _ _ _ HNE.out, heap_setCell_other _ _ _ _ HNE.out]; exact HA1.out) ?_
    clear hK K
    refine wpAnyH_done (by kernel_rfl) ?_ _
    have HF2 := hide (Rb.set (e' := { r with pd := ⟨r.pd.f - q.f, r.pd.e - q.e, r.pd.x - q.x⟩, le := ⟨r.le.f + q.f, r.le.e + q.e, r.le.x + q.x⟩ }) (u := .int .i64 (r.le.x + q.x)) (j := 26) (Rb.set (e' := { r with pd := ⟨r.pd.f - q.f, r.pd.e - q.e, r.pd.x - q.x⟩, le := ⟨r.le.f + q.f, r.le.e + q.e, r.le.x⟩ }) (u := .int .i64 (r.le.e + q.e)) (j := 25) (Rb.set (e' := { r with pd := ⟨r.pd.f - q.f, r.pd.e - q.e, r.pd.x - q.x⟩, le := ⟨r.le.f + q.f, r.le.e, r.le.x⟩ }) (u := .int .i64 (r.le.f + q.f)) (j := 24) HF1.out rfl) rfl) rfl)
    have HG2 := hide (((HG1.out.set 24 (.int .i64 (r.le.f + q.f))).set 25 (.int .i64 (r.le.e + q.e))).set 26 (.int .i64 (r.le.x + q.x)))
    go_wp2
    go_ret
    exact ⟨rfl, HF2.out, HG2.out⟩
set_option maxRecDepth 100000 in
set_option maxHeartbeats 6400000 in
theorem refundMore_any (w : World) (b : Nat) (r : Er) (h : Rb w b r) (q : Qt) (hg : q.good) (hf : ¬ q.le r.pd) : Calls Try.prog 53 #[.pointer (some ⟨b, 21, none⟩), q.val] w fun e w' => e = .returned (.int .i64 1) ∧ Rb w' b r ∧ At w b w' := by
  have hb1 := (Below.refl w.heap.size w).alloc (Nat.le_refl _) (.cells #[.int .i64 q.f, .int .i64 q.e, .int .i64 q.x] 39)
  have a1 := heap_alloc_new w (.cells #[.int .i64 q.f, .int .i64 q.e, .int .i64 q.x] 39)
  have hR := h.keep (hb1.block b h.lt)
  have HA1 := hide (At.of_below (b := b) hb1)
  have HNE : Hid (w.heap.size ≠ b) := hide (fun e => by have := h.lt; omega)
  have HC1 := hide (fun W => isGood_any W q)
  rw [show decide q.good = true by simpa using hg] at HC1
  have HC2 := hide (fun W => fits_any W q r.pd)
  rw [show decide (q.le r.pd) = false by simpa using hf] at HC2
  clear h hb1 hg hf
  unfold Qt.val at *
  go_enter Try.func53, Try.ntmps53
  go_upto_region 1 with fail
  generalize w.alloc (.cells #[.int .i64 q.f, .int .i64 q.e, .int .i64 q.x] 39) = w1 at *
  obtain ⟨N, hN⟩ : ∃ N, w.heap.size = N := ⟨_, rfl⟩
  rw [hN] at a1 HNE ⊢
  clear hN
  have HR1 := hide hR
  have HN1 := hide a1
  clear hR a1
  obtain ⟨w2, hw2⟩ : ∃ w2, w2 = w1.drew := ⟨_, rfl⟩
  have HS : Hid (w2.heap[N]? = some (.cells #[.int .i64 q.f, .int .i64 q.e, .int .i64 q.x] 39 (0, 0)) ∧ Rb w2 b r) := by rw [hw2]; exact hide ⟨HN1.out, ⟨HR1.out.out⟩⟩
  have HT2 : Hid (At w b w2) := by rw [hw2]; exact ⟨HA1.out.os, HA1.out.tape, HA1.out.output, HA1.out.size, HA1.out.block⟩
  clear HN1 HR1 HA1
  refine wp_region_held_drew (S := fun W => W.heap[N]? = some (.cells #[.int .i64 q.f, .int .i64 q.e, .int .i64 q.x] 39 (0, 0)) ∧ Rb W b r) (by kernel_rfl) (by rw [← hw2]; exact HS.out) (fun _ => ?_)
  rw [← hw2]
  clear hw2
  refine hd_take 0 (o := ⟨some 5, _, _, _, _, _⟩) (.agg #[.int .i64 q.f, .int .i64 q.e, .int .i64 q.x]) (by kernel_rfl) (by kernel_rfl) (by kernel_rfl) rfl (by rfl) (fun W hSw => by obtain ⟨q9, q8⟩ := hSw; obtain ⟨c0, c1, c2, -, -, -⟩ := blk3 q9; go_simp) (fun _ _ _ h => h) HS.out ?_
  try simp only [Act.put, List.setIfInBounds_toArray, List.set_cons_zero, List.set_cons_succ]
  refine hd_call 1 (o := ⟨some 6, _, _, _, _, _⟩) (by kernel_rfl) rfl (by rfl) (fun K hK => ?_)
  go_simp
  go_wp2_with (go_at_call 42; refine (HC1.out _).mono ?_; rintro e1 w3 ⟨rfl, hb3⟩)
  have HS3 : Hid (w3.heap[N]? = some (.cells #[.int .i64 q.f, .int .i64 q.e, .int .i64 q.x] 39 (0, 0)) ∧ Rb w3 b r) := hide ⟨(hb3.block N (Array.getElem?_eq_some_iff.1 HS.out.1).1).trans HS.out.1, HS.out.2.keep (hb3.block b HS.out.2.lt)⟩
  have HT3 := hide (HT2.out.below hb3)
  clear hb3 HS HT2
  refine hK _ _ HS3.out ?_
  clear hK K
  try simp only [Act.put, List.setIfInBounds_toArray, List.set_cons_zero, List.set_cons_succ]
  refine hd_take 2 (o := ⟨some 7, _, _, _, _, _⟩) (.bool false) (by kernel_rfl) (by kernel_rfl) (by kernel_rfl) rfl (by rfl) (fun W hSw => by go_simp) (fun _ _ _ h => h) HS3.out ?_
  try simp only [Act.put, List.setIfInBounds_toArray, List.set_cons_zero, List.set_cons_succ]
  refine hd_take 3 (o := ⟨some 8, _, _, _, _, _⟩) (.bool false) (by kernel_rfl) (by kernel_rfl) (by kernel_rfl) rfl (by rfl) (fun W hSw => by go_simp) (fun _ _ _ h => h) HS3.out ?_
  try simp only [Act.put, List.setIfInBounds_toArray, List.set_cons_zero, List.set_cons_succ]
  refine hd_take 4 (o := ⟨some 9, _, _, _, _, _⟩) (.agg #[.int .i64 q.f, .int .i64 q.e, .int .i64 q.x]) (by kernel_rfl) (by kernel_rfl) (by kernel_rfl) rfl (by rfl) (fun W hSw => by obtain ⟨q9, q8⟩ := hSw; obtain ⟨c0, c1, c2, -, -, -⟩ := blk3 q9; go_simp) (fun _ _ _ h => h) HS3.out ?_
  try simp only [Act.put, List.setIfInBounds_toArray, List.set_cons_zero, List.set_cons_succ]
  refine hd_take 5 (o := ⟨some 10, _, _, _, _, _⟩) (.pointer (some ⟨b, 21, none⟩)) (by kernel_rfl) (by kernel_rfl) (by kernel_rfl) rfl (by rfl) (fun W hSw => by go_simp) (fun _ _ _ h => h) HS3.out ?_
  try simp only [Act.put, List.setIfInBounds_toArray, List.set_cons_zero, List.set_cons_succ]
  refine hd_take 6 (o := ⟨some 11, _, _, _, _, _⟩) (.pointer (some ⟨b, 21, none⟩)) (by kernel_rfl) (by kernel_rfl) (by kernel_rfl) rfl (by rfl) (fun W hSw => by go_simp) (fun _ _ _ h => h) HS3.out ?_
  try simp only [Act.put, List.setIfInBounds_toArray, List.set_cons_zero, List.set_cons_succ]
  refine hd_take 7 (o := ⟨some 12, _, _, _, _, _⟩) (.pointer (some ⟨b, 21, none⟩)) (by kernel_rfl) (by kernel_rfl) (by kernel_rfl) rfl (by rfl) (fun W hSw => by go_simp) (fun _ _ _ h => h) HS3.out ?_
  try simp only [Act.put, List.setIfInBounds_toArray, List.set_cons_zero, List.set_cons_succ]
  refine hd_take 8 (o := ⟨some 13, _, _, _, _, _⟩) (.agg #[.int .i64 r.pd.f, .int .i64 r.pd.e, .int .i64 r.pd.x]) (by kernel_rfl) (by kernel_rfl) (by kernel_rfl) rfl (by rfl) (fun W hSw => by obtain ⟨q9, q8⟩ := hSw; have d0 := q8.get (j := 21) rfl; have d1 := q8.get (j := 22) rfl; have d2 := q8.get (j := 23) rfl; go_simp) (fun _ _ _ h => h) HS3.out ?_
  try simp only [Act.put, List.setIfInBounds_toArray, List.set_cons_zero, List.set_cons_succ]
  refine hd_call 9 (o := ⟨some 14, _, _, _, _, _⟩) (by kernel_rfl) rfl (by rfl) (fun K hK => ?_)
  go_simp
  go_wp2_with (go_at_call 60; refine (HC2.out _).mono ?_; rintro e1 w4 ⟨rfl, hb4⟩)
  have HS4 : Hid (w4.heap[N]? = some (.cells #[.int .i64 q.f, .int .i64 q.e, .int .i64 q.x] 39 (0, 0)) ∧ Rb w4 b r) := hide ⟨(hb4.block N (Array.getElem?_eq_some_iff.1 HS3.out.1).1).trans HS3.out.1, HS3.out.2.keep (hb4.block b HS3.out.2.lt)⟩
  have HT4 := hide (HT3.out.below hb4)
  clear hb4 HS3 HT3
  refine hK _ _ HS4.out ?_
  clear hK K
  try simp only [Act.put, List.setIfInBounds_toArray, List.set_cons_zero, List.set_cons_succ]
  refine hd_take 10 (o := ⟨some 15, _, _, _, _, _⟩) (.bool true) (by kernel_rfl) (by kernel_rfl) (by kernel_rfl) rfl (by rfl) (fun W hSw => by go_simp) (fun _ _ _ h => h) HS4.out ?_
  try simp only [Act.put, List.setIfInBounds_toArray, List.set_cons_zero, List.set_cons_succ]
  refine hd_take 11 (o := ⟨some 16, _, _, _, _, _⟩) (.bool true) (by kernel_rfl) (by kernel_rfl) (by kernel_rfl) rfl (by rfl) (fun W hSw => by go_simp) (fun _ _ _ h => h) HS4.out ?_
  try simp only [Act.put, List.setIfInBounds_toArray, List.set_cons_zero, List.set_cons_succ]
  refine wpAnyH_done (by kernel_rfl) ?_ _
  clear HNE
  go_wp2
  go_ret
  exact ⟨rfl, HS4.out.2, HT4.out⟩
set_option maxRecDepth 100000 in
set_option maxHeartbeats 6400000 in
theorem refundBad_any (w : World) (b : Nat) (r : Er) (h : Rb w b r) (q : Qt) (hg : ¬ q.good) : Calls Try.prog 53 #[.pointer (some ⟨b, 21, none⟩), q.val] w fun e w' => e = .returned (.int .i64 1) ∧ Rb w' b r ∧ At w b w' := by
  have hb1 := (Below.refl w.heap.size w).alloc (Nat.le_refl _) (.cells #[.int .i64 q.f, .int .i64 q.e, .int .i64 q.x] 39)
  have a1 := heap_alloc_new w (.cells #[.int .i64 q.f, .int .i64 q.e, .int .i64 q.x] 39)
  have hR := h.keep (hb1.block b h.lt)
  have HA1 := hide (At.of_below (b := b) hb1)
  have HNE : Hid (w.heap.size ≠ b) := hide (fun e => by have := h.lt; omega)
  have HC1 := hide (fun W => isGood_any W q)
  rw [show decide q.good = false by simpa using hg] at HC1
  clear h hb1 hg
  unfold Qt.val at *
  go_enter Try.func53, Try.ntmps53
  go_upto_region 1 with fail
  generalize w.alloc (.cells #[.int .i64 q.f, .int .i64 q.e, .int .i64 q.x] 39) = w1 at *
  obtain ⟨N, hN⟩ : ∃ N, w.heap.size = N := ⟨_, rfl⟩
  rw [hN] at a1 HNE ⊢
  clear hN
  have HR1 := hide hR
  have HN1 := hide a1
  clear hR a1
  obtain ⟨w2, hw2⟩ : ∃ w2, w2 = w1.drew := ⟨_, rfl⟩
  have HS : Hid (w2.heap[N]? = some (.cells #[.int .i64 q.f, .int .i64 q.e, .int .i64 q.x] 39 (0, 0)) ∧ Rb w2 b r) := by rw [hw2]; exact hide ⟨HN1.out, ⟨HR1.out.out⟩⟩
  have HT2 : Hid (At w b w2) := by rw [hw2]; exact ⟨HA1.out.os, HA1.out.tape, HA1.out.output, HA1.out.size, HA1.out.block⟩
  clear HN1 HR1 HA1
  refine wp_region_held_drew (S := fun W => W.heap[N]? = some (.cells #[.int .i64 q.f, .int .i64 q.e, .int .i64 q.x] 39 (0, 0)) ∧ Rb W b r) (by kernel_rfl) (by rw [← hw2]; exact HS.out) (fun _ => ?_)
  rw [← hw2]
  clear hw2
  refine hd_take 0 (o := ⟨some 5, _, _, _, _, _⟩) (.agg #[.int .i64 q.f, .int .i64 q.e, .int .i64 q.x]) (by kernel_rfl) (by kernel_rfl) (by kernel_rfl) rfl (by rfl) (fun W hSw => by obtain ⟨q9, q8⟩ := hSw; obtain ⟨c0, c1, c2, -, -, -⟩ := blk3 q9; go_simp) (fun _ _ _ h => h) HS.out ?_
  try simp only [Act.put, List.setIfInBounds_toArray, List.set_cons_zero, List.set_cons_succ]
  refine hd_call 1 (o := ⟨some 6, _, _, _, _, _⟩) (by kernel_rfl) rfl (by rfl) (fun K hK => ?_)
  go_simp
  go_wp2_with (go_at_call 42; refine (HC1.out _).mono ?_; rintro e1 w3 ⟨rfl, hb3⟩)
  have HS3 : Hid (w3.heap[N]? = some (.cells #[.int .i64 q.f, .int .i64 q.e, .int .i64 q.x] 39 (0, 0)) ∧ Rb w3 b r) := hide ⟨(hb3.block N (Array.getElem?_eq_some_iff.1 HS.out.1).1).trans HS.out.1, HS.out.2.keep (hb3.block b HS.out.2.lt)⟩
  have HT3 := hide (HT2.out.below hb3)
  clear hb3 HS HT2
  refine hK _ _ HS3.out ?_
  clear hK K
  try simp only [Act.put, List.setIfInBounds_toArray, List.set_cons_zero, List.set_cons_succ]
  refine hd_take 2 (o := ⟨some 7, _, _, _, _, _⟩) (.bool true) (by kernel_rfl) (by kernel_rfl) (by kernel_rfl) rfl (by rfl) (fun W hSw => by go_simp) (fun _ _ _ h => h) HS3.out ?_
  try simp only [Act.put, List.setIfInBounds_toArray, List.set_cons_zero, List.set_cons_succ]
  refine hd_take 3 (o := ⟨some 8, _, _, _, _, _⟩) (.bool true) (by kernel_rfl) (by kernel_rfl) (by kernel_rfl) rfl (by rfl) (fun W hSw => by go_simp) (fun _ _ _ h => h) HS3.out ?_
  try simp only [Act.put, List.setIfInBounds_toArray, List.set_cons_zero, List.set_cons_succ]
  refine hd_skip 4 (o := ⟨some 9, _, _, _, _, _⟩) (by kernel_rfl) (by kernel_rfl) (by kernel_rfl) rfl (by rfl) (fun _ _ _ h => h) HS3.out ?_
  try simp only [Act.put, List.setIfInBounds_toArray, List.set_cons_zero, List.set_cons_succ]
  refine hd_skip 5 (o := ⟨some 10, _, _, _, _, _⟩) (by kernel_rfl) (by kernel_rfl) (by kernel_rfl) rfl (by rfl) (fun _ _ _ h => h) HS3.out ?_
  try simp only [Act.put, List.setIfInBounds_toArray, List.set_cons_zero, List.set_cons_succ]
  refine hd_skip 6 (o := ⟨some 11, _, _, _, _, _⟩) (by kernel_rfl) (by kernel_rfl) (by kernel_rfl) rfl (by rfl) (fun _ _ _ h => h) HS3.out ?_
  try simp only [Act.put, List.setIfInBounds_toArray, List.set_cons_zero, List.set_cons_succ]
  refine hd_skip 7 (o := ⟨some 12, _, _, _, _, _⟩) (by kernel_rfl) (by kernel_rfl) (by kernel_rfl) rfl (by rfl) (fun _ _ _ h => h) HS3.out ?_
  try simp only [Act.put, List.setIfInBounds_toArray, List.set_cons_zero, List.set_cons_succ]
  refine hd_skip 8 (o := ⟨some 13, _, _, _, _, _⟩) (by kernel_rfl) (by kernel_rfl) (by kernel_rfl) rfl (by rfl) (fun _ _ _ h => h) HS3.out ?_
  try simp only [Act.put, List.setIfInBounds_toArray, List.set_cons_zero, List.set_cons_succ]
  refine hd_skip 9 (o := ⟨some 14, _, _, _, _, _⟩) (by kernel_rfl) (by kernel_rfl) (by kernel_rfl) rfl (by rfl) (fun _ _ _ h => h) HS3.out ?_
  try simp only [Act.put, List.setIfInBounds_toArray, List.set_cons_zero, List.set_cons_succ]
  refine hd_skip 10 (o := ⟨some 15, _, _, _, _, _⟩) (by kernel_rfl) (by kernel_rfl) (by kernel_rfl) rfl (by rfl) (fun _ _ _ h => h) HS3.out ?_
  try simp only [Act.put, List.setIfInBounds_toArray, List.set_cons_zero, List.set_cons_succ]
  refine hd_take 11 (o := ⟨some 16, _, _, _, _, _⟩) (.bool true) (by kernel_rfl) (by kernel_rfl) (by kernel_rfl) rfl (by rfl) (fun W hSw => by go_simp) (fun _ _ _ h => h) HS3.out ?_
  try simp only [Act.put, List.setIfInBounds_toArray, List.set_cons_zero, List.set_cons_succ]
  refine wpAnyH_done (by kernel_rfl) ?_ _
  clear HNE
  go_wp2
  go_ret
  exact ⟨rfl, HS3.out.2, HT3.out⟩
end Go.Proofs.Ytoddadohmnaolaa
