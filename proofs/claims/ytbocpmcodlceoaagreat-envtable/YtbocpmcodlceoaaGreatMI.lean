import Derived.Test.YtbocpmcodlceoaaGreatMH
namespace Go.Proofs.YtbocpmcodlceoaaGreat
open Go.RowKit Go.Shelf

section
variable {P : Program} {ops : Array Oper} {Q : Exit → Act → World → Prop} {S : World → Prop} {fuel : Nat} {listed : Array Bool} {a : Act} {w : World}
/-- what its guard leaves out -/
theorem hd_skip (i : Nat) {o : Oper} (hs : Region.noSelect ops = true) (hf : Region.free .any ops listed i = true) (hr : (Region.ready .any ops listed).contains i = true) (ho : ops[i]? = some o) (hw : Region.wanted o (yielded ops a.tmps) = false)
    (hQ : ∀ c a w, Q (.panic c) (a.put o.dst undef) w → Q (.panic c) a w) (h0 : S w) (h : wpAnyH P .any ops Q S fuel (listed.setIfInBounds i true) (a.put o.dst undef) w) : wpAnyH P .any ops Q S (fuel + 1) listed a w :=
  wpAnyH_take ho hs hf hr hQ (Or.inr ⟨hw, rfl⟩) h0 h
end
set_option maxRecDepth 100000 in
set_option maxHeartbeats 3200000 in
theorem payBad_any (w : World) (b : Nat) (q : Qt) (hg : ¬ q.good) : Calls Tryz.prog 68 #[.pointer (some ⟨b, 21, none⟩), q.val] w fun e w' => e = .returned (.int .i64 1) ∧ Below w.heap.size w w' := by
  have hb1 := (Below.refl w.heap.size w).alloc (Nat.le_refl _) (.cells #[.int .i64 q.f, .int .i64 q.e, .int .i64 q.x] 30)
  have HB1 := hide hb1
  have HC1 := hide (fun W => isGood_any W q)
  rw [show decide q.good = false by simpa using hg] at HC1
  clear hb1 hg
  unfold Qt.val at *
  go_enter Tryz.func68, Tryz.ntmps68
  go_wp2_with fail
  refine (HC1.out _).mono ?_
  rintro e1 w2 ⟨rfl, hb2⟩
  have HB2 := hide (HB1.out.trans (hb2.mono HB1.out.size))
  clear hb2
  go_wp2
  go_ret
  exact ⟨rfl, HB2.out⟩
set_option maxRecDepth 100000 in
set_option maxHeartbeats 3200000 in
theorem payFull_any (w : World) (b : Nat) (r : Er) (h : Rb w b r) (q : Qt) (hg : q.good) (hf : ¬ q.le r.le) : Calls Tryz.prog 68 #[.pointer (some ⟨b, 21, none⟩), q.val] w fun e w' => e = .returned (.int .i64 2) ∧ Below w.heap.size w w' := by
  have hb1 := (Below.refl w.heap.size w).alloc (Nat.le_refl _) (.cells #[.int .i64 q.f, .int .i64 q.e, .int .i64 q.x] 30)
  have a1 := heap_alloc_new w (.cells #[.int .i64 q.f, .int .i64 q.e, .int .i64 q.x] 30)
  have HR := hide (h.keep (hb1.block b h.lt))
  have HB1 := hide hb1
  have HA := hide a1
  have HC1 := hide (fun W => isGood_any W q)
  rw [show decide q.good = true by simpa using hg] at HC1
  have HC2 := hide (fun W (hb : Rb W b r) => affords_any W b r hb q)
  rw [show decide (q.le r.le) = false by simpa using hf] at HC2
  clear hb1 hg h hf a1
  unfold Qt.val at *
  go_enter Tryz.func68, Tryz.ntmps68
  go_wp2_with fail
  refine (HC1.out _).mono ?_
  rintro e1 w2 ⟨rfl, hb2⟩
  have HB2 := hide (HB1.out.trans (hb2.mono HB1.out.size))
  have HR2 := hide (HR.out.keep (hb2.block b HR.out.lt))
  have a2 := (hb2.block _ (Array.getElem?_eq_some_iff.1 HA.out).1).trans HA.out
  obtain ⟨c0, c1, c2, -, -, -⟩ := blk3 a2
  clear hb2 HB1 HR a2
  go_wp2_with fail
  refine (HC2.out _ HR2.out).mono ?_
  rintro e1 w3 ⟨rfl, hb3⟩
  have HB3 := hide (HB2.out.trans (hb3.mono HB2.out.size))
  clear hb3
  go_wp2
  go_ret
  exact ⟨rfl, HB3.out⟩
set_option maxRecDepth 100000 in
set_option maxHeartbeats 6400000 in
theorem refundOk_any (w : World) (b : Nat) (r : Er) (h : Rb w b r) (q : Qt) (hg : q.good) (hq : q.ok) (hf : q.le r.pd) (hle : r.le.ok) (hpd : r.pd.ok) : Calls Tryz.prog 70 #[.pointer (some ⟨b, 21, none⟩), q.val] w fun e w' => e = .returned (.int .i64 0) ∧ Rb w' b { r with pd := r.pd.less q, le := r.le.plus q } ∧ At w b w' := by
  have hb1 := (Below.refl w.heap.size w).alloc (Nat.le_refl _) (.cells #[.int .i64 q.f, .int .i64 q.e, .int .i64 q.x] 30)
  have a1 := heap_alloc_new w (.cells #[.int .i64 q.f, .int .i64 q.e, .int .i64 q.x] 30)
  have hR := h.keep (hb1.block b h.lt)
  have HA1 := hide (At.of_below (b := b) hb1)
  have HNE : Hid (w.heap.size ≠ b) := hide (fun e => by have := h.lt; omega)
  have HC1 := hide (fun W => isGood_any W q)
  rw [show decide q.good = true by simpa using hg] at HC1
  have HC2 := hide (fun W => fits_any W q r.pd)
  rw [show decide (q.le r.pd) = true by simpa using hf] at HC2
  have HP := hide (fun W => plus_any W r.le q hle hq)
  have HL := hide (fun W => less_any W r.pd q hpd hq)
  clear h hb1 hg hq hf hle hpd
  unfold Qt.val at *
  simp only [Qt.less] at HL
  simp only [Qt.plus] at HP
  go_enter Tryz.func70, Tryz.ntmps70
  go_upto_region 1 with fail
  generalize w.alloc (.cells #[.int .i64 q.f, .int .i64 q.e, .int .i64 q.x] 30) = w1 at *
  obtain ⟨N, hN⟩ : ∃ N, w.heap.size = N := ⟨_, rfl⟩
  rw [hN] at a1 HNE ⊢
  clear hN
  have HR1 := hide hR
  have HN1 := hide a1
  clear hR a1
  obtain ⟨w2, hw2⟩ : ∃ w2, w2 = w1.drew := ⟨_, rfl⟩
  have HS : Hid (w2.heap[N]? = some (.cells #[.int .i64 q.f, .int .i64 q.e, .int .i64 q.x] 30 (0, 0)) ∧ Rb w2 b r) := by rw [hw2]; exact hide ⟨HN1.out, ⟨HR1.out.out⟩⟩
  have HT2 : Hid (At w b w2) := by rw [hw2]; exact ⟨HA1.out.os, HA1.out.tape, HA1.out.output, HA1.out.size, HA1.out.block⟩
  clear HN1 HR1 HA1
  refine wp_region_held_drew (S := fun W => W.heap[N]? = some (.cells #[.int .i64 q.f, .int .i64 q.e, .int .i64 q.x] 30 (0, 0)) ∧ Rb W b r) (by kernel_rfl) (by rw [← hw2]; exact HS.out) (fun _ => ?_)
  rw [← hw2]
  clear hw2
  refine hd_take 0 (o := ⟨some 5, _, _, _, _, _⟩) (.agg #[.int .i64 q.f, .int .i64 q.e, .int .i64 q.x]) (by kernel_rfl) (by kernel_rfl) (by kernel_rfl) rfl (by rfl) (fun W hSw => by obtain ⟨q9, q8⟩ := hSw; obtain ⟨c0, c1, c2, -, -, -⟩ := blk3 q9; go_simp) (fun _ _ _ h => h) HS.out ?_
  try simp only [Act.put, List.setIfInBounds_toArray, List.set_cons_zero, List.set_cons_succ]
  refine hd_call 1 (o := ⟨some 6, _, _, _, _, _⟩) (by kernel_rfl) rfl (by rfl) (fun K hK => ?_)
  go_simp
  go_wp2_with (go_at_call 53; refine (HC1.out _).mono ?_; rintro e1 w3 ⟨rfl, hb3⟩)
  have HS3 : Hid (w3.heap[N]? = some (.cells #[.int .i64 q.f, .int .i64 q.e, .int .i64 q.x] 30 (0, 0)) ∧ Rb w3 b r) := hide ⟨(hb3.block N (Array.getElem?_eq_some_iff.1 HS.out.1).1).trans HS.out.1, HS.out.2.keep (hb3.block b HS.out.2.lt)⟩
  have HT3 := hide (HT2.out.below hb3)
  clear hb3 HS HT2
  refine hK _ _ HS3.out ?_
  clear hK K
  try simp only [Act.put, List.setIfInBounds_toArray, List.set_cons_zero, List.set_cons_succ]
  refine hd_take 2 (o := ⟨some 7, _, _, _, _, _⟩) (.bool false) (by kernel_rfl) (by kernel_rfl) (by kernel_rfl) rfl (by rfl) (fun W hSw => by go_simp) (fun _ _ _ h => h) HS3.out ?_
  try simp only [Act.put, List.setIfInBounds_toArray, List.set_cons_zero, List.set_cons_succ]
  refine hd_take 3 (o := ⟨some 8, _, _, _, _, _⟩) (.bool false) (by kernel_rfl) (by kernel_rfl) (by kernel_rfl) rfl (by rfl) (fun W hSw => by go_simp) (fun _ _ _ h => h) HS3.out ?_
  try simp only [Act.put, List.setIfInBounds_toArray, List.set_cons_zero, List.set_cons_succ]
  refine hd_take 4 (o := ⟨some 9, _, _, _, _, _⟩) (.agg #[.int .i64 q.f, .int .i64 q.e, .int .i64 q.x]) (by kernel_rfl) (by kernel_rfl) (by kernel_rfl) rfl (by rfl) (fun W hSw => by obtain ⟨q9, q8⟩ := hSw; obtain ⟨c0, c1, c2, -, -, -⟩ := blk3 q9; go_simp) (fun _ _ _ h => h) HS3.out ?_
  try simp only [Act.put, List.setIfInBounds_toArray, List.set_cons_zero, List.set_cons_succ]
  refine hd_take 5 (o := ⟨some 10, _, _, _, _, _⟩) (.pointer (some ⟨b, 21, none⟩)) (by kernel_rfl) (by kernel_rfl) (by kernel_rfl) rfl (by rfl) (fun W hSw => by go_simp) (fun _ _ _ h => h) HS3.out ?_
  try simp only [Act.put, List.setIfInBounds_toArray, List.set_cons_zero, List.set_cons_succ]
  refine hd_take 6 (o := ⟨some 11, _, _, _, _, _⟩) (.pointer (some ⟨b, 21, none⟩)) (by kernel_rfl) (by kernel_rfl) (by kernel_rfl) rfl (by rfl) (fun W hSw => by go_simp) (fun _ _ _ h => h) HS3.out ?_
  try simp only [Act.put, List.setIfInBounds_toArray, List.set_cons_zero, List.set_cons_succ]
  refine hd_take 7 (o := ⟨some 12, _, _, _, _, _⟩) (.pointer (some ⟨b, 21, none⟩)) (by kernel_rfl) (by kernel_rfl) (by kernel_rfl) rfl (by rfl) (fun W hSw => by go_simp) (fun _ _ _ h => h) HS3.out ?_
  try simp only [Act.put, List.setIfInBounds_toArray, List.set_cons_zero, List.set_cons_succ]
  refine hd_take 8 (o := ⟨some 13, _, _, _, _, _⟩) (.agg #[.int .i64 r.pd.f, .int .i64 r.pd.e, .int .i64 r.pd.x]) (by kernel_rfl) (by kernel_rfl) (by kernel_rfl) rfl (by rfl) (fun W hSw => by obtain ⟨q9, q8⟩ := hSw; have d0 := q8.get (j := 21) rfl; have d1 := q8.get (j := 22) rfl; have d2 := q8.get (j := 23) rfl; go_simp) (fun _ _ _ h => h) HS3.out ?_
  try simp only [Act.put, List.setIfInBounds_toArray, List.set_cons_zero, List.set_cons_succ]
  refine hd_call 9 (o := ⟨some 14, _, _, _, _, _⟩) (by kernel_rfl) rfl (by rfl) (fun K hK => ?_)
  go_simp
  go_wp2_with (go_at_call 85; refine (HC2.out _).mono ?_; rintro e1 w4 ⟨rfl, hb4⟩)
  have HS4 : Hid (w4.heap[N]? = some (.cells #[.int .i64 q.f, .int .i64 q.e, .int .i64 q.x] 30 (0, 0)) ∧ Rb w4 b r) := hide ⟨(hb4.block N (Array.getElem?_eq_some_iff.1 HS3.out.1).1).trans HS3.out.1, HS3.out.2.keep (hb4.block b HS3.out.2.lt)⟩
  have HT4 := hide (HT3.out.below hb4)
  clear hb4 HS3 HT3
  refine hK _ _ HS4.out ?_
  clear hK K
  try simp only [Act.put, List.setIfInBounds_toArray, List.set_cons_zero, List.set_cons_succ]
  refine hd_take 10 (o := ⟨some 15, _, _, _, _, _⟩) (.bool false) (by kernel_rfl) (by kernel_rfl) (by kernel_rfl) rfl (by rfl) (fun W hSw => by go_simp) (fun _ _ _ h => h) HS4.out ?_
  try simp only [Act.put, List.setIfInBounds_toArray, List.set_cons_zero, List.set_cons_succ]
  refine hd_take 11 (o := ⟨some 16, _, _, _, _, _⟩) (.bool false) (by kernel_rfl) (by kernel_rfl) (by kernel_rfl) rfl (by rfl) (fun W hSw => by go_simp) (fun _ _ _ h => h) HS4.out ?_
  try simp only [Act.put, List.setIfInBounds_toArray, List.set_cons_zero, List.set_cons_succ]
  refine wpAnyH_done (by kernel_rfl) ?_ _
  have HRC := hide HS4.out.2
  have HNC := hide HS4.out.1
  have HAC := HT4
  clear HS4 HT4
  go_upto_region 3 with fail
  obtain ⟨w3, hw3⟩ : ∃ w3, w3 = w4.drew := ⟨_, rfl⟩
  have hR3 : Rb w3 b r := by rw [hw3]; exact ⟨HRC.out.out⟩
  have a3 : w3.heap[N]? = some (.cells #[.int .i64 q.f, .int .i64 q.e, .int .i64 q.x] 30 (0, 0)) := by rw [hw3]; exact HNC.out
  have HA3 : Hid (At w b w3) := by rw [hw3]; exact ⟨HAC.out.os, HAC.out.tape, HAC.out.output, HAC.out.size, HAC.out.block⟩
  have HR3 := hide hR3
  have HA := hide a3
  clear hR3 HRC HNC HAC
  refine wp_region_held_drew (S := fun W => W.heap[N]? = some (.cells #[.int .i64 q.f, .int .i64 q.e, .int .i64 q.x] 30 (0, 0))) (by kernel_rfl) (by rw [← hw3]; exact a3) (fun _ => ?_)
  rw [← hw3]
  clear hw3 a3
  refine hd_take 0 (o := ⟨some 17, _, _, _, _, _⟩) (.pointer (some ⟨b, 21, none⟩)) (by kernel_rfl) (by kernel_rfl) (by kernel_rfl) rfl (by rfl) (fun W hSw => by go_simp) (fun _ _ _ h => h) HA.out ?_
  try simp only [Act.put, List.setIfInBounds_toArray, List.set_cons_zero, List.set_cons_succ]
  refine hd_take 1 (o := ⟨some 18, _, _, _, _, _⟩) (.pointer (some ⟨b, 21, none⟩)) (by kernel_rfl) (by kernel_rfl) (by kernel_rfl) rfl (by rfl) (fun W hSw => by go_simp) (fun _ _ _ h => h) HA.out ?_
  try simp only [Act.put, List.setIfInBounds_toArray, List.set_cons_zero, List.set_cons_succ]
  refine hd_take 2 (o := ⟨some 19, _, _, _, _, _⟩) (.pointer (some ⟨b, 21, none⟩)) (by kernel_rfl) (by kernel_rfl) (by kernel_rfl) rfl (by rfl) (fun W hSw => by go_simp) (fun _ _ _ h => h) HA.out ?_
  try simp only [Act.put, List.setIfInBounds_toArray, List.set_cons_zero, List.set_cons_succ]
  refine hd_take 3 (o := ⟨some 20, _, _, _, _, _⟩) (.pointer (some ⟨b, 21, none⟩)) (by kernel_rfl) (by kernel_rfl) (by kernel_rfl) rfl (by rfl) (fun W hSw => by go_simp) (fun _ _ _ h => h) HA.out ?_
  try simp only [Act.put, List.setIfInBounds_toArray, List.set_cons_zero, List.set_cons_succ]
  refine hd_take 4 (o := ⟨some 21, _, _, _, _, _⟩) (.pointer (some ⟨b, 21, none⟩)) (by kernel_rfl) (by kernel_rfl) (by kernel_rfl) rfl (by rfl) (fun W hSw => by go_simp) (fun _ _ _ h => h) HA.out ?_
  try simp only [Act.put, List.setIfInBounds_toArray, List.set_cons_zero, List.set_cons_succ]
  refine hd_take 6 (o := ⟨some 23, _, _, _, _, _⟩) (.agg #[.int .i64 q.f, .int .i64 q.e, .int .i64 q.x]) (by kernel_rfl) (by kernel_rfl) (by kernel_rfl) rfl (by rfl) (fun W hSw => by obtain ⟨c0, c1, c2, -, -, -⟩ := blk3 hSw; go_simp) (fun _ _ _ h => h) HA.out ?_
  try simp only [Act.put, List.setIfInBounds_toArray, List.set_cons_zero, List.set_cons_succ]
  refine hd_take 8 (o := ⟨some 25, _, _, _, _, _⟩) (.pointer (some ⟨b, 21, none⟩)) (by kernel_rfl) (by kernel_rfl) (by kernel_rfl) rfl (by rfl) (fun W hSw => by go_simp) (fun _ _ _ h => h) HA.out ?_
  try simp only [Act.put, List.setIfInBounds_toArray, List.set_cons_zero, List.set_cons_succ]
  refine hd_take 9 (o := ⟨some 26, _, _, _, _, _⟩) (.pointer (some ⟨b, 21, none⟩)) (by kernel_rfl) (by kernel_rfl) (by kernel_rfl) rfl (by rfl) (fun W hSw => by go_simp) (fun _ _ _ h => h) HA.out ?_
  try simp only [Act.put, List.setIfInBounds_toArray, List.set_cons_zero, List.set_cons_succ]
  refine hd_take 10 (o := ⟨some 27, _, _, _, _, _⟩) (.pointer (some ⟨b, 24, none⟩)) (by kernel_rfl) (by kernel_rfl) (by kernel_rfl) rfl (by rfl) (fun W hSw => by go_simp) (fun _ _ _ h => h) HA.out ?_
  try simp only [Act.put, List.setIfInBounds_toArray, List.set_cons_zero, List.set_cons_succ]
  refine hd_take 12 (o := ⟨some 29, _, _, _, _, _⟩) (.agg #[.int .i64 q.f, .int .i64 q.e, .int .i64 q.x]) (by kernel_rfl) (by kernel_rfl) (by kernel_rfl) rfl (by rfl) (fun W hSw => by obtain ⟨c0, c1, c2, -, -, -⟩ := blk3 hSw; go_simp) (fun _ _ _ h => h) HA.out ?_
  try simp only [Act.put, List.setIfInBounds_toArray, List.set_cons_zero, List.set_cons_succ]
  refine hd_two 5 11 (o1 := ⟨some 22, _, _, _, _, _⟩) (o2 := ⟨some 28, _, _, _, _, _⟩) (by kernel_rfl) rfl rfl (by rfl) (by rfl) (fun K hK => ?_) (fun K hK => ?_)
  · have d0 := HR3.out.get (j := 21) rfl
    have d1 := HR3.out.get (j := 22) rfl
    have d2 := HR3.out.get (j := 23) rfl
    go_simp
    refine hK _ _ HA.out ?_
    clear hK K d0 d1 d2
    try simp only [Act.put, List.setIfInBounds_toArray, List.set_cons_zero, List.set_cons_succ]
    refine hd_two 7 11 (o1 := ⟨some 24, _, _, _, _, _⟩) (o2 := ⟨some 28, _, _, _, _, _⟩) (by kernel_rfl) rfl rfl (by rfl) (by rfl) (fun K hK => ?_) (fun K hK => ?_)
    · go_simp
      go_wp2_with (go_at_call 87; refine (HL.out _).mono ?_; rintro e1 w7 ⟨rfl, hb7⟩)
      have HA7 : Hid (w7.heap[N]? = some (.cells #[.int .i64 q.f, .int .i64 q.e, .int .i64 q.x] 30 (0, 0))) := hide ((hb7.block N (Array.getElem?_eq_some_iff.1 HA.out).1).trans HA.out)
      have HR7 : Hid (Rb w7 b r) := hide (HR3.out.keep (hb7.block b HR3.out.lt))
      have HT7 := hide (HA3.out.below hb7)
      clear hb7
      refine hK _ _ HA7.out ?_
      clear hK K
      try simp only [Act.put, List.setIfInBounds_toArray, List.set_cons_zero, List.set_cons_succ]
      refine hd_call 11 (o := ⟨some 28, _, _, _, _, _⟩) (by kernel_rfl) rfl (by rfl) (fun K hK => ?_)
      have d0 := HR7.out.get (j := 24) rfl
      have d1 := HR7.out.get (j := 25) rfl
      have d2 := HR7.out.get (j := 26) rfl
      go_simp
      refine hK _ _ HA7.out ?_
      clear hK K d0 d1 d2
      try simp only [Act.put, List.setIfInBounds_toArray, List.set_cons_zero, List.set_cons_succ]
      refine hd_call 13 (o := ⟨some 30, _, _, _, _, _⟩) (by kernel_rfl) rfl (by rfl) (fun K hK => ?_)
      go_simp
      go_wp2_with (go_at_call 86; refine (HP.out _).mono ?_; rintro e1 w13 ⟨rfl, hb13⟩)
      have HA13 : Hid (w13.heap[N]? = some (.cells #[.int .i64 q.f, .int .i64 q.e, .int .i64 q.x] 30 (0, 0))) := hide ((hb13.block N (Array.getElem?_eq_some_iff.1 HA7.out).1).trans HA7.out)
      have HR13 : Hid (Rb w13 b r) := hide (HR7.out.keep (hb13.block b HR7.out.lt))
      have HT13 := hide (HT7.out.below hb13)
      clear hb13
      refine hK _ _ HA13.out ?_
      clear hK K
      try simp only [Act.put, List.setIfInBounds_toArray, List.set_cons_zero, List.set_cons_succ]
      refine hd_take 14 (o := ⟨some 31, _, _, _, _, _⟩) (.pointer (some ⟨b, 21, none⟩)) (by kernel_rfl) (by kernel_rfl) (by kernel_rfl) rfl (by rfl) (fun W hSw => by go_simp) (fun _ _ _ h => h) HA13.out ?_
      try simp only [Act.put, List.setIfInBounds_toArray, List.set_cons_zero, List.set_cons_succ]
      refine hd_take 15 (o := ⟨some 32, _, _, _, _, _⟩) (.pointer (some ⟨b, 21, none⟩)) (by kernel_rfl) (by kernel_rfl) (by kernel_rfl) rfl (by rfl) (fun W hSw => by go_simp) (fun _ _ _ h => h) HA13.out ?_
      try simp only [Act.put, List.setIfInBounds_toArray, List.set_cons_zero, List.set_cons_succ]
      have d0 := HR13.out.get (j := 21) rfl
      have f0 := HR13.out.frz 21
      have d1 := HR13.out.get (j := 22) rfl
      have f1 := HR13.out.frz 22
      have d2 := HR13.out.get (j := 23) rfl
      have f2 := HR13.out.frz 23
      have d3 := HR13.out.get (j := 24) rfl
      have f3 := HR13.out.frz 24
      have d4 := HR13.out.get (j := 25) rfl
      have f4 := HR13.out.frz 25
      have d5 := HR13.out.get (j := 26) rfl
      have f5 := HR13.out.frz 26
      refine hd_call 16 (o := ⟨none, _, _, _, _, _⟩) (by kernel_rfl) rfl (by rfl) (fun K hK => ?_)
      go_simp
      refine hK _ _ (by rw [heap_setCell_other _ _ _ _ HNE.out, heap_setCell_other _ _ _ _ HNE.out, heap_setCell_other _ _ _ _ HNE.out]; exact HA13.out) ?_
      clear hK K
      have HF1 : Hid (Rb (((w13.setCell ⟨b, 21, none⟩ (.int .i64 (r.pd.f - q.f))).setCell ⟨b, 22, none⟩ (.int .i64 (r.pd.e - q.e))).setCell ⟨b, 23, none⟩ (.int .i64 (r.pd.x - q.x))) b { r with pd := ⟨r.pd.f - q.f, r.pd.e - q.e, r.pd.x - q.x⟩ }) := hide (Rb.set (e := { r with pd := ⟨r.pd.f - q.f, r.pd.e - q.e, r.pd.x⟩ }) (Rb.set (e := { r with pd := ⟨r.pd.f - q.f, r.pd.e, r.pd.x⟩ }) (HR13.out.set rfl) rfl) rfl)
      have HG1 := hide (((HT13.out.set 21 (.int .i64 (r.pd.f - q.f))).set 22 (.int .i64 (r.pd.e - q.e))).set 23 (.int .i64 (r.pd.x - q.x)))
      have HA1 : Hid ((((w13.setCell ⟨b, 21, none⟩ (.int .i64 (r.pd.f - q.f))).setCell ⟨b, 22, none⟩ (.int .i64 (r.pd.e - q.e))).setCell ⟨b, 23, none⟩ (.int .i64 (r.pd.x - q.x))).heap[N]? = some (.cells #[.int .i64 q.f, .int .i64 q.e, .int .i64 q.x] 30 (0, 0))) := hide (by rw [heap_setCell_other _ _ _ _ HNE.out, heap_setCell_other _ _ _ _ HNE.out, heap_setCell_other _ _ _ _ HNE.out]; exact HA13.out)
      clear d0 d1 d2 d3 d4 d5 f0 f1 f2 f3 f4 f5
      generalize (((w13.setCell ⟨b, 21, none⟩ (.int .i64 (r.pd.f - q.f))).setCell ⟨b, 22, none⟩ (.int .i64 (r.pd.e - q.e))).setCell ⟨b, 23, none⟩ (.int .i64 (r.pd.x - q.x))) = wz at *
      try simp only [Act.put, List.setIfInBounds_toArray, List.set_cons_zero, List.set_cons_succ]
      refine hd_take 17 (o := ⟨some 33, _, _, _, _, _⟩) (.pointer (some ⟨b, 21, none⟩)) (by kernel_rfl) (by kernel_rfl) (by kernel_rfl) rfl (by rfl) (fun W hSw => by go_simp) (fun _ _ _ h => h) HA1.out ?_
      try simp only [Act.put, List.setIfInBounds_toArray, List.set_cons_zero, List.set_cons_succ]
      refine hd_take 18 (o := ⟨some 34, _, _, _, _, _⟩) (.pointer (some ⟨b, 24, none⟩)) (by kernel_rfl) (by kernel_rfl) (by kernel_rfl) rfl (by rfl) (fun W hSw => by go_simp) (fun _ _ _ h => h) HA1.out ?_
      try simp only [Act.put, List.setIfInBounds_toArray, List.set_cons_zero, List.set_cons_succ]
      have d0 := HF1.out.get (j := 24) rfl
      have f0 := HF1.out.frz 24
      have d1 := HF1.out.get (j := 25) rfl
      have f1 := HF1.out.frz 25
      have d2 := HF1.out.get (j := 26) rfl
      have f2 := HF1.out.frz 26
      refine hd_call 19 (o := ⟨none, _, _, _, _, _⟩) (by kernel_rfl) rfl (by rfl) (fun K hK => ?_)
      go_simp
      refine hK _ _ (by rw [heap_setCell_other _ _ _ _ HNE.out, heap_setCell_other _ _ _ _ HNE.out, heap_setCell_other _ _ _ _ HNE.out]; exact HA1.out) ?_
      clear hK K
      refine wpAnyH_done (by kernel_rfl) ?_ _
      have HF2 := hide (Rb.set (e' := { r with pd := ⟨r.pd.f - q.f, r.pd.e - q.e, r.pd.x - q.x⟩, le := ⟨r.le.f + q.f, r.le.e + q.e, r.le.x + q.x⟩ }) (u := .int .i64 (r.le.x + q.x)) (j := 26) (Rb.set (e' := { r with pd := ⟨r.pd.f - q.f, r.pd.e - q.e, r.pd.x - q.x⟩, le := ⟨r.le.f + q.f, r.le.e + q.e, r.le.x⟩ }) (u := .int .i64 (r.le.e + q.e)) (j := 25) (Rb.set (e' := { r with pd := ⟨r.pd.f - q.f, r.pd.e - q.e, r.pd.x - q.x⟩, le := ⟨r.le.f + q.f, r.le.e, r.le.x⟩ }) (u := .int .i64 (r.le.f + q.f)) (j := 24) HF1.out rfl) rfl) rfl)
      have HG2 := hide (((HG1.out.set 24 (.int .i64 (r.le.f + q.f))).set 25 (.int .i64 (r.le.e + q.e))).set 26 (.int .i64 (r.le.x + q.x)))
      go_wp2
      go_ret
      exact ⟨rfl, HF2.out, HG2.out⟩
    · have d0 := HR3.out.get (j := 24) rfl
      have d1 := HR3.out.get (j := 25) rfl
      have d2 := HR3.out.get (j := 26) rfl
      go_simp
      refine hK _ _ HA.out ?_
      clear hK K d0 d1 d2
      try simp only [Act.put, List.setIfInBounds_toArray, List.set_cons_zero, List.set_cons_succ]
      refine hd_call 7 (o := ⟨some 24, _, _, _, _, _⟩) (by kernel_rfl) rfl (by rfl) (fun K hK => ?_)
      go_simp
      go_wp2_with (go_at_call 87; refine (HL.out _).mono ?_; rintro e1 w7 ⟨rfl, hb7⟩)
      have HA7 : Hid (w7.heap[N]? = some (.cells #[.int .i64 q.f, .int .i64 q.e, .int .i64 q.x] 30 (0, 0))) := hide ((hb7.block N (Array.getElem?_eq_some_iff.1 HA.out).1).trans HA.out)
      have HR7 : Hid (Rb w7 b r) := hide (HR3.out.keep (hb7.block b HR3.out.lt))
      have HT7 := hide (HA3.out.below hb7)
      clear hb7
      refine hK _ _ HA7.out ?_
      clear hK K
      try simp only [Act.put, List.setIfInBounds_toArray, List.set_cons_zero, List.set_cons_succ]
      refine hd_call 13 (o := ⟨some 30, _, _, _, _, _⟩) (by kernel_rfl) rfl (by rfl) (fun K hK => ?_)
      go_simp
      go_wp2_with (go_at_call 86; refine (HP.out _).mono ?_; rintro e1 w13 ⟨rfl, hb13⟩)
      have HA13 : Hid (w13.heap[N]? = some (.cells #[.int .i64 q.f, .int .i64 q.e, .int .i64 q.x] 30 (0, 0))) := hide ((hb13.block N (Array.getElem?_eq_some_iff.1 HA7.out).1).trans HA7.out)
      have HR13 : Hid (Rb w13 b r) := hide (HR7.out.keep (hb13.block b HR7.out.lt))
      have HT13 := hide (HT7.out.below hb13)
      clear hb13
      refine hK _ _ HA13.out ?_
      clear hK K
      try simp only [Act.put, List.setIfInBounds_toArray, List.set_cons_zero, List.set_cons_succ]
      refine hd_take 14 (o := ⟨some 31, _, _, _, _, _⟩) (.pointer (some ⟨b, 21, none⟩)) (by kernel_rfl) (by kernel_rfl) (by kernel_rfl) rfl (by rfl) (fun W hSw => by go_simp) (fun _ _ _ h => h) HA13.out ?_
      try simp only [Act.put, List.setIfInBounds_toArray, List.set_cons_zero, List.set_cons_succ]
      refine hd_take 15 (o := ⟨some 32, _, _, _, _, _⟩) (.pointer (some ⟨b, 21, none⟩)) (by kernel_rfl) (by kernel_rfl) (by kernel_rfl) rfl (by rfl) (fun W hSw => by go_simp) (fun _ _ _ h => h) HA13.out ?_
      try simp only [Act.put, List.setIfInBounds_toArray, List.set_cons_zero, List.set_cons_succ]
      have d0 := HR13.out.get (j := 21) rfl
      have f0 := HR13.out.frz 21
      have d1 := HR13.out.get (j := 22) rfl
      have f1 := HR13.out.frz 22
      have d2 := HR13.out.get (j := 23) rfl
      have f2 := HR13.out.frz 23
      have d3 := HR13.out.get (j := 24) rfl
      have f3 := HR13.out.frz 24
      have d4 := HR13.out.get (j := 25) rfl
      have f4 := HR13.out.frz 25
      have d5 := HR13.out.get (j := 26) rfl
      have f5 := HR13.out.frz 26
      refine hd_call 16 (o := ⟨none, _, _, _, _, _⟩) (by kernel_rfl) rfl (by rfl) (fun K hK => ?_)
      go_simp
      refine hK _ _ (by rw [heap_setCell_other _ _ _ _ HNE.out, heap_setCell_other _ _ _ _ HNE.out, heap_setCell_other _ _ _ _ HNE.out]; exact HA13.out) ?_
      clear hK K
      have HF1 : Hid (Rb (((w13.setCell ⟨b, 21, none⟩ (.int .i64 (r.pd.f - q.f))).setCell ⟨b, 22, none⟩ (.int .i64 (r.pd.e - q.e))).setCell ⟨b, 23, none⟩ (.int .i64 (r.pd.x - q.x))) b { r with pd := ⟨r.pd.f - q.f, r.pd.e - q.e, r.pd.x - q.x⟩ }) := hide (Rb.set (e := { r with pd := ⟨r.pd.f - q.f, r.pd.e - q.e, r.pd.x⟩ }) (Rb.set (e := { r with pd := ⟨r.pd.f - q.f, r.pd.e, r.pd.x⟩ }) (HR13.out.set rfl) rfl) rfl)
      have HG1 := hide (((HT13.out.set 21 (.int .i64 (r.pd.f - q.f))).set 22 (.int .i64 (r.pd.e - q.e))).set 23 (.int .i64 (r.pd.x - q.x)))
      have HA1 : Hid ((((w13.setCell ⟨b, 21, none⟩ (.int .i64 (r.pd.f - q.f))).setCell ⟨b, 22, none⟩ (.int .i64 (r.pd.e - q.e))).setCell ⟨b, 23, none⟩ (.int .i64 (r.pd.x - q.x))).heap[N]? = some (.cells #[.int .i64 q.f, .int .i64 q.e, .int .i64 q.x] 30 (0, 0))) := hide (by rw [heap_setCell_other _ _ _ _ HNE.out, heap_setCell_other _ _ _ _ HNE.out, heap_setCell_other _ _ _ _ HNE.out]; exact HA13.out)
      clear d0 d1 d2 d3 d4 d5 f0 f1 f2 f3 f4 f5
      generalize (((w13.setCell ⟨b, 21, none⟩ (.int .i64 (r.pd.f - q.f))).setCell ⟨b, 22, none⟩ (.int .i64 (r.pd.e - q.e))).setCell ⟨b, 23, none⟩ (.int .i64 (r.pd.x - q.x))) = wz at *
      try simp only [Act.put, List.setIfInBounds_toArray, List.set_cons_zero, List.set_cons_succ]
      refine hd_take 17 (o := ⟨some 33, _, _, _, _, _⟩) (.pointer (some ⟨b, 21, none⟩)) (by kernel_rfl) (by kernel_rfl) (by kernel_rfl) rfl (by rfl) (fun W hSw => by go_simp) (fun _ _ _ h => h) HA1.out ?_
      try simp only [Act.put, List.setIfInBounds_toArray, List.set_cons_zero, List.set_cons_succ]
      refine hd_take 18 (o := ⟨some 34, _, _, _, _, _⟩) (.pointer (some ⟨b, 24, none⟩)) (by kernel_rfl) (by kernel_rfl) (by kernel_rfl) rfl (by rfl) (fun W hSw => by go_simp) (fun _ _ _ h => h) HA1.out ?_
      try simp only [Act.put, List.setIfInBounds_toArray, List.set_cons_zero, List.set_cons_succ]
      have d0 := HF1.out.get (j := 24) rfl
      have f0 := HF1.out.frz 24
      have d1 := HF1.out.get (j := 25) rfl
      have f1 := HF1.out.frz 25
      have d2 := HF1.out.get (j := 26) rfl
      have f2 := HF1.out.frz 26
      refine hd_call 19 (o := ⟨none, _, _, _, _, _⟩) (by kernel_rfl) rfl (by rfl) (fun K hK => ?_)
      go_simp
      refine hK _ _ (by rw [heap_setCell_other _ _ _ _ HNE.out, heap_setCell_other _ _ _ _ HNE.out, heap_setCell_other _ _ _ _ HNE.out]; exact HA1.out) ?_
      clear hK K
      refine wpAnyH_done (by kernel_rfl) ?_ _
      have HF2 := hide (Rb.set (e' := { r with pd := ⟨r.pd.f - q.f, r.pd.e - q.e, r.pd.x - q.x⟩, le := ⟨r.le.f + q.f, r.le.e + q.e, r.le.x + q.x⟩ }) (u := .int .i64 (r.le.x + q.x)) (j := 26) (Rb.set (e' := { r with pd := ⟨r.pd.f - q.f, r.pd.e - q.e, r.pd.x - q.x⟩, le := ⟨r.le.f + q.f, r.le.e + q.e, r.le.x⟩ }) (u := .int .i64 (r.le.e + q.e)) (j := 25) (Rb.set (e' := { r with pd := ⟨r.pd.f - q.f, r.pd.e - q.e, r.pd.x - q.x⟩, le := ⟨r.le.f + q.f, r.le.e, r.le.x⟩ }) (u := .int .i64 (r.le.f + q.f)) (j := 24) HF1.out rfl) rfl) rfl)
      have HG2 := hide (((HG1.out.set 24 (.int .i64 (r.le.f + q.f))).set 25 (.int .i64 (r.le.e + q.e))).set 26 (.int .i64 (r.le.x + q.x)))
      go_wp2
      go_ret
      exact ⟨rfl, HF2.out, HG2.out⟩
  · have d0 := HR3.out.get (j := 24) rfl
    have d1 := HR3.out.get (j := 25) rfl
    have d2 := HR3.out.get (j := 26) rfl
    go_simp
    refine hK _ _ HA.out ?_
    clear hK K d0 d1 d2
    try simp only [Act.put, List.setIfInBounds_toArray, List.set_cons_zero, List.set_cons_succ]
    refine hd_call 5 (o := ⟨some 22, _, _, _, _, _⟩) (by kernel_rfl) rfl (by rfl) (fun K hK => ?_)
    have d0 := HR3.out.get (j := 21) rfl
    have d1 := HR3.out.get (j := 22) rfl
    have d2 := HR3.out.get (j := 23) rfl
    go_simp
    refine hK _ _ HA.out ?_
    clear hK K d0 d1 d2
    try simp only [Act.put, List.setIfInBounds_toArray, List.set_cons_zero, List.set_cons_succ]
    refine hd_call 7 (o := ⟨some 24, _, _, _, _, _⟩) (by kernel_rfl) rfl (by rfl) (fun K hK => ?_)
    go_simp
    go_wp2_with (go_at_call 87; refine (HL.out _).mono ?_; rintro e1 w7 ⟨rfl, hb7⟩)
    have HA7 : Hid (w7.heap[N]? = some (.cells #[.int .i64 q.f, .int .i64 q.e, .int .i64 q.x] 30 (0, 0))) := hide ((hb7.block N (Array.getElem?_eq_some_iff.1 HA.out).1).trans HA.out)
    have HR7 : Hid (Rb w7 b r) := hide (HR3.out.keep (hb7.block b HR3.out.lt))
    have HT7 := hide (HA3.out.below hb7)
    clear hb7
    refine hK _ _ HA7.out ?_
    clear hK K
    try simp only [Act.put, List.setIfInBounds_toArray, List.set_cons_zero, List.set_cons_succ]
    refine hd_call 13 (o := ⟨some 30, _, _, _, _, _⟩) (by kernel_rfl) rfl (by rfl) (fun K hK => ?_)
    go_simp
    go_wp2_with (go_at_call 86; refine (HP.out _).mono ?_; rintro e1 w13 ⟨rfl, hb13⟩)
    have HA13 : Hid (w13.heap[N]? = some (.cells #[.int .i64 q.f, .int .i64 q.e, .int .i64 q.x] 30 (0, 0))) := hide ((hb13.block N (Array.getElem?_eq_some_iff.1 HA7.out).1).trans HA7.out)
    have HR13 : Hid (Rb w13 b r) := hide (HR7.out.keep (hb13.block b HR7.out.lt))
    have HT13 := hide (HT7.out.below hb13)
    clear hb13
    refine hK _ _ HA13.out ?_
    clear hK K
    try simp only [Act.put, List.setIfInBounds_toArray, List.set_cons_zero, List.set_cons_succ]
    refine hd_take 14 (o := ⟨some 31, _, _, _, _, _⟩) (.pointer (some ⟨b, 21, none⟩)) (by kernel_rfl) (by kernel_rfl) (by kernel_rfl) rfl (by rfl) (fun W hSw => by go_simp) (fun _ _ _ h => h) HA13.out ?_
    try simp only [Act.put, List.setIfInBounds_toArray, List.set_cons_zero, List.set_cons_succ]
    refine hd_take 15 (o := ⟨some 32, _, _, _, _, _⟩) (.pointer (some ⟨b, 21, none⟩)) (by kernel_rfl) (by kernel_rfl) (by kernel_rfl) rfl (by rfl) (fun W hSw => by go_simp) (fun _ _ _ h => h) HA13.out ?_
    try simp only [Act.put, List.setIfInBounds_toArray, List.set_cons_zero, List.set_cons_succ]
    have d0 := HR13.out.get (j := 21) rfl
    have f0 := HR13.out.frz 21
    have d1 := HR13.out.get (j := 22) rfl
    have f1 := HR13.out.frz 22
    have d2 := HR13.out.get (j := 23) rfl
    have f2 := HR13.out.frz 23
    have d3 := HR13.out.get (j := 24) rfl
    have f3 := HR13.out.frz 24
    have d4 := HR13.out.get (j := 25) rfl
    have f4 := HR13.out.frz 25
    have d5 := HR13.out.get (j := 26) rfl
    have f5 := HR13.out.frz 26
    refine hd_call 16 (o := ⟨none, _, _, _, _, _⟩) (by kernel_rfl) rfl (by rfl) (fun K hK => ?_)
    go_simp
    refine hK _ _ (by rw [heap_setCell_other _ _ _ _ HNE.out, heap_setCell_other _ _ _ _ HNE.out, heap_setCell_other _ _ _ _ HNE.out]; exact HA13.out) ?_
    clear hK K
    have HF1 : Hid (Rb (((w13.setCell ⟨b, 21, none⟩ (.int .i64 (r.pd.f - q.f))).setCell ⟨b, 22, none⟩ (.int .i64 (r.pd.e - q.e))).setCell ⟨b, 23, none⟩ (.int .i64 (r.pd.x - q.x))) b { r with pd := ⟨r.pd.f - q.f, r.pd.e - q.e, r.pd.x - q.x⟩ }) := hide (Rb.set (e := { r with pd := ⟨r.pd.f - q.f, r.pd.e - q.e, r.pd.x⟩ }) (Rb.set (e := { r with pd := ⟨r.pd.f - q.f, r.pd.e, r.pd.x⟩ }) (HR13.out.set rfl) rfl) rfl)
    have HG1 := hide (((HT13.out.set 21 (.int .i64 (r.pd.f - q.f))).set 22 (.int .i64 (r.pd.e - q.e))).set 23 (.int .i64 (r.pd.x - q.x)))
    have HA1 : Hid ((((w13.setCell ⟨b, 21, none⟩ (.int .i64 (r.pd.f - q.f))).setCell ⟨b, 22, none⟩ (.int .i64 (r.pd.e - q.e))).setCell ⟨b, 23, none⟩ (.int .i64 (r.pd.x - q.x))).heap[N]? = some (.cells #[.int .i64 q.f, .int .i64 q.e, .int .i64 q.x] 30 (0, 0))) := hide (by rw [heap_setCell_other _ _ _ _ HNE.out, heap_setCell_other _ _ _ _ HNE.out, heap_setCell_other _ _ _ _ HNE.out]; exact HA13.out)
    clear d0 d1 d2 d3 d4 d5 f0 f1 f2 f3 f4 f5
    generalize (((w13.setCell ⟨b, 21, none⟩ (.int .i64 (r.pd.f - q.f))).setCell ⟨b, 22, none⟩ (.int .i64 (r.pd.e - q.e))).setCell ⟨b, 23, none⟩ (.int .i64 (r.pd.x - q.x))) = wz at *
    try simp only [Act.put, List.setIfInBounds_toArray, List.set_cons_zero, List.set_cons_succ]
    refine hd_take 17 (o := ⟨some 33, _, _, _, _, _⟩) (.pointer (some ⟨b, 21, none⟩)) (by kernel_rfl) (by kernel_rfl) (by kernel_rfl) rfl (by rfl) (fun W hSw => by go_simp) (fun _ _ _ h => h) HA1.out ?_
    try simp only [Act.put, List.setIfInBounds_toArray, List.set_cons_zero, List.set_cons_succ]
    refine hd_take 18 (o := ⟨some 34, _, _, _, _, _⟩) (.pointer (some ⟨b, 24, none⟩)) (by kernel_rfl) (by kernel_rfl) (by kernel_rfl) rfl (by rfl) (fun W hSw => by go_simp) (fun _ _ _ h => h) HA1.out ?_
    try simp only [Act.put, List.setIfInBounds_toArray, List.set_cons_zero, List.set_cons_succ]
    have d0 := HF1.out.get (j := 24) rfl
    have f0 := HF1.out.frz 24
    have d1 := HF1.out.get (j := 25) rfl
    have f1 := HF1.out.frz 25
    have d2 := HF1.out.get (j := 26) rfl
    have f2 := HF1.out.frz 26
    refine hd_call 19 (o := ⟨none, _, _, _, _, _⟩) (by kernel_rfl) rfl (by rfl) (fun K hK => ?_)
    go_simp
    refine hK _ _ (by rw [heap_setCell_other _ _ _ _ HNE.out, heap_setCell_other _ _ _ _ HNE.out, heap_setCell_other _ _ _ _ HNE.out]; exact HA1.out) ?_
    clear hK K
    refine wpAnyH_done (by kernel_rfl) ?_ _
    have HF2 := hide (Rb.set (e' := { r with pd := ⟨r.pd.f - q.f, r.pd.e - q.e, r.pd.x - q.x⟩, le := ⟨r.le.f + q.f, r.le.e + q.e, r.le.x + q.x⟩ }) (u := .int .i64 (r.le.x + q.x)) (j := 26) (Rb.set (e' := { r with pd := ⟨r.pd.f - q.f, r.pd.e - q.e, r.pd.x - q.x⟩, le := ⟨r.le.f + q.f, r.le.e + q.e, r.le.x⟩ }) (u := .int .i64 (r.le.e + q.e)) (j := 25) (Rb.set (e' := { r with pd := ⟨r.pd.f - q.f, r.pd.e - q.e, r.pd.x - q.x⟩, le := ⟨r.le.f + q.f, r.le.e, r.le.x⟩ }) (u := .int .i64 (r.le.f + q.f)) (j := 24) HF1.out rfl) rfl) rfl)
    have HG2 := hide (((HG1.out.set 24 (.int .i64 (r.le.f + q.f))).set 25 (.int .i64 (r.le.e + q.e))).set 26 (.int .i64 (r.le.x + q.x)))
    go_wp2
    go_ret
    exact ⟨rfl, HF2.out, HG2.out⟩
set_option maxRecDepth 100000 in
set_option maxHeartbeats 6400000 in
theorem refundMore_any (w : World) (b : Nat) (r : Er) (h : Rb w b r) (q : Qt) (hg : q.good) (hf : ¬ q.le r.pd) : Calls Tryz.prog 70 #[.pointer (some ⟨b, 21, none⟩), q.val] w fun e w' => e = .returned (.int .i64 1) ∧ Rb w' b r ∧ At w b w' := by
  have hb1 := (Below.refl w.heap.size w).alloc (Nat.le_refl _) (.cells #[.int .i64 q.f, .int .i64 q.e, .int .i64 q.x] 30)
  have a1 := heap_alloc_new w (.cells #[.int .i64 q.f, .int .i64 q.e, .int .i64 q.x] 30)
  have hR := h.keep (hb1.block b h.lt)
  have HA1 := hide (At.of_below (b := b) hb1)
  have HNE : Hid (w.heap.size ≠ b) := hide (fun e => by have := h.lt; omega)
  have HC1 := hide (fun W => isGood_any W q)
  rw [show decide q.good = true by simpa using hg] at HC1
  have HC2 := hide (fun W => fits_any W q r.pd)
  rw [show decide (q.le r.pd) = false by simpa using hf] at HC2
  clear h hb1 hg hf
  unfold Qt.val at *
  go_enter Tryz.func70, Tryz.ntmps70
  go_upto_region 1 with fail
  generalize w.alloc (.cells #[.int .i64 q.f, .int .i64 q.e, .int .i64 q.x] 30) = w1 at *
  obtain ⟨N, hN⟩ : ∃ N, w.heap.size = N := ⟨_, rfl⟩
  rw [hN] at a1 HNE ⊢
  clear hN
  have HR1 := hide hR
  have HN1 := hide a1
  clear hR a1
  obtain ⟨w2, hw2⟩ : ∃ w2, w2 = w1.drew := ⟨_, rfl⟩
  have HS : Hid (w2.heap[N]? = some (.cells #[.int .i64 q.f, .int .i64 q.e, .int .i64 q.x] 30 (0, 0)) ∧ Rb w2 b r) := by rw [hw2]; exact hide ⟨HN1.out, ⟨HR1.out.out⟩⟩
  have HT2 : Hid (At w b w2) := by rw [hw2]; exact ⟨HA1.out.os, HA1.out.tape, HA1.out.output, HA1.out.size, HA1.out.block⟩
  clear HN1 HR1 HA1
  refine wp_region_held_drew (S := fun W => W.heap[N]? = some (.cells #[.int .i64 q.f, .int .i64 q.e, .int .i64 q.x] 30 (0, 0)) ∧ Rb W b r) (by kernel_rfl) (by rw [← hw2]; exact HS.out) (fun _ => ?_)
  rw [← hw2]
  clear hw2
  refine hd_take 0 (o := ⟨some 5, _, _, _, _, _⟩) (.agg #[.int .i64 q.f, .int .i64 q.e, .int .i64 q.x]) (by kernel_rfl) (by kernel_rfl) (by kernel_rfl) rfl (by rfl) (fun W hSw => by obtain ⟨q9, q8⟩ := hSw; obtain ⟨c0, c1, c2, -, -, -⟩ := blk3 q9; go_simp) (fun _ _ _ h => h) HS.out ?_
  try simp only [Act.put, List.setIfInBounds_toArray, List.set_cons_zero, List.set_cons_succ]
  refine hd_call 1 (o := ⟨some 6, _, _, _, _, _⟩) (by kernel_rfl) rfl (by rfl) (fun K hK => ?_)
  go_simp
  go_wp2_with (go_at_call 53; refine (HC1.out _).mono ?_; rintro e1 w3 ⟨rfl, hb3⟩)
  have HS3 : Hid (w3.heap[N]? = some (.cells #[.int .i64 q.f, .int .i64 q.e, .int .i64 q.x] 30 (0, 0)) ∧ Rb w3 b r) := hide ⟨(hb3.block N (Array.getElem?_eq_some_iff.1 HS.out.1).1).trans HS.out.1, HS.out.2.keep (hb3.block b HS.out.2.lt)⟩
  have HT3 := hide (HT2.out.below hb3)
  clear hb3 HS HT2
  refine hK _ _ HS3.out ?_
  clear hK K
  try simp only [Act.put, List.setIfInBounds_toArray, List.set_cons_zero, List.set_cons_succ]
  refine hd_take 2 (o := ⟨some 7, _, _, _, _, _⟩) (.bool false) (by kernel_rfl) (by kernel_rfl) (by kernel_rfl) rfl (by rfl) (fun W hSw => by go_simp) (fun _ _ _ h => h) HS3.out ?_
  try simp only [Act.put, List.setIfInBounds_toArray, List.set_cons_zero, List.set_cons_succ]
  refine hd_take 3 (o := ⟨some 8, _, _, _, _, _⟩) (.bool false) (by kernel_rfl) (by kernel_rfl) (by kernel_rfl) rfl (by rfl) (fun W hSw => by go_simp) (fun _ _ _ h => h) HS3.out ?_
  try simp only [Act.put, List.setIfInBounds_toArray, List.set_cons_zero, List.set_cons_succ]
  refine hd_take 4 (o := ⟨some 9, _, _, _, _, _⟩) (.agg #[.int .i64 q.f, .int .i64 q.e, .int .i64 q.x]) (by kernel_rfl) (by kernel_rfl) (by kernel_rfl) rfl (by rfl) (fun W hSw => by obtain ⟨q9, q8⟩ := hSw; obtain ⟨c0, c1, c2, -, -, -⟩ := blk3 q9; go_simp) (fun _ _ _ h => h) HS3.out ?_
  try simp only [Act.put, List.setIfInBounds_toArray, List.set_cons_zero, List.set_cons_succ]
  refine hd_take 5 (o := ⟨some 10, _, _, _, _, _⟩) (.pointer (some ⟨b, 21, none⟩)) (by kernel_rfl) (by kernel_rfl) (by kernel_rfl) rfl (by rfl) (fun W hSw => by go_simp) (fun _ _ _ h => h) HS3.out ?_
  try simp only [Act.put, List.setIfInBounds_toArray, List.set_cons_zero, List.set_cons_succ]
  refine hd_take 6 (o := ⟨some 11, _, _, _, _, _⟩) (.pointer (some ⟨b, 21, none⟩)) (by kernel_rfl) (by kernel_rfl) (by kernel_rfl) rfl (by rfl) (fun W hSw => by go_simp) (fun _ _ _ h => h) HS3.out ?_
  try simp only [Act.put, List.setIfInBounds_toArray, List.set_cons_zero, List.set_cons_succ]
  refine hd_take 7 (o := ⟨some 12, _, _, _, _, _⟩) (.pointer (some ⟨b, 21, none⟩)) (by kernel_rfl) (by kernel_rfl) (by kernel_rfl) rfl (by rfl) (fun W hSw => by go_simp) (fun _ _ _ h => h) HS3.out ?_
  try simp only [Act.put, List.setIfInBounds_toArray, List.set_cons_zero, List.set_cons_succ]
  refine hd_take 8 (o := ⟨some 13, _, _, _, _, _⟩) (.agg #[.int .i64 r.pd.f, .int .i64 r.pd.e, .int .i64 r.pd.x]) (by kernel_rfl) (by kernel_rfl) (by kernel_rfl) rfl (by rfl) (fun W hSw => by obtain ⟨q9, q8⟩ := hSw; have d0 := q8.get (j := 21) rfl; have d1 := q8.get (j := 22) rfl; have d2 := q8.get (j := 23) rfl; go_simp) (fun _ _ _ h => h) HS3.out ?_
  try simp only [Act.put, List.setIfInBounds_toArray, List.set_cons_zero, List.set_cons_succ]
  refine hd_call 9 (o := ⟨some 14, _, _, _, _, _⟩) (by kernel_rfl) rfl (by rfl) (fun K hK => ?_)
  go_simp
  go_wp2_with (go_at_call 85; refine (HC2.out _).mono ?_; rintro e1 w4 ⟨rfl, hb4⟩)
  have HS4 : Hid (w4.heap[N]? = some (.cells #[.int .i64 q.f, .int .i64 q.e, .int .i64 q.x] 30 (0, 0)) ∧ Rb w4 b r) := hide ⟨(hb4.block N (Array.getElem?_eq_some_iff.1 HS3.out.1).1).trans HS3.out.1, HS3.out.2.keep (hb4.block b HS3.out.2.lt)⟩
  have HT4 := hide (HT3.out.below hb4)
  clear hb4 HS3 HT3
  refine hK _ _ HS4.out ?_
  clear hK K
  try simp only [Act.put, List.setIfInBounds_toArray, List.set_cons_zero, List.set_cons_succ]
  refine hd_take 10 (o := ⟨some 15, _, _, _, _, _⟩) (.bool true) (by kernel_rfl) (by kernel_rfl) (by kernel_rfl) rfl (by rfl) (fun W hSw => by go_simp) (fun _ _ _ h => h) HS4.out ?_
  try simp only [Act.put, List.setIfInBounds_toArray, List.set_cons_zero, List.set_cons_succ]
  refine hd_take 11 (o := ⟨some 16, _, _, _, _, _⟩) (.bool true) (by kernel_rfl) (by kernel_rfl) (by kernel_rfl) rfl (by rfl) (fun W hSw => by go_simp) (fun _ _ _ h => h) HS4.out ?_
  try simp only [Act.put, List.setIfInBounds_toArray, List.set_cons_zero, List.set_cons_succ]
  refine wpAnyH_done (by kernel_rfl) ?_ _
  clear HNE
  go_wp2
  go_ret
  exact ⟨rfl, HS4.out.2, HT4.out⟩
set_option maxRecDepth 100000 in
set_option maxHeartbeats 6400000 in
theorem refundBad_any (w : World) (b : Nat) (r : Er) (h : Rb w b r) (q : Qt) (hg : ¬ q.good) : Calls Tryz.prog 70 #[.pointer (some ⟨b, 21, none⟩), q.val] w fun e w' => e = .returned (.int .i64 1) ∧ Rb w' b r ∧ At w b w' := by
  have hb1 := (Below.refl w.heap.size w).alloc (Nat.le_refl _) (.cells #[.int .i64 q.f, .int .i64 q.e, .int .i64 q.x] 30)
  have a1 := heap_alloc_new w (.cells #[.int .i64 q.f, .int .i64 q.e, .int .i64 q.x] 30)
  have hR := h.keep (hb1.block b h.lt)
  have HA1 := hide (At.of_below (b := b) hb1)
  have HNE : Hid (w.heap.size ≠ b) := hide (fun e => by have := h.lt; omega)
  have HC1 := hide (fun W => isGood_any W q)
  rw [show decide q.good = false by simpa using hg] at HC1
  clear h hb1 hg
  unfold Qt.val at *
  go_enter Tryz.func70, Tryz.ntmps70
  go_upto_region 1 with fail
  generalize w.alloc (.cells #[.int .i64 q.f, .int .i64 q.e, .int .i64 q.x] 30) = w1 at *
  obtain ⟨N, hN⟩ : ∃ N, w.heap.size = N := ⟨_, rfl⟩
  rw [hN] at a1 HNE ⊢
  clear hN
  have HR1 := hide hR
  have HN1 := hide a1
  clear hR a1
  obtain ⟨w2, hw2⟩ : ∃ w2, w2 = w1.drew := ⟨_, rfl⟩
  have HS : Hid (w2.heap[N]? = some (.cells #[.int .i64 q.f, .int .i64 q.e, .int .i64 q.x] 30 (0, 0)) ∧ Rb w2 b r) := by rw [hw2]; exact hide ⟨HN1.out, ⟨HR1.out.out⟩⟩
  have HT2 : Hid (At w b w2) := by rw [hw2]; exact ⟨HA1.out.os, HA1.out.tape, HA1.out.output, HA1.out.size, HA1.out.block⟩
  clear HN1 HR1 HA1
  refine wp_region_held_drew (S := fun W => W.heap[N]? = some (.cells #[.int .i64 q.f, .int .i64 q.e, .int .i64 q.x] 30 (0, 0)) ∧ Rb W b r) (by kernel_rfl) (by rw [← hw2]; exact HS.out) (fun _ => ?_)
  rw [← hw2]
  clear hw2
  refine hd_take 0 (o := ⟨some 5, _, _, _, _, _⟩) (.agg #[.int .i64 q.f, .int .i64 q.e, .int .i64 q.x]) (by kernel_rfl) (by kernel_rfl) (by kernel_rfl) rfl (by rfl) (fun W hSw => by obtain ⟨q9, q8⟩ := hSw; obtain ⟨c0, c1, c2, -, -, -⟩ := blk3 q9; go_simp) (fun _ _ _ h => h) HS.out ?_
  try simp only [Act.put, List.setIfInBounds_toArray, List.set_cons_zero, List.set_cons_succ]
  refine hd_call 1 (o := ⟨some 6, _, _, _, _, _⟩) (by kernel_rfl) rfl (by rfl) (fun K hK => ?_)
  go_simp
  go_wp2_with (go_at_call 53; refine (HC1.out _).mono ?_; rintro e1 w3 ⟨rfl, hb3⟩)
  have HS3 : Hid (w3.heap[N]? = some (.cells #[.int .i64 q.f, .int .i64 q.e, .int .i64 q.x] 30 (0, 0)) ∧ Rb w3 b r) := hide ⟨(hb3.block N (Array.getElem?_eq_some_iff.1 HS.out.1).1).trans HS.out.1, HS.out.2.keep (hb3.block b HS.out.2.lt)⟩
  have HT3 := hide (HT2.out.below hb3)
  clear hb3 HS HT2
  refine hK _ _ HS3.out ?_
  clear hK K
  try simp only [Act.put, List.setIfInBounds_toArray, List.set_cons_zero, List.set_cons_succ]
  refine hd_take 2 (o := ⟨some 7, _, _, _, _, _⟩) (.bool true) (by kernel_rfl) (by kernel_rfl) (by kernel_rfl) rfl (by rfl) (fun W hSw => by go_simp) (fun _ _ _ h => h) HS3.out ?_
  try simp only [Act.put, List.setIfInBounds_toArray, List.set_cons_zero, List.set_cons_succ]
  refine hd_take 3 (o := ⟨some 8, _, _, _, _, _⟩) (.bool true) (by kernel_rfl) (by kernel_rfl) (by kernel_rfl) rfl (by rfl) (fun W hSw => by go_simp) (fun _ _ _ h => h) HS3.out ?_
  try simp only [Act.put, List.setIfInBounds_toArray, List.set_cons_zero, List.set_cons_succ]
  refine hd_skip 4 (o := ⟨some 9, _, _, _, _, _⟩) (by kernel_rfl) (by kernel_rfl) (by kernel_rfl) rfl (by rfl) (fun _ _ _ h => h) HS3.out ?_
  try simp only [Act.put, List.setIfInBounds_toArray, List.set_cons_zero, List.set_cons_succ]
  refine hd_skip 5 (o := ⟨some 10, _, _, _, _, _⟩) (by kernel_rfl) (by kernel_rfl) (by kernel_rfl) rfl (by rfl) (fun _ _ _ h => h) HS3.out ?_
  try simp only [Act.put, List.setIfInBounds_toArray, List.set_cons_zero, List.set_cons_succ]
  refine hd_skip 6 (o := ⟨some 11, _, _, _, _, _⟩) (by kernel_rfl) (by kernel_rfl) (by kernel_rfl) rfl (by rfl) (fun _ _ _ h => h) HS3.out ?_
  try simp only [Act.put, List.setIfInBounds_toArray, List.set_cons_zero, List.set_cons_succ]
  refine hd_skip 7 (o := ⟨some 12, _, _, _, _, _⟩) (by kernel_rfl) (by kernel_rfl) (by kernel_rfl) rfl (by rfl) (fun _ _ _ h => h) HS3.out ?_
  try simp only [Act.put, List.setIfInBounds_toArray, List.set_cons_zero, List.set_cons_succ]
  refine hd_skip 8 (o := ⟨some 13, _, _, _, _, _⟩) (by kernel_rfl) (by kernel_rfl) (by kernel_rfl) rfl (by rfl) (fun _ _ _ h => h) HS3.out ?_
  try simp only [Act.put, List.setIfInBounds_toArray, List.set_cons_zero, List.set_cons_succ]
  refine hd_skip 9 (o := ⟨some 14, _, _, _, _, _⟩) (by kernel_rfl) (by kernel_rfl) (by kernel_rfl) rfl (by rfl) (fun _ _ _ h => h) HS3.out ?_
  try simp only [Act.put, List.setIfInBounds_toArray, List.set_cons_zero, List.set_cons_succ]
  refine hd_skip 10 (o := ⟨some 15, _, _, _, _, _⟩) (by kernel_rfl) (by kernel_rfl) (by kernel_rfl) rfl (by rfl) (fun _ _ _ h => h) HS3.out ?_
  try simp only [Act.put, List.setIfInBounds_toArray, List.set_cons_zero, List.set_cons_succ]
  refine hd_take 11 (o := ⟨some 16, _, _, _, _, _⟩) (.bool true) (by kernel_rfl) (by kernel_rfl) (by kernel_rfl) rfl (by rfl) (fun W hSw => by go_simp) (fun _ _ _ h => h) HS3.out ?_
  try simp only [Act.put, List.setIfInBounds_toArray, List.set_cons_zero, List.set_cons_succ]
  refine wpAnyH_done (by kernel_rfl) ?_ _
  clear HNE
  go_wp2
  go_ret
  exact ⟨rfl, HS3.out.2, HT3.out⟩
end Go.Proofs.YtbocpmcodlceoaaGreat

namespace Go.Proofs.YtbocpmcodlceoaaGreat
open Go.RowKit Go.Shelf

section
variable (w : World) (F : Nat → Prop) (T : Nat) (rs : List (Option Er)) (last : Int)
set_option maxHeartbeats 800000 in
theorem payTNone_any (h : Et w F T rs last) (e : Int) (hn : look rs e = none) (q : Qt) : Calls Tryz.prog 19 #[.pointer (some ⟨T, 0, none⟩), .int .i64 e, q.val] w fun x w' => x = .returned (.int .i64 90) ∧ Below w.heap.size w w' := by
  have hb1 := (Below.refl w.heap.size w).alloc (Nat.le_refl _) (.cells #[.int .i64 q.f, .int .i64 q.e, .int .i64 q.x] 30)
  obtain ⟨S, G, m, h⟩ := h
  have h1 := h.below hb1
  have c0 := h1.cell.1
  have HG := hide (getL_any _ G S m h1.tab e)
  have HB := hide hb1
  rcases h.cases e with ⟨h2, _⟩ | ⟨k', b, r', e1, hm, h3, h4, h5, hR⟩
  · rw [h2] at HG
    simp only [ptr, Option.isSome_none] at HG
    clear h h1 h2 hb1
    unfold Qt.val
    go_enter Tryz.func19, Tryz.ntmps19
    go_wp2_with fail
    refine HG.out.mono ?_
    rintro e1 w1 ⟨rfl, rfl⟩
    go_wp2
    go_ret
    exact ⟨rfl, HB.out⟩
  · rw [hn] at h5; cases h5
set_option maxRecDepth 100000 in
set_option maxHeartbeats 3200000 in
theorem payT_via (h : Et w F T rs last) (k : Nat) (r r' : Er) (hr : rs[k]? = some (some r)) (q : Qt) (c : Int) (hc : ∀ W b, Rb W b r → Calls Tryz.prog 68 #[.pointer (some ⟨b, 21, none⟩), q.val] W fun e w' => e = .returned (.int .i64 c) ∧ Rb w' b r' ∧ At W b w') :
    Calls Tryz.prog 19 #[.pointer (some ⟨T, 0, none⟩), .int .i64 (k : Int), q.val] w fun x w' => x = .returned (.int .i64 c) ∧ Et w' F T (rs.set k (some r')) last ∧ Mod F w w' := by
  have hb1 := (Below.refl w.heap.size w).alloc (Nat.le_refl _) (.cells #[.int .i64 q.f, .int .i64 q.e, .int .i64 q.x] 30)
  have a1 := heap_alloc_new w (.cells #[.int .i64 q.f, .int .i64 q.e, .int .i64 q.x] 30)
  have hlt := h.lt
  obtain ⟨S, G, m, h⟩ := h
  have h1 := h.below hb1
  have c0 := h1.cell.1
  have HG := hide (getL_any _ G S m h1.tab (k : Int))
  rcases h1.cases (k : Int) with ⟨_, h2⟩ | ⟨k', b, r9, e1, hm, h3, h4, h5, hR⟩
  · rw [look_nat, hr] at h2; cases h2
  obtain rfl : k = k' := by omega
  rw [hr] at h3; cases h3
  rw [h4] at HG
  simp only [ptr, Option.isSome_some] at HG
  have HC := hide (fun W (hb : Rb W b r) => hc W b hb)
  have HH := hide h1
  have HR := hide hR
  have HM := hide hm
  have HMo : Hid (Mod F w _) := hide (Mod.of_below (F := F) hb1)
  have HNb : Hid (w.heap.size ≠ b) := hide (fun e => by have := hlt b (h.own k b hm).1; omega)
  have HA := hide a1
  clear h h1 h4 h5 hR hb1 hc hr a1 hlt hm
  unfold Qt.val at *
  go_enter Tryz.func19, Tryz.ntmps19
  go_wp2_with fail
  refine HG.out.mono ?_
  rintro e1 w1 ⟨rfl, rfl⟩
  go_upto_region 4 with fail
  generalize w.alloc (.cells #[.int .i64 q.f, .int .i64 q.e, .int .i64 q.x] 30) = w1 at *
  generalize w.heap.size = N at *
  obtain ⟨w3, hw3⟩ : ∃ w3, w3 = w1.drew := ⟨_, rfl⟩
  have hb3 : Below w1.heap.size w1 w3 := by rw [hw3]; exact ⟨rfl, rfl, rfl, Nat.le_refl _, fun _ _ => rfl⟩
  have HA3 : Hid (w3.heap[N]? = some (.cells #[.int .i64 q.f, .int .i64 q.e, .int .i64 q.x] 30 (0, 0))) := hide ((hb3.block N (Array.getElem?_eq_some_iff.1 HA.out).1).trans HA.out)
  have HH3 := hide (HH.out.below hb3)
  have HR3 := hide (HR.out.keep (hb3.block b HR.out.lt))
  have HM3 := hide (HMo.out.trans (Mod.of_below hb3))
  clear HA HH HR HMo hb3 HG c0
  refine wp_region_held_drew (S := fun W => W.heap[N]? = some (.cells #[.int .i64 q.f, .int .i64 q.e, .int .i64 q.x] 30 (0, 0))) (by kernel_rfl) (by rw [← hw3]; exact HA3.out) (fun _ => ?_)
  rw [← hw3]
  clear hw3
  refine hd_take 0 (o := ⟨some 20, _, _, _, _, _⟩) (.pointer (some ⟨b, 0, none⟩)) (by kernel_rfl) (by kernel_rfl) (by kernel_rfl) rfl (by rfl) (fun W hSw => by go_simp) (fun _ _ _ h => h) HA3.out ?_
  try simp only [Act.put, List.setIfInBounds_toArray, List.set_cons_zero, List.set_cons_succ]
  refine hd_take 1 (o := ⟨some 21, _, _, _, _, _⟩) (.pointer (some ⟨b, 0, none⟩)) (by kernel_rfl) (by kernel_rfl) (by kernel_rfl) rfl (by rfl) (fun W hSw => by go_simp) (fun _ _ _ h => h) HA3.out ?_
  try simp only [Act.put, List.setIfInBounds_toArray, List.set_cons_zero, List.set_cons_succ]
  refine hd_take 2 (o := ⟨some 22, _, _, _, _, _⟩) (.pointer (some ⟨b, 21, none⟩)) (by kernel_rfl) (by kernel_rfl) (by kernel_rfl) rfl (by rfl) (fun W hSw => by go_simp) (fun _ _ _ h => h) HA3.out ?_
  try simp only [Act.put, List.setIfInBounds_toArray, List.set_cons_zero, List.set_cons_succ]
  refine hd_take 3 (o := ⟨some 23, _, _, _, _, _⟩) (.agg #[.int .i64 q.f, .int .i64 q.e, .int .i64 q.x]) (by kernel_rfl) (by kernel_rfl) (by kernel_rfl) rfl (by rfl) (fun W hSw => by obtain ⟨c0, c1, c2, -, -, -⟩ := blk3 hSw; go_simp) (fun _ _ _ h => h) HA3.out ?_
  try simp only [Act.put, List.setIfInBounds_toArray, List.set_cons_zero, List.set_cons_succ]
  refine hd_call 4 (o := ⟨some 24, _, _, _, _, _⟩) (by kernel_rfl) rfl (by rfl) (fun K hK => ?_)
  go_simp
  go_wp2_with (go_at_call 68; refine (HC.out _ HR3.out).mono ?_; rintro e1 w4 ⟨rfl, hr4, ha4⟩)
  have HA4 : Hid (w4.heap[N]? = some (.cells #[.int .i64 q.f, .int .i64 q.e, .int .i64 q.x] 30 (0, 0))) := hide ((ha4.block N (Array.getElem?_eq_some_iff.1 HA3.out).1 HNb.out).trans HA3.out)
  have HU := hide (Et.upd HH3.out HM.out hr4 ha4)
  clear hr4 ha4
  refine hK _ _ HA4.out ?_
  clear hK K
  try simp only [Act.put, List.setIfInBounds_toArray, List.set_cons_zero, List.set_cons_succ]
  refine hd_take 5 (o := ⟨some 6, _, _, _, _, _⟩) (.int .i64 c) (by kernel_rfl) (by kernel_rfl) (by kernel_rfl) rfl (by rfl) (fun W hSw => by go_simp) (fun _ _ _ h => h) HA4.out ?_
  try simp only [Act.put, List.setIfInBounds_toArray, List.set_cons_zero, List.set_cons_succ]
  refine wpAnyH_done (by kernel_rfl) ?_ _
  go_wp2
  go_ret
  exact ⟨rfl, HU.out.1, HM3.out.trans HU.out.2⟩
set_option maxHeartbeats 800000 in
theorem refundTNone_any (h : Et w F T rs last) (e : Int) (hn : look rs e = none) (q : Qt) : Calls Tryz.prog 21 #[.pointer (some ⟨T, 0, none⟩), .int .i64 e, q.val] w fun x w' => x = .returned (.int .i64 90) ∧ Below w.heap.size w w' := by
  have hb1 := (Below.refl w.heap.size w).alloc (Nat.le_refl _) (.cells #[.int .i64 q.f, .int .i64 q.e, .int .i64 q.x] 30)
  obtain ⟨S, G, m, h⟩ := h
  have h1 := h.below hb1
  have c0 := h1.cell.1
  have HG := hide (getL_any _ G S m h1.tab e)
  have HB := hide hb1
  rcases h.cases e with ⟨h2, _⟩ | ⟨k', b, r', e1, hm, h3, h4, h5, hR⟩
  · rw [h2] at HG
    simp only [ptr, Option.isSome_none] at HG
    clear h h1 h2 hb1
    unfold Qt.val
    go_enter Tryz.func21, Tryz.ntmps21
    go_wp2_with fail
    refine HG.out.mono ?_
    rintro e1 w1 ⟨rfl, rfl⟩
    go_wp2
    go_ret
    exact ⟨rfl, HB.out⟩
  · rw [hn] at h5; cases h5
set_option maxRecDepth 100000 in
set_option maxHeartbeats 3200000 in
theorem refundT_via (h : Et w F T rs last) (k : Nat) (r r' : Er) (hr : rs[k]? = some (some r)) (q : Qt) (c : Int) (hc : ∀ W b, Rb W b r → Calls Tryz.prog 70 #[.pointer (some ⟨b, 21, none⟩), q.val] W fun e w' => e = .returned (.int .i64 c) ∧ Rb w' b r' ∧ At W b w') :
    Calls Tryz.prog 21 #[.pointer (some ⟨T, 0, none⟩), .int .i64 (k : Int), q.val] w fun x w' => x = .returned (.int .i64 c) ∧ Et w' F T (rs.set k (some r')) last ∧ Mod F w w' := by
  have hb1 := (Below.refl w.heap.size w).alloc (Nat.le_refl _) (.cells #[.int .i64 q.f, .int .i64 q.e, .int .i64 q.x] 30)
  have a1 := heap_alloc_new w (.cells #[.int .i64 q.f, .int .i64 q.e, .int .i64 q.x] 30)
  have hlt := h.lt
  obtain ⟨S, G, m, h⟩ := h
  have h1 := h.below hb1
  have c0 := h1.cell.1
  have HG := hide (getL_any _ G S m h1.tab (k : Int))
  rcases h1.cases (k : Int) with ⟨_, h2⟩ | ⟨k', b, r9, e1, hm, h3, h4, h5, hR⟩
  · rw [look_nat, hr] at h2; cases h2
  obtain rfl : k = k' := by omega
  rw [hr] at h3; cases h3
  rw [h4] at HG
  simp only [ptr, Option.isSome_some] at HG
  have HC := hide (fun W (hb : Rb W b r) => hc W b hb)
  have HH := hide h1
  have HR := hide hR
  have HM := hide hm
  have HMo : Hid (Mod F w _) := hide (Mod.of_below (F := F) hb1)
  have HNb : Hid (w.heap.size ≠ b) := hide (fun e => by have := hlt b (h.own k b hm).1; omega)
  have HA := hide a1
  clear h h1 h4 h5 hR hb1 hc hr a1 hlt hm
  unfold Qt.val at *
  go_enter Tryz.func21, Tryz.ntmps21
  go_wp2_with fail
  refine HG.out.mono ?_
  rintro e1 w1 ⟨rfl, rfl⟩
  go_upto_region 4 with fail
  generalize w.alloc (.cells #[.int .i64 q.f, .int .i64 q.e, .int .i64 q.x] 30) = w1 at *
  generalize w.heap.size = N at *
  obtain ⟨w3, hw3⟩ : ∃ w3, w3 = w1.drew := ⟨_, rfl⟩
  have hb3 : Below w1.heap.size w1 w3 := by rw [hw3]; exact ⟨rfl, rfl, rfl, Nat.le_refl _, fun _ _ => rfl⟩
  have HA3 : Hid (w3.heap[N]? = some (.cells #[.int .i64 q.f, .int .i64 q.e, .int .i64 q.x] 30 (0, 0))) := hide ((hb3.block N (Array.getElem?_eq_some_iff.1 HA.out).1).trans HA.out)
  have HH3 := hide (HH.out.below hb3)
  have HR3 := hide (HR.out.keep (hb3.block b HR.out.lt))
  have HM3 := hide (HMo.out.trans (Mod.of_below hb3))
  clear HA HH HR HMo hb3 HG c0
  refine wp_region_held_drew (S := fun W => W.heap[N]? = some (.cells #[.int .i64 q.f, .int .i64 q.e, .int .i64 q.x] 30 (0, 0))) (by kernel_rfl) (by rw [← hw3]; exact HA3.out) (fun _ => ?_)
  rw [← hw3]
  clear hw3
  refine hd_take 0 (o := ⟨some 20, _, _, _, _, _⟩) (.pointer (some ⟨b, 0, none⟩)) (by kernel_rfl) (by kernel_rfl) (by kernel_rfl) rfl (by rfl) (fun W hSw => by go_simp) (fun _ _ _ h => h) HA3.out ?_
  try simp only [Act.put, List.setIfInBounds_toArray, List.set_cons_zero, List.set_cons_succ]
  refine hd_take 1 (o := ⟨some 21, _, _, _, _, _⟩) (.pointer (some ⟨b, 0, none⟩)) (by kernel_rfl) (by kernel_rfl) (by kernel_rfl) rfl (by rfl) (fun W hSw => by go_simp) (fun _ _ _ h => h) HA3.out ?_
  try simp only [Act.put, List.setIfInBounds_toArray, List.set_cons_zero, List.set_cons_succ]
  refine hd_take 2 (o := ⟨some 22, _, _, _, _, _⟩) (.pointer (some ⟨b, 21, none⟩)) (by kernel_rfl) (by kernel_rfl) (by kernel_rfl) rfl (by rfl) (fun W hSw => by go_simp) (fun _ _ _ h => h) HA3.out ?_
  try simp only [Act.put, List.setIfInBounds_toArray, List.set_cons_zero, List.set_cons_succ]
  refine hd_take 3 (o := ⟨some 23, _, _, _, _, _⟩) (.agg #[.int .i64 q.f, .int .i64 q.e, .int .i64 q.x]) (by kernel_rfl) (by kernel_rfl) (by kernel_rfl) rfl (by rfl) (fun W hSw => by obtain ⟨c0, c1, c2, -, -, -⟩ := blk3 hSw; go_simp) (fun _ _ _ h => h) HA3.out ?_
  try simp only [Act.put, List.setIfInBounds_toArray, List.set_cons_zero, List.set_cons_succ]
  refine hd_call 4 (o := ⟨some 24, _, _, _, _, _⟩) (by kernel_rfl) rfl (by rfl) (fun K hK => ?_)
  go_simp
  go_wp2_with (go_at_call 70; refine (HC.out _ HR3.out).mono ?_; rintro e1 w4 ⟨rfl, hr4, ha4⟩)
  have HA4 : Hid (w4.heap[N]? = some (.cells #[.int .i64 q.f, .int .i64 q.e, .int .i64 q.x] 30 (0, 0))) := hide ((ha4.block N (Array.getElem?_eq_some_iff.1 HA3.out).1 HNb.out).trans HA3.out)
  have HU := hide (Et.upd HH3.out HM.out hr4 ha4)
  clear hr4 ha4
  refine hK _ _ HA4.out ?_
  clear hK K
  try simp only [Act.put, List.setIfInBounds_toArray, List.set_cons_zero, List.set_cons_succ]
  refine hd_take 5 (o := ⟨some 6, _, _, _, _, _⟩) (.int .i64 c) (by kernel_rfl) (by kernel_rfl) (by kernel_rfl) rfl (by rfl) (fun W hSw => by go_simp) (fun _ _ _ h => h) HA4.out ?_
  try simp only [Act.put, List.setIfInBounds_toArray, List.set_cons_zero, List.set_cons_succ]
  refine wpAnyH_done (by kernel_rfl) ?_ _
  go_wp2
  go_ret
  exact ⟨rfl, HU.out.1, HM3.out.trans HU.out.2⟩

end
theorem good_ok {q : Qt} (h : q.good) : q.ok := by
  obtain ⟨g1, g2, g3⟩ := good_bounds h
  unfold Qt.ok; omega
/-- what Pay answers, and the table behind it -/
def payE (rs : List (Option Er)) (e : Int) (q : Qt) : Int := match look rs e with | none => 90 | some r => if q.good then (if q.le r.le then 0 else 2) else 1
def payS (rs : List (Option Er)) (e : Int) (q : Qt) : List (Option Er) := match look rs e with | none => rs | some r => if q.good then (if q.le r.le then rs.set e.toNat (some { r with pd := r.pd.plus q, le := r.le.less q }) else rs) else rs
def refE (rs : List (Option Er)) (e : Int) (q : Qt) : Int := match look rs e with | none => 90 | some r => if q.good ∧ q.le r.pd then 0 else 1
def refS (rs : List (Option Er)) (e : Int) (q : Qt) : List (Option Er) := match look rs e with | none => rs | some r => if q.good ∧ q.le r.pd then rs.set e.toNat (some { r with pd := r.pd.less q, le := r.le.plus q }) else rs
theorem set_same {rs : List (Option Er)} {k : Nat} {r : Er} (h : rs[k]? = some (some r)) : rs.set k (some r) = rs := by
  obtain ⟨h1, h2⟩ := List.getElem?_eq_some_iff.1 h
  rw [← h2]; exact List.set_getElem_self h1
section
variable {w : World} {F : Nat → Prop} {T : Nat} {rs : List (Option Er)} {last : Int}
theorem look_some {e : Int} {r : Er} (h : look rs e = some r) : ∃ k : Nat, e = k ∧ rs[k]? = some (some r) := by
  rcases look_cases rs e with ⟨_, h1⟩ | ⟨k, _, _, _, h1⟩ | ⟨k, x, h0, h1, h2, h3⟩
  · rw [h1] at h; cases h
  · rw [h1] at h; cases h
  · rw [h3] at h; cases h; exact ⟨k, h0, h2⟩
theorem pay_any (h : Et w F T rs last) (e : Int) (q : Qt) (hok : ∀ r, look rs e = some r → r.le.ok ∧ r.pd.ok) : Calls Tryz.prog 19 #[.pointer (some ⟨T, 0, none⟩), .int .i64 e, q.val] w fun x w' => x = .returned (.int .i64 (payE rs e q)) ∧ Et w' F T (payS rs e q) last ∧ Mod F w w' := by
  unfold payE payS
  cases hl : look rs e with
  | none =>
    refine (payTNone_any w F T rs last h e hl q).mono ?_
    rintro x w' ⟨rfl, hb⟩
    exact ⟨rfl, h.below hb, Mod.of_below hb⟩
  | some r =>
    obtain ⟨k, rfl, hr⟩ := look_some hl
    obtain ⟨hle, hpd⟩ := hok r hl
    simp only []
    by_cases hg : q.good
    · rw [if_pos hg, if_pos hg]
      by_cases hf : q.le r.le
      · rw [if_pos hf, if_pos hf]
        exact payT_via w F T rs last h k r _ hr q 0 (fun W b hb => payOk_any W b r hb q hg (good_ok hg) hf hle hpd)
      · rw [if_neg hf, if_neg hf]
        have := payT_via w F T rs last h k r r hr q 2 (fun W b hb => (payFull_any W b r hb q hg hf).mono (fun x w' ⟨h1, h2⟩ => ⟨h1, hb.keep (h2.block b hb.lt), At.of_below h2⟩))
        rw [set_same hr] at this
        exact this
    · rw [if_neg hg, if_neg hg]
      have := payT_via w F T rs last h k r r hr q 1 (fun W b hb => (payBad_any W b q hg).mono (fun x w' ⟨h1, h2⟩ => ⟨h1, hb.keep (h2.block b hb.lt), At.of_below h2⟩))
      rw [set_same hr] at this
      exact this
theorem refund_any (h : Et w F T rs last) (e : Int) (q : Qt) (hok : ∀ r, look rs e = some r → r.le.ok ∧ r.pd.ok) : Calls Tryz.prog 21 #[.pointer (some ⟨T, 0, none⟩), .int .i64 e, q.val] w fun x w' => x = .returned (.int .i64 (refE rs e q)) ∧ Et w' F T (refS rs e q) last ∧ Mod F w w' := by
  unfold refE refS
  cases hl : look rs e with
  | none =>
    refine (refundTNone_any w F T rs last h e hl q).mono ?_
    rintro x w' ⟨rfl, hb⟩
    exact ⟨rfl, h.below hb, Mod.of_below hb⟩
  | some r =>
    obtain ⟨k, rfl, hr⟩ := look_some hl
    obtain ⟨hle, hpd⟩ := hok r hl
    simp only []
    by_cases hc : q.good ∧ q.le r.pd
    · rw [if_pos hc, if_pos hc]
      exact refundT_via w F T rs last h k r _ hr q 0 (fun W b hb => refundOk_any W b r hb q hc.1 (good_ok hc.1) hc.2 hle hpd)
    · rw [if_neg hc, if_neg hc]
      have := refundT_via w F T rs last h k r r hr q 1 (fun W b hb => by
        by_cases hg : q.good
        · exact refundMore_any W b r hb q hg (fun hf => hc ⟨hg, hf⟩)
        · exact refundBad_any W b r hb q hg)
      rw [set_same hr] at this
      exact this
end
end Go.Proofs.YtbocpmcodlceoaaGreat

namespace Go.Proofs.YtbocpmcodlceoaaGreat
open Go.RowKit Go.Shelf

section
variable (w : World) (F : Nat → Prop) (T : Nat) (rs : List (Option Er)) (last : Int)
set_option maxHeartbeats 800000 in
theorem createNone_any (h : Et w F T rs last) (e : Int) (hn : look rs e = none) (serial : Int) (q : Qt) : Calls Tryz.prog 12 #[.pointer (some ⟨T, 0, none⟩), .int .i64 e, .int .i64 serial, q.val] w fun x w' => x = .returned (.tuple #[.int .i64 (-1), .int .i64 90]) ∧ Below w.heap.size w w' := by
  have hb1 := (Below.refl w.heap.size w).alloc (Nat.le_refl _) (.cells #[.int .i64 q.f, .int .i64 q.e, .int .i64 q.x] 30)
  obtain ⟨S, G, m, h⟩ := h
  have h1 := h.below hb1
  have c0 := h1.cell.1
  have HG := hide (getL_any _ G S m h1.tab e)
  have HB := hide hb1
  rcases h.cases e with ⟨h2, _⟩ | ⟨k', b, r', e1, hm, h3, h4, h5, hR⟩
  · rw [h2] at HG
    simp only [ptr, Option.isSome_none] at HG
    clear h h1 h2 hb1
    unfold Qt.val
    go_enter Tryz.func12, Tryz.ntmps12
    go_wp2_with fail
    refine HG.out.mono ?_
    rintro e1 w1 ⟨rfl, rfl⟩
    go_wp2
    go_ret2
    exact ⟨rfl, HB.out⟩
  · rw [hn] at h5; cases h5
set_option maxRecDepth 8000 in
set_option maxHeartbeats 6400000 in
theorem createBad1_any (h : Et w F T rs last) (k : Nat) (r : Er) (hr : rs[k]? = some (some r)) (serial : Int) (q : Qt) (hg : ¬ q.good) : Calls Tryz.prog 12 #[.pointer (some ⟨T, 0, none⟩), .int .i64 (k : Int), .int .i64 serial, q.val] w fun x w' => x = .returned (.tuple #[.int .i64 (-1), .int .i64 1]) ∧ Below w.heap.size w w' := by
  have hb1 := (Below.refl w.heap.size w).alloc (Nat.le_refl _) (.cells #[.int .i64 q.f, .int .i64 q.e, .int .i64 q.x] 30)
  have a1 := heap_alloc_new w (.cells #[.int .i64 q.f, .int .i64 q.e, .int .i64 q.x] 30)
  obtain ⟨S, G, m, h⟩ := h
  have h1 := h.below hb1
  rcases h1.cases (k : Int) with ⟨_, h2⟩ | ⟨k', b, r', e1, hm, h3, h4, _, hR⟩
  · rw [look_nat, hr] at h2; cases h2
  obtain rfl : k = k' := by omega
  rw [hr] at h3; cases h3
  have HM := hide hm
  have HRr := hide hr
  have HG := hide (getL_any _ G S m h1.tab (k : Int))
  rw [h4] at HG
  simp only [ptr, Option.isSome_some] at HG
  have HC1 := hide (fun W => isGood_any W q)
  have HE1 := hide h1
  have HB1 := hide hb1
  have HA1 := hide a1
  rw [show decide q.good = false by simpa using hg] at HC1
  clear h h1 h4 hR hm hr hb1 a1 hg
  unfold Qt.val at *
  go_enter Tryz.func12, Tryz.ntmps12
  go_upto_region 1 with fail
  generalize w.alloc (.cells #[.int .i64 q.f, .int .i64 q.e, .int .i64 q.x] 30) = w1 at *
  obtain ⟨N, hN⟩ : ∃ N, w.heap.size = N := ⟨_, rfl⟩
  have HN := hide hN
  rw [hN] at HB1 HA1 ⊢
  clear hN
  have t0 := HE1.out.cell.1
  go_wp2_with fail
  refine HG.out.mono ?_
  rintro e1 w2 ⟨rfl, rfl⟩
  obtain ⟨c0, c1, c2, -, -, -⟩ := blk3 HA1.out
  go_wp2_with fail
  refine (HC1.out _).mono ?_
  rintro e1 w3 ⟨rfl, hb3⟩
  have HE3 := hide (HE1.out.below hb3)
  have HB3 := hide (HB1.out.trans (hb3.mono (by rw [← HN.out]; exact HB1.out.size)))
  have HA3 := hide ((hb3.block N (Array.getElem?_eq_some_iff.1 HA1.out).1).trans HA1.out)
  have t1 := HE3.out.cell.2.1
  clear hb3 c0 c1 c2 t0 HE1 HB1 HA1 HG HC1
  go_wp2
  go_ret2
  exact ⟨rfl, by rw [HN.out]; exact HB3.out⟩
set_option maxRecDepth 8000 in
set_option maxHeartbeats 6400000 in
theorem createBad2_any (h : Et w F T rs last) (k : Nat) (r : Er) (hr : rs[k]? = some (some r)) (serial : Int) (q : Qt) (hg : q.good) (hs : serial ≤ last) : Calls Tryz.prog 12 #[.pointer (some ⟨T, 0, none⟩), .int .i64 (k : Int), .int .i64 serial, q.val] w fun x w' => x = .returned (.tuple #[.int .i64 (-1), .int .i64 1]) ∧ Below w.heap.size w w' := by
  have hb1 := (Below.refl w.heap.size w).alloc (Nat.le_refl _) (.cells #[.int .i64 q.f, .int .i64 q.e, .int .i64 q.x] 30)
  have a1 := heap_alloc_new w (.cells #[.int .i64 q.f, .int .i64 q.e, .int .i64 q.x] 30)
  obtain ⟨S, G, m, h⟩ := h
  have h1 := h.below hb1
  rcases h1.cases (k : Int) with ⟨_, h2⟩ | ⟨k', b, r', e1, hm, h3, h4, _, hR⟩
  · rw [look_nat, hr] at h2; cases h2
  obtain rfl : k = k' := by omega
  rw [hr] at h3; cases h3
  have HM := hide hm
  have HRr := hide hr
  have HG := hide (getL_any _ G S m h1.tab (k : Int))
  rw [h4] at HG
  simp only [ptr, Option.isSome_some] at HG
  have HC1 := hide (fun W => isGood_any W q)
  have HE1 := hide h1
  have HB1 := hide hb1
  have HA1 := hide a1
  rw [show decide q.good = true by simpa using hg] at HC1
  clear h h1 h4 hR hm hr hb1 a1 hg
  unfold Qt.val at *
  go_enter Tryz.func12, Tryz.ntmps12
  go_upto_region 1 with fail
  generalize w.alloc (.cells #[.int .i64 q.f, .int .i64 q.e, .int .i64 q.x] 30) = w1 at *
  obtain ⟨N, hN⟩ : ∃ N, w.heap.size = N := ⟨_, rfl⟩
  have HN := hide hN
  rw [hN] at HB1 HA1 ⊢
  clear hN
  have t0 := HE1.out.cell.1
  go_wp2_with fail
  refine HG.out.mono ?_
  rintro e1 w2 ⟨rfl, rfl⟩
  obtain ⟨c0, c1, c2, -, -, -⟩ := blk3 HA1.out
  go_wp2_with fail
  refine (HC1.out _).mono ?_
  rintro e1 w3 ⟨rfl, hb3⟩
  have HE3 := hide (HE1.out.below hb3)
  have HB3 := hide (HB1.out.trans (hb3.mono (by rw [← HN.out]; exact HB1.out.size)))
  have HA3 := hide ((hb3.block N (Array.getElem?_eq_some_iff.1 HA1.out).1).trans HA1.out)
  have t1 := HE3.out.cell.2.1
  clear hb3 c0 c1 c2 t0 HE1 HB1 HA1 HG HC1
  go_wp2
  go_ret2
  exact ⟨rfl, by rw [HN.out]; exact HB3.out⟩
set_option maxRecDepth 8000 in
set_option maxHeartbeats 6400000 in
theorem createBad3_any (h : Et w F T rs last) (k : Nat) (r : Er) (hr : rs[k]? = some (some r)) (serial : Int) (q : Qt) (hg : q.good) (hs : last < serial) (hx : 4611686018427387903 < serial) : Calls Tryz.prog 12 #[.pointer (some ⟨T, 0, none⟩), .int .i64 (k : Int), .int .i64 serial, q.val] w fun x w' => x = .returned (.tuple #[.int .i64 (-1), .int .i64 1]) ∧ Below w.heap.size w w' := by
  have hb1 := (Below.refl w.heap.size w).alloc (Nat.le_refl _) (.cells #[.int .i64 q.f, .int .i64 q.e, .int .i64 q.x] 30)
  have a1 := heap_alloc_new w (.cells #[.int .i64 q.f, .int .i64 q.e, .int .i64 q.x] 30)
  obtain ⟨S, G, m, h⟩ := h
  have h1 := h.below hb1
  rcases h1.cases (k : Int) with ⟨_, h2⟩ | ⟨k', b, r', e1, hm, h3, h4, _, hR⟩
  · rw [look_nat, hr] at h2; cases h2
  obtain rfl : k = k' := by omega
  rw [hr] at h3; cases h3
  have HM := hide hm
  have HRr := hide hr
  have HG := hide (getL_any _ G S m h1.tab (k : Int))
  rw [h4] at HG
  simp only [ptr, Option.isSome_some] at HG
  have HC1 := hide (fun W => isGood_any W q)
  have HE1 := hide h1
  have HB1 := hide hb1
  have HA1 := hide a1
  rw [show decide q.good = true by simpa using hg] at HC1
  clear h h1 h4 hR hm hr hb1 a1 hg
  have hsl : ¬ serial ≤ last := by omega
  clear hs
  unfold Qt.val at *
  go_enter Tryz.func12, Tryz.ntmps12
  go_upto_region 1 with fail
  generalize w.alloc (.cells #[.int .i64 q.f, .int .i64 q.e, .int .i64 q.x] 30) = w1 at *
  obtain ⟨N, hN⟩ : ∃ N, w.heap.size = N := ⟨_, rfl⟩
  have HN := hide hN
  rw [hN] at HB1 HA1 ⊢
  clear hN
  have t0 := HE1.out.cell.1
  go_wp2_with fail
  refine HG.out.mono ?_
  rintro e1 w2 ⟨rfl, rfl⟩
  obtain ⟨c0, c1, c2, -, -, -⟩ := blk3 HA1.out
  go_wp2_with fail
  refine (HC1.out _).mono ?_
  rintro e1 w3 ⟨rfl, hb3⟩
  have HE3 := hide (HE1.out.below hb3)
  have HB3 := hide (HB1.out.trans (hb3.mono (by rw [← HN.out]; exact HB1.out.size)))
  have HA3 := hide ((hb3.block N (Array.getElem?_eq_some_iff.1 HA1.out).1).trans HA1.out)
  have t1 := HE3.out.cell.2.1
  clear hb3 c0 c1 c2 t0 HE1 HB1 HA1 HG HC1
  go_wp2
  go_ret2
  exact ⟨rfl, by rw [HN.out]; exact HB3.out⟩
set_option maxRecDepth 8000 in
set_option maxHeartbeats 6400000 in
theorem createFull_any (h : Et w F T rs last) (k : Nat) (r : Er) (hr : rs[k]? = some (some r)) (serial : Int) (q : Qt) (hg : q.good) (hs1 : last < serial) (hs2 : serial ≤ 4611686018427387903) (ha : ¬ (q.plus Qt.one).le r.le) : Calls Tryz.prog 12 #[.pointer (some ⟨T, 0, none⟩), .int .i64 (k : Int), .int .i64 serial, q.val] w fun x w' => x = .returned (.tuple #[.int .i64 (-1), .int .i64 2]) ∧ Below w.heap.size w w' := by
  have hb1 := (Below.refl w.heap.size w).alloc (Nat.le_refl _) (.cells #[.int .i64 q.f, .int .i64 q.e, .int .i64 q.x] 30)
  have a1 := heap_alloc_new w (.cells #[.int .i64 q.f, .int .i64 q.e, .int .i64 q.x] 30)
  obtain ⟨S, G, m, h⟩ := h
  have h1 := h.below hb1
  rcases h1.cases (k : Int) with ⟨_, h2⟩ | ⟨k', b, r', e1, hm, h3, h4, _, hR⟩
  · rw [look_nat, hr] at h2; cases h2
  obtain rfl : k = k' := by omega
  rw [hr] at h3; cases h3
  have HM := hide hm
  have HRr := hide hr
  have HG := hide (getL_any _ G S m h1.tab (k : Int))
  rw [h4] at HG
  simp only [ptr, Option.isSome_some] at HG
  have HC1 := hide (fun W => isGood_any W q)
  have HE1 := hide h1
  have HB1 := hide hb1
  have HA1 := hide a1
  rw [show decide q.good = true by simpa using hg] at HC1
  have HC2 := hide (fun W => price_any W q (good_ok hg))
  have HC3 := hide (fun W (hb : Rb W b r) => affords_any W b r hb (q.plus Qt.one))
  rw [show decide ((q.plus Qt.one).le r.le) = false by simpa using ha] at HC3
  obtain ⟨qp, hqp⟩ : ∃ qp, q.plus Qt.one = qp := ⟨_, rfl⟩
  rw [hqp] at HC2 HC3
  have hsl : ¬ serial ≤ last := by omega
  have hsm : ¬ 4611686018427387903 < serial := by omega
  clear h h1 h4 hR hm hr hb1 a1 hg ha hs1 hs2 hqp
  unfold Qt.val at *
  go_enter Tryz.func12, Tryz.ntmps12
  go_upto_region 1 with fail
  generalize w.alloc (.cells #[.int .i64 q.f, .int .i64 q.e, .int .i64 q.x] 30) = w1 at *
  obtain ⟨N, hN⟩ : ∃ N, w.heap.size = N := ⟨_, rfl⟩
  have HN := hide hN
  rw [hN] at HB1 HA1 ⊢
  clear hN
  have t0 := HE1.out.cell.1
  go_wp2_with fail
  refine HG.out.mono ?_
  rintro e1 w2 ⟨rfl, rfl⟩
  obtain ⟨c0, c1, c2, -, -, -⟩ := blk3 HA1.out
  go_wp2_with fail
  refine (HC1.out _).mono ?_
  rintro e1 w3 ⟨rfl, hb3⟩
  have HE3 := hide (HE1.out.below hb3)
  have HB3 := hide (HB1.out.trans (hb3.mono (by rw [← HN.out]; exact HB1.out.size)))
  have HA3 := hide ((hb3.block N (Array.getElem?_eq_some_iff.1 HA1.out).1).trans HA1.out)
  have t1 := HE3.out.cell.2.1
  clear hb3 c0 c1 c2 t0 HE1 HB1 HA1 HG HC1
  go_upto_region 6 with fail
  obtain ⟨w4, hw4⟩ : ∃ W, W = w3.drew := ⟨_, rfl⟩
  have HE4 : Hid (EtAt w4 F T S G m rs last) := by rw [hw4]; exact hide (HE3.out.keep (Nat.le_refl _) (fun _ _ => rfl))
  have HB4 : Hid (Below N w w4) := by rw [hw4]; exact hide HB3.out.drew
  have HA4 : Hid (w4.heap[N]? = some (.cells #[.int .i64 q.f, .int .i64 q.e, .int .i64 q.x] 30 (0, 0))) := by rw [hw4]; exact HA3
  refine wp_region_held_drew (S := fun W => W.heap[N]? = some (.cells #[.int .i64 q.f, .int .i64 q.e, .int .i64 q.x] 30 (0, 0))) (by kernel_rfl) (by rw [← hw4]; exact HA4.out) (fun _ => ?_)
  rw [← hw4]
  clear hw4 t1 HE3 HB3 HA3
  refine hd_take 0 (o := ⟨some 40, _, _, _, _, _⟩) (.pointer (some ⟨b, 0, none⟩)) (by kernel_rfl) (by kernel_rfl) (by kernel_rfl) rfl (by rfl) (fun W hSw => by go_simp) (fun _ _ _ h => h) HA4.out ?_
  simp only [Act.put, List.setIfInBounds_toArray, List.set_cons_zero, List.set_cons_succ]
  refine hd_take 1 (o := ⟨some 41, _, _, _, _, _⟩) (.pointer (some ⟨b, 0, none⟩)) (by kernel_rfl) (by kernel_rfl) (by kernel_rfl) rfl (by rfl) (fun W hSw => by go_simp) (fun _ _ _ h => h) HA4.out ?_
  simp only [Act.put, List.setIfInBounds_toArray, List.set_cons_zero, List.set_cons_succ]
  refine hd_take 2 (o := ⟨some 42, _, _, _, _, _⟩) (.pointer (some ⟨b, 21, none⟩)) (by kernel_rfl) (by kernel_rfl) (by kernel_rfl) rfl (by rfl) (fun W hSw => by go_simp) (fun _ _ _ h => h) HA4.out ?_
  simp only [Act.put, List.setIfInBounds_toArray, List.set_cons_zero, List.set_cons_succ]
  refine hd_take 3 (o := ⟨some 43, _, _, _, _, _⟩) (.agg #[.int .i64 q.f, .int .i64 q.e, .int .i64 q.x]) (by kernel_rfl) (by kernel_rfl) (by kernel_rfl) rfl (by rfl) (fun W hSw => by obtain ⟨c0, c1, c2, -, -, -⟩ := blk3 hSw; go_simp) (fun _ _ _ h => h) HA4.out ?_
  simp only [Act.put, List.setIfInBounds_toArray, List.set_cons_zero, List.set_cons_succ]
  refine hd_call 4 (o := ⟨some 44, _, _, _, _, _⟩) (by kernel_rfl) rfl (by rfl) (fun K hK => ?_)
  go_simp
  go_wp2_with (go_at_call 55; refine (HC2.out _).mono ?_; rintro e1 w5 ⟨rfl, hb5⟩)
  have HA5 := hide ((hb5.block N (Array.getElem?_eq_some_iff.1 HA4.out).1).trans HA4.out)
  have HE5 := hide (HE4.out.below hb5)
  have HB5 := hide (HB4.out.trans (hb5.mono (by rw [← HN.out]; exact HB4.out.size)))
  clear hb5
  refine hK _ _ HA5.out ?_
  clear hK K
  have hR5 : Rb w5 b r := by
    obtain ⟨e, q1, q2⟩ := HE5.out.held k b HM.out
    rw [HRr.out] at q1; cases q1; exact q2
  have HAf := hide (HC3.out w5 hR5)
  clear hR5
  try simp only [Act.put, List.setIfInBounds_toArray, List.set_cons_zero, List.set_cons_succ]
  refine hd_call 5 (o := ⟨some 45, _, _, _, _, _⟩) (by kernel_rfl) rfl (by rfl) (fun K hK => ?_)
  go_simp
  go_wp2_with (go_at_call 54; refine HAf.out.mono ?_; rintro e1 w6 ⟨rfl, hb6⟩)
  have HA6 := hide ((hb6.block N (Array.getElem?_eq_some_iff.1 HA5.out).1).trans HA5.out)
  have HE6 := hide (HE5.out.below hb6)
  have HB6 := hide (HB5.out.trans (hb6.mono (by rw [← HN.out]; exact HB5.out.size)))
  clear hb6
  refine hK _ _ HA6.out ?_
  clear hK K HAf
  try simp only [Act.put, List.setIfInBounds_toArray, List.set_cons_zero, List.set_cons_succ]
  refine hd_take 6 (o := ⟨some 46, _, _, _, _, _⟩) (.bool true) (by kernel_rfl) (by kernel_rfl) (by kernel_rfl) rfl (by rfl) (fun W hSw => by go_simp) (fun _ _ _ h => h) HA6.out ?_
  simp only [Act.put, List.setIfInBounds_toArray, List.set_cons_zero, List.set_cons_succ]
  refine wpAnyH_done (by kernel_rfl) ?_ _
  clear HA5 HE5 HB5 HA4 HE4 HB4
  go_wp2
  go_ret2
  exact ⟨rfl, by rw [HN.out]; exact HB6.out⟩
set_option maxRecDepth 8000 in
set_option maxHeartbeats 6400000 in
theorem createRoom_any (h : Et w F T rs last) (k : Nat) (r : Er) (hr : rs[k]? = some (some r)) (serial : Int) (q : Qt) (hg : q.good) (hs1 : last < serial) (hs2 : serial ≤ 4611686018427387903) (ha : (q.plus Qt.one).le r.le) (hroom : ff rs = 16) : Calls Tryz.prog 12 #[.pointer (some ⟨T, 0, none⟩), .int .i64 (k : Int), .int .i64 serial, q.val] w fun x w' => x = .returned (.tuple #[.int .i64 (-1), .int .i64 2]) ∧ Below w.heap.size w w' := by
  have hb1 := (Below.refl w.heap.size w).alloc (Nat.le_refl _) (.cells #[.int .i64 q.f, .int .i64 q.e, .int .i64 q.x] 30)
  have a1 := heap_alloc_new w (.cells #[.int .i64 q.f, .int .i64 q.e, .int .i64 q.x] 30)
  obtain ⟨S, G, m, h⟩ := h
  have h1 := h.below hb1
  rcases h1.cases (k : Int) with ⟨_, h2⟩ | ⟨k', b, r', e1, hm, h3, h4, _, hR⟩
  · rw [look_nat, hr] at h2; cases h2
  obtain rfl : k = k' := by omega
  rw [hr] at h3; cases h3
  have HM := hide hm
  have HRr := hide hr
  have HG := hide (getL_any _ G S m h1.tab (k : Int))
  rw [h4] at HG
  simp only [ptr, Option.isSome_some] at HG
  have HC1 := hide (fun W => isGood_any W q)
  have HE1 := hide h1
  have HB1 := hide hb1
  have HA1 := hide a1
  rw [show decide q.good = true by simpa using hg] at HC1
  have HC2 := hide (fun W => price_any W q (good_ok hg))
  have HC3 := hide (fun W (hb : Rb W b r) => affords_any W b r hb (q.plus Qt.one))
  rw [show decide ((q.plus Qt.one).le r.le) = true by simpa using ha] at HC3
  obtain ⟨qp, hqp⟩ : ∃ qp, q.plus Qt.one = qp := ⟨_, rfl⟩
  rw [hqp] at HC2 HC3
  have hsl : ¬ serial ≤ last := by omega
  have hsm : ¬ 4611686018427387903 < serial := by omega
  have HC4 := hide (fun W => newRecord_any W serial (k : Int) q)
  have HPut : Hid (∀ W c, Tab KL W G S m → Calls Tryz.prog 49 #[.pointer (some ⟨S, 0, none⟩), .pointer (some ⟨c, 0, none⟩)] W fun x w' => x = .returned (.tuple #[.int .i64 (-1), .int .i64 2]) ∧ w' = W) := hide (fun W c hT => by
    exact (putL_any W G S m hT c).mono (fun _ _ h9 => h9.2 (by rw [h.ff_eq, h.len]; exact hroom)))
  clear h h1 h4 hR hm hr hb1 a1 hg ha hs1 hs2 hqp hroom
  unfold Qt.val at *
  go_enter Tryz.func12, Tryz.ntmps12
  go_upto_region 1 with fail
  generalize w.alloc (.cells #[.int .i64 q.f, .int .i64 q.e, .int .i64 q.x] 30) = w1 at *
  obtain ⟨N, hN⟩ : ∃ N, w.heap.size = N := ⟨_, rfl⟩
  have HN := hide hN
  rw [hN] at HB1 HA1 ⊢
  clear hN
  have t0 := HE1.out.cell.1
  go_wp2_with fail
  refine HG.out.mono ?_
  rintro e1 w2 ⟨rfl, rfl⟩
  obtain ⟨c0, c1, c2, -, -, -⟩ := blk3 HA1.out
  go_wp2_with fail
  refine (HC1.out _).mono ?_
  rintro e1 w3 ⟨rfl, hb3⟩
  have HE3 := hide (HE1.out.below hb3)
  have HB3 := hide (HB1.out.trans (hb3.mono (by rw [← HN.out]; exact HB1.out.size)))
  have HA3 := hide ((hb3.block N (Array.getElem?_eq_some_iff.1 HA1.out).1).trans HA1.out)
  have t1 := HE3.out.cell.2.1
  clear hb3 c0 c1 c2 t0 HE1 HB1 HA1 HG HC1
  go_upto_region 6 with fail
  obtain ⟨w4, hw4⟩ : ∃ W, W = w3.drew := ⟨_, rfl⟩
  have HE4 : Hid (EtAt w4 F T S G m rs last) := by rw [hw4]; exact hide (HE3.out.keep (Nat.le_refl _) (fun _ _ => rfl))
  have HB4 : Hid (Below N w w4) := by rw [hw4]; exact hide HB3.out.drew
  have HA4 : Hid (w4.heap[N]? = some (.cells #[.int .i64 q.f, .int .i64 q.e, .int .i64 q.x] 30 (0, 0))) := by rw [hw4]; exact HA3
  refine wp_region_held_drew (S := fun W => W.heap[N]? = some (.cells #[.int .i64 q.f, .int .i64 q.e, .int .i64 q.x] 30 (0, 0))) (by kernel_rfl) (by rw [← hw4]; exact HA4.out) (fun _ => ?_)
  rw [← hw4]
  clear hw4 t1 HE3 HB3 HA3
  refine hd_take 0 (o := ⟨some 40, _, _, _, _, _⟩) (.pointer (some ⟨b, 0, none⟩)) (by kernel_rfl) (by kernel_rfl) (by kernel_rfl) rfl (by rfl) (fun W hSw => by go_simp) (fun _ _ _ h => h) HA4.out ?_
  simp only [Act.put, List.setIfInBounds_toArray, List.set_cons_zero, List.set_cons_succ]
  refine hd_take 1 (o := ⟨some 41, _, _, _, _, _⟩) (.pointer (some ⟨b, 0, none⟩)) (by kernel_rfl) (by kernel_rfl) (by kernel_rfl) rfl (by rfl) (fun W hSw => by go_simp) (fun _ _ _ h => h) HA4.out ?_
  simp only [Act.put, List.setIfInBounds_toArray, List.set_cons_zero, List.set_cons_succ]
  refine hd_take 2 (o := ⟨some 42, _, _, _, _, _⟩) (.pointer (some ⟨b, 21, none⟩)) (by kernel_rfl) (by kernel_rfl) (by kernel_rfl) rfl (by rfl) (fun W hSw => by go_simp) (fun _ _ _ h => h) HA4.out ?_
  simp only [Act.put, List.setIfInBounds_toArray, List.set_cons_zero, List.set_cons_succ]
  refine hd_take 3 (o := ⟨some 43, _, _, _, _, _⟩) (.agg #[.int .i64 q.f, .int .i64 q.e, .int .i64 q.x]) (by kernel_rfl) (by kernel_rfl) (by kernel_rfl) rfl (by rfl) (fun W hSw => by obtain ⟨c0, c1, c2, -, -, -⟩ := blk3 hSw; go_simp) (fun _ _ _ h => h) HA4.out ?_
  simp only [Act.put, List.setIfInBounds_toArray, List.set_cons_zero, List.set_cons_succ]
  refine hd_call 4 (o := ⟨some 44, _, _, _, _, _⟩) (by kernel_rfl) rfl (by rfl) (fun K hK => ?_)
  go_simp
  go_wp2_with (go_at_call 55; refine (HC2.out _).mono ?_; rintro e1 w5 ⟨rfl, hb5⟩)
  have HA5 := hide ((hb5.block N (Array.getElem?_eq_some_iff.1 HA4.out).1).trans HA4.out)
  have HE5 := hide (HE4.out.below hb5)
  have HB5 := hide (HB4.out.trans (hb5.mono (by rw [← HN.out]; exact HB4.out.size)))
  clear hb5
  refine hK _ _ HA5.out ?_
  clear hK K
  have hR5 : Rb w5 b r := by
    obtain ⟨e, q1, q2⟩ := HE5.out.held k b HM.out
    rw [HRr.out] at q1; cases q1; exact q2
  have HAf := hide (HC3.out w5 hR5)
  clear hR5
  try simp only [Act.put, List.setIfInBounds_toArray, List.set_cons_zero, List.set_cons_succ]
  refine hd_call 5 (o := ⟨some 45, _, _, _, _, _⟩) (by kernel_rfl) rfl (by rfl) (fun K hK => ?_)
  go_simp
  go_wp2_with (go_at_call 54; refine HAf.out.mono ?_; rintro e1 w6 ⟨rfl, hb6⟩)
  have HA6 := hide ((hb6.block N (Array.getElem?_eq_some_iff.1 HA5.out).1).trans HA5.out)
  have HE6 := hide (HE5.out.below hb6)
  have HB6 := hide (HB5.out.trans (hb6.mono (by rw [← HN.out]; exact HB5.out.size)))
  clear hb6
  refine hK _ _ HA6.out ?_
  clear hK K HAf
  try simp only [Act.put, List.setIfInBounds_toArray, List.set_cons_zero, List.set_cons_succ]
  refine hd_take 6 (o := ⟨some 46, _, _, _, _, _⟩) (.bool false) (by kernel_rfl) (by kernel_rfl) (by kernel_rfl) rfl (by rfl) (fun W hSw => by go_simp) (fun _ _ _ h => h) HA6.out ?_
  simp only [Act.put, List.setIfInBounds_toArray, List.set_cons_zero, List.set_cons_succ]
  refine wpAnyH_done (by kernel_rfl) ?_ _
  clear HA5 HE5 HB5 HA4 HE4 HB4
  go_upto_region 8 with fail
  obtain ⟨w7, hw7⟩ : ∃ W, W = w6.drew := ⟨_, rfl⟩
  have HE7 : Hid (EtAt w7 F T S G m rs last) := by rw [hw7]; exact hide (HE6.out.keep (Nat.le_refl _) (fun _ _ => rfl))
  have HB7 : Hid (Below N w w7) := by rw [hw7]; exact hide HB6.out.drew
  have HA7 : Hid (w7.heap[N]? = some (.cells #[.int .i64 q.f, .int .i64 q.e, .int .i64 q.x] 30 (0, 0))) := by rw [hw7]; exact HA6
  have HS7 : Hid (w7.cell? ⟨T, 0, none⟩ = some (.pointer (some ⟨S, 0, none⟩)) ∧ w7.heap[N]? = some (.cells #[.int .i64 q.f, .int .i64 q.e, .int .i64 q.x] 30 (0, 0))) := hide ⟨HE7.out.cell.1, HA7.out⟩
  refine wp_region_held_drew (S := fun W => W.cell? ⟨T, 0, none⟩ = some (.pointer (some ⟨S, 0, none⟩)) ∧ W.heap[N]? = some (.cells #[.int .i64 q.f, .int .i64 q.e, .int .i64 q.x] 30 (0, 0))) (by kernel_rfl) (by rw [← hw7]; exact HS7.out) (fun _ => ?_)
  rw [← hw7]
  clear hw7 HE6 HB6 HA6
  refine hd_take 0 (o := ⟨some 48, _, _, _, _, _⟩) (.pointer (some ⟨T, 0, none⟩)) (by kernel_rfl) (by kernel_rfl) (by kernel_rfl) rfl (by rfl) (fun W hSw => by go_simp) (fun _ _ _ h => h) HS7.out ?_
  simp only [Act.put, List.setIfInBounds_toArray, List.set_cons_zero, List.set_cons_succ]
  refine hd_take 1 (o := ⟨some 49, _, _, _, _, _⟩) (.pointer (some ⟨T, 0, none⟩)) (by kernel_rfl) (by kernel_rfl) (by kernel_rfl) rfl (by rfl) (fun W hSw => by go_simp) (fun _ _ _ h => h) HS7.out ?_
  simp only [Act.put, List.setIfInBounds_toArray, List.set_cons_zero, List.set_cons_succ]
  refine hd_take 2 (o := ⟨some 50, _, _, _, _, _⟩) (.pointer (some ⟨T, 0, none⟩)) (by kernel_rfl) (by kernel_rfl) (by kernel_rfl) rfl (by rfl) (fun W hSw => by go_simp) (fun _ _ _ h => h) HS7.out ?_
  simp only [Act.put, List.setIfInBounds_toArray, List.set_cons_zero, List.set_cons_succ]
  refine hd_take 3 (o := ⟨some 51, _, _, _, _, _⟩) (.pointer (some ⟨S, 0, none⟩)) (by kernel_rfl) (by kernel_rfl) (by kernel_rfl) rfl (by rfl) (fun W hSw => by have c0 := hSw.1; go_simp) (fun _ _ _ h => h) HS7.out ?_
  simp only [Act.put, List.setIfInBounds_toArray, List.set_cons_zero, List.set_cons_succ]
  refine hd_take 4 (o := ⟨some 52, _, _, _, _, _⟩) (.int .i64 serial) (by kernel_rfl) (by kernel_rfl) (by kernel_rfl) rfl (by rfl) (fun W hSw => by go_simp) (fun _ _ _ h => h) HS7.out ?_
  simp only [Act.put, List.setIfInBounds_toArray, List.set_cons_zero, List.set_cons_succ]
  refine hd_take 5 (o := ⟨some 53, _, _, _, _, _⟩) (.int .i64 (k : Int)) (by kernel_rfl) (by kernel_rfl) (by kernel_rfl) rfl (by rfl) (fun W hSw => by go_simp) (fun _ _ _ h => h) HS7.out ?_
  simp only [Act.put, List.setIfInBounds_toArray, List.set_cons_zero, List.set_cons_succ]
  refine hd_take 6 (o := ⟨some 54, _, _, _, _, _⟩) (.agg #[.int .i64 q.f, .int .i64 q.e, .int .i64 q.x]) (by kernel_rfl) (by kernel_rfl) (by kernel_rfl) rfl (by rfl) (fun W hSw => by obtain ⟨c0, c1, c2, -, -, -⟩ := blk3 hSw.2; go_simp) (fun _ _ _ h => h) HS7.out ?_
  simp only [Act.put, List.setIfInBounds_toArray, List.set_cons_zero, List.set_cons_succ]
  refine hd_call 7 (o := ⟨some 55, _, _, _, _, _⟩) (by kernel_rfl) rfl (by rfl) (fun K hK => ?_)
  go_simp
  go_wp2_with (go_at_call 50; refine (HC4.out _).mono ?_; rintro e1 w8 ⟨nb, rfl, hR8, hlb, hb8⟩)
  have HE8 := hide (HE7.out.below hb8)
  refine hK _ _ ⟨HE8.out.cell.1, (hb8.block N (Array.getElem?_eq_some_iff.1 HA7.out).1).trans HA7.out⟩ ?_
  have HB8 := hide hb8
  have HR8 := hide hR8
  have HLB := hide hlb
  have HP := hide (HPut.out w8 nb HE8.out.tab)
  clear hK K hb8 hR8 hlb HPut
  try simp only [Act.put, List.setIfInBounds_toArray, List.set_cons_zero, List.set_cons_succ]
  refine hd_call 8 (o := ⟨some 56, _, _, _, _, _⟩) (by kernel_rfl) rfl (by rfl) (fun K hK => ?_)
  go_simp
  go_wp2_with (go_at_call 49; refine HP.out.mono ?_; rintro e1 w9 ⟨rfl, rfl⟩)
  have HB9 : Hid (Below N w w9) := hide (HB7.out.trans (HB8.out.mono (by rw [← HN.out]; exact HB7.out.size)))
  have HS9 : Hid (w9.cell? ⟨T, 0, none⟩ = some (.pointer (some ⟨S, 0, none⟩)) ∧ w9.heap[N]? = some (.cells #[.int .i64 q.f, .int .i64 q.e, .int .i64 q.x] 30 (0, 0))) := hide ⟨HE8.out.cell.1, (HB8.out.block N (Array.getElem?_eq_some_iff.1 HA7.out).1).trans HA7.out⟩
  refine hK _ _ HS9.out ?_
  clear hK K
  try simp only [Act.put, List.setIfInBounds_toArray, List.set_cons_zero, List.set_cons_succ]
  refine hd_take 9 (o := ⟨some 47, _, _, _, _, _⟩) (.tuple #[.int .i64 (-1), .int .i64 2]) (by kernel_rfl) (by kernel_rfl) (by kernel_rfl) rfl (by rfl) (fun W hSw => by go_simp) (fun _ _ _ h => h) HS9.out ?_
  try simp only [Act.put, List.setIfInBounds_toArray, List.set_cons_zero, List.set_cons_succ]
  refine hd_take 10 (o := ⟨some 57, _, _, _, _, _⟩) (.int .i64 (-1)) (by kernel_rfl) (by kernel_rfl) (by kernel_rfl) rfl (by rfl) (fun W hSw => by go_simp) (fun _ _ _ h => h) HS9.out ?_
  try simp only [Act.put, List.setIfInBounds_toArray, List.set_cons_zero, List.set_cons_succ]
  refine hd_take 11 (o := ⟨some 58, _, _, _, _, _⟩) (.int .i64 2) (by kernel_rfl) (by kernel_rfl) (by kernel_rfl) rfl (by rfl) (fun W hSw => by go_simp) (fun _ _ _ h => h) HS9.out ?_
  try simp only [Act.put, List.setIfInBounds_toArray, List.set_cons_zero, List.set_cons_succ]
  refine hd_take 12 (o := ⟨some 12, _, _, _, _, _⟩) (.int .i64 (-1)) (by kernel_rfl) (by kernel_rfl) (by kernel_rfl) rfl (by rfl) (fun W hSw => by go_simp) (fun _ _ _ h => h) HS9.out ?_
  try simp only [Act.put, List.setIfInBounds_toArray, List.set_cons_zero, List.set_cons_succ]
  refine hd_take 13 (o := ⟨some 13, _, _, _, _, _⟩) (.int .i64 2) (by kernel_rfl) (by kernel_rfl) (by kernel_rfl) rfl (by rfl) (fun W hSw => by go_simp) (fun _ _ _ h => h) HS9.out ?_
  try simp only [Act.put, List.setIfInBounds_toArray, List.set_cons_zero, List.set_cons_succ]
  refine wpAnyH_done (by kernel_rfl) ?_ _
  go_wp2
  go_ret2
  exact ⟨rfl, by rw [HN.out]; exact HB9.out⟩
end
end Go.Proofs.YtbocpmcodlceoaaGreat
