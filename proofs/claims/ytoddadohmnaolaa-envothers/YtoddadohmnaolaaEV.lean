import Derived.Test.YtoddadohmnaolaaEU
namespace Go.Proofs.Ytoddadohmnaolaa
open Go.RowKit Go.Shelf

section
variable {P : Program} {ops : Array Oper} {Q : Exit → Act → World → Prop} {S : World → Prop} {fuel : Nat} {listed : Array Bool} {a : Act} {w : World}
/-- the two operations that may come up -/
theorem hd_two (i j : Nat) {o1 o2 : Oper} (hr : Region.ready .any ops listed = [i, j]) (ho1 : ops[i]? = some o1) (ho2 : ops[j]? = some o2) (hw1 : Region.wanted o1 (yielded ops a.tmps) = true) (hw2 : Region.wanted o2 (yielded ops a.tmps) = true)
    (h1 : ∀ K : Act → World → Prop, (∀ a w, S w → wpAnyH P .any ops Q S fuel (listed.setIfInBounds i true) a w → K a w) → Oper.wp P o1 a w K Q)
    (h2 : ∀ K : Act → World → Prop, (∀ a w, S w → wpAnyH P .any ops Q S fuel (listed.setIfInBounds j true) a w → K a w) → Oper.wp P o2 a w K Q) : wpAnyH P .any ops Q S (fuel + 1) listed a w := by
  refine wpAnyH_ready hr (by simp) (AllReadyH.cons ho1 (fun K hK => ?_) (AllReadyH.cons ho2 (fun K hK => ?_) AllReadyH.nil))
  · rw [if_pos hw1]; exact h1 K (fun a w hS hh => hK.out a w hS (fun _ => hh))
  · rw [if_pos hw2]; exact h2 K (fun a w hS hh => hK.out a w hS (fun _ => hh))
end
set_option maxRecDepth 100000 in
set_option maxHeartbeats 6400000 in
theorem payOk_any (w : World) (b : Nat) (r : Er) (h : Rb w b r) (q : Qt) (hg : q.good) (hq : q.ok) (hf : q.le r.le) (hle : r.le.ok) (hpd : r.pd.ok) : Calls Try.prog 52 #[.pointer (some ⟨b, 21, none⟩), q.val] w fun e w' => e = .returned (.int .i64 0) ∧ Rb w' b { r with pd := r.pd.plus q, le := r.le.less q } ∧ At w b w' := by
  have hb1 := (Below.refl w.heap.size w).alloc (Nat.le_refl _) (.cells #[.int .i64 q.f, .int .i64 q.e, .int .i64 q.x] 39)
  have a1 := heap_alloc_new w (.cells #[.int .i64 q.f, .int .i64 q.e, .int .i64 q.x] 39)
  have hR := h.keep (hb1.block b h.lt)
  have HA1 := hide (At.of_below (b := b) hb1)
  have HNE : Hid (w.heap.size ≠ b) := hide (fun e => by have := h.lt; omega)
  have HC1 := hide (fun W => isGood_any W q)
  rw [show decide q.good = true by simpa using hg] at HC1
  have HC2 := hide (fun W (hb : Rb W b r) => affords_any W b r hb q)
  rw [show decide (q.le r.le) = true by simpa using hf] at HC2
  have HP := hide (fun W => plus_any W r.pd q hpd hq)
  have HL := hide (fun W => less_any W r.le q hle hq)
  clear h hb1 hg hq hf hle hpd
  unfold Qt.val at *
  simp only [Qt.less] at HL
  simp only [Qt.plus] at HP
  go_enter Try.func52, Try.ntmps52
  go_upto_region 1 with fail
  generalize w.alloc (.cells #[.int .i64 q.f, .int .i64 q.e, .int .i64 q.x] 39) = w1 at *
  obtain ⟨N, hN⟩ : ∃ N, w.heap.size = N := ⟨_, rfl⟩
  rw [hN] at a1 HNE ⊢
  clear hN
  obtain ⟨c0, c1, c2, -, -, -⟩ := blk3 a1
  have HR1 := hide hR
  have HN1 := hide a1
  clear hR a1
  go_wp2_with fail
  refine (HC1.out _).mono ?_
  rintro e1 w2 ⟨rfl, hb2⟩
  have a2 := (hb2.block N (Array.getElem?_eq_some_iff.1 HN1.out).1).trans HN1.out
  have HR2 := hide (HR1.out.keep (hb2.block b HR1.out.lt))
  have HT2 := hide (HA1.out.below hb2)
  have HN2 := hide a2
  clear hb2 c0 c1 c2 HR1 HN1 HA1
  obtain ⟨c0, c1, c2, -, -, -⟩ := blk3 a2
  clear a2
  go_wp2_with fail
  refine (HC2.out _ HR2.out).mono ?_
  rintro e1 w4 ⟨rfl, hb4⟩
  have HNC := hide ((hb4.block N (Array.getElem?_eq_some_iff.1 HN2.out).1).trans HN2.out)
  have HRC := hide (HR2.out.keep (hb4.block b HR2.out.lt))
  have HAC := hide (HT2.out.below hb4)
  clear hb4 c0 c1 c2 HR2 HN2 HT2
  go_upto_region 5 with fail
  obtain ⟨w3, hw3⟩ : ∃ w3, w3 = w4.drew := ⟨_, rfl⟩
  have hR3 : Rb w3 b r := by rw [hw3]; exact ⟨HRC.out.out⟩
  have a3 : w3.heap[N]? = some (.cells #[.int .i64 q.f, .int .i64 q.e, .int .i64 q.x] 39 (0, 0)) := by rw [hw3]; exact HNC.out
  have HA3 : Hid (At w b w3) := by rw [hw3]; exact ⟨HAC.out.os, HAC.out.tape, HAC.out.output, HAC.out.size, HAC.out.block⟩
  have HR3 := hide hR3
  have HA := hide a3
  clear hR3 HRC HNC HAC
  refine wp_region_held_drew (S := fun W => W.heap[N]? = some (.cells #[.int .i64 q.f, .int .i64 q.e, .int .i64 q.x] 39 (0, 0))) (by kernel_rfl) (by rw [← hw3]; exact a3) (fun _ => ?_)
  rw [← hw3]
  clear hw3 a3
  refine hd_take 0 (o := ⟨some 12, _, _, _, _, _⟩) (.pointer (some ⟨b, 21, none⟩)) (by kernel_rfl) (by kernel_rfl) (by kernel_rfl) rfl (by rfl) (fun W hSw => by go_simp) (fun _ _ _ h => h) HA.out ?_
  try simp only [Act.put, List.setIfInBounds_toArray, List.set_cons_zero, List.set_cons_succ]
  refine hd_take 1 (o := ⟨some 13, _, _, _, _, _⟩) (.pointer (some ⟨b, 21, none⟩)) (by kernel_rfl) (by kernel_rfl) (by kernel_rfl) rfl (by rfl) (fun W hSw => by go_simp) (fun _ _ _ h => h) HA.out ?_
  try simp only [Act.put, List.setIfInBounds_toArray, List.set_cons_zero, List.set_cons_succ]
  refine hd_take 2 (o := ⟨some 14, _, _, _, _, _⟩) (.pointer (some ⟨b, 21, none⟩)) (by kernel_rfl) (by kernel_rfl) (by kernel_rfl) rfl (by rfl) (fun W hSw => by go_simp) (fun _ _ _ h => h) HA.out ?_
  try simp only [Act.put, List.setIfInBounds_toArray, List.set_cons_zero, List.set_cons_succ]
  refine hd_take 3 (o := ⟨some 15, _, _, _, _, _⟩) (.pointer (some ⟨b, 21, none⟩)) (by kernel_rfl) (by kernel_rfl) (by kernel_rfl) rfl (by rfl) (fun W hSw => by go_simp) (fun _ _ _ h => h) HA.out ?_
  try simp only [Act.put, List.setIfInBounds_toArray, List.set_cons_zero, List.set_cons_succ]
  refine hd_take 4 (o := ⟨some 16, _, _, _, _, _⟩) (.pointer (some ⟨b, 21, none⟩)) (by kernel_rfl) (by kernel_rfl) (by kernel_rfl) rfl (by rfl) (fun W hSw => by go_simp) (fun _ _ _ h => h) HA.out ?_
  try simp only [Act.put, List.setIfInBounds_toArray, List.set_cons_zero, List.set_cons_succ]
  refine hd_take 6 (o := ⟨some 18, _, _, _, _, _⟩) (.agg #[.int .i64 q.f, .int .i64 q.e, .int .i64 q.x]) (by kernel_rfl) (by kernel_rfl) (by kernel_rfl) rfl (by rfl) (fun W hSw => by obtain ⟨c0, c1, c2, -, -, -⟩ := blk3 hSw; go_simp) (fun _ _ _ h => h) HA.out ?_
  try simp only [Act.put, List.setIfInBounds_toArray, List.set_cons_zero, List.set_cons_succ]
  refine hd_take 8 (o := ⟨some 20, _, _, _, _, _⟩) (.pointer (some ⟨b, 21, none⟩)) (by kernel_rfl) (by kernel_rfl) (by kernel_rfl) rfl (by rfl) (fun W hSw => by go_simp) (fun _ _ _ h => h) HA.out ?_
  try simp only [Act.put, List.setIfInBounds_toArray, List.set_cons_zero, List.set_cons_succ]
  refine hd_take 9 (o := ⟨some 21, _, _, _, _, _⟩) (.pointer (some ⟨b, 21, none⟩)) (by kernel_rfl) (by kernel_rfl) (by kernel_rfl) rfl (by rfl) (fun W hSw => by go_simp) (fun _ _ _ h => h) HA.out ?_
  try simp only [Act.put, List.setIfInBounds_toArray, List.set_cons_zero, List.set_cons_succ]
  refine hd_take 10 (o := ⟨some 22, _, _, _, _, _⟩) (.pointer (some ⟨b, 24, none⟩)) (by kernel_rfl) (by kernel_rfl) (by kernel_rfl) rfl (by rfl) (fun W hSw => by go_simp) (fun _ _ _ h => h) HA.out ?_
  try simp only [Act.put, List.setIfInBounds_toArray, List.set_cons_zero, List.set_cons_succ]
  refine hd_take 12 (o := ⟨some 24, _, _, _, _, _⟩) (.agg #[.int .i64 q.f, .int .i64 q.e, .int .i64 q.x]) (by kernel_rfl) (by kernel_rfl) (by kernel_rfl) rfl (by rfl) (fun W hSw => by obtain ⟨c0, c1, c2, -, -, -⟩ := blk3 hSw; go_simp) (fun _ _ _ h => h) HA.out ?_
  try simp only [Act.put, List.setIfInBounds_toArray, List.set_cons_zero, List.set_cons_succ]
  refine hd_two 5 11 (o1 := ⟨some 17, _, _, _, _, _⟩) (o2 := ⟨some 23, _, _, _, _, _⟩) (by kernel_rfl) rfl rfl (by rfl) (by rfl) (fun K hK => ?_) (fun K hK => ?_)
  · have d0 := HR3.out.get (j := 21) rfl
    have d1 := HR3.out.get (j := 22) rfl
    have d2 := HR3.out.get (j := 23) rfl
    go_simp
    refine hK _ _ HA.out ?_
    clear hK K d0 d1 d2
    try simp only [Act.put, List.setIfInBounds_toArray, List.set_cons_zero, List.set_cons_succ]
    refine hd_two 7 11 (o1 := ⟨some 19, _, _, _, _, _⟩) (o2 := ⟨some 23, _, _, _, _, _⟩) (by kernel_rfl) rfl rfl (by rfl) (by rfl) (fun K hK => ?_) (fun K hK => ?_)
    · go_simp
      go_wp2_with (go_at_call 61; refine (HP.out _).mono ?_; rintro e1 w7 ⟨rfl, hb7⟩)
      have HA7 : Hid (w7.heap[N]? = some (.cells #[.int .i64 q.f, .int .i64 q.e, .int .i64 q.x] 39 (0, 0))) := hide ((hb7.block N (Array.getElem?_eq_some_iff.1 HA.out).1).trans HA.out)
      have HR7 : Hid (Rb w7 b r) := hide (HR3.out.keep (hb7.block b HR3.out.lt))
      have HT7 := hide (HA3.out.below hb7)
      clear hb7
      refine hK _ _ HA7.out ?_
      clear hK K
      try simp only [Act.put, List.setIfInBounds_toArray, List.set_cons_zero, List.set_cons_succ]
      refine hd_call 11 (o := ⟨some 23, _, _, _, _, _⟩) (by kernel_rfl) rfl (by rfl) (fun K hK => ?_)
      have d0 := HR7.out.get (j := 24) rfl
      have d1 := HR7.out.get (j := 25) rfl
      have d2 := HR7.out.get (j := 26) rfl
      go_simp
      refine hK _ _ HA7.out ?_
      clear hK K d0 d1 d2
      try simp only [Act.put, List.setIfInBounds_toArray, List.set_cons_zero, List.set_cons_succ]
      refine hd_call 13 (o := ⟨some 25, _, _, _, _, _⟩) (by kernel_rfl) rfl (by rfl) (fun K hK => ?_)
      go_simp
      go_wp2_with (go_at_call 63; refine (HL.out _).mono ?_; rintro e1 w13 ⟨rfl, hb13⟩)
      have HA13 : Hid (w13.heap[N]? = some (.cells #[.int .i64 q.f, .int .i64 q.e, .int .i64 q.x] 39 (0, 0))) := hide ((hb13.block N (Array.getElem?_eq_some_iff.1 HA7.out).1).trans HA7.out)
      have HR13 : Hid (Rb w13 b r) := hide (HR7.out.keep (hb13.block b HR7.out.lt))
      have HT13 := hide (HT7.out.below hb13)
      clear hb13
      refine hK _ _ HA13.out ?_
      clear hK K
      try simp only [Act.put, List.setIfInBounds_toArray, List.set_cons_zero, List.set_cons_succ]
      refine hd_take 14 (o := ⟨some 26, _, _, _, _, _⟩) (.pointer (some ⟨b, 21, none⟩)) (by kernel_rfl) (by kernel_rfl) (by kernel_rfl) rfl (by rfl) (fun W hSw => by go_simp) (fun _ _ _ h => h) HA13.out ?_
      try simp only [Act.put, List.setIfInBounds_toArray, List.set_cons_zero, List.set_cons_succ]
      refine hd_take 15 (o := ⟨some 27, _, _, _, _, _⟩) (.pointer (some ⟨b, 21, none⟩)) (by kernel_rfl) (by kernel_rfl) (by kernel_rfl) rfl (by rfl) (fun W hSw => by go_simp) (fun _ _ _ h => h) HA13.out ?_
      try simp only [Act.put, List.setIfInBounds_toArray, List.set_cons_zero, List.set_cons_succ]
      have d0 := HR13.out.get (j := 21) rfl
      have f0 := HR13.out.frz 21
      have d1 := HR13.out.get (j := 22) rfl
      have f1 := HR13.out.frz 22
      have d2 := HR13.out.get (j := 23) rfl
      have f2 := HR13.out.frz 23
      have d3 := HR13.out.get (j := 24) rfl
      have f3 := HR13.out.frz 24
      have d4 := HR13.out.get (j := 25) rfl
      have f4 := HR13.out.frz 25
      have d5 := HR13.out.get (j := 26) rfl
      have f5 := HR13.out.frz 26
      refine hd_call 16 (o := ⟨none, _, _, _, _, _⟩) (by kernel_rfl) rfl (by rfl) (fun K hK => ?_)
      go_simp
      refine hK _ _ (by rw [heap_setCell_other _ _ _ _ HNE.out, heap_setCell_other _ _ _ _ HNE.out, heap_setCell_other _ _ _ _ HNE.out]; exact HA13.out) ?_
      clear hK K
      have HF1 : Hid (Rb (((w13.setCell ⟨b, 21, none⟩ (.int .i64 (r.pd.f + q.f))).setCell ⟨b, 22, none⟩ (.int .i64 (r.pd.e + q.e))).setCell ⟨b, 23, none⟩ (.int .i64 (r.pd.x + q.x))) b { r with pd := ⟨r.pd.f + q.f, r.pd.e + q.e, r.pd.x + q.x⟩ }) := hide (Rb.set (e := { r with pd := ⟨r.pd.f + q.f, r.pd.e + q.e, r.pd.x⟩ }) (Rb.set (e := { r with pd := ⟨r.pd.f + q.f, r.pd.e, r.pd.x⟩ }) (HR13.out.set rfl) rfl) rfl)
      have HG1 := hide (((HT13.out.set 21 (.int .i64 (r.pd.f + q.f))).set 22 (.int .i64 (r.pd.e + q.e))).set 23 (.int .i64 (r.pd.x + q.x)))
      have HA1 : Hid ((((w13.setCell ⟨b, 21, none⟩ (.int .i64 (r.pd.f + q.f))).setCell ⟨b, 22, none⟩ (.int .i64 (r.pd.e + q.e))).setCell ⟨b, 23, none⟩ (.int .i64 (r.pd.x + q.x))).heap[N]? = some (.cells #[.int .i64 q.f, .int .i64 q.e, .int .i64 q.x] 39 (0, 0))) := hide (by rw [heap_setCell_other _ _ _ _ HNE.out, heap_setCell_other _ _ _ _ HNE.out, heap_setCell_other _ _ _ _ HNE.out]; exact HA13.out)
      clear d0 d1 d2 d3 d4 d5 f0 f1 f2 f3 f4 f5
      generalize (((w13.setCell ⟨b, 21, none⟩ (.int .i64 (r.pd.f + q.f))).setCell ⟨b, 22, none⟩ (.int .i64 (r.pd.e + q.e))).setCell ⟨b, 23, none⟩ (.int .i64 (r.pd.x + q.x))) = wz at *
      try simp only [Act.put, List.setIfInBounds_toArray, List.set_cons_zero, List.set_cons_succ]
      refine hd_take 17 (o := ⟨some 28, _, _, _, _, _⟩) (.pointer (some ⟨b, 21, none⟩)) (by kernel_rfl) (by kernel_rfl) (by kernel_rfl) rfl (by rfl) (fun W hSw => by go_simp) (fun _ _ _ h => h) HA1.out ?_
      try simp only [Act.put, List.setIfInBounds_toArray, List.set_cons_zero, List.set_cons_succ]
      refine hd_take 18 (o := ⟨some 29, _, _, _, _, _⟩) (.pointer (some ⟨b, 24, none⟩)) (by kernel_rfl) (by kernel_rfl) (by kernel_rfl) rfl (by rfl) (fun W hSw => by go_simp) (fun _ _ _ h => h) HA1.out ?_
      try simp only [Act.put, List.setIfInBounds_toArray, List.set_cons_zero, List.set_cons_succ]
      have d0 := HF1.out.get (j := 24) rfl
      have f0 := HF1.out.frz 24
      have d1 := HF1.out.get (j := 25) rfl
      have f1 := HF1.out.frz 25
      have d2 := HF1.out.get (j := 26) rfl
      have f2 := HF1.out.frz 26
      refine hd_call 19 (o := ⟨none, _, _, _, _, _⟩) (by kernel_rfl) rfl (by rfl) (fun K hK => ?_)
      go_simp
      refine hK _ _ (by rw [heap_setCell_other _ _ _ _ HNE.out, heap_setCell_other _ _ _ _ HNE.out, heap_setCell_other _ _ _ _ HNE.out]; exact HA1.out) ?_
      clear hK K
      refine wpAnyH_done (by kernel_rfl) ?_ _
      have HF2 := hide (Rb.set (e' := { r with pd := ⟨r.pd.f + q.f, r.pd.e + q.e, r.pd.x + q.x⟩, le := ⟨r.le.f - q.f, r.le.e - q.e, r.le.x - q.x⟩ }) (u := .int .i64 (r.le.x - q.x)) (j := 26) (Rb.set (e' := { r with pd := ⟨r.pd.f + q.f, r.pd.e + q.e, r.pd.x + q.x⟩, le := ⟨r.le.f - q.f, r.le.e - q.e, r.le.x⟩ }) (u := .int .i64 (r.le.e - q.e)) (j := 25) (Rb.set (e' := { r with pd := ⟨r.pd.f + q.f, r.pd.e + q.e, r.pd.x + q.x⟩, le := ⟨r.le.f - q.f, r.le.e, r.le.x⟩ }) (u := .int .i64 (r.le.f - q.f)) (j := 24) HF1.out rfl) rfl) rfl)
      have HG2 := hide (((HG1.out.set 24 (.int .i64 (r.le.f - q.f))).set 25 (.int .i64 (r.le.e - q.e))).set 26 (.int .i64 (r.le.x - q.x)))
      go_wp2
      go_ret
      exact ⟨rfl, HF2.out, HG2.out⟩
    · have d0 := HR3.out.get (j := 24) rfl
      have d1 := HR3.out.get (j := 25) rfl
      have d2 := HR3.out.get (j := 26) rfl
      go_simp
      refine hK _ _ HA.out ?_
      clear hK K d0 d1 d2
      try simp only [Act.put, List.setIfInBounds_toArray, List.set_cons_zero, List.set_cons_succ]
      refine hd_call 7 (o := ⟨some 19, _, _, _, _, _⟩) (by kernel_rfl) rfl (by rfl) (fun K hK => ?_)
      go_simp
      go_wp2_with (go_at_call 61; refine (HP.out _).mono ?_; rintro e1 w7 ⟨rfl, hb7⟩)
      have HA7 : Hid (w7.heap[N]? = some (.cells #[.int .i64 q.f, .int .i64 q.e, .int .i64 q.x] 39 (0, 0))) := hide ((hb7.block N (Array.getElem?_eq_some_iff.1 HA.out).1).trans HA.out)
      have HR7 : Hid (Rb w7 b r) := hide (HR3.out.keep (hb7.block b HR3.out.lt))
      have HT7 := hide (HA3.out.below hb7)
      clear hb7
      refine hK _ _ HA7.out ?_
      clear hK K
      try simp only [Act.put, List.setIfInBounds_toArray, List.set_cons_zero, List.set_cons_succ]
      refine hd_call 13 (o := ⟨some 25, _, _, _, _, _⟩) (by kernel_rfl) rfl (by rfl) (fun K hK => ?_)
      go_simp
      go_wp2_with (go_at_call 63; refine (HL.out _).mono ?_; rintro e1 w13 ⟨rfl, hb13⟩)
      have HA13 : Hid (w13.heap[N]? = some (.cells #[.int .i64 q.f, .int .i64 q.e, .int .i64 q.x] 39 (0, 0))) := hide ((hb13.block N (Array.getElem?_eq_some_iff.1 HA7.out).1).trans HA7.out)
      have HR13 : Hid (Rb w13 b r) := hide (HR7.out.keep (hb13.block b HR7.out.lt))
      have HT13 := hide (HT7.out.below hb13)
      clear hb13
      refine hK _ _ HA13.out ?_
      clear hK K
      try simp only [Act.put, List.setIfInBounds_toArray, List.set_cons_zero, List.set_cons_succ]
      refine hd_take 14 (o := ⟨some 26, _, _, _, _, _⟩) (.pointer (some ⟨b, 21, none⟩)) (by kernel_rfl) (by kernel_rfl) (by kernel_rfl) rfl (by rfl) (fun W hSw => by go_simp) (fun _ _ _ h => h) HA13.out ?_
      try simp only [Act.put, List.setIfInBounds_toArray, List.set_cons_zero, List.set_cons_succ]
      refine hd_take 15 (o := ⟨some 27, _, _, _, _, _⟩) (.pointer (some ⟨b, 21, none⟩)) (by kernel_rfl) (by kernel_rfl) (by kernel_rfl) rfl (by rfl) (fun W hSw => by go_simp) (fun _ _ _ h => h) HA13.out ?_
      try simp only [Act.put, List.setIfInBounds_toArray, List.set_cons_zero, List.set_cons_succ]
      have d0 := HR13.out.get (j := 21) rfl
      have f0 := HR13.out.frz 21
      have d1 := HR13.out.get (j := 22) rfl
      have f1 := HR13.out.frz 22
      have d2 := HR13.out.get (j := 23) rfl
      have f2 := HR13.out.frz 23
      have d3 := HR13.out.get (j := 24) rfl
      have f3 := HR13.out.frz 24
      have d4 := HR13.out.get (j := 25) rfl
      have f4 := HR13.out.frz 25
      have d5 := HR13.out.get (j := 26) rfl
      have f5 := HR13.out.frz 26
      refine hd_call 16 (o := ⟨none, _, _, _, _, _⟩) (by kernel_rfl) rfl (by rfl) (fun K hK => ?_)
      go_simp
      refine hK _ _ (by rw [heap_setCell_other _ _ _ _ HNE.out, heap_setCell_other _ _ _ _ HNE.out, heap_setCell_other _ _ _ _ HNE.out]; exact HA13.out) ?_
      clear hK K
      have HF1 : Hid (Rb (((w13.setCell ⟨b, 21, none⟩ (.int .i64 (r.pd.f + q.f))).setCell ⟨b, 22, none⟩ (.int .i64 (r.pd.e + q.e))).setCell ⟨b, 23, none⟩ (.int .i64 (r.pd.x + q.x))) b { r with pd := ⟨r.pd.f + q.f, r.pd.e + q.e, r.pd.x + q.x⟩ }) := hide (Rb.set (e := { r with pd := ⟨r.pd.f + q.f, r.pd.e + q.e, r.pd.x⟩ }) (Rb.set (e := { r with pd := ⟨r.pd.f + q.f, r.pd.e, r.pd.x⟩ }) (HR13.out.set rfl) rfl) rfl)
      have HG1 := hide (((HT13.out.set 21 (.int .i64 (r.pd.f + q.f))).set 22 (.int .i64 (r.pd.e + q.e))).set 23 (.int .i64 (r.pd.x + q.x)))
      have HA1 : Hid ((((w13.setCell ⟨b, 21, none⟩ (.int .i64 (r.pd.f + q.f))).setCell ⟨b, 22, none⟩ (.int .i64 (r.pd.e + q.e))).setCell ⟨b, 23, none⟩ (.int .i64 (r.pd.x + q.x))).heap[N]? = some (.cells #[.int .i64 q.f, .int .i64 q.e, .int .i64 q.x] 39 (0, 0))) := hide (by rw [heap_setCell_other _ _ _ _ HNE.out, heap_setCell_other _ _ _ _ HNE.out, heap_setCell_other _ _ _ _ HNE.out]; exact HA13.out)
      clear d0 d1 d2 d3 d4 d5 f0 f1 f2 f3 f4 f5
      generalize (((w13.setCell ⟨b, 21, none⟩ (.int .i64 (r.pd.f + q.f))).setCell ⟨b, 22, none⟩ (.int .i64 (r.pd.e + q.e))).setCell ⟨b, 23, none⟩ (.int .i64 (r.pd.x + q.x))) = wz at *
      try simp only [Act.put, List.setIfInBounds_toArray, List.set_cons_zero, List.set_cons_succ]
      refine hd_take 17 (o := ⟨some 28, _, _, _, _, _⟩) (.pointer (some ⟨b, 21, none⟩)) (by kernel_rfl) (by kernel_rfl) (by kernel_rfl) rfl (by rfl) (fun W hSw => by go_simp) (fun _ _ _ h => h) HA1.out ?_
      try simp only [Act.put, List.setIfInBounds_toArray, List.set_cons_zero, List.set_cons_succ]
      refine hd_take 18 (o := ⟨some 29, _, _, _, _, _⟩) (.pointer (some ⟨b, 24, none⟩)) (by kernel_rfl) (by kernel_rfl) (by kernel_rfl) rfl (by rfl) (fun W hSw => by go_simp) (fun _ _ _ h => h) HA1.out ?_
      try simp only [Act.put, List.setIfInBounds_toArray, List.set_cons_zero, List.set_cons_succ]
      have d0 := HF1.out.get (j := 24) rfl
      have f0 := HF1.out.frz 24
      have d1 := HF1.out.get (j := 25) rfl
      have f1 := HF1.out.frz 25
      have d2 := HF1.out.get (j := 26) rfl
      have f2 := HF1.out.frz 26
      refine hd_call 19 (o := ⟨none, _, _, _, _, _⟩) (by kernel_rfl) rfl (by rfl) (fun K hK => ?_)
      go_simp
      refine hK _ _ (by rw [heap_setCell_other _ _ _ _ HNE.out, heap_setCell_other _ _ _ _ HNE.out, heap_setCell_other _ _ _ _ HNE.out]; exact HA1.out) ?_
      clear hK K
      refine wpAnyH_done (by kernel_rfl) ?_ _
      have HF2 := hide (Rb.set (e' := { r with pd := ⟨r.pd.f + q.f, r.pd.e + q.e, r.pd.x + q.x⟩, le := ⟨r.le.f - q.f, r.le.e - q.e, r.le.x - q.x⟩ }) (u := .int .i64 (r.le.x - q.x)) (j := 26) (Rb.set (e' := { r with pd := ⟨r.pd.f + q.f, r.pd.e + q.e, r.pd.x + q.x⟩, le := ⟨r.le.f - q.f, r.le.e - q.e, r.le.x⟩ }) (u := .int .i64 (r.le.e - q.e)) (j := 25) (Rb.set (e' := { r with pd := ⟨r.pd.f + q.f, r.pd.e + q.e, r.pd.x + q.x⟩, le := ⟨r.le.f - q.f, r.le.e, r.le.x⟩ }) (u := .int .i64 (r.le.f - q.f)) (j := 24) HF1.out rfl) rfl) rfl)
      have HG2 := hide (((HG1.out.set 24 (.int .i64 (r.le.f - q.f))).set 25 (.int .i64 (r.le.e - q.e))).set 26 (.int .i64 (r.le.x - q.x)))
      go_wp2
      go_ret
      exact ⟨rfl, HF2.out, HG2.out⟩
  · have d0 := HR3.out.get (j := 24) rfl
    have d1 := HR3.out.get (j := 25) rfl
    have d2 := HR3.out.get (j := 26) rfl
    go_simp
    refine hK _ _ HA.out ?_
    clear hK K d0 d1 d2
    try simp only [Act.put, List.setIfInBounds_toArray, List.set_cons_zero, List.set_cons_succ]
    refine hd_call 5 (o := ⟨some 17, _, _, _, _, _⟩) (by kernel_rfl) rfl (by rfl) (fun K hK => ?_)
    have d0 := HR3.out.get (j := 21) rfl
    have d1 := HR3.out.get (j := 22) rfl
    have d2 := HR3.out.get (j := 23) rfl
    go_simp
    refine hK _ _ HA.out ?_
    clear hK K d0 d1 d2
    try simp only [Act.put, List.setIfInBounds_toArray, List.set_cons_zero, List.set_cons_succ]
    refine hd_call 7 (o := ⟨some 19, _, _, _, _, _⟩) (by kernel_rfl) rfl (by rfl) (fun K hK => ?_)
    go_simp
    go_wp2_with (go_at_call 61; refine (HP.out _).mono ?_; rintro e1 w7 ⟨rfl, hb7⟩)
    have HA7 : Hid (w7.heap[N]? = some (.cells #[.int .i64 q.f, .int .i64 q.e, .int .i64 q.x] 39 (0, 0))) := hide ((hb7.block N (Array.getElem?_eq_some_iff.1 HA.out).1).trans HA.out)
    have HR7 : Hid (Rb w7 b r) := hide (HR3.out.keep (hb7.block b HR3.out.lt))
    have HT7 := hide (HA3.out.below hb7)
    clear hb7
    refine hK _ _ HA7.out ?_
    clear hK K
    try simp only [Act.put, List.setIfInBounds_toArray, List.set_cons_zero, List.set_cons_succ]
    refine hd_call 13 (o := ⟨some 25, _, _, _, _, _⟩) (by kernel_rfl) rfl (by rfl) (fun K hK => ?_)
    go_simp
    go_wp2_with (go_at_call 63; refine (HL.out _).mono ?_; rintro e1 w13 ⟨rfl, hb13⟩)
    have HA13 : Hid (w13.heap[N]? = some (.cells #[.int .i64 q.f, .int .i64 q.e, .int .i64 q.x] 39 (0, 0))) := hide ((hb13.block N (Array.getElem?_eq_some_iff.1 HA7.out).1).trans HA7.out)
    have HR13 : Hid (Rb w13 b r) := hide (HR7.out.keep (hb13.block b HR7.out.lt))
    have HT13 := hide (HT7.out.below hb13)
    clear hb13
    refine hK _ _ HA13.out ?_
    clear hK K
    try simp only [Act.put, List.setIfInBounds_toArray, List.set_cons_zero, List.set_cons_succ]
    refine hd_take 14 (o := ⟨some 26, _, _, _, _, _⟩) (.pointer (some ⟨b, 21, none⟩)) (by kernel_rfl) (by kernel_rfl) (by kernel_rfl) rfl (by rfl) (fun W hSw => by go_simp) (fun _ _ _ h => h) HA13.out ?_
    try simp only [Act.put, List.setIfInBounds_toArray, List.set_cons_zero, List.set_cons_succ]
    refine hd_take 15 (o := ⟨some 27, _, _, _, _, _⟩) (.pointer (some ⟨b, 21, none⟩)) (by kernel_rfl) (by kernel_rfl) (by kernel_rfl) rfl (by rfl) (fun W hSw => by go_simp) (fun _ _ _ h => h) HA13.out ?_
    try simp only [Act.put, List.setIfInBounds_toArray, List.set_cons_zero, List.set_cons_succ]
    have d0 := HR13.out.get (j := 21) rfl
    have f0 := HR13.out.frz 21
    have d1 := HR13.out.get (j := 22) rfl
    have f1 := HR13.out.frz 22
    have d2 := HR13.out.get (j := 23) rfl
    have f2 := HR13.out.frz 23
    have d3 := HR13.out.get (j := 24) rfl
    have f3 := HR13.out.frz 24
    have d4 := HR13.out.get (j := 25) rfl
    have f4 := HR13.out.frz 25
    have d5 := HR13.out.get (j := 26) rfl
    have f5 := HR13.out.frz 26
    refine hd_call 16 (o := ⟨none, _, _, _, _, _⟩) (by kernel_rfl) rfl (by rfl) (fun K hK => ?_)
    go_simp
    refine hK _ _ (by rw [heap_setCell_other _ _ _ _ HNE.out, heap_setCell_other _ _ _ _ HNE.out, heap_setCell_other _ _ _ _ HNE.out]; exact HA13.out) ?_
    clear hK K
    have HF1 : Hid (Rb (((w13.setCell ⟨b, 21, none⟩ (.int .i64 (r.pd.f + q.f))).setCell ⟨b, 22, none⟩ (.int .i64 (r.pd.e + q.e))).setCell ⟨b, 23, none⟩ (.int .i64 (r.pd.x + q.x))) b { r with pd := ⟨r.pd.f + q.f, r.pd.e + q.e, r.pd.x + q.x⟩ }) := hide (Rb.set (e := { r with pd := ⟨r.pd.f + q.f, r.pd.e + q.e, r.pd.x⟩ }) (Rb.set (e := { r with pd := ⟨r.pd.f + q.f, r.pd.e, r.pd.x⟩ }) (HR13.out.set rfl) rfl) rfl)
    have HG1 := hide (((HT13.out.set 21 (.int .i64 (r.pd.f + q.f))).set 22 (.int .i64 (r.pd.e + q.e))).set 23 (.int .i64 (r.pd.x + q.x)))
    have HA1 : Hid ((((w13.setCell ⟨b, 21, none⟩ (.int .i64 (r.pd.f + q.f))).setCell ⟨b, 22, none⟩ (.int .i64 (r.pd.e + q.e))).setCell ⟨b, 23, none⟩ (.int .i64 (r.pd.x + q.x))).heap[N]? = some (.cells #[.int .i64 q.f, .int .i64 q.e, .int .i64 q.x] 39 (0, 0))) := hide (by rw [heap_setCell_other _ _ _ _ HNE.out, heap_setCell_other _ _ _ _ HNE.out, heap_setCell_other _ _ _ _ HNE.out]; exact HA13.out)
    clear d0 d1 d2 d3 d4 d5 f0 f1 f2 f3 f4 f5
    generalize (((w13.setCell ⟨b, 21, none⟩ (.int .i64 (r.pd.f + q.f))).setCell ⟨b, 22, none⟩ (.int .i64 (r.pd.e + q.e))).setCell ⟨b, 23, none⟩ (.int .i64 (r.pd.x + q.x))) = wz at *
    try simp only [Act.put, List.setIfInBounds_toArray, List.set_cons_zero, List.set_cons_succ]
    refine hd_take 17 (o := ⟨some 28, _, _, _, _, _⟩) (.pointer (some ⟨b, 21, none⟩)) (by kernel_rfl) (by kernel_rfl) (by kernel_rfl) rfl (by rfl) (fun W hSw => by go_simp) (fun _ _ _ h => h) HA1.out ?_
    try simp only [Act.put, List.setIfInBounds_toArray, List.set_cons_zero, List.set_cons_succ]
    refine hd_take 18 (o := ⟨some 29, _, _, _, _, _⟩) (.pointer (some ⟨b, 24, none⟩)) (by kernel_rfl) (by kernel_rfl) (by kernel_rfl) rfl (by rfl) (fun W hSw => by go_simp) (fun _ _ _ h => h) HA1.out ?_
    try simp only [Act.put, List.setIfInBounds_toArray, List.set_cons_zero, List.set_cons_succ]
    have d0 := HF1.out.get (j := 24) rfl
    have f0 := HF1.out.frz 24
    have d1 := HF1.out.get (j := 25) rfl
    have f1 := HF1.out.frz 25
    have d2 := HF1.out.get (j := 26) rfl
    have f2 := HF1.out.frz 26
    refine hd_call 19 (o := ⟨none, _, _, _, _, _⟩) (by kernel_rfl) rfl (by rfl) (fun K hK => ?_)
    go_simp
    refine hK _ _ (by rw [heap_setCell_other _ _ _ _ HNE.out, heap_setCell_other _ _ _ _ HNE.out, heap_setCell_other _ _ _ _ HNE.out]; exact HA1.out) ?_
    clear hK K
    refine wpAnyH_done (by kernel_rfl) ?_ _
    have HF2 := hide (Rb.set (e' := { r with pd := ⟨r.pd.f + q.f, r.pd.e + q.e, r.pd.x + q.x⟩, le := ⟨r.le.f - q.f, r.le.e - q.e, r.le.x - q.x⟩ }) (u := .int .i64 (r.le.x - q.x)) (j := 26) (Rb.set (e' := { r with pd := ⟨r.pd.f + q.f, r.pd.e + q.e, r.pd.x + q.x⟩, le := ⟨r.le.f - q.f, r.le.e - q.e, r.le.x⟩ }) (u := .int .i64 (r.le.e - q.e)) (j := 25) (Rb.set (e' := { r with pd := ⟨r.pd.f + q.f, r.pd.e + q.e, r.pd.x + q.x⟩, le := ⟨r.le.f - q.f, r.le.e, r.le.x⟩ }) (u := .int .i64 (r.le.f - q.f)) (j := 24) HF1.out rfl) rfl) rfl)
    have HG2 := hide (((HG1.out.set 24 (.int .i64 (r.le.f - q.f))).set 25 (.int .i64 (r.le.e - q.e))).set 26 (.int .i64 (r.le.x - q.x)))
    go_wp2
    go_ret
    exact ⟨rfl, HF2.out, HG2.out⟩
end Go.Proofs.Ytoddadohmnaolaa
