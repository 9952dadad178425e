import Derived.Test.YtoddadohmnaolabMD
namespace Go.Proofs.Ytoddadohmnaolab
open Go.RowKit Go.Shelf

section
variable {P : Program} {ops : Array Oper} {Q : Exit → Act → World → Prop} {S : World → Prop} {fuel : Nat} {listed : Array Bool} {a : Act} {w : World}
/-- the two operations that may come up -/
theorem hd_two (i j : Nat) {o1 o2 : Oper} (hr : Region.ready .any ops listed = [i, j]) (ho1 : ops[i]? = some o1) (ho2 : ops[j]? = some o2) (hw1 : Region.wanted o1 (yielded ops a.tmps) = true) (hw2 : Region.wanted o2 (yielded ops a.tmps) = true)
    (h1 : ∀ K : Act → World → Prop, (∀ a w, S w → wpAnyH P .any ops Q S fuel (listed.setIfInBounds i true) a w → K a w) → Oper.wp P o1 a w K Q)
    (h2 : ∀ K : Act → World → Prop, (∀ a w, S w → wpAnyH P .any ops Q S fuel (listed.setIfInBounds j true) a w → K a w) → Oper.wp P o2 a w K Q) : wpAnyH P .any ops Q S (fuel + 1) listed a w := by
  refine wpAnyH_ready hr (by simp) (AllReadyH.cons ho1 (fun K hK => ?_) (AllReadyH.cons ho2 (fun K hK => ?_) AllReadyH.nil))
  · rw [if_pos hw1]; exact h1 K (fun a w hS hh => hK.out a w hS (fun _ => hh))
  · rw [if_pos hw2]; exact h2 K (fun a w hS hh => hK.out a w hS (fun _ => hh))
end
set_option maxRecDepth 100000 in
set_option maxHeartbeats 6400000 in
theorem payOk_any (w : World) (b : Nat) (r : Er) (h : Rb w b r) (q : Qt) (hg : q.good) (hq : q.ok) (hf : q.le r.le) (hle : r.le.ok) (hpd : r.pd.ok) : Calls Try.prog 59 #[.pointer (some ⟨b, 21, none⟩), q.val] w fun e w' => e = .returned (.int .i64 0) ∧ Rb w' b { r with pd := r.pd.plus q, le := r.le.less q } ∧ At w b w' := by
  have hb1 := (Below.refl w.heap.size w).alloc (Nat.le_refl _) (.cells #[.int .i64 q.f, .int .i64 q.e, .int .i64 q.x] 32)
  have a1 := heap_alloc_new w (.cells #[.int .i64 q.f, .int .i64 q.e, .int .i64 q.x] 32)
  have hR := h.keep (hb1.block b h.lt)
  have HA1 := hide (At.of_below (b := b) hb1)
  have HNE : Hid (w.heap.size ≠ b) := hide (fun e => by have := h.lt; omega)
  have HC1 := hide (fun W => isGood_any W q)
  rw [show decide q.good = true by simpa using hg] at HC1
  have HC2 := hide (fun W (hb : Rb W b r) => affords_any W b r hb q)
  rw [show decide (q.le r.le) = true by simpa using hf] at HC2
  have HP := hide (fun W => plus_any W r.pd q hpd hq)
  have HL := hide (fun W => less_any W r.le q hle hq)
  clear h hb1 hg hq hf hle hpd
  unfold Qt.val at *
  simp only [Qt.less] at HL
  simp only [Qt.plus] at HP
  go_enter Try.func59, Try.ntmps59
  go_upto_region 1 with fail
  generalize w.alloc (.cells #[.int .i64 q.f, .int .i64 q.e, .int .i64 q.x] 32) = w1 at *
  obtain ⟨N, hN⟩ : ∃ N, w.heap.size = N := ⟨_, rfl⟩
  rw [hN] at a1 HNE ⊢
  clear hN
  obtain ⟨c0, c1, c2, -, -, -⟩ := blk3 a1
  have HR1 := hide hR
  have HN1 := hide a1
  clear hR a1
  go_wp2_with fail
  refine (HC1.out _).mono ?_
  rintro e1 w2 ⟨rfl, hb2⟩
  have a2 := (hb2.block N (Array.getElem?_eq_some_iff.1 HN1.out).1).trans HN1.out
  have HR2 := hide (HR1.out.keep (hb2.block b HR1.out.lt))
  have HT2 := hide (HA1.out.below hb2)
  have HN2 := hide a2
  clear hb2 c0 c1 c2 HR1 HN1 HA1
  obtain ⟨c0, c1, c2, -, -, -⟩ := blk3 a2
  clear a2
  go_wp2_with fail
  refine (HC2.out _ HR2.out).mono ?_
  rintro e1 w4 ⟨rfl, hb4⟩
  have HNC := hide ((hb4.block N (Array.getElem?_eq_some_iff.1 HN2.out).1).trans HN2.out)
  have HRC := hide (HR2.out.keep (hb4.block b HR2.out.lt))
  have HAC := hide (HT2.out.below hb4)
  clear hb4 c0 c1 c2 HR2 HN2 HT2
  go_upto_region 5 with fail
  obtain ⟨w3, hw3⟩ : ∃ w3, w3 = w4.drew := ⟨_, rfl⟩
  have hR3 : Rb w3 b r := by rw [hw3]; exact ⟨HRC.out.out⟩
  have a3 : w3.heap[N]? = some (.cells #[.int .i64 q.f, .int .i64 q.e, .int .i64 q.x] 32 (0, 0)) := by rw [hw3]; exact HNC.out
  have HA3 : Hid (At w b w3) := by rw [hw3]; exact ⟨HAC.out.os, HAC.out.tape, HAC.out.output, HAC.out.size, HAC.out.block⟩
  have HR3 := hide hR3
  have HA := hide a3
  clear hR3 HRC HNC HAC
  refine wp_region_held_drew (S := fun W => W.heap[N]? = some (.cells #[.int .i64 q.f, .int .i64 q.e, .int .i64 q.x] 32 (0, 0))) (by kernel_rfl) (by rw [← hw3]; exact a3) (fun _ => ?_)
  rw [← hw3]
  clear hw3 a3
  refine hd_take 0 (o := ⟨some 12, _, _, _, _, _⟩) (.pointer (some ⟨b, 21, none⟩)) (by kernel_rfl) (by kernel_rfl) (by kernel_rfl) rfl (by rfl) (fun W hSw => by go_simp) (fun _ _ _ h => h) HA.out ?_
  try simp only [Act.put, List.setIfInBounds_toArray, List.set_cons_zero, List.set_cons_succ]
  refine hd_take 1 (o := ⟨some 13, _, _, _, _, _⟩) (.pointer (some ⟨b, 21, none⟩)) (by kernel_rfl) (by kernel_rfl) (by kernel_rfl) rfl (by rfl) (fun W hSw => by go_simp) (fun _ _ _ h => h) HA.out ?_
  try simp only [Act.put, List.setIfInBounds_toArray, List.set_cons_zero, List.set_cons_succ]
  refine hd_take 2 (o := ⟨some 14, _, _, _, _, _⟩) (.pointer (some ⟨b, 21, none⟩)) (by kernel_rfl) (by kernel_rfl) (by kernel_rfl) rfl (by rfl) (fun W hSw => by go_simp) (fun _ _ _ h => h) HA.out ?_
  try simp only [Act.put, List.setIfInBounds_toArray, List.set_cons_zero, List.set_cons_succ]
  refine hd_take 3 (o := ⟨some 15, _, _, _, _, _⟩) (.pointer (some ⟨b, 21, none⟩)) (by kernel_rfl) (by kernel_rfl) (by kernel_rfl) rfl (by rfl) (fun W hSw => by go_simp) (fun _ _ _ h => h) HA.out ?_
  try simp only [Act.put, List.setIfInBounds_toArray, List.set_cons_zero, List.set_cons_succ]
  refine hd_take 4 (o := ⟨some 16, _, _, _, _, _⟩) (.pointer (some ⟨b, 21, none⟩)) (by kernel_rfl) (by kernel_rfl) (by kernel_rfl) rfl (by rfl) (fun W hSw => by go_simp) (fun _ _ _ h => h) HA.out ?_
  try simp only [Act.put, List.setIfInBounds_toArray, List.set_cons_zero, List.set_cons_succ]
  refine hd_take 6 (o := ⟨some 18, _, _, _, _, _⟩) (.agg #[.int .i64 q.f, .int .i64 q.e, .int .i64 q.x]) (by kernel_rfl) (by kernel_rfl) (by kernel_rfl) rfl (by rfl) (fun W hSw => by obtain ⟨c0, c1, c2, -, -, -⟩ := blk3 hSw; go_simp) (fun _ _ _ h => h) HA.out ?_
  try simp only [Act.put, List.setIfInBounds_toArray, List.set_cons_zero, List.set_cons_succ]
  refine hd_take 8 (o := ⟨some 20, _, _, _, _, _⟩) (.pointer (some ⟨b, 21, none⟩)) (by kernel_rfl) (by kernel_rfl) (by kernel_rfl) rfl (by rfl) (fun W hSw => by go_simp) (fun _ _ _ h => h) HA.out ?_
  try simp only [Act.put, List.setIfInBounds_toArray, List.set_cons_zero, List.set_cons_succ]
  refine hd_take 9 (o := ⟨some 21, _, _, _, _, _⟩) (.pointer (some ⟨b, 21, none⟩)) (by kernel_rfl) (by kernel_rfl) (by kernel_rfl) rfl (by rfl) (fun W hSw => by go_simp) (fun _ _ _ h => h) HA.out ?_
  try simp only [Act.put, List.setIfInBounds_toArray, List.set_cons_zero, List.set_cons_succ]
  refine hd_take 10 (o := ⟨some 22, _, _, _, _, _⟩) (.pointer (some ⟨b, 24, none⟩)) (by kernel_rfl) (by kernel_rfl) (by kernel_rfl) rfl (by rfl) (fun W hSw => by go_simp) (fun _ _ _ h => h) HA.out ?_
  try simp only [Act.put, List.setIfInBounds_toArray, List.set_cons_zero, List.set_cons_succ]
  refine hd_take 12 (o := ⟨some 24, _, _, _, _, _⟩) (.agg #[.int .i64 q.f, .int .i64 q.e, .int .i64 q.x]) (by kernel_rfl) (by kernel_rfl) (by kernel_rfl) rfl (by rfl) (fun W hSw => by obtain ⟨c0, c1, c2, -, -, -⟩ := blk3 hSw; go_simp) (fun _ _ _ h => h) HA.out ?_
  try simp only [Act.put, List.setIfInBounds_toArray, List.set_cons_zero, List.set_cons_succ]
  refine hd_two 5 11 (o1 := ⟨some 17, _, _, _, _, _⟩) (o2 := ⟨some 23, _, _, _, _, _⟩) (by kernel_rfl) rfl rfl (by rfl) (by rfl) (fun K hK => ?_) (fun K hK => ?_)
  · have d0 := HR3.out.get (j := 21) rfl
    have d1 := HR3.out.get (j := 22) rfl
    have d2 := HR3.out.get (j := 23) rfl
    go_simp
    refine hK _ _ HA.out ?_
    clear hK K d0 d1 d2
    try simp only [Act.put, List.setIfInBounds_toArray, List.set_cons_zero, List.set_cons_succ]
    refine hd_two 7 11 (o1 := ⟨some 19, _, _, _, _, _⟩) (o2 := ⟨some 23, _, _, _, _, _⟩) (by kernel_rfl) rfl rfl (by rfl) (by rfl) (fun K hK => ?_) (fun K hK => ?_)
    · go_simp
      go_wp2_with (go_at_call 73; refine (HP.out _).mono ?_; rintro e1 w7 ⟨rfl, hb7⟩)
      have HA7 : Hid (w7.heap[N]? = some (.cells #[.int .i64 q.f, .int .i64 q.e, .int .i64 q.x] 32 (0, 0))) := hide ((hb7.block N (Array.getElem?_eq_some_iff.1 HA.out).1).trans HA.out)
      have HR7 : Hid (Rb w7 b r) := hide (HR3.out.keep (hb7.block b HR3.out.lt))
      have HT7 := hide (HA3.out.below hb7)
      clear hb7
      refine hK _ _ HA7.out ?_
      clear hK K
      try simp only [Act.put, List.setIfInBounds_toArray, List.set_cons_zero, List.set_cons_succ]
      refine hd_call 11 (o := ⟨some 23, _, _, _, _, _⟩) (by kernel_rfl) rfl (by rfl) (fun K hK => ?_)
      have d0 := HR7.out.get (j := 24) rfl
      have d1 := HR7.out.get (j := 25) rfl
      have d2 := HR7.out.get (j := 26) rfl
      go_simp
      refine hK _ _ HA7.out ?_
      clear hK K d0 d1 d2
      try simp only [Act.put, List.setIfInBounds_toArray, List.set_cons_zero, List.set_cons_succ]
      refine hd_call 13 (o := ⟨some 25, _, _, _, _, _⟩) (by kernel_rfl) rfl (by rfl) (fun K hK => ?_)
      go_simp
      go_wp2_with (go_at_call 74; refine (HL.out _).mono ?_; rintro e1 w13 ⟨rfl, hb13⟩)
      have HA13 : Hid (w13.heap[N]? = some (.cells #[.int .i64 q.f, .int .i64 q.e, .int .i64 q.x] 32 (0, 0))) := hide ((hb13.block N (Array.getElem?_eq_some_iff.1 HA7.out).1).trans HA7.out)
      have HR13 : Hid (Rb w13 b r) := hide (HR7.out.keep (hb13.block b HR7.out.lt))
      have HT13 := hide (HT7.out.below hb13)
      clear hb13
      refine hK _ _ HA13.out ?_
      clear hK K
      try simp only [Act.put, List.setIfInBounds_toArray, List.set_cons_zero, List.set_cons_succ]
      refine hd_take 14 (o := ⟨some 26, _, _, _, _, _⟩) (.pointer (some ⟨b, 21, none⟩)) (by kernel_rfl) (by kernel_rfl) (by kernel_rfl) rfl (by rfl) (fun W hSw => by go_simp) (fun _ _ _ h => h) HA13.out ?_
      try simp only [Act.put, List.setIfInBounds_toArray, List.set_cons_zero, List.set_cons_succ]
      refine hd_take 15 (o := ⟨some 27, _, _, _, _, _⟩) (.pointer (some ⟨b, 21, none⟩)) (by kernel_rfl) (by kernel_rfl) (by kernel_rfl) rfl (by rfl) (fun W hSw => by go_simp) (fun _ _ _ h => h) HA13.out ?_
      try simp only [Act.put, List.setIfInBounds_toArray, List.set_cons_zero, List.set_cons_succ]
      have d0 := HR13.out.get (j := 21) rfl
      have f0 := HR13.out.frz 21
      have d1 := HR13.out.get (j := 22) rfl
      have f1 := HR13.out.frz 22
      have d2 := HR13.out.get (j := 23) rfl
      have f2 := HR13.out.frz 23
      have d3 := HR13.out.get (j := 24) rfl
      have f3 := HR13.out.frz 24
      have d4 := HR13.out.get (j := 25) rfl
      have f4 := HR13.out.frz 25
      have d5 := HR13.out.get (j := 26) rfl
      have f5 := HR13.out.frz 26
      refine hd_call 16 (o := ⟨none, _, _, _, _, _⟩) (by kernel_rfl) rfl (by rfl) (fun K hK => ?_)
      go_simp
      refine hK _ _ (by rw [heap_setCell_other _ _ _ _ HNE.out, heap_setCell_other _ _ _ _ HNE.out, heap_setCell_other _ _ _ _ HNE.out]; exact HA13.out) ?_
      clear hK K
      have HF1 : Hid (Rb (((w13.setCell ⟨b, 21, none⟩ (.int .i64 (r.pd.f + q.f))).setCell ⟨b, 22, none⟩ (.int .i64 (r.pd.e + q.e))).setCell ⟨b, 23, none⟩ (.int .i64 (r.pd.x + q.x))) b { r with pd := ⟨r.pd.f + q.f, r.pd.e + q.e, r.pd.x + q.x⟩ }) := hide (Rb.set (e := { r with pd := ⟨r.pd.f + q.f, r.pd.e + q.e, r.pd.x⟩ }) (Rb.set (e := { r with pd := ⟨r.pd.f + q.f, r.pd.e, r.pd.x⟩ }) (HR13.out.set rfl) rfl) rfl)
      have HG1 := hide (((HT13.out.set 21 (.int .i64 (r.pd.f + q.f))).set 22 (.int .i64 (r.pd.e + q.e))).set 23 (.int .i64 (r.pd.x + q.x)))
      have HA1 : Hid ((((w13.setCell ⟨b, 21, none⟩ (.int .i64 (r.pd.f + q.f))).setCell ⟨b, 22, none⟩ (.int .i64 (r.pd.e + q.e))).setCell ⟨b, 23, none⟩ (.int .i64 (r.pd.x + q.x))).heap[N]? = some (.cells #[.int .i64 q.f, .int .i64 q.e, .int .i64 q.x] 32 (0, 0))) := hide (by rw [heap_setCell_other _ _ _ _ HNE.out, heap_setCell_other _ _ _ _ HNE.out, heap_setCell_other _ _ _ _ HNE.out]; exact HA13.out)
      clear d0 d1 d2 d3 d4 d5 f0 f1 f2 f3 f4 f5
      generalize (((w13.setCell ⟨b, 21, none⟩ (.int .i64 (r.pd.f + q.f))).setCell ⟨b, 22, none⟩ (.int .i64 (r.pd.e + q.e))).setCell ⟨b, 23, none⟩ (.int .i64 (r.pd.x + q.x))) = wz at *
      try simp only [Act.put, List.setIfInBounds_toArray, List.set_cons_zero, List.set_cons_succ]
      refine hd_take 17 (o := ⟨some 28, _, _, _, _, _⟩) (.pointer (some ⟨b, 21, none⟩)) (by kernel_rfl) (by kernel_rfl) (by kernel_rfl) rfl (by rfl) (fun W hSw => by go_simp) (fun _ _ _ h => h) HA1.out ?_
      try simp only [Act.put, List.setIfInBounds_toArray, List.set_cons_zero, List.set_cons_succ]
      refine hd_take 18 (o := ⟨some 29, _, _, _, _, _⟩) (.pointer (some ⟨b, 24, none⟩)) (by kernel_rfl) (by kernel_rfl) (by kernel_rfl) rfl (by rfl) (fun W hSw => by go_simp) (fun _ _ _ h => h) HA1.out ?_
      try simp only [Act.put, List.setIfInBounds_toArray, List.set_cons_zero, List.set_cons_succ]
      have d0 := HF1.out.get (j := 24) rfl
      have f0 := HF1.out.frz 24
      have d1 := HF1.out.get (j := 25) rfl
      have f1 := HF1.out.frz 25
      have d2 := HF1.out.get (j := 26) rfl
      have f2 := HF1.out.frz 26
      refine hd_call 19 (o := ⟨none, _, _, _, _, _⟩) (by kernel_rfl) rfl (by rfl) (fun K hK => ?_)
      go_simp
      refine hK _ _ (by rw [heap_setCell_other _ _ _ _ HNE.out, heap_setCell_other _ _ _ _ HNE.out, heap_setCell_other _ _ _ _ HNE.out]; exact HA1.out) ?_
      clear hK K
      refine wpAnyH_done (by kernel_rfl) ?_ _
      have HF2 := hide (Rb.set (e' := { r with pd := ⟨r.pd.f + q.f, r.pd.e + q.e, r.pd.x + q.x⟩, le := ⟨r.le.f - q.f, r.le.e - q.e, r.le.x - q.x⟩ }) (u := .int .i64 (r.le.x - q.x)) (j := 26) (Rb.set (e' := { r with pd := ⟨r.pd.f + q.f, r.pd.e + q.e, r.pd.x + q.x⟩, le := ⟨r.le.f - q.f, r.le.e - q.e, r.le.x⟩ }) (u := .int .i64 (r.le.e - q.e)) (j := 25) (Rb.set (e' := { r with pd := ⟨r.pd.f + q.f, r.pd.e + q.e, r.pd.x + q.x⟩, le := ⟨r.le.f - q.f, r.le.e, r.le.x⟩ }) (u := .int .i64 (r.le.f - q.f)) (j := 24) HF1.out rfl) rfl) rfl)
      have HG2 := hide (((HG1.out.set 24 (.int .i64 (r.le.f - q.f))).set 25 (.int .i64 (r.le.e - q.e))).set 26 (.int .i64 (r.le.x - q.x)))
      go_wp2
      go_ret
      exact ⟨rfl, HF2.out, HG2.out⟩
    · have d0 := HR3.out.get (j := 24) rfl
      have d1 := HR3.out.get (j := 25) rfl
      have d2 := HR3.out.get (j := 26) rfl
      go_simp
      refine hK _ _ HA.out ?_
      clear hK K d0 d1 d2
      try simp only [Act.put, List.setIfInBounds_toArray, List.set_cons_zero, List.set_cons_succ]
      refine hd_call 7 (o := ⟨some 19, _, _, _, _, _⟩) (by kernel_rfl) rfl (by rfl) (fun K hK => ?_)
      go_simp
      go_wp2_with (go_at_call 73; refine (HP.out _).mono ?_; rintro e1 w7 ⟨rfl, hb7⟩)
      have HA7 : Hid (w7.heap[N]? = some (.cells #[.int .i64 q.f, .int .i64 q.e, .int .i64 q.x] 32 (0, 0))) := hide ((hb7.block N (Array.getElem?_eq_some_iff.1 HA.out).1).trans HA.out)
      have HR7 : Hid (Rb w7 b r) := hide (HR3.out.keep (hb7.block b HR3.out.lt))
      have HT7 := hide (HA3.out.below hb7)
      clear hb7
      refine hK _ _ HA7.out ?_
      clear hK K
      try simp only [Act.put, List.setIfInBounds_toArray, List.set_cons_zero, List.set_cons_succ]
      refine hd_call 13 (o := ⟨some 25, _, _, _, _, _⟩) (by kernel_rfl) rfl (by rfl) (fun K hK => ?_)
      go_simp
      go_wp2_with (go_at_call 74; refine (HL.out _).mono ?_; rintro e1 w13 ⟨rfl, hb13⟩)
      have HA13 : Hid (w13.heap[N]? = some (.cells #[.int .i64 q.f, .int .i64 q.e, .int .i64 q.x] 32 (0, 0))) := hide ((hb13.block N (Array.getElem?_eq_some_iff.1 HA7.out).1).trans HA7.out)
      have HR13 : Hid (Rb w13 b r) := hide (HR7.out.keep (hb13.block b HR7.out.lt))
      have HT13 := hide (HT7.out.below hb13)
      clear hb13
      refine hK _ _ HA13.out ?_
      clear hK K
      try simp only [Act.put, List.setIfInBounds_toArray, List.set_cons_zero, List.set_cons_succ]
      refine hd_take 14 (o := ⟨some 26, _, _, _, _, _⟩) (.pointer (some ⟨b, 21, none⟩)) (by kernel_rfl) (by kernel_rfl) (by kernel_rfl) rfl (by rfl) (fun W hSw => by go_simp) (fun _ _ _ h => h) HA13.out ?_
      try simp only [Act.put, List.setIfInBounds_toArray, List.set_cons_zero, List.set_cons_succ]
      refine hd_take 15 (o := ⟨some 27, _, _, _, _, _⟩) (.pointer (some ⟨b, 21, none⟩)) (by kernel_rfl) (by kernel_rfl) (by kernel_rfl) rfl (by rfl) (fun W hSw => by go_simp) (fun _ _ _ h => h) HA13.out ?_
      try simp only [Act.put, List.setIfInBounds_toArray, List.set_cons_zero, List.set_cons_succ]
      have d0 := HR13.out.get (j := 21) rfl
      have f0 := HR13.out.frz 21
      have d1 := HR13.out.get (j := 22) rfl
      have f1 := HR13.out.frz 22
      have d2 := HR13.out.get (j := 23) rfl
      have f2 := HR13.out.frz 23
      have d3 := HR13.out.get (j := 24) rfl
      have f3 := HR13.out.frz 24
      have d4 := HR13.out.get (j := 25) rfl
      have f4 := HR13.out.frz 25
      have d5 := HR13.out.get (j := 26) rfl
      have f5 := HR13.out.frz 26
      refine hd_call 16 (o := ⟨none, _, _, _, _, _⟩) (by kernel_rfl) rfl (by rfl) (fun K hK => ?_)
      go_simp
      refine hK _ _ (by rw [heap_setCell_other _ _ _ _ HNE.out, heap_setCell_other _ _ _ _ HNE.out, heap_setCell_other _ _ _ _ HNE.out]; exact HA13.out) ?_
      clear hK K
      have HF1 : Hid (Rb (((w13.setCell ⟨b, 21, none⟩ (.int .i64 (r.pd.f + q.f))).setCell ⟨b, 22, none⟩ (.int .i64 (r.pd.e + q.e))).setCell ⟨b, 23, none⟩ (.int .i64 (r.pd.x + q.x))) b { r with pd := ⟨r.pd.f + q.f, r.pd.e + q.e, r.pd.x + q.x⟩ }) := hide (Rb.set (e := { r with pd := ⟨r.pd.f + q.f, r.pd.e + q.e, r.pd.x⟩ }) (Rb.set (e := { r with pd := ⟨r.pd.f + q.f, r.pd.e, r.pd.x⟩ }) (HR13.out.set rfl) rfl) rfl)
      have HG1 := hide (((HT13.out.set 21 (.int .i64 (r.pd.f + q.f))).set 22 (.int .i64 (r.pd.e + q.e))).set 23 (.int .i64 (r.pd.x + q.x)))
      have HA1 : Hid ((((w13.setCell ⟨b, 21, none⟩ (.int .i64 (r.pd.f + q.f))).setCell ⟨b, 22, none⟩ (.int .i64 (r.pd.e + q.e))).setCell ⟨b, 23, none⟩ (.int .i64 (r.pd.x + q.x))).heap[N]? = some (.cells #[.int .i64 q.f, .int .i64 q.e, .int .i64 q.x] 32 (0, 0))) := hide (by rw [heap_setCell_other _ _ _ _ HNE.out, heap_setCell_other _ _ _ _ HNE.out, heap_setCell_other _ _ _ _ HNE.out]; exact HA13.out)
      clear d0 d1 d2 d3 d4 d5 f0 f1 f2 f3 f4 f5
      generalize (((w13.setCell ⟨b, 21, none⟩ (.int .i64 (r.pd.f + q.f))).setCell ⟨b, 22, none⟩ (.int .i64 (r.pd.e + q.e))).setCell ⟨b, 23, none⟩ (.int .i64 (r.pd.x + q.x))) = wz at *
      try simp only [Act.put, List.setIfInBounds_toArray, List.set_cons_zero, List.set_cons_succ]
      refine hd_take 17 (o := ⟨some 28, _, _, _, _, _⟩) (.pointer (some ⟨b, 21, none⟩)) (by kernel_rfl) (by kernel_rfl) (by kernel_rfl) rfl (by rfl) (fun W hSw => by go_simp) (fun _ _ _ h => h) HA1.out ?_
      try simp only [Act.put, List.setIfInBounds_toArray, List.set_cons_zero, List.set_cons_succ]
      refine hd_take 18 (o := ⟨some 29, _, _, _, _, _⟩) (.pointer (some ⟨b, 24, none⟩)) (by kernel_rfl) (by kernel_rfl) (by kernel_rfl) rfl (by rfl) (fun W hSw => by go_simp) (fun _ _ _ h => h) HA1.out ?_
      try simp only [Act.put, List.setIfInBounds_toArray, List.set_cons_zero, List.set_cons_succ]
      have d0 := HF1.out.get (j := 24) rfl
      have f0 := HF1.out.frz 24
      have d1 := HF1.out.get (j := 25) rfl
      have f1 := HF1.out.frz 25
      have d2 := HF1.out.get (j := 26) rfl
      have f2 := HF1.out.frz 26
      refine hd_call 19 (o := ⟨none, _, _, _, _, _⟩) (by kernel_rfl) rfl (by rfl) (fun K hK => ?_)
      go_simp
      refine hK _ _ (by rw [heap_setCell_other _ _ _ _ HNE.out, heap_setCell_other _ _ _ _ HNE.out, heap_setCell_other _ _ _ _ HNE.out]; exact HA1.out) ?_
      clear hK K
      refine wpAnyH_done (by kernel_rfl) ?_ _
      have HF2 := hide (Rb.set (e' := { r with pd := ⟨r.pd.f + q.f, r.pd.e + q.e, r.pd.x + q.x⟩, le := ⟨r.le.f - q.f, r.le.e - q.e, r.le.x - q.x⟩ }) (u := .int .i64 (r.le.x - q.x)) (j := 26) (Rb.set (e' := { r with pd := ⟨r.pd.f + q.f, r.pd.e + q.e, r.pd.x + q.x⟩, le := ⟨r.le.f - q.f, r.le.e - q.e, r.le.x⟩ }) (u := .int .i64 (r.le.e - q.e)) (j := 25) (Rb.set (e' := { r with pd := ⟨r.pd.f + q.f, r.pd.e + q.e, r.pd.x + q.x⟩, le := ⟨r.le.f - q.f, r.le.e, r.le.x⟩ }) (u := .int .i64 (r.le.f - q.f)) (j := 24) HF1.out rfl) rfl) rfl)
      have HG2 := hide (((HG1.out.set 24 (.int .i64 (r.le.f - q.f))).set 25 (.int .i64 (r.le.e - q.e))).set 26 (.int .i64 (r.le.x - q.x)))
      go_wp2
      go_ret
      exact ⟨rfl, HF2.out, HG2.out⟩
  · have d0 := HR3.out.get (j := 24) rfl
    have d1 := HR3.out.get (j := 25) rfl
    have d2 := HR3.out.get (j := 26) rfl
    go_simp
    refine hK _ _ HA.out ?_
    clear hK K d0 d1 d2
    try simp only [Act.put, List.setIfInBounds_toArray, List.set_cons_zero, List.set_cons_succ]
    refine hd_call 5 (o := ⟨some 17, _, _, _, _, _⟩) (by kernel_rfl) rfl (by rfl) (fun K hK => ?_)
    have d0 := HR3.out.get (j := 21) rfl
    have d1 := HR3.out.get (j := 22) rfl
    have d2 := HR3.out.get (j := 23) rfl
    go_simp
    refine hK _ _ HA.out ?_
    clear hK K d0 d1 d2
    try simp only [Act.put, List.setIfInBounds_toArray, List.set_cons_zero, List.set_cons_succ]
    refine hd_call 7 (o := ⟨some 19, _, _, _, _, _⟩) (by kernel_rfl) rfl (by rfl) (fun K hK => ?_)
    go_simp
    go_wp2_with (go_at_call 73; refine (HP.out _).mono ?_; rintro e1 w7 ⟨rfl, hb7⟩)
    have HA7 : Hid (w7.heap[N]? = some (.cells #[.int .i64 q.f, .int .i64 q.e, .int .i64 q.x] 32 (0, 0))) := hide ((hb7.block N (Array.getElem?_eq_some_iff.1 HA.out).1).trans HA.out)
    have HR7 : Hid (Rb w7 b r) := hide (HR3.out.keep (hb7.block b HR3.out.lt))
    have HT7 := hide (HA3.out.below hb7)
    clear hb7
    refine hK _ _ HA7.out ?_
    clear hK K
    try simp only [Act.put, List.setIfInBounds_toArray, List.set_cons_zero, List.set_cons_succ]
    refine hd_call 13 (o := ⟨some 25, _, _, _, _, _⟩) (by kernel_rfl) rfl (by rfl) (fun K hK => ?_)
    go_simp
    go_wp2_with (go_at_call 74; refine (HL.out _).mono ?_; rintro e1 w13 ⟨rfl, hb13⟩)
    have HA13 : Hid (w13.heap[N]? = some (.cells #[.int .i64 q.f, .int .i64 q.e, .int .i64 q.x] 32 (0, 0))) := hide ((hb13.block N (Array.getElem?_eq_some_iff.1 HA7.out).1).trans HA7.out)
    have HR13 : Hid (Rb w13 b r) := hide (HR7.out.keep (hb13.block b HR7.out.lt))
    have HT13 := hide (HT7.out.below hb13)
    clear hb13
    refine hK _ _ HA13.out ?_
    clear hK K
    try simp only [Act.put, List.setIfInBounds_toArray, List.set_cons_zero, List.set_cons_succ]
    refine hd_take 14 (o := ⟨some 26, _, _, _, _, _⟩) (.pointer (some ⟨b, 21, none⟩)) (by kernel_rfl) (by kernel_rfl) (by kernel_rfl) rfl (by rfl) (fun W hSw => by go_simp) (fun _ _ _ h => h) HA13.out ?_
    try simp only [Act.put, List.setIfInBounds_toArray, List.set_cons_zero, List.set_cons_succ]
    refine hd_take 15 (o := ⟨some 27, _, _, _, _, _⟩) (.pointer (some ⟨b, 21, none⟩)) (by kernel_rfl) (by kernel_rfl) (by kernel_rfl) rfl (by rfl) (fun W hSw => by go_simp) (fun _ _ _ h => h) HA13.out ?_
    try simp only [Act.put, List.setIfInBounds_toArray, List.set_cons_zero, List.set_cons_succ]
    have d0 := HR13.out.get (j := 21) rfl
    have f0 := HR13.out.frz 21
    have d1 := HR13.out.get (j := 22) rfl
    have f1 := HR13.out.frz 22
    have d2 := HR13.out.get (j := 23) rfl
    have f2 := HR13.out.frz 23
    have d3 := HR13.out.get (j := 24) rfl
    have f3 := HR13.out.frz 24
    have d4 := HR13.out.get (j := 25) rfl
    have f4 := HR13.out.frz 25
    have d5 := HR13.out.get (j := 26) rfl
    have f5 := HR13.out.frz 26
    refine hd_call 16 (o := ⟨none, _, _, _, _, _⟩) (by kernel_rfl) rfl (by rfl) (fun K hK => ?_)
    go_simp
    refine hK _ _ (by rw [heap_setCell_other _ _ _ _ HNE.out, heap_setCell_other _ _ _ _ HNE.out, heap_setCell_other _ _ _ _ HNE.out]; exact HA13.out) ?_
    clear hK K
    have HF1 : Hid (Rb (((w13.setCell ⟨b, 21, none⟩ (.int .i64 (r.pd.f + q.f))).setCell ⟨b, 22, none⟩ (.int .i64 (r.pd.e + q.e))).setCell ⟨b, 23, none⟩ (.int .i64 (r.pd.x + q.x))) b { r with pd := ⟨r.pd.f + q.f, r.pd.e + q.e, r.pd.x + q.x⟩ }) := hide (Rb.set (e := { r with pd := ⟨r.pd.f + q.f, r.pd.e + q.e, r.pd.x⟩ }) (Rb.set (e := { r with pd := ⟨r.pd.f + q.f, r.pd.e, r.pd.x⟩ }) (HR13.out.set rfl) rfl) rfl)
    have HG1 := hide (((HT13.out.set 21 (.int .i64 (r.pd.f + q.f))).set 22 (.int .i64 (r.pd.e + q.e))).set 23 (.int .i64 (r.pd.x + q.x)))
    have HA1 : Hid ((((w13.setCell ⟨b, 21, none⟩ (.int .i64 (r.pd.f + q.f))).setCell ⟨b, 22, none⟩ (.int .i64 (r.pd.e + q.e))).setCell ⟨b, 23, none⟩ (.int .i64 (r.pd.x + q.x))).heap[N]? = some (.cells #[.int .i64 q.f, .int .i64 q.e, .int .i64 q.x] 32 (0, 0))) := hide (by rw [heap_setCell_other _ _ _ _ HNE.out, heap_setCell_other _ _ _ _ HNE.out, heap_setCell_other _ _ _ _ HNE.out]; exact HA13.out)
    clear d0 d1 d2 d3 d4 d5 f0 f1 f2 f3 f4 f5
    generalize (((w13.setCell ⟨b, 21, none⟩ (.int .i64 (r.pd.f + q.f))).setCell ⟨b, 22, none⟩ (.int .i64 (r.pd.e + q.e))).setCell ⟨b, 23, none⟩ (.int .i64 (r.pd.x + q.x))) = wz at *
    try simp only [Act.put, List.setIfInBounds_toArray, List.set_cons_zero, List.set_cons_succ]
    refine hd_take 17 (o := ⟨some 28, _, _, _, _, _⟩) (.pointer (some ⟨b, 21, none⟩)) (by kernel_rfl) (by kernel_rfl) (by kernel_rfl) rfl (by rfl) (fun W hSw => by go_simp) (fun _ _ _ h => h) HA1.out ?_
    try simp only [Act.put, List.setIfInBounds_toArray, List.set_cons_zero, List.set_cons_succ]
    refine hd_take 18 (o := ⟨some 29, _, _, _, _, _⟩) (.pointer (some ⟨b, 24, none⟩)) (by kernel_rfl) (by kernel_rfl) (by kernel_rfl) rfl (by rfl) (fun W hSw => by go_simp) (fun _ _ _ h => h) HA1.out ?_
    try simp only [Act.put, List.setIfInBounds_toArray, List.set_cons_zero, List.set_cons_succ]
    have d0 := HF1.out.get (j := 24) rfl
    have f0 := HF1.out.frz 24
    have d1 := HF1.out.get (j := 25) rfl
    have f1 := HF1.out.frz 25
    have d2 := HF1.out.get (j := 26) rfl
    have f2 := HF1.out.frz 26
    refine hd_call 19 (o := ⟨none, _, _, _, _, _⟩) (by kernel_rfl) rfl (by rfl) (fun K hK => ?_)
    go_simp
    refine hK _ _ (by rw [heap_setCell_other _ _ _ _ HNE.out, heap_setCell_other _ _ _ _ HNE.out, heap_setCell_other _ _ _ _ HNE.out]; exact HA1.out) ?_
    clear hK K
    refine wpAnyH_done (by kernel_rfl) ?_ _
    have HF2 := hide (Rb.set (e' := { r with pd := ⟨r.pd.f + q.f, r.pd.e + q.e, r.pd.x + q.x⟩, le := ⟨r.le.f - q.f, r.le.e - q.e, r.le.x - q.x⟩ }) (u := .int .i64 (r.le.x - q.x)) (j := 26) (Rb.set (e' := { r with pd := ⟨r.pd.f + q.f, r.pd.e + q.e, r.pd.x + q.x⟩, le := ⟨r.le.f - q.f, r.le.e - q.e, r.le.x⟩ }) (u := .int .i64 (r.le.e - q.e)) (j := 25) (Rb.set (e' := { r with pd := ⟨r.pd.f + q.f, r.pd.e + q.e, r.pd.x + q.x⟩, le := ⟨r.le.f - q.f, r.le.e, r.le.x⟩ }) (u := .int .i64 (r.le.f - q.f)) (j := 24) HF1.out rfl) rfl) rfl)
    have HG2 := hide (((HG1.out.set 24 (.int .i64 (r.le.f - q.f))).set 25 (.int .i64 (r.le.e - q.e))).set 26 (.int .i64 (r.le.x - q.x)))
    go_wp2
    go_ret
    exact ⟨rfl, HF2.out, HG2.out⟩
end Go.Proofs.Ytoddadohmnaolab

namespace Go.Proofs.Ytoddadohmnaolab
open Go.RowKit Go.Shelf

section
variable {P : Program} {ops : Array Oper} {Q : Exit → Act → World → Prop} {S : World → Prop} {fuel : Nat} {listed : Array Bool} {a : Act} {w : World}
/-- what its guard leaves out -/
theorem hd_skip (i : Nat) {o : Oper} (hs : Region.noSelect ops = true) (hf : Region.free .any ops listed i = true) (hr : (Region.ready .any ops listed).contains i = true) (ho : ops[i]? = some o) (hw : Region.wanted o (yielded ops a.tmps) = false)
    (hQ : ∀ c a w, Q (.panic c) (a.put o.dst undef) w → Q (.panic c) a w) (h0 : S w) (h : wpAnyH P .any ops Q S fuel (listed.setIfInBounds i true) (a.put o.dst undef) w) : wpAnyH P .any ops Q S (fuel + 1) listed a w :=
  wpAnyH_take ho hs hf hr hQ (Or.inr ⟨hw, rfl⟩) h0 h
end
set_option maxRecDepth 100000 in
set_option maxHeartbeats 3200000 in
theorem payBad_any (w : World) (b : Nat) (q : Qt) (hg : ¬ q.good) : Calls Try.prog 59 #[.pointer (some ⟨b, 21, none⟩), q.val] w fun e w' => e = .returned (.int .i64 1) ∧ Below w.heap.size w w' := by
  have hb1 := (Below.refl w.heap.size w).alloc (Nat.le_refl _) (.cells #[.int .i64 q.f, .int .i64 q.e, .int .i64 q.x] 32)
  have HB1 := hide hb1
  have HC1 := hide (fun W => isGood_any W q)
  rw [show decide q.good = false by simpa using hg] at HC1
  clear hb1 hg
  unfold Qt.val at *
  go_enter Try.func59, Try.ntmps59
  go_wp2_with fail
  refine (HC1.out _).mono ?_
  rintro e1 w2 ⟨rfl, hb2⟩
  have HB2 := hide (HB1.out.trans (hb2.mono HB1.out.size))
  clear hb2
  go_wp2
  go_ret
  exact ⟨rfl, HB2.out⟩
set_option maxRecDepth 100000 in
set_option maxHeartbeats 3200000 in
theorem payFull_any (w : World) (b : Nat) (r : Er) (h : Rb w b r) (q : Qt) (hg : q.good) (hf : ¬ q.le r.le) : Calls Try.prog 59 #[.pointer (some ⟨b, 21, none⟩), q.val] w fun e w' => e = .returned (.int .i64 2) ∧ Below w.heap.size w w' := by
  have hb1 := (Below.refl w.heap.size w).alloc (Nat.le_refl _) (.cells #[.int .i64 q.f, .int .i64 q.e, .int .i64 q.x] 32)
  have a1 := heap_alloc_new w (.cells #[.int .i64 q.f, .int .i64 q.e, .int .i64 q.x] 32)
  have HR := hide (h.keep (hb1.block b h.lt))
  have HB1 := hide hb1
  have HA := hide a1
  have HC1 := hide (fun W => isGood_any W q)
  rw [show decide q.good = true by simpa using hg] at HC1
  have HC2 := hide (fun W (hb : Rb W b r) => affords_any W b r hb q)
  rw [show decide (q.le r.le) = false by simpa using hf] at HC2
  clear hb1 hg h hf a1
  unfold Qt.val at *
  go_enter Try.func59, Try.ntmps59
  go_wp2_with fail
  refine (HC1.out _).mono ?_
  rintro e1 w2 ⟨rfl, hb2⟩
  have HB2 := hide (HB1.out.trans (hb2.mono HB1.out.size))
  have HR2 := hide (HR.out.keep (hb2.block b HR.out.lt))
  have a2 := (hb2.block _ (Array.getElem?_eq_some_iff.1 HA.out).1).trans HA.out
  obtain ⟨c0, c1, c2, -, -, -⟩ := blk3 a2
  clear hb2 HB1 HR a2
  go_wp2_with fail
  refine (HC2.out _ HR2.out).mono ?_
  rintro e1 w3 ⟨rfl, hb3⟩
  have HB3 := hide (HB2.out.trans (hb3.mono HB2.out.size))
  clear hb3
  go_wp2
  go_ret
  exact ⟨rfl, HB3.out⟩
set_option maxRecDepth 100000 in
set_option maxHeartbeats 6400000 in
theorem refundOk_any (w : World) (b : Nat) (r : Er) (h : Rb w b r) (q : Qt) (hg : q.good) (hq : q.ok) (hf : q.le r.pd) (hle : r.le.ok) (hpd : r.pd.ok) : Calls Try.prog 60 #[.pointer (some ⟨b, 21, none⟩), q.val] w fun e w' => e = .returned (.int .i64 0) ∧ Rb w' b { r with pd := r.pd.less q, le := r.le.plus q } ∧ At w b w' := by
  have hb1 := (Below.refl w.heap.size w).alloc (Nat.le_refl _) (.cells #[.int .i64 q.f, .int .i64 q.e, .int .i64 q.x] 32)
  have a1 := heap_alloc_new w (.cells #[.int .i64 q.f, .int .i64 q.e, .int .i64 q.x] 32)
  have hR := h.keep (hb1.block b h.lt)
  have HA1 := hide (At.of_below (b := b) hb1)
  have HNE : Hid (w.heap.size ≠ b) := hide (fun e => by have := h.lt; omega)
  have HC1 := hide (fun W => isGood_any W q)
  rw [show decide q.good = true by simpa using hg] at HC1
  have HC2 := hide (fun W => fits_any W q r.pd)
  rw [show decide (q.le r.pd) = true by simpa using hf] at HC2
  have HP := hide (fun W => plus_any W r.le q hle hq)
  have HL := hide (fun W => less_any W r.pd q hpd hq)
  clear h hb1 hg hq hf hle hpd
  unfold Qt.val at *
  simp only [Qt.less] at HL
  simp only [Qt.plus] at HP
  go_enter Try.func60, Try.ntmps60
  go_upto_region 1 with fail
  generalize w.alloc (.cells #[.int .i64 q.f, .int .i64 q.e, .int .i64 q.x] 32) = w1 at *
  obtain ⟨N, hN⟩ : ∃ N, w.heap.size = N := ⟨_, rfl⟩
  rw [hN] at a1 HNE ⊢
  clear hN
  have HR1 := hide hR
  have HN1 := hide a1
  clear hR a1
  obtain ⟨w2, hw2⟩ : ∃ w2, w2 = w1.drew := ⟨_, rfl⟩
  have HS : Hid (w2.heap[N]? = some (.cells #[.int .i64 q.f, .int .i64 q.e, .int .i64 q.x] 32 (0, 0)) ∧ Rb w2 b r) := by rw [hw2]; exact hide ⟨HN1.out, ⟨HR1.out.out⟩⟩
  have HT2 : Hid (At w b w2) := by rw [hw2]; exact ⟨HA1.out.os, HA1.out.tape, HA1.out.output, HA1.out.size, HA1.out.block⟩
  clear HN1 HR1 HA1
  refine wp_region_held_drew (S := fun W => W.heap[N]? = some (.cells #[.int .i64 q.f, .int .i64 q.e, .int .i64 q.x] 32 (0, 0)) ∧ Rb W b r) (by kernel_rfl) (by rw [← hw2]; exact HS.out) (fun _ => ?_)
  rw [← hw2]
  clear hw2
  refine hd_take 0 (o := ⟨some 5, _, _, _, _, _⟩) (.agg #[.int .i64 q.f, .int .i64 q.e, .int .i64 q.x]) (by kernel_rfl) (by kernel_rfl) (by kernel_rfl) rfl (by rfl) (fun W hSw => by obtain ⟨q9, q8⟩ := hSw; obtain ⟨c0, c1, c2, -, -, -⟩ := blk3 q9; go_simp) (fun _ _ _ h => h) HS.out ?_
  try simp only [Act.put, List.setIfInBounds_toArray, List.set_cons_zero, List.set_cons_succ]
  refine hd_call 1 (o := ⟨some 6, _, _, _, _, _⟩) (by kernel_rfl) rfl (by rfl) (fun K hK => ?_)
  go_simp
  go_wp2_with (go_at_call 51; refine (HC1.out _).mono ?_; rintro e1 w3 ⟨rfl, hb3⟩)
  have HS3 : Hid (w3.heap[N]? = some (.cells #[.int .i64 q.f, .int .i64 q.e, .int .i64 q.x] 32 (0, 0)) ∧ Rb w3 b r) := hide ⟨(hb3.block N (Array.getElem?_eq_some_iff.1 HS.out.1).1).trans HS.out.1, HS.out.2.keep (hb3.block b HS.out.2.lt)⟩
  have HT3 := hide (HT2.out.below hb3)
  clear hb3 HS HT2
  refine hK _ _ HS3.out ?_
  clear hK K
  try simp only [Act.put, List.setIfInBounds_toArray, List.set_cons_zero, List.set_cons_succ]
  refine hd_take 2 (o := ⟨some 7, _, _, _, _, _⟩) (.bool false) (by kernel_rfl) (by kernel_rfl) (by kernel_rfl) rfl (by rfl) (fun W hSw => by go_simp) (fun _ _ _ h => h) HS3.out ?_
  try simp only [Act.put, List.setIfInBounds_toArray, List.set_cons_zero, List.set_cons_succ]
  refine hd_take 3 (o := ⟨some 8, _, _, _, _, _⟩) (.bool false) (by kernel_rfl) (by kernel_rfl) (by kernel_rfl) rfl (by rfl) (fun W hSw => by go_simp) (fun _ _ _ h => h) HS3.out ?_
  try simp only [Act.put, List.setIfInBounds_toArray, List.set_cons_zero, List.set_cons_succ]
  refine hd_take 4 (o := ⟨some 9, _, _, _, _, _⟩) (.agg #[.int .i64 q.f, .int .i64 q.e, .int .i64 q.x]) (by kernel_rfl) (by kernel_rfl) (by kernel_rfl) rfl (by rfl) (fun W hSw => by obtain ⟨q9, q8⟩ := hSw; obtain ⟨c0, c1, c2, -, -, -⟩ := blk3 q9; go_simp) (fun _ _ _ h => h) HS3.out ?_
  try simp only [Act.put, List.setIfInBounds_toArray, List.set_cons_zero, List.set_cons_succ]
  refine hd_take 5 (o := ⟨some 10, _, _, _, _, _⟩) (.pointer (some ⟨b, 21, none⟩)) (by kernel_rfl) (by kernel_rfl) (by kernel_rfl) rfl (by rfl) (fun W hSw => by go_simp) (fun _ _ _ h => h) HS3.out ?_
  try simp only [Act.put, List.setIfInBounds_toArray, List.set_cons_zero, List.set_cons_succ]
  refine hd_take 6 (o := ⟨some 11, _, _, _, _, _⟩) (.pointer (some ⟨b, 21, none⟩)) (by kernel_rfl) (by kernel_rfl) (by kernel_rfl) rfl (by rfl) (fun W hSw => by go_simp) (fun _ _ _ h => h) HS3.out ?_
  try simp only [Act.put, List.setIfInBounds_toArray, List.set_cons_zero, List.set_cons_succ]
  refine hd_take 7 (o := ⟨some 12, _, _, _, _, _⟩) (.pointer (some ⟨b, 21, none⟩)) (by kernel_rfl) (by kernel_rfl) (by kernel_rfl) rfl (by rfl) (fun W hSw => by go_simp) (fun _ _ _ h => h) HS3.out ?_
  try simp only [Act.put, List.setIfInBounds_toArray, List.set_cons_zero, List.set_cons_succ]
  refine hd_take 8 (o := ⟨some 13, _, _, _, _, _⟩) (.agg #[.int .i64 r.pd.f, .int .i64 r.pd.e, .int .i64 r.pd.x]) (by kernel_rfl) (by kernel_rfl) (by kernel_rfl) rfl (by rfl) (fun W hSw => by obtain ⟨q9, q8⟩ := hSw; have d0 := q8.get (j := 21) rfl; have d1 := q8.get (j := 22) rfl; have d2 := q8.get (j := 23) rfl; go_simp) (fun _ _ _ h => h) HS3.out ?_
  try simp only [Act.put, List.setIfInBounds_toArray, List.set_cons_zero, List.set_cons_succ]
  refine hd_call 9 (o := ⟨some 14, _, _, _, _, _⟩) (by kernel_rfl) rfl (by rfl) (fun K hK => ?_)
  go_simp
  go_wp2_with (go_at_call 72; refine (HC2.out _).mono ?_; rintro e1 w4 ⟨rfl, hb4⟩)
  have HS4 : Hid (w4.heap[N]? = some (.cells #[.int .i64 q.f, .int .i64 q.e, .int .i64 q.x] 32 (0, 0)) ∧ Rb w4 b r) := hide ⟨(hb4.block N (Array.getElem?_eq_some_iff.1 HS3.out.1).1).trans HS3.out.1, HS3.out.2.keep (hb4.block b HS3.out.2.lt)⟩
  have HT4 := hide (HT3.out.below hb4)
  clear hb4 HS3 HT3
  refine hK _ _ HS4.out ?_
  clear hK K
  try simp only [Act.put, List.setIfInBounds_toArray, List.set_cons_zero, List.set_cons_succ]
  refine hd_take 10 (o := ⟨some 15, _, _, _, _, _⟩) (.bool false) (by kernel_rfl) (by kernel_rfl) (by kernel_rfl) rfl (by rfl) (fun W hSw => by go_simp) (fun _ _ _ h => h) HS4.out ?_
  try simp only [Act.put, List.setIfInBounds_toArray, List.set_cons_zero, List.set_cons_succ]
  refine hd_take 11 (o := ⟨some 16, _, _, _, _, _⟩) (.bool false) (by kernel_rfl) (by kernel_rfl) (by kernel_rfl) rfl (by rfl) (fun W hSw => by go_simp) (fun _ _ _ h => h) HS4.out ?_
  try simp only [Act.put, List.setIfInBounds_toArray, List.set_cons_zero, List.set_cons_succ]
  refine wpAnyH_done (by kernel_rfl) ?_ _
  have HRC := hide HS4.out.2
  have HNC := hide HS4.out.1
  have HAC := HT4
  clear HS4 HT4
  go_upto_region 3 with fail
  obtain ⟨w3, hw3⟩ : ∃ w3, w3 = w4.drew := ⟨_, rfl⟩
  have hR3 : Rb w3 b r := by rw [hw3]; exact ⟨HRC.out.out⟩
  have a3 : w3.heap[N]? = some (.cells #[.int .i64 q.f, .int .i64 q.e, .int .i64 q.x] 32 (0, 0)) := by rw [hw3]; exact HNC.out
  have HA3 : Hid (At w b w3) := by rw [hw3]; exact ⟨HAC.out.os, HAC.out.tape, HAC.out.output, HAC.out.size, HAC.out.block⟩
  have HR3 := hide hR3
  have HA := hide a3
  clear hR3 HRC HNC HAC
  refine wp_region_held_drew (S := fun W => W.heap[N]? = some (.cells #[.int .i64 q.f, .int .i64 q.e, .int .i64 q.x] 32 (0, 0))) (by kernel_rfl) (by rw [← hw3]; exact a3) (fun _ => ?_)
  rw [← hw3]
  clear hw3 a3
  refine hd_take 0 (o := ⟨some 17, _, _, _, _, _⟩) (.pointer (some ⟨b, 21, none⟩)) (by kernel_rfl) (by kernel_rfl) (by kernel_rfl) rfl (by rfl) (fun W hSw => by go_simp) (fun _ _ _ h => h) HA.out ?_
  try simp only [Act.put, List.setIfInBounds_toArray, List.set_cons_zero, List.set_cons_succ]
  refine hd_take 1 (o := ⟨some 18, _, _, _, _, _⟩) (.pointer (some ⟨b, 21, none⟩)) (by kernel_rfl) (by kernel_rfl) (by kernel_rfl) rfl (by rfl) (fun W hSw => by go_simp) (fun _ _ _ h => h) HA.out ?_
  try simp only [Act.put, List.setIfInBounds_toArray, List.set_cons_zero, List.set_cons_succ]
  refine hd_take 2 (o := ⟨some 19, _, _, _, _, _⟩) (.pointer (some ⟨b, 21, none⟩)) (by kernel_rfl) (by kernel_rfl) (by kernel_rfl) rfl (by rfl) (fun W hSw => by go_simp) (fun _ _ _ h => h) HA.out ?_
  try simp only [Act.put, List.setIfInBounds_toArray, List.set_cons_zero, List.set_cons_succ]
  refine hd_take 3 (o := ⟨some 20, _, _, _, _, _⟩) (.pointer (some ⟨b, 21, none⟩)) (by kernel_rfl) (by kernel_rfl) (by kernel_rfl) rfl (by rfl) (fun W hSw => by go_simp) (fun _ _ _ h => h) HA.out ?_
  try simp only [Act.put, List.setIfInBounds_toArray, List.set_cons_zero, List.set_cons_succ]
  refine hd_take 4 (o := ⟨some 21, _, _, _, _, _⟩) (.pointer (some ⟨b, 21, none⟩)) (by kernel_rfl) (by kernel_rfl) (by kernel_rfl) rfl (by rfl) (fun W hSw => by go_simp) (fun _ _ _ h => h) HA.out ?_
  try simp only [Act.put, List.setIfInBounds_toArray, List.set_cons_zero, List.set_cons_succ]
  refine hd_take 6 (o := ⟨some 23, _, _, _, _, _⟩) (.agg #[.int .i64 q.f, .int .i64 q.e, .int .i64 q.x]) (by kernel_rfl) (by kernel_rfl) (by kernel_rfl) rfl (by rfl) (fun W hSw => by obtain ⟨c0, c1, c2, -, -, -⟩ := blk3 hSw; go_simp) (fun _ _ _ h => h) HA.out ?_
  try simp only [Act.put, List.setIfInBounds_toArray, List.set_cons_zero, List.set_cons_succ]
  refine hd_take 8 (o := ⟨some 25, _, _, _, _, _⟩) (.pointer (some ⟨b, 21, none⟩)) (by kernel_rfl) (by kernel_rfl) (by kernel_rfl) rfl (by rfl) (fun W hSw => by go_simp) (fun _ _ _ h => h) HA.out ?_
  try simp only [Act.put, List.setIfInBounds_toArray, List.set_cons_zero, List.set_cons_succ]
  refine hd_take 9 (o := ⟨some 26, _, _, _, _, _⟩) (.pointer (some ⟨b, 21, none⟩)) (by kernel_rfl) (by kernel_rfl) (by kernel_rfl) rfl (by rfl) (fun W hSw => by go_simp) (fun _ _ _ h => h) HA.out ?_
  try simp only [Act.put, List.setIfInBounds_toArray, List.set_cons_zero, List.set_cons_succ]
  refine hd_take 10 (o := ⟨some 27, _, _, _, _, _⟩) (.pointer (some ⟨b, 24, none⟩)) (by kernel_rfl) (by kernel_rfl) (by kernel_rfl) rfl (by rfl) (fun W hSw => by go_simp) (fun _ _ _ h => h) HA.out ?_
  try simp only [Act.put, List.setIfInBounds_toArray, List.set_cons_zero, List.set_cons_succ]
  refine hd_take 12 (o := ⟨some 29, _, _, _, _, _⟩) (.agg #[.int .i64 q.f, .int .i64 q.e, .int .i64 q.x]) (by kernel_rfl) (by kernel_rfl) (by kernel_rfl) rfl (by rfl) (fun W hSw => by obtain ⟨c0, c1, c2, -, -, -⟩ := blk3 hSw; go_simp) (fun _ _ _ h => h) HA.out ?_
  try simp only [Act.put, List.setIfInBounds_toArray, List.set_cons_zero, List.set_cons_succ]
  refine hd_two 5 11 (o1 := ⟨some 22, _, _, _, _, _⟩) (o2 := ⟨some 28, _, _, _, _, _⟩) (by kernel_rfl) rfl rfl (by rfl) (by rfl) (fun K hK => ?_) (fun K hK => ?_)
  · have d0 := HR3.out.get (j := 21) rfl
    have d1 := HR3.out.get (j := 22) rfl
    have d2 := HR3.out.get (j := 23) rfl
    go_simp
    refine hK _ _ HA.out ?_
    clear hK K d0 d1 d2
    try simp only [Act.put, List.setIfInBounds_toArray, List.set_cons_zero, List.set_cons_succ]
    refine hd_two 7 11 (o1 := ⟨some 24, _, _, _, _, _⟩) (o2 := ⟨some 28, _, _, _, _, _⟩) (by kernel_rfl) rfl rfl (by rfl) (by rfl) (fun K hK => ?_) (fun K hK => ?_)
    · go_simp
      go_wp2_with (go_at_call 74; refine (HL.out _).mono ?_; rintro e1 w7 ⟨rfl, hb7⟩)
      have HA7 : Hid (w7.heap[N]? = some (.cells #[.int .i64 q.f, .int .i64 q.e, .int .i64 q.x] 32 (0, 0))) := hide ((hb7.block N (Array.getElem?_eq_some_iff.1 HA.out).1).trans HA.out)
      have HR7 : Hid (Rb w7 b r) := hide (HR3.out.keep (hb7.block b HR3.out.lt))
      have HT7 := hide (HA3.out.below hb7)
      clear hb7
      refine hK _ _ HA7.out ?_
      clear hK K
      try simp only [Act.put, List.setIfInBounds_toArray, List.set_cons_zero, List.set_cons_succ]
      refine hd_call 11 (o := ⟨some 28, _, _, _, _, _⟩) (by kernel_rfl) rfl (by rfl) (fun K hK => ?_)
      have d0 := HR7.out.get (j := 24) rfl
      have d1 := HR7.out.get (j := 25) rfl
      have d2 := HR7.out.get (j := 26) rfl
      go_simp
      refine hK _ _ HA7.out ?_
      clear hK K d0 d1 d2
      try simp only [Act.put, List.setIfInBounds_toArray, List.set_cons_zero, List.set_cons_succ]
      refine hd_call 13 (o := ⟨some 30, _, _, _, _, _⟩) (by kernel_rfl) rfl (by rfl) (fun K hK => ?_)
      go_simp
      go_wp2_with (go_at_call 73; refine (HP.out _).mono ?_; rintro e1 w13 ⟨rfl, hb13⟩)
      have HA13 : Hid (w13.heap[N]? = some (.cells #[.int .i64 q.f, .int .i64 q.e, .int .i64 q.x] 32 (0, 0))) := hide ((hb13.block N (Array.getElem?_eq_some_iff.1 HA7.out).1).trans HA7.out)
      have HR13 : Hid (Rb w13 b r) := hide (HR7.out.keep (hb13.block b HR7.out.lt))
      have HT13 := hide (HT7.out.below hb13)
      clear hb13
      refine hK _ _ HA13.out ?_
      clear hK K
      try simp only [Act.put, List.setIfInBounds_toArray, List.set_cons_zero, List.set_cons_succ]
      refine hd_take 14 (o := ⟨some 31, _, _, _, _, _⟩) (.pointer (some ⟨b, 21, none⟩)) (by kernel_rfl) (by kernel_rfl) (by kernel_rfl) rfl (by rfl) (fun W hSw => by go_simp) (fun _ _ _ h => h) HA13.out ?_
      try simp only [Act.put, List.setIfInBounds_toArray, List.set_cons_zero, List.set_cons_succ]
      refine hd_take 15 (o := ⟨some 32, _, _, _, _, _⟩) (.pointer (some ⟨b, 21, none⟩)) (by kernel_rfl) (by kernel_rfl) (by kernel_rfl) rfl (by rfl) (fun W hSw => by go_simp) (fun _ _ _ h => h) HA13.out ?_
      try simp only [Act.put, List.setIfInBounds_toArray, List.set_cons_zero, List.set_cons_succ]
      have d0 := HR13.out.get (j := 21) rfl
      have f0 := HR13.out.frz 21
      have d1 := HR13.out.get (j := 22) rfl
      have f1 := HR13.out.frz 22
      have d2 := HR13.out.get (j := 23) rfl
      have f2 := HR13.out.frz 23
      have d3 := HR13.out.get (j := 24) rfl
      have f3 := HR13.out.frz 24
      have d4 := HR13.out.get (j := 25) rfl
      have f4 := HR13.out.frz 25
      have d5 := HR13.out.get (j := 26) rfl
      have f5 := HR13.out.frz 26
      refine hd_call 16 (o := ⟨none, _, _, _, _, _⟩) (by kernel_rfl) rfl (by rfl) (fun K hK => ?_)
      go_simp
      refine hK _ _ (by rw [heap_setCell_other _ _ _ _ HNE.out, heap_setCell_other _ _ _ _ HNE.out, heap_setCell_other _ _ _ _ HNE.out]; exact HA13.out) ?_
      clear hK K
      have HF1 : Hid (Rb (((w13.setCell ⟨b, 21, none⟩ (.int .i64 (r.pd.f - q.f))).setCell ⟨b, 22, none⟩ (.int .i64 (r.pd.e - q.e))).setCell ⟨b, 23, none⟩ (.int .i64 (r.pd.x - q.x))) b { r with pd := ⟨r.pd.f - q.f, r.pd.e - q.e, r.pd.x - q.x⟩ }) := hide (Rb.set (e := { r with pd := ⟨r.pd.f - q.f, r.pd.e - q.e, r.pd.x⟩ }) (Rb.set (e := { r with pd := ⟨r.pd.f - q.f, r.pd.e, r.pd.x⟩ }) (HR13.out.set rfl) rfl) rfl)
      have HG1 := hide (((HT13.out.set 21 (.int .i64 (r.pd.f - q.f))).set 22 (.int .i64 (r.pd.e - q.e))).set 23 (.int .i64 (r.pd.x - q.x)))
      have HA1 : Hid ((((w13.setCell ⟨b, 21, none⟩ (.int .i64 (r.pd.f - q.f))).setCell ⟨b, 22, none⟩ (.int .i64 (r.pd.e - q.e))).setCell ⟨b, 23, none⟩ (.int .i64 (r.pd.x - q.x))).heap[N]? = some (.cells #[.int .i64 q.f, .int .i64 q.e, .int .i64 q.x] 32 (0, 0))) := hide (by rw [heap_setCell_other _ _ _ _ HNE.out, heap_setCell_other _ _ _ _ HNE.out, heap_setCell_other _ _ _ _ HNE.out]; exact HA13.out)
      clear d0 d1 d2 d3 d4 d5 f0 f1 f2 f3 f4 f5
      generalize (((w13.setCell ⟨b, 21, none⟩ (.int .i64 (r.pd.f - q.f))).setCell ⟨b, 22, none⟩ (.int .i64 (r.pd.e - q.e))).setCell ⟨b, 23, none⟩ (.int .i64 (r.pd.x - q.x))) = wz at *
      try simp only [Act.put, List.setIfInBounds_toArray, List.set_cons_zero, List.set_cons_succ]
      refine hd_take 17 (o := ⟨some 33, _, _, _, _, _⟩) (.pointer (some ⟨b, 21, none⟩)) (by kernel_rfl) (by kernel_rfl) (by kernel_rfl) rfl (by rfl) (fun W hSw => by go_simp) (fun _ _ _ h => h) HA1.out ?_
      try simp only [Act.put, List.setIfInBounds_toArray, List.set_cons_zero, List.set_cons_succ]
      refine hd_take 18 (o := ⟨some 34, _, _, _, _, _⟩) (.pointer (some ⟨b, 24, none⟩)) (by kernel_rfl) (by kernel_rfl) (by kernel_rfl) rfl (by rfl) (fun W hSw => by go_simp) (fun _ _ _ h => h) HA1.out ?_
      try simp only [Act.put, List.setIfInBounds_toArray, List.set_cons_zero, List.set_cons_succ]
      have d0 := HF1.out.get (j := 24) rfl
      have f0 := HF1.out.frz 24
      have d1 := HF1.out.get (j := 25) rfl
      have f1 := HF1.out.frz 25
      have d2 := HF1.out.get (j := 26) rfl
      have f2 := HF1.out.frz 26
      refine hd_call 19 (o := ⟨none, _, _, _, _, _⟩) (by kernel_rfl) rfl (by rfl) (fun K hK => ?_)
      go_simp
      refine hK _ _ (by rw [heap_setCell_other _ _ _ _ HNE.out, heap_setCell_other _ _ _ _ HNE.out, heap_setCell_other _ _ _ _ HNE.out]; exact HA1.out) ?_
      clear hK K
      refine wpAnyH_done (by kernel_rfl) ?_ _
      have HF2 := hide (Rb.set (e' := { r with pd := ⟨r.pd.f - q.f, r.pd.e - q.e, r.pd.x - q.x⟩, le := ⟨r.le.f + q.f, r.le.e + q.e, r.le.x + q.x⟩ }) (u := .int .i64 (r.le.x + q.x)) (j := 26) (Rb.set (e' := { r with pd := ⟨r.pd.f - q.f, r.pd.e - q.e, r.pd.x - q.x⟩, le := ⟨r.le.f + q.f, r.le.e + q.e, r.le.x⟩ }) (u := .int .i64 (r.le.e + q.e)) (j := 25) (Rb.set (e' := { r with pd := ⟨r.pd.f - q.f, r.pd.e - q.e, r.pd.x - q.x⟩, le := ⟨r.le.f + q.f, r.le.e, r.le.x⟩ }) (u := .int .i64 (r.le.f + q.f)) (j := 24) HF1.out rfl) rfl) rfl)
      have HG2 := hide (((HG1.out.set 24 (.int .i64 (r.le.f + q.f))).set 25 (.int .i64 (r.le.e + q.e))).set 26 (.int .i64 (r.le.x + q.x)))
      go_wp2
      go_ret
      exact ⟨rfl, HF2.out, HG2.out⟩
    · have d0 := HR3.out.get (j := 24) rfl
      have d1 := HR3.out.get (j := 25) rfl
      have d2 := HR3.out.get (j := 26) rfl
      go_simp
      refine hK _ _ HA.out ?_
      clear hK K d0 d1 d2
      try simp only [Act.put, List.setIfInBounds_toArray, List.set_cons_zero, List.set_cons_succ]
      refine hd_call 7 (o := ⟨some 24, _, _, _, _, _⟩) (by kernel_rfl) rfl (by rfl) (fun K hK => ?_)
      go_simp
      go_wp2_with (go_at_call 74; refine (HL.out _).mono ?_; rintro e1 w7 ⟨rfl, hb7⟩)
      have HA7 : Hid (w7.heap[N]? = some (.cells #[.int .i64 q.f, .int .i64 q.e, .int .i64 q.x] 32 (0, 0))) := hide ((hb7.block N (Array.getElem?_eq_some_iff.1 HA.out).1).trans HA.out)
      have HR7 : Hid (Rb w7 b r) := hide (HR3.out.keep (hb7.block b HR3.out.lt))
      have HT7 := hide (HA3.out.below hb7)
      clear hb7
      refine hK _ _ HA7.out ?_
      clear hK K
      try simp only [Act.put, List.setIfInBounds_toArray, List.set_cons_zero, List.set_cons_succ]
      refine hd_call 13 (o := ⟨some 30, _, _, _, _, _⟩) (by kernel_rfl) rfl (by rfl) (fun K hK => ?_)
      go_simp
      go_wp2_with (go_at_call 73; refine (HP.out _).mono ?_; rintro e1 w13 ⟨rfl, hb13⟩)
      have HA13 : Hid (w13.heap[N]? = some (.cells #[.int .i64 q.f, .int .i64 q.e, .int .i64 q.x] 32 (0, 0))) := hide ((hb13.block N (Array.getElem?_eq_some_iff.1 HA7.out).1).trans HA7.out)
      have HR13 : Hid (Rb w13 b r) := hide (HR7.out.keep (hb13.block b HR7.out.lt))
      have HT13 := hide (HT7.out.below hb13)
      clear hb13
      refine hK _ _ HA13.out ?_
      clear hK K
      try simp only [Act.put, List.setIfInBounds_toArray, List.set_cons_zero, List.set_cons_succ]
      refine hd_take 14 (o := ⟨some 31, _, _, _, _, _⟩) (.pointer (some ⟨b, 21, none⟩)) (by kernel_rfl) (by kernel_rfl) (by kernel_rfl) rfl (by rfl) (fun W hSw => by go_simp) (fun _ _ _ h => h) HA13.out ?_
      try simp only [Act.put, List.setIfInBounds_toArray, List.set_cons_zero, List.set_cons_succ]
      refine hd_take 15 (o := ⟨some 32, _, _, _, _, _⟩) (.pointer (some ⟨b, 21, none⟩)) (by kernel_rfl) (by kernel_rfl) (by kernel_rfl) rfl (by rfl) (fun W hSw => by go_simp) (fun _ _ _ h => h) HA13.out ?_
      try simp only [Act.put, List.setIfInBounds_toArray, List.set_cons_zero, List.set_cons_succ]
      have d0 := HR13.out.get (j := 21) rfl
      have f0 := HR13.out.frz 21
      have d1 := HR13.out.get (j := 22) rfl
      have f1 := HR13.out.frz 22
      have d2 := HR13.out.get (j := 23) rfl
      have f2 := HR13.out.frz 23
      have d3 := HR13.out.get (j := 24) rfl
      have f3 := HR13.out.frz 24
      have d4 := HR13.out.get (j := 25) rfl
      have f4 := HR13.out.frz 25
      have d5 := HR13.out.get (j := 26) rfl
      have f5 := HR13.out.frz 26
      refine hd_call 16 (o := ⟨none, _, _, _, _, _⟩) (by kernel_rfl) rfl (by rfl) (fun K hK => ?_)
      go_simp
      refine hK _ _ (by rw [heap_setCell_other _ _ _ _ HNE.out, heap_setCell_other _ _ _ _ HNE.out, heap_setCell_other _ _ _ _ HNE.out]; exact HA13.out) ?_
      clear hK K
      have HF1 : Hid (Rb (((w13.setCell ⟨b, 21, none⟩ (.int .i64 (r.pd.f - q.f))).setCell ⟨b, 22, none⟩ (.int .i64 (r.pd.e - q.e))).setCell ⟨b, 23, none⟩ (.int .i64 (r.pd.x - q.x))) b { r with pd := ⟨r.pd.f - q.f, r.pd.e - q.e, r.pd.x - q.x⟩ }) := hide (Rb.set (e := { r with pd := ⟨r.pd.f - q.f, r.pd.e - q.e, r.pd.x⟩ }) (Rb.set (e := { r with pd := ⟨r.pd.f - q.f, r.pd.e, r.pd.x⟩ }) (HR13.out.set rfl) rfl) rfl)
      have HG1 := hide (((HT13.out.set 21 (.int .i64 (r.pd.f - q.f))).set 22 (.int .i64 (r.pd.e - q.e))).set 23 (.int .i64 (r.pd.x - q.x)))
      have HA1 : Hid ((((w13.setCell ⟨b, 21, none⟩ (.int .i64 (r.pd.f - q.f))).setCell ⟨b, 22, none⟩ (.int .i64 (r.pd.e - q.e))).setCell ⟨b, 23, none⟩ (.int .i64 (r.pd.x - q.x))).heap[N]? = some (.cells #[.int .i64 q.f, .int .i64 q.e, .int .i64 q.x] 32 (0, 0))) := hide (by rw [heap_setCell_other _ _ _ _ HNE.out, heap_setCell_other _ _ _ _ HNE.out, heap_setCell_other _ _ _ _ HNE.out]; exact HA13.out)
      clear d0 d1 d2 d3 d4 d5 f0 f1 f2 f3 f4 f5
      generalize (((w13.setCell ⟨b, 21, none⟩ (.int .i64 (r.pd.f - q.f))).setCell ⟨b, 22, none⟩ (.int .i64 (r.pd.e - q.e))).setCell ⟨b, 23, none⟩ (.int .i64 (r.pd.x - q.x))) = wz at *
      try simp only [Act.put, List.setIfInBounds_toArray, List.set_cons_zero, List.set_cons_succ]
      refine hd_take 17 (o := ⟨some 33, _, _, _, _, _⟩) (.pointer (some ⟨b, 21, none⟩)) (by kernel_rfl) (by kernel_rfl) (by kernel_rfl) rfl (by rfl) (fun W hSw => by go_simp) (fun _ _ _ h => h) HA1.out ?_
      try simp only [Act.put, List.setIfInBounds_toArray, List.set_cons_zero, List.set_cons_succ]
      refine hd_take 18 (o := ⟨some 34, _, _, _, _, _⟩) (.pointer (some ⟨b, 24, none⟩)) (by kernel_rfl) (by kernel_rfl) (by kernel_rfl) rfl (by rfl) (fun W hSw => by go_simp) (fun _ _ _ h => h) HA1.out ?_
      try simp only [Act.put, List.setIfInBounds_toArray, List.set_cons_zero, List.set_cons_succ]
      have d0 := HF1.out.get (j := 24) rfl
      have f0 := HF1.out.frz 24
      have d1 := HF1.out.get (j := 25) rfl
      have f1 := HF1.out.frz 25
      have d2 := HF1.out.get (j := 26) rfl
      have f2 := HF1.out.frz 26
      refine hd_call 19 (o := ⟨none, _, _, _, _, _⟩) (by kernel_rfl) rfl (by rfl) (fun K hK => ?_)
      go_simp
      refine hK _ _ (by rw [heap_setCell_other _ _ _ _ HNE.out, heap_setCell_other _ _ _ _ HNE.out, heap_setCell_other _ _ _ _ HNE.out]; exact HA1.out) ?_
      clear hK K
      refine wpAnyH_done (by kernel_rfl) ?_ _
      have HF2 := hide (Rb.set (e' := { r with pd := ⟨r.pd.f - q.f, r.pd.e - q.e, r.pd.x - q.x⟩, le := ⟨r.le.f + q.f, r.le.e + q.e, r.le.x + q.x⟩ }) (u := .int .i64 (r.le.x + q.x)) (j := 26) (Rb.set (e' := { r with pd := ⟨r.pd.f - q.f, r.pd.e - q.e, r.pd.x - q.x⟩, le := ⟨r.le.f + q.f, r.le.e + q.e, r.le.x⟩ }) (u := .int .i64 (r.le.e + q.e)) (j := 25) (Rb.set (e' := { r with pd := ⟨r.pd.f - q.f, r.pd.e - q.e, r.pd.x - q.x⟩, le := ⟨r.le.f + q.f, r.le.e, r.le.x⟩ }) (u := .int .i64 (r.le.f + q.f)) (j := 24) HF1.out rfl) rfl) rfl)
      have HG2 := hide (((HG1.out.set 24 (.int .i64 (r.le.f + q.f))).set 25 (.int .i64 (r.le.e + q.e))).set 26 (.int .i64 (r.le.x + q.x)))
      go_wp2
      go_ret
      exact ⟨rfl, HF2.out, HG2.out⟩
  · have d0 := HR3.out.get (j := 24) rfl
    have d1 := HR3.out.get (j := 25) rfl
    have d2 := HR3.out.get (j := 26) rfl
    go_simp
    refine hK _ _ HA.out ?_
    clear hK K d0 d1 d2
    try simp only [Act.put, List.setIfInBounds_toArray, List.set_cons_zero, List.set_cons_succ]
    refine hd_call 5 (o := ⟨some 22, _, _, _, _, _⟩) (by kernel_rfl) rfl (by rfl) (fun K hK => ?_)
    have d0 := HR3.out.get (j := 21) rfl
    have d1 := HR3.out.get (j := 22) rfl
    have d2 := HR3.out.get (j := 23) rfl
    go_simp
    refine hK _ _ HA.out ?_
    clear hK K d0 d1 d2
    try simp only [Act.put, List.setIfInBounds_toArray, List.set_cons_zero, List.set_cons_succ]
    refine hd_call 7 (o := ⟨some 24, _, _, _, _, _⟩) (by kernel_rfl) rfl (by rfl) (fun K hK => ?_)
    go_simp
    go_wp2_with (go_at_call 74; refine (HL.out _).mono ?_; rintro e1 w7 ⟨rfl, hb7⟩)
    have HA7 : Hid (w7.heap[N]? = some (.cells #[.int .i64 q.f, .int .i64 q.e, .int .i64 q.x] 32 (0, 0))) := hide ((hb7.block N (Array.getElem?_eq_some_iff.1 HA.out).1).trans HA.out)
    have HR7 : Hid (Rb w7 b r) := hide (HR3.out.keep (hb7.block b HR3.out.lt))
    have HT7 := hide (HA3.out.below hb7)
    clear hb7
    refine hK _ _ HA7.out ?_
    clear hK K
    try simp only [Act.put, List.setIfInBounds_toArray, List.set_cons_zero, List.set_cons_succ]
    refine hd_call 13 (o := ⟨some 30, _, _, _, _, _⟩) (by kernel_rfl) rfl (by rfl) (fun K hK => ?_)
    go_simp
    go_wp2_with (go_at_call 73; refine (HP.out _).mono ?_; rintro e1 w13 ⟨rfl, hb13⟩)
    have HA13 : Hid (w13.heap[N]? = some (.cells #[.int .i64 q.f, .int .i64 q.e, .int .i64 q.x] 32 (0, 0))) := hide ((hb13.block N (Array.getElem?_eq_some_iff.1 HA7.out).1).trans HA7.out)
    have HR13 : Hid (Rb w13 b r) := hide (HR7.out.keep (hb13.block b HR7.out.lt))
    have HT13 := hide (HT7.out.below hb13)
    clear hb13
    refine hK _ _ HA13.out ?_
    clear hK K
    try simp only [Act.put, List.setIfInBounds_toArray, List.set_cons_zero, List.set_cons_succ]
    refine hd_take 14 (o := ⟨some 31, _, _, _, _, _⟩) (.pointer (some ⟨b, 21, none⟩)) (by kernel_rfl) (by kernel_rfl) (by kernel_rfl) rfl (by rfl) (fun W hSw => by go_simp) (fun _ _ _ h => h) HA13.out ?_
    try simp only [Act.put, List.setIfInBounds_toArray, List.set_cons_zero, List.set_cons_succ]
    refine hd_take 15 (o := ⟨some 32, _, _, _, _, _⟩) (.pointer (some ⟨b, 21, none⟩)) (by kernel_rfl) (by kernel_rfl) (by kernel_rfl) rfl (by rfl) (fun W hSw => by go_simp) (fun _ _ _ h => h) HA13.out ?_
    try simp only [Act.put, List.setIfInBounds_toArray, List.set_cons_zero, List.set_cons_succ]
    have d0 := HR13.out.get (j := 21) rfl
    have f0 := HR13.out.frz 21
    have d1 := HR13.out.get (j := 22) rfl
    have f1 := HR13.out.frz 22
    have d2 := HR13.out.get (j := 23) rfl
    have f2 := HR13.out.frz 23
    have d3 := HR13.out.get (j := 24) rfl
    have f3 := HR13.out.frz 24
    have d4 := HR13.out.get (j := 25) rfl
    have f4 := HR13.out.frz 25
    have d5 := HR13.out.get (j := 26) rfl
    have f5 := HR13.out.frz 26
    refine hd_call 16 (o := ⟨none, _, _, _, _, _⟩) (by kernel_rfl) rfl (by rfl) (fun K hK => ?_)
    go_simp
    refine hK _ _ (by rw [heap_setCell_other _ _ _ _ HNE.out, heap_setCell_other _ _ _ _ HNE.out, heap_setCell_other _ _ _ _ HNE.out]; exact HA13.out) ?_
    clear hK K
    have HF1 : Hid (Rb (((w13.setCell ⟨b, 21, none⟩ (.int .i64 (r.pd.f - q.f))).setCell ⟨b, 22, none⟩ (.int .i64 (r.pd.e - q.e))).setCell ⟨b, 23, none⟩ (.int .i64 (r.pd.x - q.x))) b { r with pd := ⟨r.pd.f - q.f, r.pd.e - q.e, r.pd.x - q.x⟩ }) := hide (Rb.set (e := { r with pd := ⟨r.pd.f - q.f, r.pd.e - q.e, r.pd.x⟩ }) (Rb.set (e := { r with pd := ⟨r.pd.f - q.f, r.pd.e, r.pd.x⟩ }) (HR13.out.set rfl) rfl) rfl)
    have HG1 := hide (((HT13.out.set 21 (.int .i64 (r.pd.f - q.f))).set 22 (.int .i64 (r.pd.e - q.e))).set 23 (.int .i64 (r.pd.x - q.x)))
    have HA1 : Hid ((((w13.setCell ⟨b, 21, none⟩ (.int .i64 (r.pd.f - q.f))).setCell ⟨b, 22, none⟩ (.int .i64 (r.pd.e - q.e))).setCell ⟨b, 23, none⟩ (.int .i64 (r.pd.x - q.x))).heap[N]? = some (.cells #[.int .i64 q.f, .int .i64 q.e, .int .i64 q.x] 32 (0, 0))) := hide (by rw [heap_setCell_other _ _ _ _ HNE.out, heap_setCell_other _ _ _ _ HNE.out, heap_setCell_other _ _ _ _ HNE.out]; exact HA13.out)
    clear d0 d1 d2 d3 d4 d5 f0 f1 f2 f3 f4 f5
    generalize (((w13.setCell ⟨b, 21, none⟩ (.int .i64 (r.pd.f - q.f))).setCell ⟨b, 22, none⟩ (.int .i64 (r.pd.e - q.e))).setCell ⟨b, 23, none⟩ (.int .i64 (r.pd.x - q.x))) = wz at *
    try simp only [Act.put, List.setIfInBounds_toArray, List.set_cons_zero, List.set_cons_succ]
    refine hd_take 17 (o := ⟨some 33, _, _, _, _, _⟩) (.pointer (some ⟨b, 21, none⟩)) (by kernel_rfl) (by kernel_rfl) (by kernel_rfl) rfl (by rfl) (fun W hSw => by go_simp) (fun _ _ _ h => h) HA1.out ?_
    try simp only [Act.put, List.setIfInBounds_toArray, List.set_cons_zero, List.set_cons_succ]
    refine hd_take 18 (o := ⟨some 34, _, _, _, _, _⟩) (.pointer (some ⟨b, 24, none⟩)) (by kernel_rfl) (by kernel_rfl) (by kernel_rfl) rfl (by rfl) (fun W hSw => by go_simp) (fun _ _ _ h => h) HA1.out ?_
    try simp only [Act.put, List.setIfInBounds_toArray, List.set_cons_zero, List.set_cons_succ]
    have d0 := HF1.out.get (j := 24) rfl
    have f0 := HF1.out.frz 24
    have d1 := HF1.out.get (j := 25) rfl
    have f1 := HF1.out.frz 25
    have d2 := HF1.out.get (j := 26) rfl
    have f2 := HF1.out.frz 26
    refine hd_call 19 (o := ⟨none, _, _, _, _, _⟩) (by kernel_rfl) rfl (by rfl) (fun K hK => ?_)
    go_simp
    refine hK _ _ (by rw [heap_setCell_other _ _ _ _ HNE.out, heap_setCell_other _ _ _ _ HNE.out, heap_setCell_other _ _ _ _ HNE.out]; exact HA1.out) ?_
    clear hK K
    refine wpAnyH_done (by kernel_rfl) ?_ _
    have HF2 := hide (Rb.set (e' := { r with pd := ⟨r.pd.f - q.f, r.pd.e - q.e, r.pd.x - q.x⟩, le := ⟨r.le.f + q.f, r.le.e + q.e, r.le.x + q.x⟩ }) (u := .int .i64 (r.le.x + q.x)) (j := 26) (Rb.set (e' := { r with pd := ⟨r.pd.f - q.f, r.pd.e - q.e, r.pd.x - q.x⟩, le := ⟨r.le.f + q.f, r.le.e + q.e, r.le.x⟩ }) (u := .int .i64 (r.le.e + q.e)) (j := 25) (Rb.set (e' := { r with pd := ⟨r.pd.f - q.f, r.pd.e - q.e, r.pd.x - q.x⟩, le := ⟨r.le.f + q.f, r.le.e, r.le.x⟩ }) (u := .int .i64 (r.le.f + q.f)) (j := 24) HF1.out rfl) rfl) rfl)
    have HG2 := hide (((HG1.out.set 24 (.int .i64 (r.le.f + q.f))).set 25 (.int .i64 (r.le.e + q.e))).set 26 (.int .i64 (r.le.x + q.x)))
    go_wp2
    go_ret
    exact ⟨rfl, HF2.out, HG2.out⟩
set_option maxRecDepth 100000 in
set_option maxHeartbeats 6400000 in
theorem refundMore_any (w : World) (b : Nat) (r : Er) (h : Rb w b r) (q : Qt) (hg : q.good) (hf : ¬ q.le r.pd) : Calls Try.prog 60 #[.pointer (some ⟨b, 21, none⟩), q.val] w fun e w' => e = .returned (.int .i64 1) ∧ Rb w' b r ∧ At w b w' := by
  have hb1 := (Below.refl w.heap.size w).alloc (Nat.le_refl _) (.cells #[.int .i64 q.f, .int .i64 q.e, .int .i64 q.x] 32)
  have a1 := heap_alloc_new w (.cells #[.int .i64 q.f, .int .i64 q.e, .int .i64 q.x] 32)
  have hR := h.keep (hb1.block b h.lt)
  have HA1 := hide (At.of_below (b := b) hb1)
  have HNE : Hid (w.heap.size ≠ b) := hide (fun e => by have := h.lt; omega)
  have HC1 := hide (fun W => isGood_any W q)
  rw [show decide q.good = true by simpa using hg] at HC1
  have HC2 := hide (fun W => fits_any W q r.pd)
  rw [show decide (q.le r.pd) = false by simpa using hf] at HC2
  clear h hb1 hg hf
  unfold Qt.val at *
  go_enter Try.func60, Try.ntmps60
  go_upto_region 1 with fail
  generalize w.alloc (.cells #[.int .i64 q.f, .int .i64 q.e, .int .i64 q.x] 32) = w1 at *
  obtain ⟨N, hN⟩ : ∃ N, w.heap.size = N := ⟨_, rfl⟩
  rw [hN] at a1 HNE ⊢
  clear hN
  have HR1 := hide hR
  have HN1 := hide a1
  clear hR a1
  obtain ⟨w2, hw2⟩ : ∃ w2, w2 = w1.drew := ⟨_, rfl⟩
  have HS : Hid (w2.heap[N]? = some (.cells #[.int .i64 q.f, .int .i64 q.e, .int .i64 q.x] 32 (0, 0)) ∧ Rb w2 b r) := by rw [hw2]; exact hide ⟨HN1.out, ⟨HR1.out.out⟩⟩
  have HT2 : Hid (At w b w2) := by rw [hw2]; exact ⟨HA1.out.os, HA1.out.tape, HA1.out.output, HA1.out.size, HA1.out.block⟩
  clear HN1 HR1 HA1
  refine wp_region_held_drew (S := fun W => W.heap[N]? = some (.cells #[.int .i64 q.f, .int .i64 q.e, .int .i64 q.x] 32 (0, 0)) ∧ Rb W b r) (by kernel_rfl) (by rw [← hw2]; exact HS.out) (fun _ => ?_)
  rw [← hw2]
  clear hw2
  refine hd_take 0 (o := ⟨some 5, _, _, _, _, _⟩) (.agg #[.int .i64 q.f, .int .i64 q.e, .int .i64 q.x]) (by kernel_rfl) (by kernel_rfl) (by kernel_rfl) rfl (by rfl) (fun W hSw => by obtain ⟨q9, q8⟩ := hSw; obtain ⟨c0, c1, c2, -, -, -⟩ := blk3 q9; go_simp) (fun _ _ _ h => h) HS.out ?_
  try simp only [Act.put, List.setIfInBounds_toArray, List.set_cons_zero, List.set_cons_succ]
  refine hd_call 1 (o := ⟨some 6, _, _, _, _, _⟩) (by kernel_rfl) rfl (by rfl) (fun K hK => ?_)
  go_simp
  go_wp2_with (go_at_call 51; refine (HC1.out _).mono ?_; rintro e1 w3 ⟨rfl, hb3⟩)
  have HS3 : Hid (w3.heap[N]? = some (.cells #[.int .i64 q.f, .int .i64 q.e, .int .i64 q.x] 32 (0, 0)) ∧ Rb w3 b r) := hide ⟨(hb3.block N (Array.getElem?_eq_some_iff.1 HS.out.1).1).trans HS.out.1, HS.out.2.keep (hb3.block b HS.out.2.lt)⟩
  have HT3 := hide (HT2.out.below hb3)
  clear hb3 HS HT2
  refine hK _ _ HS3.out ?_
  clear hK K
  try simp only [Act.put, List.setIfInBounds_toArray, List.set_cons_zero, List.set_cons_succ]
  refine hd_take 2 (o := ⟨some 7, _, _, _, _, _⟩) (.bool false) (by kernel_rfl) (by kernel_rfl) (by kernel_rfl) rfl (by rfl) (fun W hSw => by go_simp) (fun _ _ _ h => h) HS3.out ?_
  try simp only [Act.put, List.setIfInBounds_toArray, List.set_cons_zero, List.set_cons_succ]
  refine hd_take 3 (o := ⟨some 8, _, _, _, _, _⟩) (.bool false) (by kernel_rfl) (by kernel_rfl) (by kernel_rfl) rfl (by rfl) (fun W hSw => by go_simp) (fun _ _ _ h => h) HS3.out ?_
  try simp only [Act.put, List.setIfInBounds_toArray, List.set_cons_zero, List.set_cons_succ]
  refine hd_take 4 (o := ⟨some 9, _, _, _, _, _⟩) (.agg #[.int .i64 q.f, .int .i64 q.e, .int .i64 q.x]) (by kernel_rfl) (by kernel_rfl) (by kernel_rfl) rfl (by rfl) (fun W hSw => by obtain ⟨q9, q8⟩ := hSw; obtain ⟨c0, c1, c2, -, -, -⟩ := blk3 q9; go_simp) (fun _ _ _ h => h) HS3.out ?_
  try simp only [Act.put, List.setIfInBounds_toArray, List.set_cons_zero, List.set_cons_succ]
  refine hd_take 5 (o := ⟨some 10, _, _, _, _, _⟩) (.pointer (some ⟨b, 21, none⟩)) (by kernel_rfl) (by kernel_rfl) (by kernel_rfl) rfl (by rfl) (fun W hSw => by go_simp) (fun _ _ _ h => h) HS3.out ?_
  try simp only [Act.put, List.setIfInBounds_toArray, List.set_cons_zero, List.set_cons_succ]
  refine hd_take 6 (o := ⟨some 11, _, _, _, _, _⟩) (.pointer (some ⟨b, 21, none⟩)) (by kernel_rfl) (by kernel_rfl) (by kernel_rfl) rfl (by rfl) (fun W hSw => by go_simp) (fun _ _ _ h => h) HS3.out ?_
  try simp only [Act.put, List.setIfInBounds_toArray, List.set_cons_zero, List.set_cons_succ]
  refine hd_take 7 (o := ⟨some 12, _, _, _, _, _⟩) (.pointer (some ⟨b, 21, none⟩)) (by kernel_rfl) (by kernel_rfl) (by kernel_rfl) rfl (by rfl) (fun W hSw => by go_simp) (fun _ _ _ h => h) HS3.out ?_
  try simp only [Act.put, List.setIfInBounds_toArray, List.set_cons_zero, List.set_cons_succ]
  refine hd_take 8 (o := ⟨some 13, _, _, _, _, _⟩) (.agg #[.int .i64 r.pd.f, .int .i64 r.pd.e, .int .i64 r.pd.x]) (by kernel_rfl) (by kernel_rfl) (by kernel_rfl) rfl (by rfl) (fun W hSw => by obtain ⟨q9, q8⟩ := hSw; have d0 := q8.get (j := 21) rfl; have d1 := q8.get (j := 22) rfl; have d2 := q8.get (j := 23) rfl; go_simp) (fun _ _ _ h => h) HS3.out ?_
  try simp only [Act.put, List.setIfInBounds_toArray, List.set_cons_zero, List.set_cons_succ]
  refine hd_call 9 (o := ⟨some 14, _, _, _, _, _⟩) (by kernel_rfl) rfl (by rfl) (fun K hK => ?_)
  go_simp
  go_wp2_with (go_at_call 72; refine (HC2.out _).mono ?_; rintro e1 w4 ⟨rfl, hb4⟩)
  have HS4 : Hid (w4.heap[N]? = some (.cells #[.int .i64 q.f, .int .i64 q.e, .int .i64 q.x] 32 (0, 0)) ∧ Rb w4 b r) := hide ⟨(hb4.block N (Array.getElem?_eq_some_iff.1 HS3.out.1).1).trans HS3.out.1, HS3.out.2.keep (hb4.block b HS3.out.2.lt)⟩
  have HT4 := hide (HT3.out.below hb4)
  clear hb4 HS3 HT3
  refine hK _ _ HS4.out ?_
  clear hK K
  try simp only [Act.put, List.setIfInBounds_toArray, List.set_cons_zero, List.set_cons_succ]
  refine hd_take 10 (o := ⟨some 15, _, _, _, _, _⟩) (.bool true) (by kernel_rfl) (by kernel_rfl) (by kernel_rfl) rfl (by rfl) (fun W hSw => by go_simp) (fun _ _ _ h => h) HS4.out ?_
  try simp only [Act.put, List.setIfInBounds_toArray, List.set_cons_zero, List.set_cons_succ]
  refine hd_take 11 (o := ⟨some 16, _, _, _, _, _⟩) (.bool true) (by kernel_rfl) (by kernel_rfl) (by kernel_rfl) rfl (by rfl) (fun W hSw => by go_simp) (fun _ _ _ h => h) HS4.out ?_
  try simp only [Act.put, List.setIfInBounds_toArray, List.set_cons_zero, List.set_cons_succ]
  refine wpAnyH_done (by kernel_rfl) ?_ _
  clear HNE
  go_wp2
  go_ret
  exact ⟨rfl, HS4.out.2, HT4.out⟩
set_option maxRecDepth 100000 in
set_option maxHeartbeats 6400000 in
theorem refundBad_any (w : World) (b : Nat) (r : Er) (h : Rb w b r) (q : Qt) (hg : ¬ q.good) : Calls Try.prog 60 #[.pointer (some ⟨b, 21, none⟩), q.val] w fun e w' => e = .returned (.int .i64 1) ∧ Rb w' b r ∧ At w b w' := by
  have hb1 := (Below.refl w.heap.size w).alloc (Nat.le_refl _) (.cells #[.int .i64 q.f, .int .i64 q.e, .int .i64 q.x] 32)
  have a1 := heap_alloc_new w (.cells #[.int .i64 q.f, .int .i64 q.e, .int .i64 q.x] 32)
  have hR := h.keep (hb1.block b h.lt)
  have HA1 := hide (At.of_below (b := b) hb1)
  have HNE : Hid (w.heap.size ≠ b) := hide (fun e => by have := h.lt; omega)
  have HC1 := hide (fun W => isGood_any W q)
  rw [show decide q.good = false by simpa using hg] at HC1
  clear h hb1 hg
  unfold Qt.val at *
  go_enter Try.func60, Try.ntmps60
  go_upto_region 1 with fail
  generalize w.alloc (.cells #[.int .i64 q.f, .int .i64 q.e, .int .i64 q.x] 32) = w1 at *
  obtain ⟨N, hN⟩ : ∃ N, w.heap.size = N := ⟨_, rfl⟩
  rw [hN] at a1 HNE ⊢
  clear hN
  have HR1 := hide hR
  have HN1 := hide a1
  clear hR a1
  obtain ⟨w2, hw2⟩ : ∃ w2, w2 = w1.drew := ⟨_, rfl⟩
  have HS : Hid (w2.heap[N]? = some (.cells #[.int .i64 q.f, .int .i64 q.e, .int .i64 q.x] 32 (0, 0)) ∧ Rb w2 b r) := by rw [hw2]; exact hide ⟨HN1.out, ⟨HR1.out.out⟩⟩
  have HT2 : Hid (At w b w2) := by rw [hw2]; exact ⟨HA1.out.os, HA1.out.tape, HA1.out.output, HA1.out.size, HA1.out.block⟩
  clear HN1 HR1 HA1
  refine wp_region_held_drew (S := fun W => W.heap[N]? = some (.cells #[.int .i64 q.f, .int .i64 q.e, .int .i64 q.x] 32 (0, 0)) ∧ Rb W b r) (by kernel_rfl) (by rw [← hw2]; exact HS.out) (fun _ => ?_)
  rw [← hw2]
  clear hw2
  refine hd_take 0 (o := ⟨some 5, _, _, _, _, _⟩) (.agg #[.int .i64 q.f, .int .i64 q.e, .int .i64 q.x]) (by kernel_rfl) (by kernel_rfl) (by kernel_rfl) rfl (by rfl) (fun W hSw => by obtain ⟨q9, q8⟩ := hSw; obtain ⟨c0, c1, c2, -, -, -⟩ := blk3 q9; go_simp) (fun _ _ _ h => h) HS.out ?_
  try simp only [Act.put, List.setIfInBounds_toArray, List.set_cons_zero, List.set_cons_succ]
  refine hd_call 1 (o := ⟨some 6, _, _, _, _, _⟩) (by kernel_rfl) rfl (by rfl) (fun K hK => ?_)
  go_simp
  go_wp2_with (go_at_call 51; refine (HC1.out _).mono ?_; rintro e1 w3 ⟨rfl, hb3⟩)
  have HS3 : Hid (w3.heap[N]? = some (.cells #[.int .i64 q.f, .int .i64 q.e, .int .i64 q.x] 32 (0, 0)) ∧ Rb w3 b r) := hide ⟨(hb3.block N (Array.getElem?_eq_some_iff.1 HS.out.1).1).trans HS.out.1, HS.out.2.keep (hb3.block b HS.out.2.lt)⟩
  have HT3 := hide (HT2.out.below hb3)
  clear hb3 HS HT2
  refine hK _ _ HS3.out ?_
  clear hK K
  try simp only [Act.put, List.setIfInBounds_toArray, List.set_cons_zero, List.set_cons_succ]
  refine hd_take 2 (o := ⟨some 7, _, _, _, _, _⟩) (.bool true) (by kernel_rfl) (by kernel_rfl) (by kernel_rfl) rfl (by rfl) (fun W hSw => by go_simp) (fun _ _ _ h => h) HS3.out ?_
  try simp only [Act.put, List.setIfInBounds_toArray, List.set_cons_zero, List.set_cons_succ]
  refine hd_take 3 (o := ⟨some 8, _, _, _, _, _⟩) (.bool true) (by kernel_rfl) (by kernel_rfl) (by kernel_rfl) rfl (by rfl) (fun W hSw => by go_simp) (fun _ _ _ h => h) HS3.out ?_
  try simp only [Act.put, List.setIfInBounds_toArray, List.set_cons_zero, List.set_cons_succ]
  refine hd_skip 4 (o := ⟨some 9, _, _, _, _, _⟩) (by kernel_rfl) (by kernel_rfl) (by kernel_rfl) rfl (by rfl) (fun _ _ _ h => h) HS3.out ?_
  try simp only [Act.put, List.setIfInBounds_toArray, List.set_cons_zero, List.set_cons_succ]
  refine hd_skip 5 (o := ⟨some 10, _, _, _, _, _⟩) (by kernel_rfl) (by kernel_rfl) (by kernel_rfl) rfl (by rfl) (fun _ _ _ h => h) HS3.out ?_
  try simp only [Act.put, List.setIfInBounds_toArray, List.set_cons_zero, List.set_cons_succ]
  refine hd_skip 6 (o := ⟨some 11, _, _, _, _, _⟩) (by kernel_rfl) (by kernel_rfl) (by kernel_rfl) rfl (by rfl) (fun _ _ _ h => h) HS3.out ?_
  try simp only [Act.put, List.setIfInBounds_toArray, List.set_cons_zero, List.set_cons_succ]
  refine hd_skip 7 (o := ⟨some 12, _, _, _, _, _⟩) (by kernel_rfl) (by kernel_rfl) (by kernel_rfl) rfl (by rfl) (fun _ _ _ h => h) HS3.out ?_
  try simp only [Act.put, List.setIfInBounds_toArray, List.set_cons_zero, List.set_cons_succ]
  refine hd_skip 8 (o := ⟨some 13, _, _, _, _, _⟩) (by kernel_rfl) (by kernel_rfl) (by kernel_rfl) rfl (by rfl) (fun _ _ _ h => h) HS3.out ?_
  try simp only [Act.put, List.setIfInBounds_toArray, List.set_cons_zero, List.set_cons_succ]
  refine hd_skip 9 (o := ⟨some 14, _, _, _, _, _⟩) (by kernel_rfl) (by kernel_rfl) (by kernel_rfl) rfl (by rfl) (fun _ _ _ h => h) HS3.out ?_
  try simp only [Act.put, List.setIfInBounds_toArray, List.set_cons_zero, List.set_cons_succ]
  refine hd_skip 10 (o := ⟨some 15, _, _, _, _, _⟩) (by kernel_rfl) (by kernel_rfl) (by kernel_rfl) rfl (by rfl) (fun _ _ _ h => h) HS3.out ?_
  try simp only [Act.put, List.setIfInBounds_toArray, List.set_cons_zero, List.set_cons_succ]
  refine hd_take 11 (o := ⟨some 16, _, _, _, _, _⟩) (.bool true) (by kernel_rfl) (by kernel_rfl) (by kernel_rfl) rfl (by rfl) (fun W hSw => by go_simp) (fun _ _ _ h => h) HS3.out ?_
  try simp only [Act.put, List.setIfInBounds_toArray, List.set_cons_zero, List.set_cons_succ]
  refine wpAnyH_done (by kernel_rfl) ?_ _
  clear HNE
  go_wp2
  go_ret
  exact ⟨rfl, HS3.out.2, HT3.out⟩
end Go.Proofs.Ytoddadohmnaolab

namespace Go.Proofs.Ytoddadohmnaolab
open Go.RowKit Go.Shelf

section
variable (w : World) (F : Nat → Prop) (T : Nat) (rs : List (Option Er)) (last : Int)
set_option maxHeartbeats 800000 in
theorem payTNone_any (h : Et w F T rs last) (e : Int) (hn : look rs e = none) (q : Qt) : Calls Try.prog 35 #[.pointer (some ⟨T, 0, none⟩), .int .i64 e, q.val] w fun x w' => x = .returned (.int .i64 90) ∧ Below w.heap.size w w' := by
  have hb1 := (Below.refl w.heap.size w).alloc (Nat.le_refl _) (.cells #[.int .i64 q.f, .int .i64 q.e, .int .i64 q.x] 32)
  obtain ⟨S, G, m, h⟩ := h
  have h1 := h.below hb1
  have c0 := h1.cell.1
  have HG := hide (getL_any _ G S m h1.tab e)
  have HB := hide hb1
  rcases h.cases e with ⟨h2, _⟩ | ⟨k', b, r', e1, hm, h3, h4, h5, hR⟩
  · rw [h2] at HG
    simp only [ptr, Option.isSome_none] at HG
    clear h h1 h2 hb1
    unfold Qt.val
    go_enter Try.func35, Try.ntmps35
    go_wp2_with fail
    refine HG.out.mono ?_
    rintro e1 w1 ⟨rfl, rfl⟩
    go_wp2
    go_ret
    exact ⟨rfl, HB.out⟩
  · rw [hn] at h5; cases h5
set_option maxRecDepth 100000 in
set_option maxHeartbeats 3200000 in
theorem payT_via (h : Et w F T rs last) (k : Nat) (r r' : Er) (hr : rs[k]? = some (some r)) (q : Qt) (c : Int) (hc : ∀ W b, Rb W b r → Calls Try.prog 59 #[.pointer (some ⟨b, 21, none⟩), q.val] W fun e w' => e = .returned (.int .i64 c) ∧ Rb w' b r' ∧ At W b w') :
    Calls Try.prog 35 #[.pointer (some ⟨T, 0, none⟩), .int .i64 (k : Int), q.val] w fun x w' => x = .returned (.int .i64 c) ∧ Et w' F T (rs.set k (some r')) last ∧ Mod F w w' := by
  have hb1 := (Below.refl w.heap.size w).alloc (Nat.le_refl _) (.cells #[.int .i64 q.f, .int .i64 q.e, .int .i64 q.x] 32)
  have a1 := heap_alloc_new w (.cells #[.int .i64 q.f, .int .i64 q.e, .int .i64 q.x] 32)
  have hlt := h.lt
  obtain ⟨S, G, m, h⟩ := h
  have h1 := h.below hb1
  have c0 := h1.cell.1
  have HG := hide (getL_any _ G S m h1.tab (k : Int))
  rcases h1.cases (k : Int) with ⟨_, h2⟩ | ⟨k', b, r9, e1, hm, h3, h4, h5, hR⟩
  · rw [look_nat, hr] at h2; cases h2
  obtain rfl : k = k' := by omega
  rw [hr] at h3; cases h3
  rw [h4] at HG
  simp only [ptr, Option.isSome_some] at HG
  have HC := hide (fun W (hb : Rb W b r) => hc W b hb)
  have HH := hide h1
  have HR := hide hR
  have HM := hide hm
  have HMo : Hid (Mod F w _) := hide (Mod.of_below (F := F) hb1)
  have HNb : Hid (w.heap.size ≠ b) := hide (fun e => by have := hlt b (h.own k b hm).1; omega)
  have HA := hide a1
  clear h h1 h4 h5 hR hb1 hc hr a1 hlt hm
  unfold Qt.val at *
  go_enter Try.func35, Try.ntmps35
  go_wp2_with fail
  refine HG.out.mono ?_
  rintro e1 w1 ⟨rfl, rfl⟩
  go_upto_region 4 with fail
  generalize w.alloc (.cells #[.int .i64 q.f, .int .i64 q.e, .int .i64 q.x] 32) = w1 at *
  generalize w.heap.size = N at *
  obtain ⟨w3, hw3⟩ : ∃ w3, w3 = w1.drew := ⟨_, rfl⟩
  have hb3 : Below w1.heap.size w1 w3 := by rw [hw3]; exact ⟨rfl, rfl, rfl, Nat.le_refl _, fun _ _ => rfl⟩
  have HA3 : Hid (w3.heap[N]? = some (.cells #[.int .i64 q.f, .int .i64 q.e, .int .i64 q.x] 32 (0, 0))) := hide ((hb3.block N (Array.getElem?_eq_some_iff.1 HA.out).1).trans HA.out)
  have HH3 := hide (HH.out.below hb3)
  have HR3 := hide (HR.out.keep (hb3.block b HR.out.lt))
  have HM3 := hide (HMo.out.trans (Mod.of_below hb3))
  clear HA HH HR HMo hb3 HG c0
  refine wp_region_held_drew (S := fun W => W.heap[N]? = some (.cells #[.int .i64 q.f, .int .i64 q.e, .int .i64 q.x] 32 (0, 0))) (by kernel_rfl) (by rw [← hw3]; exact HA3.out) (fun _ => ?_)
  rw [← hw3]
  clear hw3
  refine hd_take 0 (o := ⟨some 20, _, _, _, _, _⟩) (.pointer (some ⟨b, 0, none⟩)) (by kernel_rfl) (by kernel_rfl) (by kernel_rfl) rfl (by rfl) (fun W hSw => by go_simp) (fun _ _ _ h => h) HA3.out ?_
  try simp only [Act.put, List.setIfInBounds_toArray, List.set_cons_zero, List.set_cons_succ]
  refine hd_take 1 (o := ⟨some 21, _, _, _, _, _⟩) (.pointer (some ⟨b, 0, none⟩)) (by kernel_rfl) (by kernel_rfl) (by kernel_rfl) rfl (by rfl) (fun W hSw => by go_simp) (fun _ _ _ h => h) HA3.out ?_
  try simp only [Act.put, List.setIfInBounds_toArray, List.set_cons_zero, List.set_cons_succ]
  refine hd_take 2 (o := ⟨some 22, _, _, _, _, _⟩) (.pointer (some ⟨b, 21, none⟩)) (by kernel_rfl) (by kernel_rfl) (by kernel_rfl) rfl (by rfl) (fun W hSw => by go_simp) (fun _ _ _ h => h) HA3.out ?_
  try simp only [Act.put, List.setIfInBounds_toArray, List.set_cons_zero, List.set_cons_succ]
  refine hd_take 3 (o := ⟨some 23, _, _, _, _, _⟩) (.agg #[.int .i64 q.f, .int .i64 q.e, .int .i64 q.x]) (by kernel_rfl) (by kernel_rfl) (by kernel_rfl) rfl (by rfl) (fun W hSw => by obtain ⟨c0, c1, c2, -, -, -⟩ := blk3 hSw; go_simp) (fun _ _ _ h => h) HA3.out ?_
  try simp only [Act.put, List.setIfInBounds_toArray, List.set_cons_zero, List.set_cons_succ]
  refine hd_call 4 (o := ⟨some 24, _, _, _, _, _⟩) (by kernel_rfl) rfl (by rfl) (fun K hK => ?_)
  go_simp
  go_wp2_with (go_at_call 59; refine (HC.out _ HR3.out).mono ?_; rintro e1 w4 ⟨rfl, hr4, ha4⟩)
  have HA4 : Hid (w4.heap[N]? = some (.cells #[.int .i64 q.f, .int .i64 q.e, .int .i64 q.x] 32 (0, 0))) := hide ((ha4.block N (Array.getElem?_eq_some_iff.1 HA3.out).1 HNb.out).trans HA3.out)
  have HU := hide (Et.upd HH3.out HM.out hr4 ha4)
  clear hr4 ha4
  refine hK _ _ HA4.out ?_
  clear hK K
  try simp only [Act.put, List.setIfInBounds_toArray, List.set_cons_zero, List.set_cons_succ]
  refine hd_take 5 (o := ⟨some 6, _, _, _, _, _⟩) (.int .i64 c) (by kernel_rfl) (by kernel_rfl) (by kernel_rfl) rfl (by rfl) (fun W hSw => by go_simp) (fun _ _ _ h => h) HA4.out ?_
  try simp only [Act.put, List.setIfInBounds_toArray, List.set_cons_zero, List.set_cons_succ]
  refine wpAnyH_done (by kernel_rfl) ?_ _
  go_wp2
  go_ret
  exact ⟨rfl, HU.out.1, HM3.out.trans HU.out.2⟩
set_option maxHeartbeats 800000 in
theorem refundTNone_any (h : Et w F T rs last) (e : Int) (hn : look rs e = none) (q : Qt) : Calls Try.prog 37 #[.pointer (some ⟨T, 0, none⟩), .int .i64 e, q.val] w fun x w' => x = .returned (.int .i64 90) ∧ Below w.heap.size w w' := by
  have hb1 := (Below.refl w.heap.size w).alloc (Nat.le_refl _) (.cells #[.int .i64 q.f, .int .i64 q.e, .int .i64 q.x] 32)
  obtain ⟨S, G, m, h⟩ := h
  have h1 := h.below hb1
  have c0 := h1.cell.1
  have HG := hide (getL_any _ G S m h1.tab e)
  have HB := hide hb1
  rcases h.cases e with ⟨h2, _⟩ | ⟨k', b, r', e1, hm, h3, h4, h5, hR⟩
  · rw [h2] at HG
    simp only [ptr, Option.isSome_none] at HG
    clear h h1 h2 hb1
    unfold Qt.val
    go_enter Try.func37, Try.ntmps37
    go_wp2_with fail
    refine HG.out.mono ?_
    rintro e1 w1 ⟨rfl, rfl⟩
    go_wp2
    go_ret
    exact ⟨rfl, HB.out⟩
  · rw [hn] at h5; cases h5
set_option maxRecDepth 100000 in
set_option maxHeartbeats 3200000 in
theorem refundT_via (h : Et w F T rs last) (k : Nat) (r r' : Er) (hr : rs[k]? = some (some r)) (q : Qt) (c : Int) (hc : ∀ W b, Rb W b r → Calls Try.prog 60 #[.pointer (some ⟨b, 21, none⟩), q.val] W fun e w' => e = .returned (.int .i64 c) ∧ Rb w' b r' ∧ At W b w') :
    Calls Try.prog 37 #[.pointer (some ⟨T, 0, none⟩), .int .i64 (k : Int), q.val] w fun x w' => x = .returned (.int .i64 c) ∧ Et w' F T (rs.set k (some r')) last ∧ Mod F w w' := by
  have hb1 := (Below.refl w.heap.size w).alloc (Nat.le_refl _) (.cells #[.int .i64 q.f, .int .i64 q.e, .int .i64 q.x] 32)
  have a1 := heap_alloc_new w (.cells #[.int .i64 q.f, .int .i64 q.e, .int .i64 q.x] 32)
  have hlt := h.lt
  obtain ⟨S, G, m, h⟩ := h
  have h1 := h.below hb1
  have c0 := h1.cell.1
  have HG := hide (getL_any _ G S m h1.tab (k : Int))
  rcases h1.cases (k : Int) with ⟨_, h2⟩ | ⟨k', b, r9, e1, hm, h3, h4, h5, hR⟩
  · rw [look_nat, hr] at h2; cases h2
  obtain rfl : k = k' := by omega
  rw [hr] at h3; cases h3
  rw [h4] at HG
  simp only [ptr, Option.isSome_some] at HG
  have HC := hide (fun W (hb : Rb W b r) => hc W b hb)
  have HH := hide h1
  have HR := hide hR
  have HM := hide hm
  have HMo : Hid (Mod F w _) := hide (Mod.of_below (F := F) hb1)
  have HNb : Hid (w.heap.size ≠ b) := hide (fun e => by have := hlt b (h.own k b hm).1; omega)
  have HA := hide a1
  clear h h1 h4 h5 hR hb1 hc hr a1 hlt hm
  unfold Qt.val at *
  go_enter Try.func37, Try.ntmps37
  go_wp2_with fail
  refine HG.out.mono ?_
  rintro e1 w1 ⟨rfl, rfl⟩
  go_upto_region 4 with fail
  generalize w.alloc (.cells #[.int .i64 q.f, .int .i64 q.e, .int .i64 q.x] 32) = w1 at *
  generalize w.heap.size = N at *
  obtain ⟨w3, hw3⟩ : ∃ w3, w3 = w1.drew := ⟨_, rfl⟩
  have hb3 : Below w1.heap.size w1 w3 := by rw [hw3]; exact ⟨rfl, rfl, rfl, Nat.le_refl _, fun _ _ => rfl⟩
  have HA3 : Hid (w3.heap[N]? = some (.cells #[.int .i64 q.f, .int .i64 q.e, .int .i64 q.x] 32 (0, 0))) := hide ((hb3.block N (Array.getElem?_eq_some_iff.1 HA.out).1).trans HA.out)
  have HH3 := hide (HH.out.below hb3)
  have HR3 := hide (HR.out.keep (hb3.block b HR.out.lt))
  have HM3 := hide (HMo.out.trans (Mod.of_below hb3))
  clear HA HH HR HMo hb3 HG c0
  refine wp_region_held_drew (S := fun W => W.heap[N]? = some (.cells #[.int .i64 q.f, .int .i64 q.e, .int .i64 q.x] 32 (0, 0))) (by kernel_rfl) (by rw [← hw3]; exact HA3.out) (fun _ => ?_)
  rw [← hw3]
  clear hw3
  refine hd_take 0 (o := ⟨some 20, _, _, _, _, _⟩) (.pointer (some ⟨b, 0, none⟩)) (by kernel_rfl) (by kernel_rfl) (by kernel_rfl) rfl (by rfl) (fun W hSw => by go_simp) (fun _ _ _ h => h) HA3.out ?_
  try simp only [Act.put, List.setIfInBounds_toArray, List.set_cons_zero, List.set_cons_succ]
  refine hd_take 1 (o := ⟨some 21, _, _, _, _, _⟩) (.pointer (some ⟨b, 0, none⟩)) (by kernel_rfl) (by kernel_rfl) (by kernel_rfl) rfl (by rfl) (fun W hSw => by go_simp) (fun _ _ _ h => h) HA3.out ?_
  try simp only [Act.put, List.setIfInBounds_toArray, List.set_cons_zero, List.set_cons_succ]
  refine hd_take 2 (o := ⟨some 22, _, _, _, _, _⟩) (.pointer (some ⟨b, 21, none⟩)) (by kernel_rfl) (by kernel_rfl) (by kernel_rfl) rfl (by rfl) (fun W hSw => by go_simp) (fun _ _ _ h => h) HA3.out ?_
  try simp only [Act.put, List.setIfInBounds_toArray, List.set_cons_zero, List.set_cons_succ]
  refine hd_take 3 (o := ⟨some 23, _, _, _, _, _⟩) (.agg #[.int .i64 q.f, .int .i64 q.e, .int .i64 q.x]) (by kernel_rfl) (by kernel_rfl) (by kernel_rfl) rfl (by rfl) (fun W hSw => by obtain ⟨c0, c1, c2, -, -, -⟩ := blk3 hSw; go_simp) (fun _ _ _ h => h) HA3.out ?_
  try simp only [Act.put, List.setIfInBounds_toArray, List.set_cons_zero, List.set_cons_succ]
  refine hd_call 4 (o := ⟨some 24, _, _, _, _, _⟩) (by kernel_rfl) rfl (by rfl) (fun K hK => ?_)
  go_simp
  go_wp2_with (go_at_call 60; refine (HC.out _ HR3.out).mono ?_; rintro e1 w4 ⟨rfl, hr4, ha4⟩)
  have HA4 : Hid (w4.heap[N]? = some (.cells #[.int .i64 q.f, .int .i64 q.e, .int .i64 q.x] 32 (0, 0))) := hide ((ha4.block N (Array.getElem?_eq_some_iff.1 HA3.out).1 HNb.out).trans HA3.out)
  have HU := hide (Et.upd HH3.out HM.out hr4 ha4)
  clear hr4 ha4
  refine hK _ _ HA4.out ?_
  clear hK K
  try simp only [Act.put, List.setIfInBounds_toArray, List.set_cons_zero, List.set_cons_succ]
  refine hd_take 5 (o := ⟨some 6, _, _, _, _, _⟩) (.int .i64 c) (by kernel_rfl) (by kernel_rfl) (by kernel_rfl) rfl (by rfl) (fun W hSw => by go_simp) (fun _ _ _ h => h) HA4.out ?_
  try simp only [Act.put, List.setIfInBounds_toArray, List.set_cons_zero, List.set_cons_succ]
  refine wpAnyH_done (by kernel_rfl) ?_ _
  go_wp2
  go_ret
  exact ⟨rfl, HU.out.1, HM3.out.trans HU.out.2⟩

end
theorem good_ok {q : Qt} (h : q.good) : q.ok := by
  obtain ⟨g1, g2, g3⟩ := good_bounds h
  unfold Qt.ok; omega
/-- what Pay answers, and the table behind it -/
def payE (rs : List (Option Er)) (e : Int) (q : Qt) : Int := match look rs e with | none => 90 | some r => if q.good then (if q.le r.le then 0 else 2) else 1
def payS (rs : List (Option Er)) (e : Int) (q : Qt) : List (Option Er) := match look rs e with | none => rs | some r => if q.good then (if q.le r.le then rs.set e.toNat (some { r with pd := r.pd.plus q, le := r.le.less q }) else rs) else rs
def refE (rs : List (Option Er)) (e : Int) (q : Qt) : Int := match look rs e with | none => 90 | some r => if q.good ∧ q.le r.pd then 0 else 1
def refS (rs : List (Option Er)) (e : Int) (q : Qt) : List (Option Er) := match look rs e with | none => rs | some r => if q.good ∧ q.le r.pd then rs.set e.toNat (some { r with pd := r.pd.less q, le := r.le.plus q }) else rs
theorem set_same {rs : List (Option Er)} {k : Nat} {r : Er} (h : rs[k]? = some (some r)) : rs.set k (some r) = rs := by
  obtain ⟨h1, h2⟩ := List.getElem?_eq_some_iff.1 h
  rw [← h2]; exact List.set_getElem_self h1
section
variable {w : World} {F : Nat → Prop} {T : Nat} {rs : List (Option Er)} {last : Int}
theorem look_some {e : Int} {r : Er} (h : look rs e = some r) : ∃ k : Nat, e = k ∧ rs[k]? = some (some r) := by
  rcases look_cases rs e with ⟨_, h1⟩ | ⟨k, _, _, _, h1⟩ | ⟨k, x, h0, h1, h2, h3⟩
  · rw [h1] at h; cases h
  · rw [h1] at h; cases h
  · rw [h3] at h; cases h; exact ⟨k, h0, h2⟩
theorem pay_any (h : Et w F T rs last) (e : Int) (q : Qt) (hok : ∀ r, look rs e = some r → r.le.ok ∧ r.pd.ok) : Calls Try.prog 35 #[.pointer (some ⟨T, 0, none⟩), .int .i64 e, q.val] w fun x w' => x = .returned (.int .i64 (payE rs e q)) ∧ Et w' F T (payS rs e q) last ∧ Mod F w w' := by
  unfold payE payS
  cases hl : look rs e with
  | none =>
    refine (payTNone_any w F T rs last h e hl q).mono ?_
    rintro x w' ⟨rfl, hb⟩
    exact ⟨rfl, h.below hb, Mod.of_below hb⟩
  | some r =>
    obtain ⟨k, rfl, hr⟩ := look_some hl
    obtain ⟨hle, hpd⟩ := hok r hl
    simp only []
    by_cases hg : q.good
    · rw [if_pos hg, if_pos hg]
      by_cases hf : q.le r.le
      · rw [if_pos hf, if_pos hf]
        exact payT_via w F T rs last h k r _ hr q 0 (fun W b hb => payOk_any W b r hb q hg (good_ok hg) hf hle hpd)
      · rw [if_neg hf, if_neg hf]
        have := payT_via w F T rs last h k r r hr q 2 (fun W b hb => (payFull_any W b r hb q hg hf).mono (fun x w' ⟨h1, h2⟩ => ⟨h1, hb.keep (h2.block b hb.lt), At.of_below h2⟩))
        rw [set_same hr] at this
        exact this
    · rw [if_neg hg, if_neg hg]
      have := payT_via w F T rs last h k r r hr q 1 (fun W b hb => (payBad_any W b q hg).mono (fun x w' ⟨h1, h2⟩ => ⟨h1, hb.keep (h2.block b hb.lt), At.of_below h2⟩))
      rw [set_same hr] at this
      exact this
theorem refund_any (h : Et w F T rs last) (e : Int) (q : Qt) (hok : ∀ r, look rs e = some r → r.le.ok ∧ r.pd.ok) : Calls Try.prog 37 #[.pointer (some ⟨T, 0, none⟩), .int .i64 e, q.val] w fun x w' => x = .returned (.int .i64 (refE rs e q)) ∧ Et w' F T (refS rs e q) last ∧ Mod F w w' := by
  unfold refE refS
  cases hl : look rs e with
  | none =>
    refine (refundTNone_any w F T rs last h e hl q).mono ?_
    rintro x w' ⟨rfl, hb⟩
    exact ⟨rfl, h.below hb, Mod.of_below hb⟩
  | some r =>
    obtain ⟨k, rfl, hr⟩ := look_some hl
    obtain ⟨hle, hpd⟩ := hok r hl
    simp only []
    by_cases hc : q.good ∧ q.le r.pd
    · rw [if_pos hc, if_pos hc]
      exact refundT_via w F T rs last h k r _ hr q 0 (fun W b hb => refundOk_any W b r hb q hc.1 (good_ok hc.1) hc.2 hle hpd)
    · rw [if_neg hc, if_neg hc]
      have := refundT_via w F T rs last h k r r hr q 1 (fun W b hb => by
        by_cases hg : q.good
        · exact refundMore_any W b r hb q hg (fun hf => hc ⟨hg, hf⟩)
        · exact refundBad_any W b r hb q hg)
      rw [set_same hr] at this
      exact this
end
end Go.Proofs.Ytoddadohmnaolab

namespace Go.Proofs.Ytoddadohmnaolab
open Go.RowKit Go.Shelf

section
variable (w : World) (F : Nat → Prop) (T : Nat) (rs : List (Option Er)) (last : Int)
set_option maxHeartbeats 800000 in
theorem createNone_any (h : Et w F T rs last) (e : Int) (hn : look rs e = none) (serial : Int) (q : Qt) : Calls Try.prog 28 #[.pointer (some ⟨T, 0, none⟩), .int .i64 e, .int .i64 serial, q.val] w fun x w' => x = .returned (.tuple #[.int .i64 (-1), .int .i64 90]) ∧ Below w.heap.size w w' := by
  have hb1 := (Below.refl w.heap.size w).alloc (Nat.le_refl _) (.cells #[.int .i64 q.f, .int .i64 q.e, .int .i64 q.x] 32)
  obtain ⟨S, G, m, h⟩ := h
  have h1 := h.below hb1
  have c0 := h1.cell.1
  have HG := hide (getL_any _ G S m h1.tab e)
  have HB := hide hb1
  rcases h.cases e with ⟨h2, _⟩ | ⟨k', b, r', e1, hm, h3, h4, h5, hR⟩
  · rw [h2] at HG
    simp only [ptr, Option.isSome_none] at HG
    clear h h1 h2 hb1
    unfold Qt.val
    go_enter Try.func28, Try.ntmps28
    go_wp2_with fail
    refine HG.out.mono ?_
    rintro e1 w1 ⟨rfl, rfl⟩
    go_wp2
    go_ret2
    exact ⟨rfl, HB.out⟩
  · rw [hn] at h5; cases h5
set_option maxRecDepth 8000 in
set_option maxHeartbeats 6400000 in
theorem createBad1_any (h : Et w F T rs last) (k : Nat) (r : Er) (hr : rs[k]? = some (some r)) (serial : Int) (q : Qt) (hg : ¬ q.good) : Calls Try.prog 28 #[.pointer (some ⟨T, 0, none⟩), .int .i64 (k : Int), .int .i64 serial, q.val] w fun x w' => x = .returned (.tuple #[.int .i64 (-1), .int .i64 1]) ∧ Below w.heap.size w w' := by
  have hb1 := (Below.refl w.heap.size w).alloc (Nat.le_refl _) (.cells #[.int .i64 q.f, .int .i64 q.e, .int .i64 q.x] 32)
  have a1 := heap_alloc_new w (.cells #[.int .i64 q.f, .int .i64 q.e, .int .i64 q.x] 32)
  obtain ⟨S, G, m, h⟩ := h
  have h1 := h.below hb1
  rcases h1.cases (k : Int) with ⟨_, h2⟩ | ⟨k', b, r', e1, hm, h3, h4, _, hR⟩
  · rw [look_nat, hr] at h2; cases h2
  obtain rfl : k = k' := by omega
  rw [hr] at h3; cases h3
  have HM := hide hm
  have HRr := hide hr
  have HG := hide (getL_any _ G S m h1.tab (k : Int))
  rw [h4] at HG
  simp only [ptr, Option.isSome_some] at HG
  have HC1 := hide (fun W => isGood_any W q)
  have HE1 := hide h1
  have HB1 := hide hb1
  have HA1 := hide a1
  rw [show decide q.good = false by simpa using hg] at HC1
  clear h h1 h4 hR hm hr hb1 a1 hg
  unfold Qt.val at *
  go_enter Try.func28, Try.ntmps28
  go_upto_region 1 with fail
  generalize w.alloc (.cells #[.int .i64 q.f, .int .i64 q.e, .int .i64 q.x] 32) = w1 at *
  obtain ⟨N, hN⟩ : ∃ N, w.heap.size = N := ⟨_, rfl⟩
  have HN := hide hN
  rw [hN] at HB1 HA1 ⊢
  clear hN
  have t0 := HE1.out.cell.1
  go_wp2_with fail
  refine HG.out.mono ?_
  rintro e1 w2 ⟨rfl, rfl⟩
  obtain ⟨c0, c1, c2, -, -, -⟩ := blk3 HA1.out
  go_wp2_with fail
  refine (HC1.out _).mono ?_
  rintro e1 w3 ⟨rfl, hb3⟩
  have HE3 := hide (HE1.out.below hb3)
  have HB3 := hide (HB1.out.trans (hb3.mono (by rw [← HN.out]; exact HB1.out.size)))
  have HA3 := hide ((hb3.block N (Array.getElem?_eq_some_iff.1 HA1.out).1).trans HA1.out)
  have t1 := HE3.out.cell.2.1
  clear hb3 c0 c1 c2 t0 HE1 HB1 HA1 HG HC1
  go_wp2
  go_ret2
  exact ⟨rfl, by rw [HN.out]; exact HB3.out⟩
set_option maxRecDepth 8000 in
set_option maxHeartbeats 6400000 in
theorem createBad2_any (h : Et w F T rs last) (k : Nat) (r : Er) (hr : rs[k]? = some (some r)) (serial : Int) (q : Qt) (hg : q.good) (hs : serial ≤ last) : Calls Try.prog 28 #[.pointer (some ⟨T, 0, none⟩), .int .i64 (k : Int), .int .i64 serial, q.val] w fun x w' => x = .returned (.tuple #[.int .i64 (-1), .int .i64 1]) ∧ Below w.heap.size w w' := by
  have hb1 := (Below.refl w.heap.size w).alloc (Nat.le_refl _) (.cells #[.int .i64 q.f, .int .i64 q.e, .int .i64 q.x] 32)
  have a1 := heap_alloc_new w (.cells #[.int .i64 q.f, .int .i64 q.e, .int .i64 q.x] 32)
  obtain ⟨S, G, m, h⟩ := h
  have h1 := h.below hb1
  rcases h1.cases (k : Int) with ⟨_, h2⟩ | ⟨k', b, r', e1, hm, h3, h4, _, hR⟩
  · rw [look_nat, hr] at h2; cases h2
  obtain rfl : k = k' := by omega
  rw [hr] at h3; cases h3
  have HM := hide hm
  have HRr := hide hr
  have HG := hide (getL_any _ G S m h1.tab (k : Int))
  rw [h4] at HG
  simp only [ptr, Option.isSome_some] at HG
  have HC1 := hide (fun W => isGood_any W q)
  have HE1 := hide h1
  have HB1 := hide hb1
  have HA1 := hide a1
  rw [show decide q.good = true by simpa using hg] at HC1
  clear h h1 h4 hR hm hr hb1 a1 hg
  unfold Qt.val at *
  go_enter Try.func28, Try.ntmps28
  go_upto_region 1 with fail
  generalize w.alloc (.cells #[.int .i64 q.f, .int .i64 q.e, .int .i64 q.x] 32) = w1 at *
  obtain ⟨N, hN⟩ : ∃ N, w.heap.size = N := ⟨_, rfl⟩
  have HN := hide hN
  rw [hN] at HB1 HA1 ⊢
  clear hN
  have t0 := HE1.out.cell.1
  go_wp2_with fail
  refine HG.out.mono ?_
  rintro e1 w2 ⟨rfl, rfl⟩
  obtain ⟨c0, c1, c2, -, -, -⟩ := blk3 HA1.out
  go_wp2_with fail
  refine (HC1.out _).mono ?_
  rintro e1 w3 ⟨rfl, hb3⟩
  have HE3 := hide (HE1.out.below hb3)
  have HB3 := hide (HB1.out.trans (hb3.mono (by rw [← HN.out]; exact HB1.out.size)))
  have HA3 := hide ((hb3.block N (Array.getElem?_eq_some_iff.1 HA1.out).1).trans HA1.out)
  have t1 := HE3.out.cell.2.1
  clear hb3 c0 c1 c2 t0 HE1 HB1 HA1 HG HC1
  go_wp2
  go_ret2
  exact ⟨rfl, by rw [HN.out]; exact HB3.out⟩
set_option maxRecDepth 8000 in
set_option maxHeartbeats 6400000 in
theorem createBad3_any (h : Et w F T rs last) (k : Nat) (r : Er) (hr : rs[k]? = some (some r)) (serial : Int) (q : Qt) (hg : q.good) (hs : last < serial) (hx : 4611686018427387903 < serial) : Calls Try.prog 28 #[.pointer (some ⟨T, 0, none⟩), .int .i64 (k : Int), .int .i64 serial, q.val] w fun x w' => x = .returned (.tuple #[.int .i64 (-1), .int .i64 1]) ∧ Below w.heap.size w w' := by
  have hb1 := (Below.refl w.heap.size w).alloc (Nat.le_refl _) (.cells #[.int .i64 q.f, .int .i64 q.e, .int .i64 q.x] 32)
  have a1 := heap_alloc_new w (.cells #[.int .i64 q.f, .int .i64 q.e, .int .i64 q.x] 32)
  obtain ⟨S, G, m, h⟩ := h
  have h1 := h.below hb1
  rcases h1.cases (k : Int) with ⟨_, h2⟩ | ⟨k', b, r', e1, hm, h3, h4, _, hR⟩
  · rw [look_nat, hr] at h2; cases h2
  obtain rfl : k = k' := by omega
  rw [hr] at h3; cases h3
  have HM := hide hm
  have HRr := hide hr
  have HG := hide (getL_any _ G S m h1.tab (k : Int))
  rw [h4] at HG
  simp only [ptr, Option.isSome_some] at HG
  have HC1 := hide (fun W => isGood_any W q)
  have HE1 := hide h1
  have HB1 := hide hb1
  have HA1 := hide a1
  rw [show decide q.good = true by simpa using hg] at HC1
  clear h h1 h4 hR hm hr hb1 a1 hg
  have hsl : ¬ serial ≤ last := by omega
  clear hs
  unfold Qt.val at *
  go_enter Try.func28, Try.ntmps28
  go_upto_region 1 with fail
  generalize w.alloc (.cells #[.int .i64 q.f, .int .i64 q.e, .int .i64 q.x] 32) = w1 at *
  obtain ⟨N, hN⟩ : ∃ N, w.heap.size = N := ⟨_, rfl⟩
  have HN := hide hN
  rw [hN] at HB1 HA1 ⊢
  clear hN
  have t0 := HE1.out.cell.1
  go_wp2_with fail
  refine HG.out.mono ?_
  rintro e1 w2 ⟨rfl, rfl⟩
  obtain ⟨c0, c1, c2, -, -, -⟩ := blk3 HA1.out
  go_wp2_with fail
  refine (HC1.out _).mono ?_
  rintro e1 w3 ⟨rfl, hb3⟩
  have HE3 := hide (HE1.out.below hb3)
  have HB3 := hide (HB1.out.trans (hb3.mono (by rw [← HN.out]; exact HB1.out.size)))
  have HA3 := hide ((hb3.block N (Array.getElem?_eq_some_iff.1 HA1.out).1).trans HA1.out)
  have t1 := HE3.out.cell.2.1
  clear hb3 c0 c1 c2 t0 HE1 HB1 HA1 HG HC1
  go_wp2
  go_ret2
  exact ⟨rfl, by rw [HN.out]; exact HB3.out⟩
set_option maxRecDepth 8000 in
set_option maxHeartbeats 6400000 in
theorem createFull_any (h : Et w F T rs last) (k : Nat) (r : Er) (hr : rs[k]? = some (some r)) (serial : Int) (q : Qt) (hg : q.good) (hs1 : last < serial) (hs2 : serial ≤ 4611686018427387903) (ha : ¬ (q.plus Qt.one).le r.le) : Calls Try.prog 28 #[.pointer (some ⟨T, 0, none⟩), .int .i64 (k : Int), .int .i64 serial, q.val] w fun x w' => x = .returned (.tuple #[.int .i64 (-1), .int .i64 2]) ∧ Below w.heap.size w w' := by
  have hb1 := (Below.refl w.heap.size w).alloc (Nat.le_refl _) (.cells #[.int .i64 q.f, .int .i64 q.e, .int .i64 q.x] 32)
  have a1 := heap_alloc_new w (.cells #[.int .i64 q.f, .int .i64 q.e, .int .i64 q.x] 32)
  obtain ⟨S, G, m, h⟩ := h
  have h1 := h.below hb1
  rcases h1.cases (k : Int) with ⟨_, h2⟩ | ⟨k', b, r', e1, hm, h3, h4, _, hR⟩
  · rw [look_nat, hr] at h2; cases h2
  obtain rfl : k = k' := by omega
  rw [hr] at h3; cases h3
  have HM := hide hm
  have HRr := hide hr
  have HG := hide (getL_any _ G S m h1.tab (k : Int))
  rw [h4] at HG
  simp only [ptr, Option.isSome_some] at HG
  have HC1 := hide (fun W => isGood_any W q)
  have HE1 := hide h1
  have HB1 := hide hb1
  have HA1 := hide a1
  rw [show decide q.good = true by simpa using hg] at HC1
  have HC2 := hide (fun W => price_any W q (good_ok hg))
  have HC3 := hide (fun W (hb : Rb W b r) => affords_any W b r hb (q.plus Qt.one))
  rw [show decide ((q.plus Qt.one).le r.le) = false by simpa using ha] at HC3
  obtain ⟨qp, hqp⟩ : ∃ qp, q.plus Qt.one = qp := ⟨_, rfl⟩
  rw [hqp] at HC2 HC3
  have hsl : ¬ serial ≤ last := by omega
  have hsm : ¬ 4611686018427387903 < serial := by omega
  clear h h1 h4 hR hm hr hb1 a1 hg ha hs1 hs2 hqp
  unfold Qt.val at *
  go_enter Try.func28, Try.ntmps28
  go_upto_region 1 with fail
  generalize w.alloc (.cells #[.int .i64 q.f, .int .i64 q.e, .int .i64 q.x] 32) = w1 at *
  obtain ⟨N, hN⟩ : ∃ N, w.heap.size = N := ⟨_, rfl⟩
  have HN := hide hN
  rw [hN] at HB1 HA1 ⊢
  clear hN
  have t0 := HE1.out.cell.1
  go_wp2_with fail
  refine HG.out.mono ?_
  rintro e1 w2 ⟨rfl, rfl⟩
  obtain ⟨c0, c1, c2, -, -, -⟩ := blk3 HA1.out
  go_wp2_with fail
  refine (HC1.out _).mono ?_
  rintro e1 w3 ⟨rfl, hb3⟩
  have HE3 := hide (HE1.out.below hb3)
  have HB3 := hide (HB1.out.trans (hb3.mono (by rw [← HN.out]; exact HB1.out.size)))
  have HA3 := hide ((hb3.block N (Array.getElem?_eq_some_iff.1 HA1.out).1).trans HA1.out)
  have t1 := HE3.out.cell.2.1
  clear hb3 c0 c1 c2 t0 HE1 HB1 HA1 HG HC1
  go_upto_region 6 with fail
  obtain ⟨w4, hw4⟩ : ∃ W, W = w3.drew := ⟨_, rfl⟩
  have HE4 : Hid (EtAt w4 F T S G m rs last) := by rw [hw4]; exact hide (HE3.out.keep (Nat.le_refl _) (fun _ _ => rfl))
  have HB4 : Hid (Below N w w4) := by rw [hw4]; exact hide HB3.out.drew
  have HA4 : Hid (w4.heap[N]? = some (.cells #[.int .i64 q.f, .int .i64 q.e, .int .i64 q.x] 32 (0, 0))) := by rw [hw4]; exact HA3
  refine wp_region_held_drew (S := fun W => W.heap[N]? = some (.cells #[.int .i64 q.f, .int .i64 q.e, .int .i64 q.x] 32 (0, 0))) (by kernel_rfl) (by rw [← hw4]; exact HA4.out) (fun _ => ?_)
  rw [← hw4]
  clear hw4 t1 HE3 HB3 HA3
  refine hd_take 0 (o := ⟨some 40, _, _, _, _, _⟩) (.pointer (some ⟨b, 0, none⟩)) (by kernel_rfl) (by kernel_rfl) (by kernel_rfl) rfl (by rfl) (fun W hSw => by go_simp) (fun _ _ _ h => h) HA4.out ?_
  simp only [Act.put, List.setIfInBounds_toArray, List.set_cons_zero, List.set_cons_succ]
  refine hd_take 1 (o := ⟨some 41, _, _, _, _, _⟩) (.pointer (some ⟨b, 0, none⟩)) (by kernel_rfl) (by kernel_rfl) (by kernel_rfl) rfl (by rfl) (fun W hSw => by go_simp) (fun _ _ _ h => h) HA4.out ?_
  simp only [Act.put, List.setIfInBounds_toArray, List.set_cons_zero, List.set_cons_succ]
  refine hd_take 2 (o := ⟨some 42, _, _, _, _, _⟩) (.pointer (some ⟨b, 21, none⟩)) (by kernel_rfl) (by kernel_rfl) (by kernel_rfl) rfl (by rfl) (fun W hSw => by go_simp) (fun _ _ _ h => h) HA4.out ?_
  simp only [Act.put, List.setIfInBounds_toArray, List.set_cons_zero, List.set_cons_succ]
  refine hd_take 3 (o := ⟨some 43, _, _, _, _, _⟩) (.agg #[.int .i64 q.f, .int .i64 q.e, .int .i64 q.x]) (by kernel_rfl) (by kernel_rfl) (by kernel_rfl) rfl (by rfl) (fun W hSw => by obtain ⟨c0, c1, c2, -, -, -⟩ := blk3 hSw; go_simp) (fun _ _ _ h => h) HA4.out ?_
  simp only [Act.put, List.setIfInBounds_toArray, List.set_cons_zero, List.set_cons_succ]
  refine hd_call 4 (o := ⟨some 44, _, _, _, _, _⟩) (by kernel_rfl) rfl (by rfl) (fun K hK => ?_)
  go_simp
  go_wp2_with (go_at_call 53; refine (HC2.out _).mono ?_; rintro e1 w5 ⟨rfl, hb5⟩)
  have HA5 := hide ((hb5.block N (Array.getElem?_eq_some_iff.1 HA4.out).1).trans HA4.out)
  have HE5 := hide (HE4.out.below hb5)
  have HB5 := hide (HB4.out.trans (hb5.mono (by rw [← HN.out]; exact HB4.out.size)))
  clear hb5
  refine hK _ _ HA5.out ?_
  clear hK K
  have hR5 : Rb w5 b r := by
    obtain ⟨e, q1, q2⟩ := HE5.out.held k b HM.out
    rw [HRr.out] at q1; cases q1; exact q2
  have HAf := hide (HC3.out w5 hR5)
  clear hR5
  try simp only [Act.put, List.setIfInBounds_toArray, List.set_cons_zero, List.set_cons_succ]
  refine hd_call 5 (o := ⟨some 45, _, _, _, _, _⟩) (by kernel_rfl) rfl (by rfl) (fun K hK => ?_)
  go_simp
  go_wp2_with (go_at_call 52; refine HAf.out.mono ?_; rintro e1 w6 ⟨rfl, hb6⟩)
  have HA6 := hide ((hb6.block N (Array.getElem?_eq_some_iff.1 HA5.out).1).trans HA5.out)
  have HE6 := hide (HE5.out.below hb6)
  have HB6 := hide (HB5.out.trans (hb6.mono (by rw [← HN.out]; exact HB5.out.size)))
  clear hb6
  refine hK _ _ HA6.out ?_
  clear hK K HAf
  try simp only [Act.put, List.setIfInBounds_toArray, List.set_cons_zero, List.set_cons_succ]
  refine hd_take 6 (o := ⟨some 46, _, _, _, _, _⟩) (.bool true) (by kernel_rfl) (by kernel_rfl) (by kernel_rfl) rfl (by rfl) (fun W hSw => by go_simp) (fun _ _ _ h => h) HA6.out ?_
  simp only [Act.put, List.setIfInBounds_toArray, List.set_cons_zero, List.set_cons_succ]
  refine wpAnyH_done (by kernel_rfl) ?_ _
  clear HA5 HE5 HB5 HA4 HE4 HB4
  go_wp2
  go_ret2
  exact ⟨rfl, by rw [HN.out]; exact HB6.out⟩
set_option maxRecDepth 8000 in
set_option maxHeartbeats 6400000 in
theorem createRoom_any (h : Et w F T rs last) (k : Nat) (r : Er) (hr : rs[k]? = some (some r)) (serial : Int) (q : Qt) (hg : q.good) (hs1 : last < serial) (hs2 : serial ≤ 4611686018427387903) (ha : (q.plus Qt.one).le r.le) (hroom : ff rs = 16) : Calls Try.prog 28 #[.pointer (some ⟨T, 0, none⟩), .int .i64 (k : Int), .int .i64 serial, q.val] w fun x w' => x = .returned (.tuple #[.int .i64 (-1), .int .i64 2]) ∧ Below w.heap.size w w' := by
  have hb1 := (Below.refl w.heap.size w).alloc (Nat.le_refl _) (.cells #[.int .i64 q.f, .int .i64 q.e, .int .i64 q.x] 32)
  have a1 := heap_alloc_new w (.cells #[.int .i64 q.f, .int .i64 q.e, .int .i64 q.x] 32)
  obtain ⟨S, G, m, h⟩ := h
  have h1 := h.below hb1
  rcases h1.cases (k : Int) with ⟨_, h2⟩ | ⟨k', b, r', e1, hm, h3, h4, _, hR⟩
  · rw [look_nat, hr] at h2; cases h2
  obtain rfl : k = k' := by omega
  rw [hr] at h3; cases h3
  have HM := hide hm
  have HRr := hide hr
  have HG := hide (getL_any _ G S m h1.tab (k : Int))
  rw [h4] at HG
  simp only [ptr, Option.isSome_some] at HG
  have HC1 := hide (fun W => isGood_any W q)
  have HE1 := hide h1
  have HB1 := hide hb1
  have HA1 := hide a1
  rw [show decide q.good = true by simpa using hg] at HC1
  have HC2 := hide (fun W => price_any W q (good_ok hg))
  have HC3 := hide (fun W (hb : Rb W b r) => affords_any W b r hb (q.plus Qt.one))
  rw [show decide ((q.plus Qt.one).le r.le) = true by simpa using ha] at HC3
  obtain ⟨qp, hqp⟩ : ∃ qp, q.plus Qt.one = qp := ⟨_, rfl⟩
  rw [hqp] at HC2 HC3
  have hsl : ¬ serial ≤ last := by omega
  have hsm : ¬ 4611686018427387903 < serial := by omega
  have HC4 := hide (fun W => newRecord_any W serial (k : Int) q)
  have HPut : Hid (∀ W c, Tab KL W G S m → Calls Try.prog 48 #[.pointer (some ⟨S, 0, none⟩), .pointer (some ⟨c, 0, none⟩)] W fun x w' => x = .returned (.tuple #[.int .i64 (-1), .int .i64 2]) ∧ w' = W) := hide (fun W c hT => by
    exact (putL_any W G S m hT c).mono (fun _ _ h9 => h9.2 (by rw [h.ff_eq, h.len]; exact hroom)))
  clear h h1 h4 hR hm hr hb1 a1 hg ha hs1 hs2 hqp hroom
  unfold Qt.val at *
  go_enter Try.func28, Try.ntmps28
  go_upto_region 1 with fail
  generalize w.alloc (.cells #[.int .i64 q.f, .int .i64 q.e, .int .i64 q.x] 32) = w1 at *
  obtain ⟨N, hN⟩ : ∃ N, w.heap.size = N := ⟨_, rfl⟩
  have HN := hide hN
  rw [hN] at HB1 HA1 ⊢
  clear hN
  have t0 := HE1.out.cell.1
  go_wp2_with fail
  refine HG.out.mono ?_
  rintro e1 w2 ⟨rfl, rfl⟩
  obtain ⟨c0, c1, c2, -, -, -⟩ := blk3 HA1.out
  go_wp2_with fail
  refine (HC1.out _).mono ?_
  rintro e1 w3 ⟨rfl, hb3⟩
  have HE3 := hide (HE1.out.below hb3)
  have HB3 := hide (HB1.out.trans (hb3.mono (by rw [← HN.out]; exact HB1.out.size)))
  have HA3 := hide ((hb3.block N (Array.getElem?_eq_some_iff.1 HA1.out).1).trans HA1.out)
  have t1 := HE3.out.cell.2.1
  clear hb3 c0 c1 c2 t0 HE1 HB1 HA1 HG HC1
  go_upto_region 6 with fail
  obtain ⟨w4, hw4⟩ : ∃ W, W = w3.drew := ⟨_, rfl⟩
  have HE4 : Hid (EtAt w4 F T S G m rs last) := by rw [hw4]; exact hide (HE3.out.keep (Nat.le_refl _) (fun _ _ => rfl))
  have HB4 : Hid (Below N w w4) := by rw [hw4]; exact hide HB3.out.drew
  have HA4 : Hid (w4.heap[N]? = some (.cells #[.int .i64 q.f, .int .i64 q.e, .int .i64 q.x] 32 (0, 0))) := by rw [hw4]; exact HA3
  refine wp_region_held_drew (S := fun W => W.heap[N]? = some (.cells #[.int .i64 q.f, .int .i64 q.e, .int .i64 q.x] 32 (0, 0))) (by kernel_rfl) (by rw [← hw4]; exact HA4.out) (fun _ => ?_)
  rw [← hw4]
  clear hw4 t1 HE3 HB3 HA3
  refine hd_take 0 (o := ⟨some 40, _, _, _, _, _⟩) (.pointer (some ⟨b, 0, none⟩)) (by kernel_rfl) (by kernel_rfl) (by kernel_rfl) rfl (by rfl) (fun W hSw => by go_simp) (fun _ _ _ h => h) HA4.out ?_
  simp only [Act.put, List.setIfInBounds_toArray, List.set_cons_zero, List.set_cons_succ]
  refine hd_take 1 (o := ⟨some 41, _, _, _, _, _⟩) (.pointer (some ⟨b, 0, none⟩)) (by kernel_rfl) (by kernel_rfl) (by kernel_rfl) rfl (by rfl) (fun W hSw => by go_simp) (fun _ _ _ h => h) HA4.out ?_
  simp only [Act.put, List.setIfInBounds_toArray, List.set_cons_zero, List.set_cons_succ]
  refine hd_take 2 (o := ⟨some 42, _, _, _, _, _⟩) (.pointer (some ⟨b, 21, none⟩)) (by kernel_rfl) (by kernel_rfl) (by kernel_rfl) rfl (by rfl) (fun W hSw => by go_simp) (fun _ _ _ h => h) HA4.out ?_
  simp only [Act.put, List.setIfInBounds_toArray, List.set_cons_zero, List.set_cons_succ]
  refine hd_take 3 (o := ⟨some 43, _, _, _, _, _⟩) (.agg #[.int .i64 q.f, .int .i64 q.e, .int .i64 q.x]) (by kernel_rfl) (by kernel_rfl) (by kernel_rfl) rfl (by rfl) (fun W hSw => by obtain ⟨c0, c1, c2, -, -, -⟩ := blk3 hSw; go_simp) (fun _ _ _ h => h) HA4.out ?_
  simp only [Act.put, List.setIfInBounds_toArray, List.set_cons_zero, List.set_cons_succ]
  refine hd_call 4 (o := ⟨some 44, _, _, _, _, _⟩) (by kernel_rfl) rfl (by rfl) (fun K hK => ?_)
  go_simp
  go_wp2_with (go_at_call 53; refine (HC2.out _).mono ?_; rintro e1 w5 ⟨rfl, hb5⟩)
  have HA5 := hide ((hb5.block N (Array.getElem?_eq_some_iff.1 HA4.out).1).trans HA4.out)
  have HE5 := hide (HE4.out.below hb5)
  have HB5 := hide (HB4.out.trans (hb5.mono (by rw [← HN.out]; exact HB4.out.size)))
  clear hb5
  refine hK _ _ HA5.out ?_
  clear hK K
  have hR5 : Rb w5 b r := by
    obtain ⟨e, q1, q2⟩ := HE5.out.held k b HM.out
    rw [HRr.out] at q1; cases q1; exact q2
  have HAf := hide (HC3.out w5 hR5)
  clear hR5
  try simp only [Act.put, List.setIfInBounds_toArray, List.set_cons_zero, List.set_cons_succ]
  refine hd_call 5 (o := ⟨some 45, _, _, _, _, _⟩) (by kernel_rfl) rfl (by rfl) (fun K hK => ?_)
  go_simp
  go_wp2_with (go_at_call 52; refine HAf.out.mono ?_; rintro e1 w6 ⟨rfl, hb6⟩)
  have HA6 := hide ((hb6.block N (Array.getElem?_eq_some_iff.1 HA5.out).1).trans HA5.out)
  have HE6 := hide (HE5.out.below hb6)
  have HB6 := hide (HB5.out.trans (hb6.mono (by rw [← HN.out]; exact HB5.out.size)))
  clear hb6
  refine hK _ _ HA6.out ?_
  clear hK K HAf
  try simp only [Act.put, List.setIfInBounds_toArray, List.set_cons_zero, List.set_cons_succ]
  refine hd_take 6 (o := ⟨some 46, _, _, _, _, _⟩) (.bool false) (by kernel_rfl) (by kernel_rfl) (by kernel_rfl) rfl (by rfl) (fun W hSw => by go_simp) (fun _ _ _ h => h) HA6.out ?_
  simp only [Act.put, List.setIfInBounds_toArray, List.set_cons_zero, List.set_cons_succ]
  refine wpAnyH_done (by kernel_rfl) ?_ _
  clear HA5 HE5 HB5 HA4 HE4 HB4
  go_upto_region 8 with fail
  obtain ⟨w7, hw7⟩ : ∃ W, W = w6.drew := ⟨_, rfl⟩
  have HE7 : Hid (EtAt w7 F T S G m rs last) := by rw [hw7]; exact hide (HE6.out.keep (Nat.le_refl _) (fun _ _ => rfl))
  have HB7 : Hid (Below N w w7) := by rw [hw7]; exact hide HB6.out.drew
  have HA7 : Hid (w7.heap[N]? = some (.cells #[.int .i64 q.f, .int .i64 q.e, .int .i64 q.x] 32 (0, 0))) := by rw [hw7]; exact HA6
  have HS7 : Hid (w7.cell? ⟨T, 0, none⟩ = some (.pointer (some ⟨S, 0, none⟩)) ∧ w7.heap[N]? = some (.cells #[.int .i64 q.f, .int .i64 q.e, .int .i64 q.x] 32 (0, 0))) := hide ⟨HE7.out.cell.1, HA7.out⟩
  refine wp_region_held_drew (S := fun W => W.cell? ⟨T, 0, none⟩ = some (.pointer (some ⟨S, 0, none⟩)) ∧ W.heap[N]? = some (.cells #[.int .i64 q.f, .int .i64 q.e, .int .i64 q.x] 32 (0, 0))) (by kernel_rfl) (by rw [← hw7]; exact HS7.out) (fun _ => ?_)
  rw [← hw7]
  clear hw7 HE6 HB6 HA6
  refine hd_take 0 (o := ⟨some 48, _, _, _, _, _⟩) (.pointer (some ⟨T, 0, none⟩)) (by kernel_rfl) (by kernel_rfl) (by kernel_rfl) rfl (by rfl) (fun W hSw => by go_simp) (fun _ _ _ h => h) HS7.out ?_
  simp only [Act.put, List.setIfInBounds_toArray, List.set_cons_zero, List.set_cons_succ]
  refine hd_take 1 (o := ⟨some 49, _, _, _, _, _⟩) (.pointer (some ⟨T, 0, none⟩)) (by kernel_rfl) (by kernel_rfl) (by kernel_rfl) rfl (by rfl) (fun W hSw => by go_simp) (fun _ _ _ h => h) HS7.out ?_
  simp only [Act.put, List.setIfInBounds_toArray, List.set_cons_zero, List.set_cons_succ]
  refine hd_take 2 (o := ⟨some 50, _, _, _, _, _⟩) (.pointer (some ⟨T, 0, none⟩)) (by kernel_rfl) (by kernel_rfl) (by kernel_rfl) rfl (by rfl) (fun W hSw => by go_simp) (fun _ _ _ h => h) HS7.out ?_
  simp only [Act.put, List.setIfInBounds_toArray, List.set_cons_zero, List.set_cons_succ]
  refine hd_take 3 (o := ⟨some 51, _, _, _, _, _⟩) (.pointer (some ⟨S, 0, none⟩)) (by kernel_rfl) (by kernel_rfl) (by kernel_rfl) rfl (by rfl) (fun W hSw => by have c0 := hSw.1; go_simp) (fun _ _ _ h => h) HS7.out ?_
  simp only [Act.put, List.setIfInBounds_toArray, List.set_cons_zero, List.set_cons_succ]
  refine hd_take 4 (o := ⟨some 52, _, _, _, _, _⟩) (.int .i64 serial) (by kernel_rfl) (by kernel_rfl) (by kernel_rfl) rfl (by rfl) (fun W hSw => by go_simp) (fun _ _ _ h => h) HS7.out ?_
  simp only [Act.put, List.setIfInBounds_toArray, List.set_cons_zero, List.set_cons_succ]
  refine hd_take 5 (o := ⟨some 53, _, _, _, _, _⟩) (.int .i64 (k : Int)) (by kernel_rfl) (by kernel_rfl) (by kernel_rfl) rfl (by rfl) (fun W hSw => by go_simp) (fun _ _ _ h => h) HS7.out ?_
  simp only [Act.put, List.setIfInBounds_toArray, List.set_cons_zero, List.set_cons_succ]
  refine hd_take 6 (o := ⟨some 54, _, _, _, _, _⟩) (.agg #[.int .i64 q.f, .int .i64 q.e, .int .i64 q.x]) (by kernel_rfl) (by kernel_rfl) (by kernel_rfl) rfl (by rfl) (fun W hSw => by obtain ⟨c0, c1, c2, -, -, -⟩ := blk3 hSw.2; go_simp) (fun _ _ _ h => h) HS7.out ?_
  simp only [Act.put, List.setIfInBounds_toArray, List.set_cons_zero, List.set_cons_succ]
  refine hd_call 7 (o := ⟨some 55, _, _, _, _, _⟩) (by kernel_rfl) rfl (by rfl) (fun K hK => ?_)
  go_simp
  go_wp2_with (go_at_call 49; refine (HC4.out _).mono ?_; rintro e1 w8 ⟨nb, rfl, hR8, hlb, hb8⟩)
  have HE8 := hide (HE7.out.below hb8)
  refine hK _ _ ⟨HE8.out.cell.1, (hb8.block N (Array.getElem?_eq_some_iff.1 HA7.out).1).trans HA7.out⟩ ?_
  have HB8 := hide hb8
  have HR8 := hide hR8
  have HLB := hide hlb
  have HP := hide (HPut.out w8 nb HE8.out.tab)
  clear hK K hb8 hR8 hlb HPut
  try simp only [Act.put, List.setIfInBounds_toArray, List.set_cons_zero, List.set_cons_succ]
  refine hd_call 8 (o := ⟨some 56, _, _, _, _, _⟩) (by kernel_rfl) rfl (by rfl) (fun K hK => ?_)
  go_simp
  go_wp2_with (go_at_call 48; refine HP.out.mono ?_; rintro e1 w9 ⟨rfl, rfl⟩)
  have HB9 : Hid (Below N w w9) := hide (HB7.out.trans (HB8.out.mono (by rw [← HN.out]; exact HB7.out.size)))
  have HS9 : Hid (w9.cell? ⟨T, 0, none⟩ = some (.pointer (some ⟨S, 0, none⟩)) ∧ w9.heap[N]? = some (.cells #[.int .i64 q.f, .int .i64 q.e, .int .i64 q.x] 32 (0, 0))) := hide ⟨HE8.out.cell.1, (HB8.out.block N (Array.getElem?_eq_some_iff.1 HA7.out).1).trans HA7.out⟩
  refine hK _ _ HS9.out ?_
  clear hK K
  try simp only [Act.put, List.setIfInBounds_toArray, List.set_cons_zero, List.set_cons_succ]
  refine hd_take 9 (o := ⟨some 47, _, _, _, _, _⟩) (.tuple #[.int .i64 (-1), .int .i64 2]) (by kernel_rfl) (by kernel_rfl) (by kernel_rfl) rfl (by rfl) (fun W hSw => by go_simp) (fun _ _ _ h => h) HS9.out ?_
  try simp only [Act.put, List.setIfInBounds_toArray, List.set_cons_zero, List.set_cons_succ]
  refine hd_take 10 (o := ⟨some 57, _, _, _, _, _⟩) (.int .i64 (-1)) (by kernel_rfl) (by kernel_rfl) (by kernel_rfl) rfl (by rfl) (fun W hSw => by go_simp) (fun _ _ _ h => h) HS9.out ?_
  try simp only [Act.put, List.setIfInBounds_toArray, List.set_cons_zero, List.set_cons_succ]
  refine hd_take 11 (o := ⟨some 58, _, _, _, _, _⟩) (.int .i64 2) (by kernel_rfl) (by kernel_rfl) (by kernel_rfl) rfl (by rfl) (fun W hSw => by go_simp) (fun _ _ _ h => h) HS9.out ?_
  try simp only [Act.put, List.setIfInBounds_toArray, List.set_cons_zero, List.set_cons_succ]
  refine hd_take 12 (o := ⟨some 12, _, _, _, _, _⟩) (.int .i64 (-1)) (by kernel_rfl) (by kernel_rfl) (by kernel_rfl) rfl (by rfl) (fun W hSw => by go_simp) (fun _ _ _ h => h) HS9.out ?_
  try simp only [Act.put, List.setIfInBounds_toArray, List.set_cons_zero, List.set_cons_succ]
  refine hd_take 13 (o := ⟨some 13, _, _, _, _, _⟩) (.int .i64 2) (by kernel_rfl) (by kernel_rfl) (by kernel_rfl) rfl (by rfl) (fun W hSw => by go_simp) (fun _ _ _ h => h) HS9.out ?_
  try simp only [Act.put, List.setIfInBounds_toArray, List.set_cons_zero, List.set_cons_succ]
  refine wpAnyH_done (by kernel_rfl) ?_ _
  go_wp2
  go_ret2
  exact ⟨rfl, by rw [HN.out]; exact HB9.out⟩
end
end Go.Proofs.Ytoddadohmnaolab

namespace Go.Proofs.Ytoddadohmnaolab
open Go.RowKit Go.Shelf

/-- a sum over the sixteen numbers -/
def tot (f : Nat → Int) : Int := f 0 + f 1 + f 2 + f 3 + f 4 + f 5 + f 6 + f 7 + f 8 + f 9 + f 10 + f 11 + f 12 + f 13 + f 14 + f 15
theorem tot_congr {f g : Nat → Int} (h : ∀ j, j < 16 → g j = f j) : tot g = tot f := by
  unfold tot
  rw [h 0 (by omega), h 1 (by omega), h 2 (by omega), h 3 (by omega), h 4 (by omega), h 5 (by omega), h 6 (by omega), h 7 (by omega), h 8 (by omega), h 9 (by omega), h 10 (by omega), h 11 (by omega), h 12 (by omega), h 13 (by omega), h 14 (by omega), h 15 (by omega)]
theorem tot_pos {f : Nat → Int} (h : ∀ j, j < 16 → 0 ≤ f j) : 0 ≤ tot f := by
  unfold tot
  have h0 := h 0 (by omega)
  have h1 := h 1 (by omega)
  have h2 := h 2 (by omega)
  have h3 := h 3 (by omega)
  have h4 := h 4 (by omega)
  have h5 := h 5 (by omega)
  have h6 := h 6 (by omega)
  have h7 := h 7 (by omega)
  have h8 := h 8 (by omega)
  have h9 := h 9 (by omega)
  have h10 := h 10 (by omega)
  have h11 := h 11 (by omega)
  have h12 := h 12 (by omega)
  have h13 := h 13 (by omega)
  have h14 := h 14 (by omega)
  have h15 := h 15 (by omega)
  omega
theorem tot_upd {f g : Nat → Int} {i : Nat} (hi : i < 16) (h : ∀ j, j < 16 → j ≠ i → g j = f j) : tot g = tot f - f i + g i := by
  have hi' : i = 0 ∨ i = 1 ∨ i = 2 ∨ i = 3 ∨ i = 4 ∨ i = 5 ∨ i = 6 ∨ i = 7 ∨ i = 8 ∨ i = 9 ∨ i = 10 ∨ i = 11 ∨ i = 12 ∨ i = 13 ∨ i = 14 ∨ i = 15 := by omega
  unfold tot
  rcases hi' with rfl | rfl | rfl | rfl | rfl | rfl | rfl | rfl | rfl | rfl | rfl | rfl | rfl | rfl | rfl | rfl
  · have h1 := h 1 (by omega) (by omega)
    have h2 := h 2 (by omega) (by omega)
    have h3 := h 3 (by omega) (by omega)
    have h4 := h 4 (by omega) (by omega)
    have h5 := h 5 (by omega) (by omega)
    have h6 := h 6 (by omega) (by omega)
    have h7 := h 7 (by omega) (by omega)
    have h8 := h 8 (by omega) (by omega)
    have h9 := h 9 (by omega) (by omega)
    have h10 := h 10 (by omega) (by omega)
    have h11 := h 11 (by omega) (by omega)
    have h12 := h 12 (by omega) (by omega)
    have h13 := h 13 (by omega) (by omega)
    have h14 := h 14 (by omega) (by omega)
    have h15 := h 15 (by omega) (by omega)
    omega
  · have h0 := h 0 (by omega) (by omega)
    have h2 := h 2 (by omega) (by omega)
    have h3 := h 3 (by omega) (by omega)
    have h4 := h 4 (by omega) (by omega)
    have h5 := h 5 (by omega) (by omega)
    have h6 := h 6 (by omega) (by omega)
    have h7 := h 7 (by omega) (by omega)
    have h8 := h 8 (by omega) (by omega)
    have h9 := h 9 (by omega) (by omega)
    have h10 := h 10 (by omega) (by omega)
    have h11 := h 11 (by omega) (by omega)
    have h12 := h 12 (by omega) (by omega)
    have h13 := h 13 (by omega) (by omega)
    have h14 := h 14 (by omega) (by omega)
    have h15 := h 15 (by omega) (by omega)
    omega
  · have h0 := h 0 (by omega) (by omega)
    have h1 := h 1 (by omega) (by omega)
    have h3 := h 3 (by omega) (by omega)
    have h4 := h 4 (by omega) (by omega)
    have h5 := h 5 (by omega) (by omega)
    have h6 := h 6 (by omega) (by omega)
    have h7 := h 7 (by omega) (by omega)
    have h8 := h 8 (by omega) (by omega)
    have h9 := h 9 (by omega) (by omega)
    have h10 := h 10 (by omega) (by omega)
    have h11 := h 11 (by omega) (by omega)
    have h12 := h 12 (by omega) (by omega)
    have h13 := h 13 (by omega) (by omega)
    have h14 := h 14 (by omega) (by omega)
    have h15 := h 15 (by omega) (by omega)
    omega
  · have h0 := h 0 (by omega) (by omega)
    have h1 := h 1 (by omega) (by omega)
    have h2 := h 2 (by omega) (by omega)
    have h4 := h 4 (by omega) (by omega)
    have h5 := h 5 (by omega) (by omega)
    have h6 := h 6 (by omega) (by omega)
    have h7 := h 7 (by omega) (by omega)
    have h8 := h 8 (by omega) (by omega)
    have h9 := h 9 (by omega) (by omega)
    have h10 := h 10 (by omega) (by omega)
    have h11 := h 11 (by omega) (by omega)
    have h12 := h 12 (by omega) (by omega)
    have h13 := h 13 (by omega) (by omega)
    have h14 := h 14 (by omega) (by omega)
    have h15 := h 15 (by omega) (by omega)
    omega
  · have h0 := h 0 (by omega) (by omega)
    have h1 := h 1 (by omega) (by omega)
    have h2 := h 2 (by omega) (by omega)
    have h3 := h 3 (by omega) (by omega)
    have h5 := h 5 (by omega) (by omega)
    have h6 := h 6 (by omega) (by omega)
    have h7 := h 7 (by omega) (by omega)
    have h8 := h 8 (by omega) (by omega)
    have h9 := h 9 (by omega) (by omega)
    have h10 := h 10 (by omega) (by omega)
    have h11 := h 11 (by omega) (by omega)
    have h12 := h 12 (by omega) (by omega)
    have h13 := h 13 (by omega) (by omega)
    have h14 := h 14 (by omega) (by omega)
    have h15 := h 15 (by omega) (by omega)
    omega
  · have h0 := h 0 (by omega) (by omega)
    have h1 := h 1 (by omega) (by omega)
    have h2 := h 2 (by omega) (by omega)
    have h3 := h 3 (by omega) (by omega)
    have h4 := h 4 (by omega) (by omega)
    have h6 := h 6 (by omega) (by omega)
    have h7 := h 7 (by omega) (by omega)
    have h8 := h 8 (by omega) (by omega)
    have h9 := h 9 (by omega) (by omega)
    have h10 := h 10 (by omega) (by omega)
    have h11 := h 11 (by omega) (by omega)
    have h12 := h 12 (by omega) (by omega)
    have h13 := h 13 (by omega) (by omega)
    have h14 := h 14 (by omega) (by omega)
    have h15 := h 15 (by omega) (by omega)
    omega
  · have h0 := h 0 (by omega) (by omega)
    have h1 := h 1 (by omega) (by omega)
    have h2 := h 2 (by omega) (by omega)
    have h3 := h 3 (by omega) (by omega)
    have h4 := h 4 (by omega) (by omega)
    have h5 := h 5 (by omega) (by omega)
    have h7 := h 7 (by omega) (by omega)
    have h8 := h 8 (by omega) (by omega)
    have h9 := h 9 (by omega) (by omega)
    have h10 := h 10 (by omega) (by omega)
    have h11 := h 11 (by omega) (by omega)
    have h12 := h 12 (by omega) (by omega)
    have h13 := h 13 (by omega) (by omega)
    have h14 := h 14 (by omega) (by omega)
    have h15 := h 15 (by omega) (by omega)
    omega
  · have h0 := h 0 (by omega) (by omega)
    have h1 := h 1 (by omega) (by omega)
    have h2 := h 2 (by omega) (by omega)
    have h3 := h 3 (by omega) (by omega)
    have h4 := h 4 (by omega) (by omega)
    have h5 := h 5 (by omega) (by omega)
    have h6 := h 6 (by omega) (by omega)
    have h8 := h 8 (by omega) (by omega)
    have h9 := h 9 (by omega) (by omega)
    have h10 := h 10 (by omega) (by omega)
    have h11 := h 11 (by omega) (by omega)
    have h12 := h 12 (by omega) (by omega)
    have h13 := h 13 (by omega) (by omega)
    have h14 := h 14 (by omega) (by omega)
    have h15 := h 15 (by omega) (by omega)
    omega
  · have h0 := h 0 (by omega) (by omega)
    have h1 := h 1 (by omega) (by omega)
    have h2 := h 2 (by omega) (by omega)
    have h3 := h 3 (by omega) (by omega)
    have h4 := h 4 (by omega) (by omega)
    have h5 := h 5 (by omega) (by omega)
    have h6 := h 6 (by omega) (by omega)
    have h7 := h 7 (by omega) (by omega)
    have h9 := h 9 (by omega) (by omega)
    have h10 := h 10 (by omega) (by omega)
    have h11 := h 11 (by omega) (by omega)
    have h12 := h 12 (by omega) (by omega)
    have h13 := h 13 (by omega) (by omega)
    have h14 := h 14 (by omega) (by omega)
    have h15 := h 15 (by omega) (by omega)
    omega
  · have h0 := h 0 (by omega) (by omega)
    have h1 := h 1 (by omega) (by omega)
    have h2 := h 2 (by omega) (by omega)
    have h3 := h 3 (by omega) (by omega)
    have h4 := h 4 (by omega) (by omega)
    have h5 := h 5 (by omega) (by omega)
    have h6 := h 6 (by omega) (by omega)
    have h7 := h 7 (by omega) (by omega)
    have h8 := h 8 (by omega) (by omega)
    have h10 := h 10 (by omega) (by omega)
    have h11 := h 11 (by omega) (by omega)
    have h12 := h 12 (by omega) (by omega)
    have h13 := h 13 (by omega) (by omega)
    have h14 := h 14 (by omega) (by omega)
    have h15 := h 15 (by omega) (by omega)
    omega
  · have h0 := h 0 (by omega) (by omega)
    have h1 := h 1 (by omega) (by omega)
    have h2 := h 2 (by omega) (by omega)
    have h3 := h 3 (by omega) (by omega)
    have h4 := h 4 (by omega) (by omega)
    have h5 := h 5 (by omega) (by omega)
    have h6 := h 6 (by omega) (by omega)
    have h7 := h 7 (by omega) (by omega)
    have h8 := h 8 (by omega) (by omega)
    have h9 := h 9 (by omega) (by omega)
    have h11 := h 11 (by omega) (by omega)
    have h12 := h 12 (by omega) (by omega)
    have h13 := h 13 (by omega) (by omega)
    have h14 := h 14 (by omega) (by omega)
    have h15 := h 15 (by omega) (by omega)
    omega
  · have h0 := h 0 (by omega) (by omega)
    have h1 := h 1 (by omega) (by omega)
    have h2 := h 2 (by omega) (by omega)
    have h3 := h 3 (by omega) (by omega)
    have h4 := h 4 (by omega) (by omega)
    have h5 := h 5 (by omega) (by omega)
    have h6 := h 6 (by omega) (by omega)
    have h7 := h 7 (by omega) (by omega)
    have h8 := h 8 (by omega) (by omega)
    have h9 := h 9 (by omega) (by omega)
    have h10 := h 10 (by omega) (by omega)
    have h12 := h 12 (by omega) (by omega)
    have h13 := h 13 (by omega) (by omega)
    have h14 := h 14 (by omega) (by omega)
    have h15 := h 15 (by omega) (by omega)
    omega
  · have h0 := h 0 (by omega) (by omega)
    have h1 := h 1 (by omega) (by omega)
    have h2 := h 2 (by omega) (by omega)
    have h3 := h 3 (by omega) (by omega)
    have h4 := h 4 (by omega) (by omega)
    have h5 := h 5 (by omega) (by omega)
    have h6 := h 6 (by omega) (by omega)
    have h7 := h 7 (by omega) (by omega)
    have h8 := h 8 (by omega) (by omega)
    have h9 := h 9 (by omega) (by omega)
    have h10 := h 10 (by omega) (by omega)
    have h11 := h 11 (by omega) (by omega)
    have h13 := h 13 (by omega) (by omega)
    have h14 := h 14 (by omega) (by omega)
    have h15 := h 15 (by omega) (by omega)
    omega
  · have h0 := h 0 (by omega) (by omega)
    have h1 := h 1 (by omega) (by omega)
    have h2 := h 2 (by omega) (by omega)
    have h3 := h 3 (by omega) (by omega)
    have h4 := h 4 (by omega) (by omega)
    have h5 := h 5 (by omega) (by omega)
    have h6 := h 6 (by omega) (by omega)
    have h7 := h 7 (by omega) (by omega)
    have h8 := h 8 (by omega) (by omega)
    have h9 := h 9 (by omega) (by omega)
    have h10 := h 10 (by omega) (by omega)
    have h11 := h 11 (by omega) (by omega)
    have h12 := h 12 (by omega) (by omega)
    have h14 := h 14 (by omega) (by omega)
    have h15 := h 15 (by omega) (by omega)
    omega
  · have h0 := h 0 (by omega) (by omega)
    have h1 := h 1 (by omega) (by omega)
    have h2 := h 2 (by omega) (by omega)
    have h3 := h 3 (by omega) (by omega)
    have h4 := h 4 (by omega) (by omega)
    have h5 := h 5 (by omega) (by omega)
    have h6 := h 6 (by omega) (by omega)
    have h7 := h 7 (by omega) (by omega)
    have h8 := h 8 (by omega) (by omega)
    have h9 := h 9 (by omega) (by omega)
    have h10 := h 10 (by omega) (by omega)
    have h11 := h 11 (by omega) (by omega)
    have h12 := h 12 (by omega) (by omega)
    have h13 := h 13 (by omega) (by omega)
    have h15 := h 15 (by omega) (by omega)
    omega
  · have h0 := h 0 (by omega) (by omega)
    have h1 := h 1 (by omega) (by omega)
    have h2 := h 2 (by omega) (by omega)
    have h3 := h 3 (by omega) (by omega)
    have h4 := h 4 (by omega) (by omega)
    have h5 := h 5 (by omega) (by omega)
    have h6 := h 6 (by omega) (by omega)
    have h7 := h 7 (by omega) (by omega)
    have h8 := h 8 (by omega) (by omega)
    have h9 := h 9 (by omega) (by omega)
    have h10 := h 10 (by omega) (by omega)
    have h11 := h 11 (by omega) (by omega)
    have h12 := h 12 (by omega) (by omega)
    have h13 := h 13 (by omega) (by omega)
    have h14 := h 14 (by omega) (by omega)
    omega
theorem tot_le {f : Nat → Int} {i : Nat} (hi : i < 16) (h : ∀ j, j < 16 → 0 ≤ f j) : f i ≤ tot f := by
  have h1 := tot_upd (f := fun j => if j = i then 0 else f j) (g := f) hi (fun j _ hj => by simp [hj])
  have h2 := tot_pos (f := fun j => if j = i then 0 else f j) (fun j hj => by split; omega; exact h j hj)
  simp at h1
  omega
section
variable {rs rs' : List (Option Er)} {last : Int}
/-- what stands of a number but for what changes -/
def core (rs : List (Option Er)) (i : Nat) : Option (Int × Int × Qt) := (look rs (i : Int)).map (fun r => (r.se, r.pa, r.qu))
theorem core_at {i : Nat} {r : Er} (h : rs[i]? = some (some r)) : core rs i = some (r.se, r.pa, r.qu) := by unfold core; rw [look_nat, h]; rfl
theorem lv_core {i : Nat} : Lv rs i ↔ (core rs i).isSome = true := by
  unfold Lv core
  rw [look_nat]
  cases h : rs[i]? with
  | none => simp
  | some o => cases o <;> simp
/-- what a child costs -/
def prc (rs : List (Option Er)) (i : Nat) : Qt := match core rs i with | some (_, _, q) => q.plus Qt.one | none => Qt.zero
theorem kid_core {e : Int} {i : Nat} : kid rs e i = match core rs i with | some (_, p, _) => decide (p = e) | none => false := by
  unfold kid core
  rw [look_nat]
  cases h : rs[i]? with
  | none => rfl
  | some o => cases o <;> rfl
theorem ser_core {i : Nat} : ser rs i = match core rs i with | some (s, _, _) => s | none => 0 := by
  unfold ser core
  rw [look_nat]
  cases h : rs[i]? with
  | none => rfl
  | some o => cases o <;> rfl
/-- the same but for what changes -/
def Same (rs rs' : List (Option Er)) : Prop := rs'.length = rs.length ∧ ∀ i, core rs' i = core rs i
theorem Same.set {k : Nat} {r r' : Er} (h : rs[k]? = some (some r)) (h1 : r'.se = r.se) (h2 : r'.pa = r.pa) (h3 : r'.qu = r.qu) : Same rs (rs.set k (some r')) := by
  refine ⟨by simp, fun i => ?_⟩
  by_cases e : i = k
  · subst e
    rw [core_at h, core_at (r := r') (by rw [List.getElem?_set_self (List.getElem?_eq_some_iff.1 h).1]), h1, h2, h3]
  · unfold core
    rw [look_nat, look_nat, List.getElem?_set_ne (fun e' => e e'.symm)]
theorem Same.kid (h : Same rs rs') (e : Int) (i : Nat) : kid rs' e i = kid rs e i := by rw [kid_core, kid_core, h.2 i]
theorem Same.ser (h : Same rs rs') (i : Nat) : ser rs' i = ser rs i := by rw [ser_core, ser_core, h.2 i]
theorem Same.prc (h : Same rs rs') (i : Nat) : prc rs' i = prc rs i := by unfold Go.Proofs.Ytoddadohmnaolab.prc; rw [h.2 i]
theorem Same.lv (h : Same rs rs') (i : Nat) : Lv rs' i ↔ Lv rs i := by rw [lv_core, lv_core, h.2 i]
theorem none_core {i : Nat} (hi : i < rs.length) : rs[i]? = some none ↔ core rs i = none := by
  unfold core
  rw [look_nat, List.getElem?_eq_getElem hi]
  cases rs[i] <;> simp
theorem Same.fsts (h : Same rs rs') : (prs rs' 0).map Prod.fst = (prs rs 0).map Prod.fst := by
  unfold prs
  refine prsL_same _ _ _ (by simp [h.1]) (fun i => ?_)
  simp only [List.drop_zero]
  by_cases hi : i < rs.length
  · rw [none_core (by rw [h.1]; exact hi), none_core hi, h.2 i]
  · rw [List.getElem?_eq_none (by rw [h.1]; omega), List.getElem?_eq_none (by omega)]
theorem Same.kids (h : Same rs rs') (e : Int) : kids rs' e = kids rs e := by
  have h1 : kidsU rs' e = kidsU rs e := by
    unfold kidsU fitK
    rw [h.fsts]
    congr 1
    funext i; exact h.kid e i
  unfold Go.Proofs.Ytoddadohmnaolab.kids
  rw [h1]
  congr 1
  funext a b
  rw [h.ser, h.ser]
theorem Same.wk (h : Same rs rs') : ∀ n e, wk rs' n e = wk rs n e
  | 0, _ => rfl
  | n + 1, e => by
    simp only [Go.Proofs.Ytoddadohmnaolab.wk]
    rw [h.kids]
    congr 2
    funext c; exact h.wk n c
theorem Same.dp (h : Same rs rs') : ∀ n e, Dp rs n e → Dp rs' n e
  | 0, _, hd => hd
  | n + 1, e, hd => fun k hk => h.dp n k (hd k (by rw [← h.kids]; exact hk))
theorem Same.dis (h : Same rs rs') (hd : Dis rs) : Dis rs' := fun a b ha hb e => hd a b ((h.lv a).1 ha) ((h.lv b).1 hb) (by rw [← h.ser, ← h.ser]; exact e)
end
end Go.Proofs.Ytoddadohmnaolab

namespace Go.Proofs.Ytoddadohmnaolab
open Go.RowKit Go.Shelf

/-- the tree: the root, parents that live and are older, no two serials alike -/
structure Tr (rs : List (Option Er)) (last : Int) : Prop where
  len : rs.length = 16
  root : ∃ r, rs[0]? = some (some r) ∧ r.pa = -1
  par : ∀ k r, rs[k]? = some (some r) → k ≠ 0 → ∃ p : Nat, r.pa = (p : Int) ∧ Lv rs p ∧ ser rs p < ser rs k
  old : ∀ k, Lv rs k → ser rs k ≤ last
  dis : Dis rs
section
variable {rs rs' : List (Option Er)} {last : Int}
theorem lv_lt (h : Tr rs last) {k : Nat} (hk : Lv rs k) : k < 16 := by
  obtain ⟨r, hr⟩ := hk
  have := (List.getElem?_eq_some_iff.1 hr).1
  rw [h.len] at this; exact this
theorem kid_of {e : Int} {k : Nat} (h : kid rs e k = true) : ∃ r, rs[k]? = some (some r) ∧ r.pa = e := by
  obtain ⟨r, hr⟩ := kid_lv h
  rw [kid_at hr] at h
  exact ⟨r, hr, of_decide_eq_true h⟩
theorem kids_kid {e : Int} {k : Nat} (h : k ∈ kids rs e) : kid rs e k = true := by
  rw [kids_mem] at h
  unfold kidsU fitK at h
  exact (List.mem_filter.1 h).2
theorem kid_kids {e : Int} {k : Nat} (h : kid rs e k = true) : k ∈ kids rs e := by
  rw [kids_mem]
  unfold kidsU fitK
  refine List.mem_filter.2 ⟨?_, h⟩
  obtain ⟨r, hr⟩ := kid_lv h
  exact List.mem_map.2 ⟨(k, r), prs_mem.2 hr, rfl⟩
/-- a child of a number is younger, and not the root -/
theorem kid_ser (h : Tr rs last) {e k : Nat} (hk : kid rs (e : Int) k = true) : ser rs e < ser rs k ∧ k ≠ 0 ∧ Lv rs e := by
  obtain ⟨r, hr, hp⟩ := kid_of hk
  have h0 : k ≠ 0 := fun e0 => by
    subst e0
    obtain ⟨r0, h1, h2⟩ := h.root
    rw [hr] at h1; cases h1
    rw [hp] at h2; omega
  obtain ⟨p, h1, h2, h3⟩ := h.par k r hr h0
  obtain rfl : e = p := by rw [hp] at h1; omega
  exact ⟨h3, h0, h2⟩
theorem wk_lv : ∀ (n : Nat) {e c : Nat}, Lv rs e → c ∈ wk rs n e → Lv rs c
  | 0, e, c, h, hc => by simp [wk] at hc; subst hc; exact h
  | n + 1, e, c, h, hc => by
    simp only [wk, List.mem_cons, List.mem_flatMap] at hc
    rcases hc with rfl | ⟨k, hk, hc⟩
    · exact h
    · exact wk_lv n (kid_lv (kids_kid hk)) hc
theorem wk_ser (h : Tr rs last) : ∀ (n : Nat) {e c : Nat}, c ∈ wk rs n e → c = e ∨ ser rs e < ser rs c
  | 0, e, c, hc => by simp [wk] at hc; exact .inl hc
  | n + 1, e, c, hc => by
    simp only [wk, List.mem_cons, List.mem_flatMap] at hc
    rcases hc with rfl | ⟨k, hk, hc⟩
    · exact .inl rfl
    · have h1 := (kid_ser h (kids_kid hk)).1
      rcases wk_ser h n hc with rfl | h2
      · exact .inr h1
      · exact .inr (by omega)
/-- c is a or below it -/
def AncN (rs : List (Option Er)) (a : Nat) : Nat → Nat → Prop
  | 0, c => c = a
  | n + 1, c => ∃ q : Nat, kid rs (q : Int) c = true ∧ AncN rs a n q
def Anc (rs : List (Option Er)) (a c : Nat) : Prop := ∃ n, AncN rs a n c
theorem Anc.refl {a : Nat} : Anc rs a a := ⟨0, Eq.refl a⟩
theorem Anc.step {a c q : Nat} (h : kid rs (q : Int) c = true) (hq : Anc rs a q) : Anc rs a c := by
  obtain ⟨n, hn⟩ := hq
  exact ⟨n + 1, q, h, hn⟩
theorem anc_cases {a c : Nat} (h : Anc rs a c) : c = a ∨ ∃ q : Nat, kid rs (q : Int) c = true ∧ Anc rs a q := by
  obtain ⟨n, hn⟩ := h
  cases n with
  | zero => exact .inl hn
  | succ n =>
    obtain ⟨q, h1, h2⟩ := hn
    exact .inr ⟨q, h1, n, h2⟩
theorem anc_ind {a : Nat} {P : Nat → Prop} (h0 : P a) (hs : ∀ c q : Nat, kid rs (q : Int) c = true → Anc rs a q → P q → P c) {c : Nat} (h : Anc rs a c) : P c := by
  obtain ⟨n, hn⟩ := h
  induction n generalizing c with
  | zero => obtain rfl : c = a := hn; exact h0
  | succ n ih =>
    obtain ⟨q, h1, h2⟩ := hn
    exact hs c q h1 ⟨n, h2⟩ (ih h2)
theorem Anc.top {a b c : Nat} (hk : kid rs (a : Int) b = true) (h : Anc rs b c) : Anc rs a c := by
  exact anc_ind (P := fun c => Anc rs a c) (Anc.step hk Anc.refl) (fun _ _ h1 _ ih => Anc.step h1 ih) h
theorem wk_anc : ∀ (n : Nat) {e c : Nat}, c ∈ wk rs n e → Anc rs e c
  | 0, e, c, hc => by simp [wk] at hc; subst hc; exact .refl
  | n + 1, e, c, hc => by
    simp only [wk, List.mem_cons, List.mem_flatMap] at hc
    rcases hc with rfl | ⟨k, hk, hc⟩
    · exact .refl
    · exact (wk_anc n hc).top (kids_kid hk)
theorem Anc.ser (h : Tr rs last) {a c : Nat} (ha : Anc rs a c) : ser rs a ≤ ser rs c := by
  refine anc_ind (P := fun c => Go.Proofs.Ytoddadohmnaolab.ser rs a ≤ Go.Proofs.Ytoddadohmnaolab.ser rs c) (Int.le_refl _) (fun c q hk _ ih => ?_) ha
  have := (kid_ser h hk).1
  omega
theorem kid_one {c p q : Nat} (h1 : kid rs (p : Int) c = true) (h2 : kid rs (q : Int) c = true) : p = q := by
  obtain ⟨r, hr, h3⟩ := kid_of h1
  obtain ⟨r', hr', h4⟩ := kid_of h2
  rw [hr] at hr'; cases hr'
  omega
theorem anc_one (h : Tr rs last) {e a b c : Nat} (ha : kid rs (e : Int) a = true) (hb : kid rs (e : Int) b = true) (h1 : Anc rs a c) : Anc rs b c → a = b := by
  have la := (kid_ser h ha).1
  have lb := (kid_ser h hb).1
  refine anc_ind (P := fun c => Anc rs b c → a = b) (fun h2 => ?_) (fun c q hk hq ih h2 => ?_) h1
  · rcases anc_cases h2 with h3 | ⟨q, hk, hq⟩
    · exact h3
    · obtain rfl := kid_one ha hk
      have := hq.ser h
      omega
  · rcases anc_cases h2 with rfl | ⟨q2, hk2, hq2⟩
    · obtain rfl := kid_one hb hk
      have := hq.ser h
      omega
    · obtain rfl := kid_one hk hk2
      exact ih hq2
theorem prsL_nodup {α : Type} (l : List (Option α)) (s : Nat) : ((prsL s l).map Prod.fst).Nodup := by
  refine List.Pairwise.map _ (fun a b hab => ?_) (prsL_sorted l s)
  omega
theorem kids_nodup (e : Int) : (kids rs e).Nodup := by
  have h1 : (kidsU rs e).Nodup := by
    unfold kidsU fitK
    exact List.Pairwise.filter _ (prsL_nodup _ _)
  exact (List.mergeSort_perm (kidsU rs e) _).nodup_iff.2 h1
theorem wk_nodup (h : Tr rs last) : ∀ (n e : Nat), (wk rs n e).Nodup
  | 0, e => by simp [wk]
  | n + 1, e => by
    simp only [wk]
    refine List.nodup_cons.2 ⟨fun hc => ?_, ?_⟩
    · obtain ⟨k, hk, hc⟩ := List.mem_flatMap.1 hc
      have h1 := (kid_ser h (kids_kid hk)).1
      rcases wk_ser h n hc with h2 | h2
      · rw [h2] at h1; omega
      · omega
    · refine List.pairwise_flatMap.2 ⟨fun k _ => wk_nodup h n k, ?_⟩
      refine List.Pairwise.imp_of_mem (fun {a b} ha hb hab => ?_) (kids_nodup (rs := rs) (e : Int))
      intro x hx y hy e0
      subst e0
      exact hab (anc_one h (kids_kid ha) (kids_kid hb) (wk_anc n hx) (wk_anc n hy))
theorem nodup_le {α : Type} [BEq α] [LawfulBEq α] : ∀ (l m : List α), l.Nodup → (∀ x ∈ l, x ∈ m) → l.length ≤ m.length
  | [], _, _, _ => Nat.zero_le _
  | x :: l, m, hn, hs => by
    obtain ⟨h1, h2⟩ := List.nodup_cons.1 hn
    have hx : x ∈ m := hs x List.mem_cons_self
    have h3 := nodup_le l (m.erase x) h2 (fun y hy => (List.mem_erase_of_ne (by rintro rfl; exact h1 hy)).2 (hs y (List.mem_cons_of_mem _ hy)))
    rw [List.length_erase_of_mem hx] at h3
    have := List.length_pos_of_mem hx
    rw [List.length_cons]
    omega
theorem nodup_le16 {l : List Nat} (hn : l.Nodup) (hl : ∀ x ∈ l, x < 16) : l.length ≤ 16 := by
  have h := nodup_le l (List.range 16) hn (fun x hx => List.mem_range.2 (hl x hx))
  simpa using h
theorem wk_len (h : Tr rs last) (n : Nat) {e : Nat} (he : Lv rs e) : (wk rs n e).length ≤ 16 := nodup_le16 (wk_nodup h n e) (fun _ hx => lv_lt h (wk_lv n he hx))
theorem wk_len' (h : Tr rs last) : ∀ (n e : Nat), (wk rs n e).length ≤ 4096
  | n, e => by
    by_cases he : Lv rs e
    · have := wk_len h n he; omega
    · have hk : kids rs (e : Int) = [] := by
        rcases hq : kids rs (e : Int) with _ | ⟨k, l⟩
        · rfl
        · exact absurd (kid_ser h (kids_kid (rs := rs) (e := (e : Int)) (k := k) (by rw [hq]; simp))).2.2 he
      cases n with
      | zero => simp [wk]
      | succ n => simp [wk, hk]
theorem kids_len (h : Tr rs last) (e : Int) : (kids rs e).length ≤ 4096 := by
  have := nodup_le16 (kids_nodup (rs := rs) e) (fun x hx => lv_lt h (kid_lv (kids_kid hx)))
  omega
/-- those that are younger -/
def yng (rs : List (Option Er)) (e : Nat) : List Nat := (List.range 16).filter (fun i => (core rs i).isSome && decide (ser rs e < ser rs i))
theorem yng_lt (h : Tr rs last) {e k : Nat} (hk : kid rs (e : Int) k = true) : (yng rs k).length < (yng rs e).length := by
  have h1 := (kid_ser h hk).1
  have hkl := lv_lt h (kid_lv hk)
  have hnd : (k :: yng rs k).Nodup := List.nodup_cons.2 ⟨fun hc => by
    unfold yng at hc
    have := (List.mem_filter.1 hc).2
    simp at this, List.Pairwise.filter _ List.nodup_range⟩
  have := nodup_le (k :: yng rs k) (yng rs e) hnd (fun x hx => by
    unfold yng
    rcases List.mem_cons.1 hx with rfl | hx
    · exact List.mem_filter.2 ⟨List.mem_range.2 hkl, by simp [lv_core.1 (kid_lv hk), h1]⟩
    · unfold yng at hx
      obtain ⟨q1, q2⟩ := List.mem_filter.1 hx
      simp at q2
      exact List.mem_filter.2 ⟨q1, by simp [q2.1]; omega⟩)
  simp at this
  omega
theorem dp_of (h : Tr rs last) : ∀ (n e : Nat), (yng rs e).length < n → Dp rs n e
  | 0, _, hl => by omega
  | n + 1, e, hl => fun k hk => dp_of h n k (by have := yng_lt h (kids_kid hk); omega)
theorem dp17 (h : Tr rs last) (e : Nat) : Dp rs 17 e := dp_of h 17 e (by
  have : (yng rs e).length ≤ (List.range 16).length := List.length_filter_le _ _
  simp at this; omega)
/-- what is below one that is in a walk is in it too -/
theorem wk_closed : ∀ (n : Nat) {e c d : Nat}, Dp rs n e → c ∈ wk rs n e → kid rs (c : Int) d = true → d ∈ wk rs n e
  | 0, _, _, _, hd, _, _ => hd.elim
  | n + 1, e, c, d, hd, hc, hk => by
    simp only [wk, List.mem_cons, List.mem_flatMap] at hc ⊢
    rcases hc with rfl | ⟨k, hk', hc⟩
    · refine .inr ⟨d, kid_kids hk, ?_⟩
      cases n with
      | zero => exact (hd d (kid_kids hk)).elim
      | succ n => simp [wk]
    · exact .inr ⟨k, hk', wk_closed n (hd k hk') hc hk⟩
theorem wk_up : ∀ (n : Nat) {e c : Nat}, c ∈ wk rs n e → c = e ∨ ∃ q, q ∈ wk rs n e ∧ kid rs (q : Int) c = true
  | 0, e, c, hc => by simp [wk] at hc; exact .inl hc
  | n + 1, e, c, hc => by
    simp only [wk, List.mem_cons, List.mem_flatMap] at hc
    rcases hc with rfl | ⟨k, hk, hc⟩
    · exact .inl rfl
    · rcases wk_up n hc with rfl | ⟨q, h1, h2⟩
      · exact .inr ⟨e, by simp [wk], kids_kid hk⟩
      · exact .inr ⟨q, by simp only [wk, List.mem_cons, List.mem_flatMap]; exact .inr ⟨k, hk, h1⟩, h2⟩
theorem wk_self (n e : Nat) : e ∈ wk rs n e := by cases n <;> simp [wk]
theorem Tr.same (h : Tr rs last) (hs : Same rs rs') : Tr rs' last := by
  refine ⟨hs.1.trans h.len, ?_, fun k r hr h0 => ?_, fun k hk => by rw [hs.ser]; exact h.old k ((hs.lv k).1 hk), hs.dis h.dis⟩
  · obtain ⟨r, h1, h2⟩ := h.root
    obtain ⟨r', h3⟩ := (hs.lv 0).2 ⟨r, h1⟩
    refine ⟨r', h3, ?_⟩
    have := hs.2 0
    rw [core_at h1, core_at h3] at this
    simp at this
    rw [this.2.1]; exact h2
  · obtain ⟨r', h3⟩ := (hs.lv k).1 ⟨r, hr⟩
    have := hs.2 k
    rw [core_at hr, core_at h3] at this
    simp at this
    obtain ⟨p, h4, h5, h6⟩ := h.par k r' h3 h0
    exact ⟨p, by rw [this.2.1]; exact h4, (hs.lv p).2 h5, by rw [hs.ser, hs.ser]; exact h6⟩
end
end Go.Proofs.Ytoddadohmnaolab

namespace Go.Proofs.Ytoddadohmnaolab
open Go.RowKit Go.Shelf

/-- a child's part of what is carved -/
def tm (s : Qt → Int) (rs : List (Option Er)) (e : Nat) (i : Nat) : Int := if kid rs (e : Int) i = true then s (prc rs i) else 0
/-- what the children carve -/
def cv (rs : List (Option Er)) (e : Nat) : Qt := ⟨tot (tm Qt.f rs e), tot (tm Qt.e rs e), tot (tm Qt.x rs e)⟩
def Qt.nn (q : Qt) : Prop := 0 ≤ q.f ∧ 0 ≤ q.e ∧ 0 ≤ q.x
structure Qk (rs : List (Option Er)) (k : Nat) (r : Er) : Prop where
  good : r.qu.good
  pd : r.pd.nn
  le : r.le.nn
  sum : r.qu = (r.pd.plus r.le).plus (cv rs k)
structure Iv (rs : List (Option Er)) (last : Int) : Prop where
  tr : Tr rs last
  q : ∀ k r, rs[k]? = some (some r) → Qk rs k r
section
variable {rs rs' : List (Option Er)} {last : Int}
theorem Same.cv (h : Same rs rs') (e : Nat) : cv rs' e = cv rs e := by
  have h1 : ∀ s : Qt → Int, tm s rs' e = tm s rs e := fun s => by
    funext i
    unfold tm
    rw [h.kid, h.prc]
  unfold Go.Proofs.Ytoddadohmnaolab.cv
  rw [h1, h1, h1]
theorem prc_at {i : Nat} {r : Er} (h : rs[i]? = some (some r)) : prc rs i = r.qu.plus Qt.one := by unfold prc; rw [core_at h]
theorem tm_pos (h : Iv rs last) (e i : Nat) : 0 ≤ tm Qt.f rs e i ∧ 0 ≤ tm Qt.e rs e i ∧ 0 ≤ tm Qt.x rs e i := by
  unfold tm
  by_cases hk : kid rs (e : Int) i = true
  · obtain ⟨r, hr⟩ := kid_lv hk
    obtain ⟨g1, g2, g3⟩ := good_bounds (h.q i r hr).good
    rw [if_pos hk, if_pos hk, if_pos hk, prc_at hr]
    simp only [Qt.plus, Qt.one]
    omega
  · rw [if_neg hk, if_neg hk, if_neg hk]; omega
theorem cv_nn (h : Iv rs last) (e : Nat) : (cv rs e).nn := ⟨tot_pos (fun j _ => (tm_pos h e j).1), tot_pos (fun j _ => (tm_pos h e j).2.1), tot_pos (fun j _ => (tm_pos h e j).2.2)⟩
theorem Qk.parts {k : Nat} {r : Er} (h : Qk rs k r) : r.qu.f = r.pd.f + r.le.f + (cv rs k).f ∧ r.qu.e = r.pd.e + r.le.e + (cv rs k).e ∧ r.qu.x = r.pd.x + r.le.x + (cv rs k).x := by
  have := h.sum
  simp only [Qt.plus] at this
  exact ⟨congrArg Qt.f this, congrArg Qt.e this, congrArg Qt.x this⟩
theorem Iv.oks (h : Iv rs last) {k : Nat} {r : Er} (hr : rs[k]? = some (some r)) : r.le.ok ∧ r.pd.ok ∧ r.qu.ok := by
  have hq := h.q k r hr
  obtain ⟨g1, g2, g3⟩ := good_bounds hq.good
  obtain ⟨p1, p2, p3⟩ := hq.parts
  obtain ⟨a1, a2, a3⟩ := hq.pd
  obtain ⟨b1, b2, b3⟩ := hq.le
  obtain ⟨c1, c2, c3⟩ := cv_nn h k
  unfold Qt.ok
  omega
/-- what a child costs fits into its parent's quota -/
theorem Iv.price (h : Iv rs last) {k p : Nat} {r : Er} (hr : rs[k]? = some (some r)) (hpa : r.pa = (p : Int)) :
    (r.qu.f ≤ (cv rs p).f ∧ r.qu.e + 1 ≤ (cv rs p).e ∧ r.qu.x ≤ (cv rs p).x) := by
  have hk : kid rs (p : Int) k = true := by rw [kid_at hr]; simp [hpa]
  have hkl := lv_lt h.tr ⟨r, hr⟩
  have t1 := tot_le hkl (fun j _ => (tm_pos h p j).1)
  have t2 := tot_le hkl (fun j _ => (tm_pos h p j).2.1)
  have t3 := tot_le hkl (fun j _ => (tm_pos h p j).2.2)
  simp only [tm, hk, if_true, prc_at hr, Qt.plus, Qt.one] at t1 t2 t3
  show r.qu.f ≤ tot (tm Qt.f rs p) ∧ r.qu.e + 1 ≤ tot (tm Qt.e rs p) ∧ r.qu.x ≤ tot (tm Qt.x rs p)
  omega
theorem Iv.priceOk (h : Iv rs last) {k p : Nat} {r rp : Er} (hr : rs[k]? = some (some r)) (hp : rs[p]? = some (some rp)) (hpa : r.pa = (p : Int)) : (r.qu.plus Qt.one).ok := by
  obtain ⟨q1, q2, q3⟩ := h.price hr hpa
  have hq := h.q p rp hp
  obtain ⟨g1, g2, g3⟩ := good_bounds hq.good
  obtain ⟨k1, k2, k3⟩ := good_bounds (h.q k r hr).good
  obtain ⟨p1, p2, p3⟩ := hq.parts
  obtain ⟨a1, a2, a3⟩ := hq.pd
  obtain ⟨b1, b2, b3⟩ := hq.le
  simp only [Qt.ok, Qt.plus, Qt.one]
  omega
/-- a record that is changed in what may change -/
theorem Iv.upd (h : Iv rs last) {k : Nat} {r r' : Er} (hr : rs[k]? = some (some r)) (h1 : r'.se = r.se) (h2 : r'.pa = r.pa) (h3 : r'.qu = r.qu) (h4 : r'.pd.nn) (h5 : r'.le.nn) (h6 : r'.pd.plus r'.le = r.pd.plus r.le) : Iv (rs.set k (some r')) last := by
  have hs := Same.set hr h1 h2 h3
  refine ⟨h.tr.same hs, fun j rj hj => ?_⟩
  by_cases e : j = k
  · subst e
    rw [List.getElem?_set_self (List.getElem?_eq_some_iff.1 hr).1] at hj
    cases hj
    have hq := h.q j r hr
    exact ⟨by rw [h3]; exact hq.good, h4, h5, by rw [h3, h6, hs.cv]; exact hq.sum⟩
  · rw [List.getElem?_set_ne (fun e' => e e'.symm)] at hj
    have hq := h.q j rj hj
    exact ⟨hq.good, hq.pd, hq.le, by rw [hs.cv]; exact hq.sum⟩
theorem Iv.keepq (h : Iv rs last) {k : Nat} {r r' : Er} (hr : rs[k]? = some (some r)) (h1 : r'.se = r.se) (h2 : r'.pa = r.pa) (h3 : r'.qu = r.qu) (h4 : r'.pd = r.pd) (h5 : r'.le = r.le) : Iv (rs.set k (some r')) last :=
  h.upd hr h1 h2 h3 (by rw [h4]; exact (h.q k r hr).pd) (by rw [h5]; exact (h.q k r hr).le) (by rw [h4, h5])
theorem qt_ext {a b : Qt} (h1 : a.f = b.f) (h2 : a.e = b.e) (h3 : a.x = b.x) : a = b := by cases a; cases b; simp_all
theorem Iv.pay (h : Iv rs last) (e : Int) (q : Qt) : Iv (payS rs e q) last := by
  unfold payS
  cases hl : look rs e with
  | none => exact h
  | some r =>
    obtain ⟨k, rfl, hr⟩ := look_some hl
    simp only []
    by_cases hg : q.good
    · rw [if_pos hg]
      by_cases hf : q.le r.le
      · rw [if_pos hf]
        obtain ⟨g1, g2, g3⟩ := good_bounds hg
        obtain ⟨f1, f2, f3⟩ := hf
        obtain ⟨a1, a2, a3⟩ := (h.q k r hr).pd
        refine h.upd hr rfl rfl rfl ?_ ?_ (qt_ext ?_ ?_ ?_) <;> simp only [Qt.nn, Qt.plus, Qt.less] <;> omega
      · rw [if_neg hf]; exact h
    · rw [if_neg hg]; exact h
theorem Iv.refund (h : Iv rs last) (e : Int) (q : Qt) : Iv (refS rs e q) last := by
  unfold refS
  cases hl : look rs e with
  | none => exact h
  | some r =>
    obtain ⟨k, rfl, hr⟩ := look_some hl
    simp only []
    by_cases hc : q.good ∧ q.le r.pd
    · rw [if_pos hc]
      obtain ⟨g1, g2, g3⟩ := good_bounds hc.1
      obtain ⟨f1, f2, f3⟩ := hc.2
      obtain ⟨a1, a2, a3⟩ := (h.q k r hr).le
      refine h.upd hr rfl rfl rfl ?_ ?_ (qt_ext ?_ ?_ ?_) <;> simp only [Qt.nn, Qt.plus, Qt.less] <;> omega
    · rw [if_neg hc]; exact h
end
end Go.Proofs.Ytoddadohmnaolab

namespace Go.Proofs.Ytoddadohmnaolab
open Go.RowKit Go.Shelf

section
variable {rs : List (Option Er)} {last : Int}
theorem core_set {i : Nat} (hi : i < rs.length) (o : Option Er) (j : Nat) : core (rs.set i o) j = if j = i then o.map (fun r => (r.se, r.pa, r.qu)) else core rs j := by
  unfold core
  rw [look_nat, look_nat]
  by_cases e : j = i
  · subst e; rw [if_pos rfl, List.getElem?_set_self hi]; cases o <;> rfl
  · rw [if_neg e, List.getElem?_set_ne (fun e' => e e'.symm)]
theorem kid_dead (h : Tr rs last) {i : Nat} (hi : ¬ Lv rs i) (j : Nat) : kid rs (i : Int) j = false := by
  cases hk : kid rs (i : Int) j with
  | false => rfl
  | true => exact absurd (kid_ser h hk).2.2 hi
theorem not_lv {i : Nat} (h : rs[i]? = some none) : ¬ Lv rs i := by rintro ⟨r, hr⟩; rw [h] at hr; cases hr
theorem kid_no {i : Nat} (h : ¬ Lv rs i) (e : Int) : kid rs e i = false := by
  cases hk : kid rs e i with
  | false => rfl
  | true => exact absurd (kid_lv hk) h
/-- a new one at a free place -/
theorem Iv.create (h : Iv rs last) {i k : Nat} {r : Er} (hi : rs[i]? = some none) (hr : rs[k]? = some (some r)) {serial : Int} (hs : last < serial) {q : Qt} (hg : q.good) (hf : (q.plus Qt.one).le r.le) :
    Iv ((rs.set i (some (Er.new serial k q))).set k (some { r with le := r.le.less (q.plus Qt.one) })) serial := by
  have hil := (List.getElem?_eq_some_iff.1 hi).1
  have hi16 : i < 16 := by rw [← h.tr.len]; exact hil
  have hki : k ≠ i := fun e => by rw [e, hi] at hr; cases hr
  have hid := not_lv hi
  obtain ⟨rs1, hrs1⟩ : ∃ rs1, rs1 = rs.set i (some (Er.new serial k q)) := ⟨_, rfl⟩
  have hr1 : rs1[k]? = some (some r) := by rw [hrs1, List.getElem?_set_ne (fun e => hki e.symm)]; exact hr
  have hi1 : rs1[i]? = some (some (Er.new serial k q)) := by rw [hrs1, List.getElem?_set_self hil]
  have ho : ∀ j, j ≠ i → rs1[j]? = rs[j]? := fun j hj => by rw [hrs1, List.getElem?_set_ne (fun e => hj e.symm)]
  have hcore : ∀ j, j ≠ i → core rs1 j = core rs j := fun j hj => by rw [hrs1, core_set hil, if_neg hj]
  have hkid : ∀ (e : Int) j, j ≠ i → kid rs1 e j = kid rs e j := fun e j hj => by rw [kid_core, kid_core, hcore j hj]
  have hser : ∀ j, j ≠ i → ser rs1 j = ser rs j := fun j hj => by rw [ser_core, ser_core, hcore j hj]
  have hprc : ∀ j, j ≠ i → prc rs1 j = prc rs j := fun j hj => by unfold prc; rw [hcore j hj]
  have hlv : ∀ j, j ≠ i → (Lv rs1 j ↔ Lv rs j) := fun j hj => by rw [lv_core, lv_core, hcore j hj]
  have hsi : ser rs1 i = serial := by rw [ser_at hi1]; rfl
  have hki1 : kid rs1 (k : Int) i = true := by rw [kid_at hi1]; simp [Er.new]
  have hkie : ∀ e : Nat, e ≠ k → kid rs1 (e : Int) i = false := fun e he => by rw [kid_at hi1]; exact decide_eq_false (fun e9 => he (by have e8 : ((k : Nat) : Int) = (e : Int) := e9; omega))
  have htm : ∀ (s : Qt → Int) (e : Nat), tot (tm s rs1 e) = tot (tm s rs e) + (if e = k then s (q.plus Qt.one) else 0) := fun s e => by
    have h1 := tot_upd (f := tm s rs e) (g := tm s rs1 e) hi16 (fun j _ hj => by unfold tm; rw [hkid _ j hj, hprc j hj])
    have h2 : tm s rs e i = 0 := by unfold tm; rw [kid_no hid]; rfl
    have h3 : tm s rs1 e i = if e = k then s (q.plus Qt.one) else 0 := by
      unfold tm
      by_cases he : e = k
      · subst he; rw [if_pos hki1, if_pos rfl, prc_at hi1]; rfl
      · rw [hkie e he, if_neg he]; rfl
    rw [h1, h2, h3]; omega
  have hS : Same rs1 (rs1.set k (some { r with le := r.le.less (q.plus Qt.one) })) := Same.set hr1 rfl rfl rfl
  have hT1 : Tr rs1 serial := by
    refine ⟨by rw [hrs1]; simpa using h.tr.len, ?_, fun j rj hj h0 => ?_, fun j hj => ?_, fun a b ha hb e => ?_⟩
    · obtain ⟨r0, h1, h2⟩ := h.tr.root
      exact ⟨r0, by rw [ho 0 (fun e => by rw [← e] at hi; rw [h1] at hi; cases hi)]; exact h1, h2⟩
    · by_cases e : j = i
      · subst e
        rw [hi1] at hj; cases hj
        exact ⟨k, rfl, ⟨r, hr1⟩, by rw [hsi, hser k hki]; have := h.tr.old k ⟨r, hr⟩; omega⟩
      · rw [ho j e] at hj
        obtain ⟨p, h1, h2, h3⟩ := h.tr.par j rj hj h0
        have hpi : p ≠ i := fun e' => hid (e' ▸ h2)
        exact ⟨p, h1, (hlv p hpi).2 h2, by rw [hser p hpi, hser j e]; exact h3⟩
    · by_cases e : j = i
      · subst e; rw [hsi]; exact Int.le_refl _
      · rw [hser j e]; have := h.tr.old j ((hlv j e).1 hj); omega
    · by_cases ea : a = i
      · by_cases eb : b = i
        · rw [ea, eb]
        · rw [ea, hsi, hser b eb] at e
          have := h.tr.old b ((hlv b eb).1 hb); omega
      · by_cases eb : b = i
        · rw [eb, hsi, hser a ea] at e
          have := h.tr.old a ((hlv a ea).1 ha); omega
        · rw [hser a ea, hser b eb] at e
          exact h.tr.dis a b ((hlv a ea).1 ha) ((hlv b eb).1 hb) e
  rw [← hrs1]
  refine ⟨hT1.same hS, fun j rj hj => ?_⟩
  obtain ⟨f1, f2, f3⟩ := hf
  simp only [Qt.plus, Qt.one] at f1 f2 f3
  by_cases ek : j = k
  · subst ek
    rw [List.getElem?_set_self (List.getElem?_eq_some_iff.1 hr1).1] at hj
    cases hj
    have hq := h.q j r hr
    obtain ⟨p1, p2, p3⟩ := hq.parts
    refine ⟨hq.good, hq.pd, ?_, ?_⟩
    · simp only [Qt.nn, Qt.less, Qt.plus, Qt.one]; omega
    · rw [hS.cv]
      refine qt_ext ?_ ?_ ?_ <;> simp only [Qt.plus, Qt.less, cv, htm, if_true, Qt.one] at p1 p2 p3 ⊢ <;> omega
  · rw [List.getElem?_set_ne (fun e' => ek e'.symm)] at hj
    by_cases ei : j = i
    · subst ei
      rw [hi1] at hj; cases hj
      refine ⟨hg, ⟨Int.le_refl _, Int.le_refl _, Int.le_refl _⟩, ?_, ?_⟩
      · obtain ⟨g1, g2, g3⟩ := good_bounds hg
        exact ⟨g1.1, g2.1, g3.1⟩
      · have hz : ∀ s : Qt → Int, tot (tm s rs j) = 0 := fun s => by
          rw [tot_congr (f := fun _ => 0) (fun x _ => by unfold tm; rw [kid_dead h.tr hid]; rfl)]; rfl
        rw [hS.cv]
        refine qt_ext ?_ ?_ ?_ <;> simp only [Er.new, Qt.plus, Qt.zero, cv, htm, hz, if_neg ek] <;> omega
    · rw [ho j ei] at hj
      have hq := h.q j rj hj
      refine ⟨hq.good, hq.pd, hq.le, ?_⟩
      rw [hS.cv]
      have e1 : cv rs1 j = cv rs j := by unfold cv; rw [htm, htm, htm, if_neg ek, if_neg ek, if_neg ek, Int.add_zero, Int.add_zero, Int.add_zero]
      rw [e1]; exact hq.sum
end
end Go.Proofs.Ytoddadohmnaolab

namespace Go.Proofs.Ytoddadohmnaolab
open Go.RowKit Go.Shelf

section
variable {rs : List (Option Er)} {last : Int}
/-- one that ended, with all below it -/
theorem Iv.destroy (h : Iv rs last) {k p : Nat} {r rp : Er} (hr : rs[k]? = some (some r)) (hk0 : k ≠ 0) (hpa : r.pa = (p : Int)) (hp : rs[p]? = some (some rp)) :
    Iv (drops (rs.set p (some { rp with le := rp.le.plus (r.qu.plus Qt.one) })) (wk rs 17 k)) last := by
  have hT := h.tr
  have hDp := dp17 hT k
  have hkp : kid rs (p : Int) k = true := by rw [kid_at hr]; simp [hpa]
  have hself := wk_self (rs := rs) 17 k
  have hlive : ∀ c ∈ wk rs 17 k, Lv rs c := fun c hc => wk_lv 17 ⟨r, hr⟩ hc
  have hsp := (kid_ser hT hkp).1
  have hpl : p ∉ wk rs 17 k := fun hc => by
    rcases wk_ser hT 17 hc with e | e
    · rw [e] at hsp; omega
    · omega
  have h0l : 0 ∉ wk rs 17 k := fun hc => by
    rcases wk_up 17 hc with e | ⟨q, _, e⟩
    · exact hk0 e.symm
    · exact (kid_ser hT e).2.1 rfl
  have hcl : ∀ c d, c ∈ wk rs 17 k → kid rs (c : Int) d = true → d ∈ wk rs 17 k := fun c d hc hd => wk_closed 17 hDp hc hd
  have hup : ∀ j, j ∈ wk rs 17 k → j = k ∨ ∃ q, q ∈ wk rs 17 k ∧ kid rs (q : Int) j = true := fun j hj => wk_up 17 hj
  generalize wk rs 17 k = l at *
  obtain ⟨rs1, hrs1⟩ : ∃ rs1, rs1 = rs.set p (some { rp with le := rp.le.plus (r.qu.plus Qt.one) }) := ⟨_, rfl⟩
  have hS : Same rs rs1 := by rw [hrs1]; exact Same.set hp rfl rfl rfl
  have hT1 := hT.same hS
  have hp1 : rs1[p]? = some (some { rp with le := rp.le.plus (r.qu.plus Qt.one) }) := by rw [hrs1, List.getElem?_set_self (List.getElem?_eq_some_iff.1 hp).1]
  have ho1 : ∀ x, x ≠ p → rs1[x]? = rs[x]? := fun x hx => by rw [hrs1, List.getElem?_set_ne (fun e => hx e.symm)]
  rw [← hrs1]
  have hlen2 : (drops rs1 l).length = 16 := by rw [drops_len]; exact hT1.len
  have hout : ∀ x, x ∉ l → (drops rs1 l)[x]? = rs1[x]? := fun x hx => drops_other l rs1 x hx
  have hin : ∀ x, x ∈ l → (drops rs1 l)[x]? = some none := fun x hx => drops_gone l rs1 x hx (by rw [hT1.len]; exact lv_lt hT (hlive x hx))
  generalize drops rs1 l = rs2 at *
  have hc_out : ∀ x, x ∉ l → core rs2 x = core rs x := fun x hx => by
    rw [← hS.2 x]
    unfold core
    rw [look_nat, look_nat, hout x hx]
  have hnl : ∀ x, Lv rs2 x → x ∉ l := fun x hx hm => not_lv (hin x hm) hx
  have hlv : ∀ x, x ∉ l → (Lv rs2 x ↔ Lv rs x) := fun x hx => by rw [lv_core, lv_core, hc_out x hx]
  have hse : ∀ x, x ∉ l → ser rs2 x = ser rs x := fun x hx => by rw [ser_core, ser_core, hc_out x hx]
  have hkd : ∀ (e : Int) x, x ∉ l → kid rs2 e x = kid rs e x := fun e x hx => by rw [kid_core, kid_core, hc_out x hx]
  have hpr : ∀ x, x ∉ l → prc rs2 x = prc rs x := fun x hx => by unfold prc; rw [hc_out x hx]
  have hkin : ∀ (e : Int) x, x ∈ l → kid rs2 e x = false := fun e x hx => kid_no (not_lv (hin x hx)) e
  refine ⟨⟨hlen2, ?_, fun x rx hx h0 => ?_, fun x hx => ?_, fun a b ha hb e => ?_⟩, fun x rx hx => ?_⟩
  · obtain ⟨r0, h1, h2⟩ := hT1.root
    exact ⟨r0, by rw [hout 0 h0l]; exact h1, h2⟩
  · have hxl := hnl x ⟨rx, hx⟩
    rw [hout x hxl] at hx
    obtain ⟨q, h1, h2, h3⟩ := hT1.par x rx hx h0
    have hkx : kid rs (q : Int) x = true := by rw [← hS.kid, kid_at hx]; simp [h1]
    have hql : q ∉ l := fun hq => hxl (hcl q x hq hkx)
    exact ⟨q, h1, (hlv q hql).2 ((hS.lv q).1 h2), by rw [hse q hql, hse x hxl, ← hS.ser, ← hS.ser]; exact h3⟩
  · have hxl := hnl x hx
    rw [hse x hxl]; exact hT.old x ((hlv x hxl).1 hx)
  · have hal := hnl a ha
    have hbl := hnl b hb
    rw [hse a hal, hse b hbl] at e
    exact hT.dis a b ((hlv a hal).1 ha) ((hlv b hbl).1 hb) e
  · have hxl := hnl x ⟨rx, hx⟩
    rw [hout x hxl] at hx
    by_cases exp : x = p
    · subst exp
      rw [hp1] at hx; cases hx
      have hq := h.q x rp hp
      obtain ⟨p1, p2, p3⟩ := hq.parts
      obtain ⟨b1, b2, b3⟩ := hq.le
      obtain ⟨k1, k2, k3⟩ := good_bounds (h.q k r hr).good
      have htm : ∀ s : Qt → Int, tot (tm s rs2 x) = tot (tm s rs x) - s (r.qu.plus Qt.one) := fun s => by
        have h1 := tot_upd (f := tm s rs x) (g := tm s rs2 x) (i := k) (lv_lt hT ⟨r, hr⟩) (fun j _ hj => by
          unfold tm
          by_cases hjl : j ∈ l
          · have hkf : kid rs (x : Int) j = false := by
              cases hkj : kid rs (x : Int) j with
              | false => rfl
              | true =>
                rcases hup j hjl with e | ⟨q, hq1, hq2⟩
                · exact absurd e hj
                · exact absurd (kid_one hkj hq2 ▸ hq1) hpl
            rw [hkin _ j hjl, hkf]; rfl
          · rw [hkd _ j hjl, hpr j hjl])
        have h2 : tm s rs x k = s (r.qu.plus Qt.one) := by unfold tm; rw [if_pos hkp, prc_at hr]
        have h3 : tm s rs2 x k = 0 := by unfold tm; rw [hkin _ k hself]; rfl
        rw [h1, h2, h3]; omega
      refine ⟨hq.good, hq.pd, ?_, ?_⟩
      · simp only [Qt.nn, Qt.plus, Qt.one]; omega
      · refine qt_ext ?_ ?_ ?_ <;> simp only [Qt.plus, cv, htm, Qt.one] at p1 p2 p3 ⊢ <;> omega
    · rw [ho1 x exp] at hx
      have hq := h.q x rx hx
      refine ⟨hq.good, hq.pd, hq.le, ?_⟩
      have htm : ∀ s : Qt → Int, tot (tm s rs2 x) = tot (tm s rs x) := fun s => tot_congr (fun j _ => by
        unfold tm
        by_cases hjl : j ∈ l
        · have hkf : kid rs (x : Int) j = false := by
            cases hkj : kid rs (x : Int) j with
            | false => rfl
            | true =>
              rcases hup j hjl with e | ⟨q, hq1, hq2⟩
              · subst e; exact absurd (kid_one hkj hkp) exp
              · exact absurd (kid_one hkj hq2 ▸ hq1) hxl
          rw [hkin _ j hjl, hkf]; rfl
        · rw [hkd _ j hjl, hpr j hjl])
      have e1 : cv rs2 x = cv rs x := by unfold cv; rw [htm, htm, htm]
      rw [e1]; exact hq.sum
end
end Go.Proofs.Ytoddadohmnaolab
