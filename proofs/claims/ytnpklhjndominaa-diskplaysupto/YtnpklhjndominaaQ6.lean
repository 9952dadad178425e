import Derived.Test.YtnpklhjndominaaQ5
namespace Go.Proofs.Ytnpklhjndominaa
open Go.RowKit

section
variable {w : World} {R N : Nat} {D : Dsk} {F : Nat → Prop}
theorem writeR_out (z : Int) (v : Value) (hz : z < 0 ∨ 1024 ≤ z) : Calls Try.prog 16 #[tp R, .int .i64 z, v] w fun e w' => e = .returned (.int .i64 40) ∧ w' = w := by
  have HT := hide (thereR_any z w)
  rw [show decide (0 ≤ z ∧ z < 1024) = false by simp; omega] at HT
  go_enter Try.func16, Try.ntmps16
  go_wp2_with fail
  refine HT.out.mono ?_
  rintro e w1 ⟨rfl, rfl⟩
  go_wp2
  go_ret
  exact ⟨rfl, rfl⟩
theorem writeR_size (s n cap : Nat) (ao : Option Addr) (hs : s < 1024) (hn : n ≠ 128) : Calls Try.prog 16 #[tp R, .int .i64 (s : Int), .slice ao n cap] w fun e w' => e = .returned (.int .i64 41) ∧ w' = w := by
  have HT := hide (thereR_any (s : Int) w)
  rw [show decide (0 ≤ (s : Int) ∧ (s : Int) < 1024) = true by simp; omega] at HT
  have hd : decide (n = 128) = false := by simp; omega
  have hd2 : ((n : Int) == 128) = false := by rw [beq_eq_false_iff_ne]; omega
  have hd3 : (n == 128) = false := by simpa using hn
  go_enter Try.func16, Try.ntmps16
  go_wp2_with fail
  refine HT.out.mono ?_
  rintro e w1 ⟨rfl, rfl⟩
  go_wp2
  go_ret
  exact ⟨rfl, rfl⟩
theorem writeR_no (h : RkA R D N w F) (s cap : Nat) (ao : Option Addr) (hs : s < 1024) (hn : D.down = true ∨ (D.armed = true ∧ D.left = 0)) : Calls Try.prog 16 #[tp R, .int .i64 (s : Int), .slice ao 128 cap] w fun e w' => e = .returned (.int .i64 42) ∧ RkA R D.off N w' F ∧ Ext F w F w' := by
  have HT := hide (thereR_any (s : Int) w)
  rw [show decide (0 ≤ (s : Int) ∧ (s : Int) < 1024) = true by simp; omega] at HT
  have HA := hide (actR_no h hn)
  clear h hn
  go_enter Try.func16, Try.ntmps16
  go_wp2_with fail
  refine HT.out.mono ?_
  rintro e w1 ⟨rfl, rfl⟩
  go_wp2_with fail
  refine HA.out.mono ?_
  rintro e w2 ⟨rfl, h1, h2⟩
  have H1 := hide h1
  have H2 := hide h2
  clear h1 h2
  go_wp2
  go_ret
  exact ⟨rfl, H1.out, H2.out⟩
set_option maxRecDepth 100000 in
set_option maxHeartbeats 3200000 in
theorem writeR_ok (h : RkA R D N w F) (s : Nat) (v : Value) (zs : List Nat) (hs : s < 1024) (hv : Rd w v zs) (hz : Sec zs) (hnF : ∀ b, v.ownBlock = some b → ¬ F b) (hw : D.down = false) (hl : D.armed = true → D.left ≠ 0) (ha : D.acts < 1152921504606846976) (hc : D.c.length ≤ 2000000) :
    Calls Try.prog 16 #[tp R, .int .i64 (s : Int), v] w fun e w' => e = .returned (.int .i64 0) ∧ ∃ F', RkA R (D.acted.put s zs) N w' F' ∧ Ext F w F' w' := by
  have HT := hide (thereR_any (s : Int) w)
  rw [show decide (0 ≤ (s : Int) ∧ (s : Int) < 1024) = true by simp; omega] at HT
  have HA := hide (actR_ok h hw hl ha)
  obtain ⟨i3, hi3, hz3, hs3, hb3'⟩ := infoRec
  have HV := hide hv
  have HZ := hide hz
  have hv' := hv
  rcases hv' with ⟨_, hz0⟩ | ⟨x, cap, hvv, _⟩
  · have := hz.1; rw [hz0] at this; simp at this
  rw [hz.1] at hvv
  subst hvv
  have HNF := hide hnF
  clear h hv hz hnF hw hl ha
  go_enter Try.func16, Try.ntmps16
  go_wp2_with fail
  refine HT.out.mono ?_
  rintro e w0 ⟨rfl, rfl⟩
  go_wp2_with fail
  refine HA.out.mono ?_
  rintro e w1 ⟨rfl, h1, hx1⟩
  obtain ⟨lv, wv, rl, ds, es, G, hk, hn, he⟩ := h1
  have HX1 := hide hx1
  have hlc : D.acted.c.length ≤ 2000000 := hc
  have HV1 : Hid (Rd w1 (.slice (some x) 128 cap) zs) := hide (HV.out.mod hx1.mod HNF.out)
  obtain ⟨a, cw, hwv⟩ := own_shape hk.wai.row
  obtain ⟨L, hL⟩ : ∃ L, D.acted.c.length = L := ⟨_, rfl⟩
  rw [lf_len, hL] at hwv
  rw [hL] at hlc
  have HK := hide hk
  have HN := hide hn
  have HE0 := hide he
  have HL := hide hL
  have c1 := hk.cells.2.1
  rw [hwv] at c1
  have HCo : Hid (∀ W : World, W.heap = w1.heap ∧ W.os = w1.os ∧ W.tape = w1.tape ∧ W.output = w1.output → Calls Try.prog 12 #[.slice (some x) 128 cap] W fun e w' => ∃ r, e = .returned r ∧ Ow w' W.heap.size r zs ∧ Below W.heap.size W w') := hide (fun W hW => copiedR_any _ zs W (rd_keep HV1.out (fun b _ => by rw [hW.1])) (by rw [HZ.out.1]; omega))
  clear hk hn he hL hx1 HA HT
  go_upto_region 7 with fail
  refine wp_region_held_drew (S := fun _ => True) (by kernel_rfl) trivial (fun _ => ?_)
  obtain ⟨w2, hw2⟩ : ∃ w2, w2 = w1.drew := ⟨_, rfl⟩
  rw [← hw2]
  have hd2 : Below w1.heap.size w1 w2 := by rw [hw2]; exact ⟨rfl, rfl, rfl, Nat.le_refl _, fun _ _ => rfl⟩
  have HX2 := hide (HX1.out.trans (Ext.of_below (F := F) hd2))
  have HK2 : Hid (RkAt w2 R lv wv rl ds es G D.acted) := hide (HK.out.keep hd2.size (fun b _ => by rw [hw2]; rfl))
  have HC2 : Hid (Calls Try.prog 12 #[.slice (some x) 128 cap] w2 fun e w' => ∃ r, e = .returned r ∧ Ow w' w2.heap.size r zs ∧ Below w2.heap.size w2 w') := hide (HCo.out w2 (by rw [hw2]; exact ⟨rfl, rfl, rfl, rfl⟩))
  have c2 : w2.cell? ⟨R, 1, none⟩ = some (.slice a L cw) := by rw [hw2]; exact c1
  subst hwv
  have HAll : Hid (∀ (w3 : World) (vd : Value), Ow w3 w2.heap.size vd zs → Below w2.heap.size w2 w3 → w3.cell? ⟨R, 1, none⟩ = some (.slice a L cw) ∧ w3.ownsRow 0 51 3 (.slice a L cw) L (encRs (lf D.acted.c) es) ∧ ∀ (o : Obj) (cv2 : Value) (w4 : World), (w3.alloc o).grownBy w4 (Value.slice a L cw).ownBlock → (w4.cell? ⟨R, 1, none⟩ = some (.slice a L cw) ∧ w4.frozen? ⟨R, 1, none⟩ = false) ∧ (w4.ownsRow 0 51 3 cv2 (L + 1) (encRs (lf D.acted.c) es ++ [.int .i64 (s : Int), .int .i64 0, vd]) → (cv2.ownBlock = (Value.slice a L cw).ownBlock ∨ cv2.ownBlock = some (w3.alloc o).heap.size) → ∃ F', RkA R (D.acted.put s zs) N (w4.setCell ⟨R, 1, none⟩ cv2) F' ∧ Ext F w2 F' (w4.setCell ⟨R, 1, none⟩ cv2))) := by
    refine hide (fun w3 vd hvd hb3 => ?_)
    have h3 := HK2.out.keep hb3.size (fun b hb => hb3.block b (by
      rcases hb with e | e | e | e
      · rw [e]; exact HK2.out.lt
      · exact ownsRow_lt HK2.out.lan.row e
      · exact ownsRow_lt HK2.out.wai.row e
      · exact (HK2.out.nG b e).2.2))
    have hrow := h3.wai.row
    rw [lf_len, HL.out] at hrow
    refine ⟨h3.cells.2.1, hrow, fun o cv2 w4 hg4 => ⟨?_, fun ho4 hl4 => ?_⟩⟩
    · have hR4 : w4.heap[R]? = w3.heap[R]? := by
        have := h3.lt
        rw [hg4.block R (by simp; omega) (fun e => h3.nR.2.1 e.symm), Below.heap_alloc _ _ _ h3.lt]
      exact ⟨by rw [World.cell?_of_block hR4]; exact h3.cells.2.1, by rw [World.frozen?_of_block hR4]; exact h3.cells.2.2.2.2.2 1⟩
    · exact wput HK2.out HN.out HE0.out hb3 hvd HZ.out hs (by rw [HL.out]; exact ho4) hg4 hl4
  clear hw2 c1 hd2 HCo HK HX1 HK2
  refine hd_take 0 (o := ⟨some 16, _, _, _, _, _⟩) (tp R) (by kernel_rfl) (by kernel_rfl) (by kernel_rfl) rfl (by rfl) (fun W hSw => by go_simp) (fun _ _ _ h => h) trivial ?_
  simp only [Act.put, List.setIfInBounds_toArray, List.set_cons_zero, List.set_cons_succ]
  refine hd_take 1 (o := ⟨some 17, _, _, _, _, _⟩) (tp R) (by kernel_rfl) (by kernel_rfl) (by kernel_rfl) rfl (by rfl) (fun W hSw => by go_simp) (fun _ _ _ h => h) trivial ?_
  simp only [Act.put, List.setIfInBounds_toArray, List.set_cons_zero, List.set_cons_succ]
  refine hd_take 2 (o := ⟨some 18, _, _, _, _, _⟩) (.pointer (some ⟨R, 0, none⟩)) (by kernel_rfl) (by kernel_rfl) (by kernel_rfl) rfl (by rfl) (fun W hSw => by go_simp) (fun _ _ _ h => h) trivial ?_
  simp only [Act.put, List.setIfInBounds_toArray, List.set_cons_zero, List.set_cons_succ]
  refine hd_take 3 (o := ⟨some 19, _, _, _, _, _⟩) (.pointer (some ⟨R, 1, none⟩)) (by kernel_rfl) (by kernel_rfl) (by kernel_rfl) rfl (by rfl) (fun W hSw => by go_simp) (fun _ _ _ h => h) trivial ?_
  simp only [Act.put, List.setIfInBounds_toArray, List.set_cons_zero, List.set_cons_succ]
  refine hd_take 5 (o := ⟨some 21, _, _, _, _, _⟩) (.int .i64 (s : Int)) (by kernel_rfl) (by kernel_rfl) (by kernel_rfl) rfl (by rfl) (fun W hSw => by go_simp) (fun _ _ _ h => h) trivial ?_
  simp only [Act.put, List.setIfInBounds_toArray, List.set_cons_zero, List.set_cons_succ]
  refine hd_take 6 (o := ⟨some 22, _, _, _, _, _⟩) (.slice (some x) 128 cap) (by kernel_rfl) (by kernel_rfl) (by kernel_rfl) rfl (by rfl) (fun W hSw => by go_simp) (fun _ _ _ h => h) trivial ?_
  simp only [Act.put, List.setIfInBounds_toArray, List.set_cons_zero, List.set_cons_succ]
  refine hd_both 4 7 (o1 := ⟨some 20, _, _, _, _, _⟩) (o2 := ⟨some 23, _, _, _, _, _⟩) (by kernel_rfl) rfl rfl (by rfl) (by rfl) (fun K' hK => ?_) (fun K' hK => ?_)
  · go_simp
    refine hK _ _ trivial ?_
    clear hK K'
    try simp only [Act.put, List.setIfInBounds_toArray, List.set_cons_zero, List.set_cons_succ]
    refine hd_call 7 (o := ⟨some 23, _, _, _, _, _⟩) (by kernel_rfl) rfl (by rfl) (fun K' hK => ?_)
    go_simp
    go_wp2_with (go_at_call 12; refine HC2.out.mono ?_; rintro e1 w3 ⟨vd, rfl, hvd, hb3⟩)
    obtain ⟨c3, hrow3, hrest⟩ := HAll.out w3 vd hvd hb3
    obtain ⟨gd, cd, rfl, _, _, _⟩ := hvd.some_of (by rw [HZ.out.1]; omega)
    have HRow := hide hrow3
    have HRest := hide hrest
    clear hvd hb3 hrow3 hrest HAll
    refine hK _ _ trivial ?_
    clear hK K'
    try simp only [Act.put, List.setIfInBounds_toArray, List.set_cons_zero, List.set_cons_succ]
    refine hd_call 8 (o := ⟨some 24, _, _, _, _, _⟩) (by kernel_rfl) rfl (by rfl) (fun K' hK => ?_)
    go_simp
    refine hK _ _ trivial ?_
    clear hK K'
    try simp only [Act.put, List.setIfInBounds_toArray, List.set_cons_zero, List.set_cons_succ]
    refine hd_call 9 (o := ⟨some 25, _, _, _, _, _⟩) (by kernel_rfl) rfl (by rfl) (fun K' hK => ?_)
    go_simp
    refine hK _ _ trivial ?_
    clear hK K'
    try simp only [Act.put, List.setIfInBounds_toArray, List.set_cons_zero, List.set_cons_succ]
    refine hd_call 10 (o := ⟨some 26, _, _, _, _, _⟩) (by kernel_rfl) rfl (by rfl) (fun K' hK => ?_)
    refine oper_append _ _ 46 rfl 0 51 i3 (.agg #[.int .i64 0, .int .i64 0, .slice none 0 0]) 3 40 Try.underlying46 hi3 hz3 hs3 hb3' rfl (by decide) (.slice a L cw) L (encRs (lf D.acted.c) es) rfl (HRow.out.alloc _) ⟨w3.heap.size, 0, none⟩ 1 1 [.int .i64 (s : Int), .int .i64 0, .slice (some ⟨gd, 0, none⟩) zs.length cd] rfl rfl (cell_three_new _ _ _ _ _) (by simp [Value.oneCell']) (by unfold maxLen; omega) (by omega) (by omega) (fun cv2 w4 ho4 hg4 hl4 => hK _ _ trivial ?_)
    clear hK K'
    try simp only [Act.put, List.setIfInBounds_toArray, List.set_cons_zero, List.set_cons_succ]
    obtain ⟨⟨k0, k1⟩, hfin⟩ := HRest.out _ cv2 w4 hg4
    have HE := hide (hfin ho4 hl4)
    obtain ⟨a2, c2', rfl⟩ := own_shape ho4
    clear ho4 hg4 hl4 hfin HRest
    refine hd_call 11 (o := ⟨some 27, _, _, _, _, _⟩) (by kernel_rfl) rfl (by rfl) (fun K' hK => ?_)
    go_simp
    refine hK _ _ trivial ?_
    clear hK K'
    try simp only [Act.put, List.setIfInBounds_toArray, List.set_cons_zero, List.set_cons_succ]
    refine hd_call 12 (o := ⟨some 28, _, _, _, _, _⟩) (by kernel_rfl) rfl (by rfl) (fun K' hK => ?_)
    go_simp
    refine hK _ _ trivial ?_
    clear hK K'
    try simp only [Act.put, List.setIfInBounds_toArray, List.set_cons_zero, List.set_cons_succ]
    refine hd_call 13 (o := ⟨none, _, _, _, _, _⟩) (by kernel_rfl) rfl (by rfl) (fun K' hK => ?_)
    go_simp
    refine hK _ _ trivial ?_
    clear hK K'
    try simp only [Act.put, List.setIfInBounds_toArray, List.set_cons_zero, List.set_cons_succ]
    refine wpAnyH_done (by kernel_rfl) ?_ _
    generalize w4.setCell ⟨R, 1, none⟩ _ = w5 at *
    go_wp2
    go_ret
    obtain ⟨F', q1, q2⟩ := HE.out
    exact ⟨rfl, F', q1, HX2.out.trans q2⟩
  · go_simp
    go_wp2_with (go_at_call 12; refine HC2.out.mono ?_; rintro e1 w3 ⟨vd, rfl, hvd, hb3⟩)
    obtain ⟨c3, hrow3, hrest⟩ := HAll.out w3 vd hvd hb3
    obtain ⟨gd, cd, rfl, _, _, _⟩ := hvd.some_of (by rw [HZ.out.1]; omega)
    have HRow := hide hrow3
    have HRest := hide hrest
    clear hvd hb3 hrow3 hrest HAll
    refine hK _ _ trivial ?_
    clear hK K'
    try simp only [Act.put, List.setIfInBounds_toArray, List.set_cons_zero, List.set_cons_succ]
    refine hd_take 8 (o := ⟨some 24, _, _, _, _, _⟩) (.agg #[.int .i64 (s : Int), .int .i64 0, .slice (some ⟨gd, 0, none⟩) zs.length cd]) (by kernel_rfl) (by kernel_rfl) (by kernel_rfl) rfl (by rfl) (fun W hSw => by go_simp) (fun _ _ _ h => h) trivial ?_
    simp only [Act.put, List.setIfInBounds_toArray, List.set_cons_zero, List.set_cons_succ]
    have c4 : (w3.alloc (.cells #[.int .i64 (s : Int), .int .i64 0, .slice (some ⟨gd, 0, none⟩) zs.length cd] 51)).cell? ⟨R, 1, none⟩ = some (.slice a L cw) := cell_belowN ((Below.refl w3.heap.size w3).alloc (Nat.le_refl _) _) c3
    refine hd_both 4 9 (o1 := ⟨some 20, _, _, _, _, _⟩) (o2 := ⟨some 25, _, _, _, _, _⟩) (by kernel_rfl) rfl rfl (by rfl) (by rfl) (fun K' hK => ?_) (fun K' hK => ?_)
    · go_simp
      refine hK _ _ trivial ?_
      clear hK K'
      try simp only [Act.put, List.setIfInBounds_toArray, List.set_cons_zero, List.set_cons_succ]
      refine hd_call 9 (o := ⟨some 25, _, _, _, _, _⟩) (by kernel_rfl) rfl (by rfl) (fun K' hK => ?_)
      go_simp
      refine hK _ _ trivial ?_
      clear hK K'
      try simp only [Act.put, List.setIfInBounds_toArray, List.set_cons_zero, List.set_cons_succ]
      refine hd_call 10 (o := ⟨some 26, _, _, _, _, _⟩) (by kernel_rfl) rfl (by rfl) (fun K' hK => ?_)
      refine oper_append _ _ 46 rfl 0 51 i3 (.agg #[.int .i64 0, .int .i64 0, .slice none 0 0]) 3 40 Try.underlying46 hi3 hz3 hs3 hb3' rfl (by decide) (.slice a L cw) L (encRs (lf D.acted.c) es) rfl (HRow.out.alloc _) ⟨w3.heap.size, 0, none⟩ 1 1 [.int .i64 (s : Int), .int .i64 0, .slice (some ⟨gd, 0, none⟩) zs.length cd] rfl rfl (cell_three_new _ _ _ _ _) (by simp [Value.oneCell']) (by unfold maxLen; omega) (by omega) (by omega) (fun cv2 w4 ho4 hg4 hl4 => hK _ _ trivial ?_)
      clear hK K'
      try simp only [Act.put, List.setIfInBounds_toArray, List.set_cons_zero, List.set_cons_succ]
      obtain ⟨⟨k0, k1⟩, hfin⟩ := HRest.out _ cv2 w4 hg4
      have HE := hide (hfin ho4 hl4)
      obtain ⟨a2, c2', rfl⟩ := own_shape ho4
      clear ho4 hg4 hl4 hfin HRest
      refine hd_call 11 (o := ⟨some 27, _, _, _, _, _⟩) (by kernel_rfl) rfl (by rfl) (fun K' hK => ?_)
      go_simp
      refine hK _ _ trivial ?_
      clear hK K'
      try simp only [Act.put, List.setIfInBounds_toArray, List.set_cons_zero, List.set_cons_succ]
      refine hd_call 12 (o := ⟨some 28, _, _, _, _, _⟩) (by kernel_rfl) rfl (by rfl) (fun K' hK => ?_)
      go_simp
      refine hK _ _ trivial ?_
      clear hK K'
      try simp only [Act.put, List.setIfInBounds_toArray, List.set_cons_zero, List.set_cons_succ]
      refine hd_call 13 (o := ⟨none, _, _, _, _, _⟩) (by kernel_rfl) rfl (by rfl) (fun K' hK => ?_)
      go_simp
      refine hK _ _ trivial ?_
      clear hK K'
      try simp only [Act.put, List.setIfInBounds_toArray, List.set_cons_zero, List.set_cons_succ]
      refine wpAnyH_done (by kernel_rfl) ?_ _
      generalize w4.setCell ⟨R, 1, none⟩ _ = w5 at *
      go_wp2
      go_ret
      obtain ⟨F', q1, q2⟩ := HE.out
      exact ⟨rfl, F', q1, HX2.out.trans q2⟩
    · go_simp
      refine hK _ _ trivial ?_
      clear hK K'
      try simp only [Act.put, List.setIfInBounds_toArray, List.set_cons_zero, List.set_cons_succ]
      refine hd_call 4 (o := ⟨some 20, _, _, _, _, _⟩) (by kernel_rfl) rfl (by rfl) (fun K' hK => ?_)
      go_simp
      refine hK _ _ trivial ?_
      clear hK K'
      try simp only [Act.put, List.setIfInBounds_toArray, List.set_cons_zero, List.set_cons_succ]
      refine hd_call 10 (o := ⟨some 26, _, _, _, _, _⟩) (by kernel_rfl) rfl (by rfl) (fun K' hK => ?_)
      refine oper_append _ _ 46 rfl 0 51 i3 (.agg #[.int .i64 0, .int .i64 0, .slice none 0 0]) 3 40 Try.underlying46 hi3 hz3 hs3 hb3' rfl (by decide) (.slice a L cw) L (encRs (lf D.acted.c) es) rfl (HRow.out.alloc _) ⟨w3.heap.size, 0, none⟩ 1 1 [.int .i64 (s : Int), .int .i64 0, .slice (some ⟨gd, 0, none⟩) zs.length cd] rfl rfl (cell_three_new _ _ _ _ _) (by simp [Value.oneCell']) (by unfold maxLen; omega) (by omega) (by omega) (fun cv2 w4 ho4 hg4 hl4 => hK _ _ trivial ?_)
      clear hK K'
      try simp only [Act.put, List.setIfInBounds_toArray, List.set_cons_zero, List.set_cons_succ]
      obtain ⟨⟨k0, k1⟩, hfin⟩ := HRest.out _ cv2 w4 hg4
      have HE := hide (hfin ho4 hl4)
      obtain ⟨a2, c2', rfl⟩ := own_shape ho4
      clear ho4 hg4 hl4 hfin HRest
      refine hd_call 11 (o := ⟨some 27, _, _, _, _, _⟩) (by kernel_rfl) rfl (by rfl) (fun K' hK => ?_)
      go_simp
      refine hK _ _ trivial ?_
      clear hK K'
      try simp only [Act.put, List.setIfInBounds_toArray, List.set_cons_zero, List.set_cons_succ]
      refine hd_call 12 (o := ⟨some 28, _, _, _, _, _⟩) (by kernel_rfl) rfl (by rfl) (fun K' hK => ?_)
      go_simp
      refine hK _ _ trivial ?_
      clear hK K'
      try simp only [Act.put, List.setIfInBounds_toArray, List.set_cons_zero, List.set_cons_succ]
      refine hd_call 13 (o := ⟨none, _, _, _, _, _⟩) (by kernel_rfl) rfl (by rfl) (fun K' hK => ?_)
      go_simp
      refine hK _ _ trivial ?_
      clear hK K'
      try simp only [Act.put, List.setIfInBounds_toArray, List.set_cons_zero, List.set_cons_succ]
      refine wpAnyH_done (by kernel_rfl) ?_ _
      generalize w4.setCell ⟨R, 1, none⟩ _ = w5 at *
      go_wp2
      go_ret
      obtain ⟨F', q1, q2⟩ := HE.out
      exact ⟨rfl, F', q1, HX2.out.trans q2⟩
end
end Go.Proofs.Ytnpklhjndominaa
