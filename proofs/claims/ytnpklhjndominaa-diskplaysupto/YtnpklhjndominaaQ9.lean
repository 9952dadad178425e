import Derived.Test.YtnpklhjndominaaQ8
namespace Go.Proofs.Ytnpklhjndominaa
open Go.RowKit

section
variable {w : World} {R N : Nat} {D : Dsk} {F : Nat → Prop}
theorem editR_out (z a : Int) (v : Value) (hz : z < 0 ∨ 1024 ≤ z) : Calls Try.prog 26 #[tp R, .int .i64 z, .int .i64 a, v] w fun e w' => e = .returned (.int .i64 40) ∧ w' = w := by
  have HT := hide (thereR_any z w)
  rw [show decide (0 ≤ z ∧ z < 1024) = false by simp; omega] at HT
  go_enter Try.func26, Try.ntmps26
  go_wp2_with fail
  refine HT.out.mono ?_
  rintro e w1 ⟨rfl, rfl⟩
  go_wp2
  go_ret
  exact ⟨rfl, rfl⟩
set_option maxHeartbeats 1600000 in
theorem editR_arg (s n cap : Nat) (a : Int) (ao : Option Addr) (hs : s < 1024) (ha : a < 0 ∨ 128 < a + n) (ha2 : -9223372036854775808 ≤ a ∧ a ≤ 9223372036854775807) : Calls Try.prog 26 #[tp R, .int .i64 (s : Int), .int .i64 a, .slice ao n cap] w fun e w' => e = .returned (.int .i64 1) ∧ w' = w := by
  have HT := hide (thereR_any (s : Int) w)
  rw [show decide (0 ≤ (s : Int) ∧ (s : Int) < 1024) = true by simp; omega] at HT
  go_enter Try.func26, Try.ntmps26
  go_wp2_with fail
  refine HT.out.mono ?_
  rintro e w1 ⟨rfl, rfl⟩
  by_cases h1 : a < 0
  · have hd : decide (a < 0) = true := by simp [h1]
    clear ha h1
    go_wp2
    go_ret
    exact ⟨rfl, rfl⟩
  · have hd : decide (a < 0) = false := by simp; omega
    by_cases h2 : 128 < a
    · have hd2 : decide (128 < a) = true := by simp [h2]
      clear ha h1 h2
      go_wp2
      go_ret
      exact ⟨rfl, rfl⟩
    · have hd2 : decide (128 < a) = false := by simp; omega
      have hw : IntKind.i64.wrap (128 - a) = 128 - a := by simp [IntKind.wrap, IntKind.signed, IntKind.bits]; omega
      have hd3 : decide (128 - a < (n : Int)) = true := by simp; omega
      have hlo : 0 ≤ a := by omega
      have hhi : a ≤ 128 := by omega
      clear ha h1 h2 ha2
      go_wp2
      go_ret
      exact ⟨rfl, rfl⟩
set_option maxRecDepth 100000 in
set_option maxHeartbeats 3200000 in
theorem editR_ok (h : RkA R D N w F) (s pa : Nat) (v : Value) (zs : List Nat) (hs : s < 1024) (hv : Rd w v zs) (hz : ∀ z ∈ zs, z < 256) (ha : pa + zs.length ≤ 128) (hN : N ≤ 2000000) :
    Calls Try.prog 26 #[tp R, .int .i64 (s : Int), .int .i64 (pa : Int), v] w fun e w' => e = .returned (.int .i64 0) ∧ ∃ F', RkA R (D.edit s (splice (D.M s) pa zs)) (N + 1) w' F' ∧ Ext F w F' w' := by
  have HT := hide (thereR_any (s : Int) w)
  rw [show decide (0 ≤ (s : Int) ∧ (s : Int) < 1024) = true by simp; omega] at HT
  obtain ⟨i3, hi3, hz3, hs3, hb3'⟩ := infoRec
  have HV := hide hv
  have HZ : Hid (Rcs (s, pa, zs)) := hide ⟨ha, hz⟩
  obtain ⟨ax, cap, hvv⟩ := hv.len
  obtain ⟨n, hn⟩ : ∃ n, zs.length = n := ⟨_, rfl⟩
  rw [hn] at hvv ha
  have Hn := hide hn
  subst hvv
  have hd1 : decide ((pa : Int) < 0) = false := by simp
  have hd2 : decide ((128 : Int) < (pa : Int)) = false := by simp; omega
  have hd3 : decide ((128 : Int) - (pa : Int) < (n : Int)) = false := by simp; omega
  have hd5 : decide (128 < pa) = false := by simp; omega
  have hw : IntKind.i64.wrap (128 - (pa : Int)) = 128 - (pa : Int) := by simp [IntKind.wrap, IntKind.signed, IntKind.bits]; omega
  obtain ⟨lv, wv, rl, ds, es, G, hk, hnn, he⟩ := h
  obtain ⟨a, cw, hwv⟩ := own_shape hk.lan.row
  obtain ⟨L, hL⟩ : ∃ L, rl.length = L := ⟨_, rfl⟩
  rw [hL] at hwv
  have hlc : L ≤ 2000000 := by omega
  have HK := hide hk
  have HN := hide hnn
  have HE0 := hide he
  have HL := hide hL
  have c1 := hk.cells.1
  rw [hwv] at c1
  have HCo : Hid (∀ W : World, W.heap = w.heap ∧ W.os = w.os ∧ W.tape = w.tape ∧ W.output = w.output → Calls Try.prog 12 #[.slice ax n cap] W fun e w' => ∃ r, e = .returned r ∧ Ow w' W.heap.size r zs ∧ Below W.heap.size W w') := hide (fun W hW => copiedR_any _ zs W (rd_keep HV.out (fun b _ => by rw [hW.1])) (by rw [Hn.out]; omega))
  clear hk hnn he hL hn hv hz
  go_enter Try.func26, Try.ntmps26
  go_wp2_with fail
  refine HT.out.mono ?_
  rintro e w1 ⟨rfl, rfl⟩
  go_upto_region 5 with fail
  refine wp_region_held_drew (S := fun _ => True) (by kernel_rfl) trivial (fun _ => ?_)
  obtain ⟨w2, hw2⟩ : ∃ w2, w2 = w1.drew := ⟨_, rfl⟩
  rw [← hw2]
  have hd2' : Below w1.heap.size w1 w2 := by rw [hw2]; exact ⟨rfl, rfl, rfl, Nat.le_refl _, fun _ _ => rfl⟩
  have HX2 : Hid (Ext F w1 F w2) := hide (Ext.of_below (F := F) hd2')
  have HK2 : Hid (RkAt w2 R lv wv rl ds es G D) := hide (HK.out.keep hd2'.size (fun b _ => by rw [hw2]; rfl))
  have HC2 : Hid (Calls Try.prog 12 #[.slice ax n cap] w2 fun e w' => ∃ r, e = .returned r ∧ Ow w' w2.heap.size r zs ∧ Below w2.heap.size w2 w') := hide (HCo.out w2 (by rw [hw2]; exact ⟨rfl, rfl, rfl, rfl⟩))
  have c2 : w2.cell? ⟨R, 0, none⟩ = some (.slice a L cw) := by rw [hw2]; exact c1
  subst hwv
  have HAll : Hid (∀ (w3 : World) (vd : Value), Ow w3 w2.heap.size vd zs → Below w2.heap.size w2 w3 → w3.cell? ⟨R, 0, none⟩ = some (.slice a L cw) ∧ w3.ownsRow 0 51 3 (.slice a L cw) L (encRs rl ds) ∧ ∀ (o : Obj) (cv2 : Value) (w4 : World), (w3.alloc o).grownBy w4 (Value.slice a L cw).ownBlock → (w4.cell? ⟨R, 0, none⟩ = some (.slice a L cw) ∧ w4.frozen? ⟨R, 0, none⟩ = false) ∧ (w4.ownsRow 0 51 3 cv2 (L + 1) (encRs rl ds ++ [.int .i64 (s : Int), .int .i64 (pa : Int), vd]) → (cv2.ownBlock = (Value.slice a L cw).ownBlock ∨ cv2.ownBlock = some (w3.alloc o).heap.size) → ∃ F', RkA R (D.edit s (splice (D.M s) pa zs)) (N + 1) (w4.setCell ⟨R, 0, none⟩ cv2) F' ∧ Ext F w2 F' (w4.setCell ⟨R, 0, none⟩ cv2))) := by
    refine hide (fun w3 vd hvd hb3 => ?_)
    have h3 := HK2.out.keep hb3.size (fun b hb => hb3.block b (by
      rcases hb with e | e | e | e
      · rw [e]; exact HK2.out.lt
      · exact ownsRow_lt HK2.out.lan.row e
      · exact ownsRow_lt HK2.out.wai.row e
      · exact (HK2.out.nG b e).2.2))
    have hrow := h3.lan.row
    rw [HL.out] at hrow
    refine ⟨h3.cells.1, hrow, fun o cv2 w4 hg4 => ⟨?_, fun ho4 hl4 => ?_⟩⟩
    · have hR4 : w4.heap[R]? = w3.heap[R]? := by
        have := h3.lt
        rw [hg4.block R (by simp; omega) (fun e => h3.nR.1 e.symm), Below.heap_alloc _ _ _ h3.lt]
      exact ⟨by rw [World.cell?_of_block hR4]; exact h3.cells.1, by rw [World.frozen?_of_block hR4]; exact h3.cells.2.2.2.2.2 0⟩
    · exact eput HK2.out HN.out HE0.out hb3 hvd HZ.out hs (by rw [HL.out]; exact ho4) hg4 hl4
  clear hw2 c1 hd2' HCo HK HK2 hd1 hd2 hd3 hd5 hw
  refine hd_take 0 (o := ⟨some 25, _, _, _, _, _⟩) (tp R) (by kernel_rfl) (by kernel_rfl) (by kernel_rfl) rfl (by rfl) (fun W hSw => by go_simp) (fun _ _ _ h => h) trivial ?_
  simp only [Act.put, List.setIfInBounds_toArray, List.set_cons_zero, List.set_cons_succ]
  refine hd_take 1 (o := ⟨some 26, _, _, _, _, _⟩) (tp R) (by kernel_rfl) (by kernel_rfl) (by kernel_rfl) rfl (by rfl) (fun W hSw => by go_simp) (fun _ _ _ h => h) trivial ?_
  simp only [Act.put, List.setIfInBounds_toArray, List.set_cons_zero, List.set_cons_succ]
  refine hd_take 2 (o := ⟨some 27, _, _, _, _, _⟩) (.pointer (some ⟨R, 0, none⟩)) (by kernel_rfl) (by kernel_rfl) (by kernel_rfl) rfl (by rfl) (fun W hSw => by go_simp) (fun _ _ _ h => h) trivial ?_
  simp only [Act.put, List.setIfInBounds_toArray, List.set_cons_zero, List.set_cons_succ]
  refine hd_take 3 (o := ⟨some 28, _, _, _, _, _⟩) (.pointer (some ⟨R, 0, none⟩)) (by kernel_rfl) (by kernel_rfl) (by kernel_rfl) rfl (by rfl) (fun W hSw => by go_simp) (fun _ _ _ h => h) trivial ?_
  simp only [Act.put, List.setIfInBounds_toArray, List.set_cons_zero, List.set_cons_succ]
  refine hd_take 5 (o := ⟨some 30, _, _, _, _, _⟩) (.int .i64 (s : Int)) (by kernel_rfl) (by kernel_rfl) (by kernel_rfl) rfl (by rfl) (fun W hSw => by go_simp) (fun _ _ _ h => h) trivial ?_
  simp only [Act.put, List.setIfInBounds_toArray, List.set_cons_zero, List.set_cons_succ]
  refine hd_take 6 (o := ⟨some 31, _, _, _, _, _⟩) (.int .i64 (pa : Int)) (by kernel_rfl) (by kernel_rfl) (by kernel_rfl) rfl (by rfl) (fun W hSw => by go_simp) (fun _ _ _ h => h) trivial ?_
  simp only [Act.put, List.setIfInBounds_toArray, List.set_cons_zero, List.set_cons_succ]
  refine hd_take 7 (o := ⟨some 32, _, _, _, _, _⟩) (.slice ax n cap) (by kernel_rfl) (by kernel_rfl) (by kernel_rfl) rfl (by rfl) (fun W hSw => by go_simp) (fun _ _ _ h => h) trivial ?_
  simp only [Act.put, List.setIfInBounds_toArray, List.set_cons_zero, List.set_cons_succ]
  refine hd_both 4 8 (o1 := ⟨some 29, _, _, _, _, _⟩) (o2 := ⟨some 33, _, _, _, _, _⟩) (by kernel_rfl) rfl rfl (by rfl) (by rfl) (fun K' hK => ?_) (fun K' hK => ?_)
  · go_simp
    refine hK _ _ trivial ?_
    clear hK K'
    try simp only [Act.put, List.setIfInBounds_toArray, List.set_cons_zero, List.set_cons_succ]
    refine hd_call 8 (o := ⟨some 33, _, _, _, _, _⟩) (by kernel_rfl) rfl (by rfl) (fun K' hK => ?_)
    go_simp
    go_wp2_with (go_at_call 12; refine HC2.out.mono ?_; rintro e1 w3 ⟨vd, rfl, hvd, hb3⟩)
    obtain ⟨c3, hrow3, hrest⟩ := HAll.out w3 vd hvd hb3
    obtain ⟨ad, cd, rfl⟩ := own_shape hvd
    have HRow := hide hrow3
    have HRest := hide hrest
    clear hvd hb3 hrow3 hrest HAll
    refine hK _ _ trivial ?_
    clear hK K'
    try simp only [Act.put, List.setIfInBounds_toArray, List.set_cons_zero, List.set_cons_succ]
    refine hd_call 9 (o := ⟨some 34, _, _, _, _, _⟩) (by kernel_rfl) rfl (by rfl) (fun K' hK => ?_)
    go_simp
    refine hK _ _ trivial ?_
    clear hK K'
    try simp only [Act.put, List.setIfInBounds_toArray, List.set_cons_zero, List.set_cons_succ]
    refine hd_call 10 (o := ⟨some 35, _, _, _, _, _⟩) (by kernel_rfl) rfl (by rfl) (fun K' hK => ?_)
    go_simp
    refine hK _ _ trivial ?_
    clear hK K'
    try simp only [Act.put, List.setIfInBounds_toArray, List.set_cons_zero, List.set_cons_succ]
    refine hd_call 11 (o := ⟨some 36, _, _, _, _, _⟩) (by kernel_rfl) rfl (by rfl) (fun K' hK => ?_)
    refine oper_append _ _ 46 rfl 0 51 i3 (.agg #[.int .i64 0, .int .i64 0, .slice none 0 0]) 3 40 Try.underlying46 hi3 hz3 hs3 hb3' rfl (by decide) (.slice a L cw) L (encRs rl ds) rfl (HRow.out.alloc _) ⟨w3.heap.size, 0, none⟩ 1 1 [.int .i64 (s : Int), .int .i64 (pa : Int), .slice ad zs.length cd] rfl rfl (cell_three_new _ _ _ _ _) (by simp [Value.oneCell']) (by unfold maxLen; omega) (by omega) (by omega) (fun cv2 w4 ho4 hg4 hl4 => hK _ _ trivial ?_)
    clear hK K'
    try simp only [Act.put, List.setIfInBounds_toArray, List.set_cons_zero, List.set_cons_succ]
    obtain ⟨⟨k0, k1⟩, hfin⟩ := HRest.out _ cv2 w4 hg4
    have HE := hide (hfin ho4 hl4)
    obtain ⟨a2, c2', rfl⟩ := own_shape ho4
    clear ho4 hg4 hl4 hfin HRest
    refine hd_call 12 (o := ⟨some 37, _, _, _, _, _⟩) (by kernel_rfl) rfl (by rfl) (fun K' hK => ?_)
    go_simp
    refine hK _ _ trivial ?_
    clear hK K'
    try simp only [Act.put, List.setIfInBounds_toArray, List.set_cons_zero, List.set_cons_succ]
    refine hd_call 13 (o := ⟨some 38, _, _, _, _, _⟩) (by kernel_rfl) rfl (by rfl) (fun K' hK => ?_)
    go_simp
    refine hK _ _ trivial ?_
    clear hK K'
    try simp only [Act.put, List.setIfInBounds_toArray, List.set_cons_zero, List.set_cons_succ]
    refine hd_call 14 (o := ⟨none, _, _, _, _, _⟩) (by kernel_rfl) rfl (by rfl) (fun K' hK => ?_)
    go_simp
    refine hK _ _ trivial ?_
    clear hK K'
    try simp only [Act.put, List.setIfInBounds_toArray, List.set_cons_zero, List.set_cons_succ]
    refine wpAnyH_done (by kernel_rfl) ?_ _
    generalize w4.setCell ⟨R, 0, none⟩ _ = w5 at *
    go_wp2
    go_ret
    obtain ⟨F', q1, q2⟩ := HE.out
    exact ⟨rfl, F', q1, HX2.out.trans q2⟩
  · go_simp
    go_wp2_with (go_at_call 12; refine HC2.out.mono ?_; rintro e1 w3 ⟨vd, rfl, hvd, hb3⟩)
    obtain ⟨c3, hrow3, hrest⟩ := HAll.out w3 vd hvd hb3
    obtain ⟨ad, cd, rfl⟩ := own_shape hvd
    have HRow := hide hrow3
    have HRest := hide hrest
    clear hvd hb3 hrow3 hrest HAll
    refine hK _ _ trivial ?_
    clear hK K'
    try simp only [Act.put, List.setIfInBounds_toArray, List.set_cons_zero, List.set_cons_succ]
    refine hd_take 9 (o := ⟨some 34, _, _, _, _, _⟩) (.agg #[.int .i64 (s : Int), .int .i64 (pa : Int), .slice ad zs.length cd]) (by kernel_rfl) (by kernel_rfl) (by kernel_rfl) rfl (by rfl) (fun W hSw => by go_simp) (fun _ _ _ h => h) trivial ?_
    simp only [Act.put, List.setIfInBounds_toArray, List.set_cons_zero, List.set_cons_succ]
    have c4 : (w3.alloc (.cells #[.int .i64 (s : Int), .int .i64 (pa : Int), .slice ad zs.length cd] 51)).cell? ⟨R, 0, none⟩ = some (.slice a L cw) := cell_belowN ((Below.refl w3.heap.size w3).alloc (Nat.le_refl _) _) c3
    refine hd_both 4 10 (o1 := ⟨some 29, _, _, _, _, _⟩) (o2 := ⟨some 35, _, _, _, _, _⟩) (by kernel_rfl) rfl rfl (by rfl) (by rfl) (fun K' hK => ?_) (fun K' hK => ?_)
    · go_simp
      refine hK _ _ trivial ?_
      clear hK K'
      try simp only [Act.put, List.setIfInBounds_toArray, List.set_cons_zero, List.set_cons_succ]
      refine hd_call 10 (o := ⟨some 35, _, _, _, _, _⟩) (by kernel_rfl) rfl (by rfl) (fun K' hK => ?_)
      go_simp
      refine hK _ _ trivial ?_
      clear hK K'
      try simp only [Act.put, List.setIfInBounds_toArray, List.set_cons_zero, List.set_cons_succ]
      refine hd_call 11 (o := ⟨some 36, _, _, _, _, _⟩) (by kernel_rfl) rfl (by rfl) (fun K' hK => ?_)
      refine oper_append _ _ 46 rfl 0 51 i3 (.agg #[.int .i64 0, .int .i64 0, .slice none 0 0]) 3 40 Try.underlying46 hi3 hz3 hs3 hb3' rfl (by decide) (.slice a L cw) L (encRs rl ds) rfl (HRow.out.alloc _) ⟨w3.heap.size, 0, none⟩ 1 1 [.int .i64 (s : Int), .int .i64 (pa : Int), .slice ad zs.length cd] rfl rfl (cell_three_new _ _ _ _ _) (by simp [Value.oneCell']) (by unfold maxLen; omega) (by omega) (by omega) (fun cv2 w4 ho4 hg4 hl4 => hK _ _ trivial ?_)
      clear hK K'
      try simp only [Act.put, List.setIfInBounds_toArray, List.set_cons_zero, List.set_cons_succ]
      obtain ⟨⟨k0, k1⟩, hfin⟩ := HRest.out _ cv2 w4 hg4
      have HE := hide (hfin ho4 hl4)
      obtain ⟨a2, c2', rfl⟩ := own_shape ho4
      clear ho4 hg4 hl4 hfin HRest
      refine hd_call 12 (o := ⟨some 37, _, _, _, _, _⟩) (by kernel_rfl) rfl (by rfl) (fun K' hK => ?_)
      go_simp
      refine hK _ _ trivial ?_
      clear hK K'
      try simp only [Act.put, List.setIfInBounds_toArray, List.set_cons_zero, List.set_cons_succ]
      refine hd_call 13 (o := ⟨some 38, _, _, _, _, _⟩) (by kernel_rfl) rfl (by rfl) (fun K' hK => ?_)
      go_simp
      refine hK _ _ trivial ?_
      clear hK K'
      try simp only [Act.put, List.setIfInBounds_toArray, List.set_cons_zero, List.set_cons_succ]
      refine hd_call 14 (o := ⟨none, _, _, _, _, _⟩) (by kernel_rfl) rfl (by rfl) (fun K' hK => ?_)
      go_simp
      refine hK _ _ trivial ?_
      clear hK K'
      try simp only [Act.put, List.setIfInBounds_toArray, List.set_cons_zero, List.set_cons_succ]
      refine wpAnyH_done (by kernel_rfl) ?_ _
      generalize w4.setCell ⟨R, 0, none⟩ _ = w5 at *
      go_wp2
      go_ret
      obtain ⟨F', q1, q2⟩ := HE.out
      exact ⟨rfl, F', q1, HX2.out.trans q2⟩
    · go_simp
      refine hK _ _ trivial ?_
      clear hK K'
      try simp only [Act.put, List.setIfInBounds_toArray, List.set_cons_zero, List.set_cons_succ]
      refine hd_call 4 (o := ⟨some 29, _, _, _, _, _⟩) (by kernel_rfl) rfl (by rfl) (fun K' hK => ?_)
      go_simp
      refine hK _ _ trivial ?_
      clear hK K'
      try simp only [Act.put, List.setIfInBounds_toArray, List.set_cons_zero, List.set_cons_succ]
      refine hd_call 11 (o := ⟨some 36, _, _, _, _, _⟩) (by kernel_rfl) rfl (by rfl) (fun K' hK => ?_)
      refine oper_append _ _ 46 rfl 0 51 i3 (.agg #[.int .i64 0, .int .i64 0, .slice none 0 0]) 3 40 Try.underlying46 hi3 hz3 hs3 hb3' rfl (by decide) (.slice a L cw) L (encRs rl ds) rfl (HRow.out.alloc _) ⟨w3.heap.size, 0, none⟩ 1 1 [.int .i64 (s : Int), .int .i64 (pa : Int), .slice ad zs.length cd] rfl rfl (cell_three_new _ _ _ _ _) (by simp [Value.oneCell']) (by unfold maxLen; omega) (by omega) (by omega) (fun cv2 w4 ho4 hg4 hl4 => hK _ _ trivial ?_)
      clear hK K'
      try simp only [Act.put, List.setIfInBounds_toArray, List.set_cons_zero, List.set_cons_succ]
      obtain ⟨⟨k0, k1⟩, hfin⟩ := HRest.out _ cv2 w4 hg4
      have HE := hide (hfin ho4 hl4)
      obtain ⟨a2, c2', rfl⟩ := own_shape ho4
      clear ho4 hg4 hl4 hfin HRest
      refine hd_call 12 (o := ⟨some 37, _, _, _, _, _⟩) (by kernel_rfl) rfl (by rfl) (fun K' hK => ?_)
      go_simp
      refine hK _ _ trivial ?_
      clear hK K'
      try simp only [Act.put, List.setIfInBounds_toArray, List.set_cons_zero, List.set_cons_succ]
      refine hd_call 13 (o := ⟨some 38, _, _, _, _, _⟩) (by kernel_rfl) rfl (by rfl) (fun K' hK => ?_)
      go_simp
      refine hK _ _ trivial ?_
      clear hK K'
      try simp only [Act.put, List.setIfInBounds_toArray, List.set_cons_zero, List.set_cons_succ]
      refine hd_call 14 (o := ⟨none, _, _, _, _, _⟩) (by kernel_rfl) rfl (by rfl) (fun K' hK => ?_)
      go_simp
      refine hK _ _ trivial ?_
      clear hK K'
      try simp only [Act.put, List.setIfInBounds_toArray, List.set_cons_zero, List.set_cons_succ]
      refine wpAnyH_done (by kernel_rfl) ?_ _
      generalize w4.setCell ⟨R, 0, none⟩ _ = w5 at *
      go_wp2
      go_ret
      obtain ⟨F', q1, q2⟩ := HE.out
      exact ⟨rfl, F', q1, HX2.out.trans q2⟩
end
end Go.Proofs.Ytnpklhjndominaa
