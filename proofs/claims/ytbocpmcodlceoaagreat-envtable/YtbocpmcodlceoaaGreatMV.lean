import Derived.Test.YtbocpmcodlceoaaGreatMT
namespace Go.Proofs.YtbocpmcodlceoaaGreat
open Go.ChangeShapes Go.WideShapes Go.ChangeAt Go.RowKit Go.Deep Go.Shelf

set_option maxRecDepth 8000 in
set_option maxHeartbeats 3200000 in
theorem sets_regs {w : World} {F : Nat → Prop} {T R : Nat} (h : PrA T R w F) (o : Ov) (hk : o.kd = 5) : Calls Tryz.prog 9 #[.agg #[tp T, tp R], .agg o.cells.toArray] w fun x w' => x = .returned (.bool true) ∧ ∃ F', PrA T R w' F' ∧ Ext F w F' w' := by
  have hb1 := (Below.refl w.heap.size w).alloc (Nat.le_refl _) (.cells #[tp T, tp R] 27)
  have hb2 := hb1.alloc hb1.size (.cells o.cells.toArray 37)
  have ha1 := heap_alloc_new w (.cells #[tp T, tp R] 27)
  have ho2 := heap_alloc_new (w.alloc (.cells #[tp T, tp R] 27)) (.cells o.cells.toArray 37)
  have e2 : (w.alloc (.cells #[tp T, tp R] 27)).heap.size = w.heap.size + 1 := by simp
  rw [e2] at ho2
  have ha2 := (Below.heap_alloc _ (.cells o.cells.toArray 37) w.heap.size (by rw [e2]; omega)).trans ha1
  have HPr := hide ((good_pr T R).below h hb2)
  have HX := hide (ext_below (F := F) hb2)
  have HAF : Hid (¬ F w.heap.size ∧ ¬ F (w.heap.size + 1)) := hide ⟨fun e => by have := (good_pr T R).lt h _ e; omega, fun e => by have := (good_pr T R).lt h _ e; omega⟩
  have HA := hide ha2
  have HO := hide ho2
  have HK := hide hk
  clear hb1 hb2 ha1 ho2 ha2 e2 h hk
  go_enter Tryz.func9, Tryz.ntmps9
  go_upto_region 1 with fail
  show Code.wp _ _ _ _ ((w.alloc (.cells #[tp T, tp R] 27)).alloc (.cells o.cells.toArray 37))
  generalize (w.alloc (.cells #[tp T, tp R] 27)).alloc (.cells o.cells.toArray 37) = w2 at *
  generalize hA : w.heap.size = A at *
  generalize hB : A + 1 = B at *
  clear hA hB
  have c0 := ob_cell HO.out (j := 0) rfl
  rw [HK.out] at c0
  go_upto_region 3 with fail
  clear c0
  refine wp_region_held_drew (S := fun W : World => W.heap[A]? = some (.cells #[tp T, tp R] 27 (0, 0)) ∧ W.heap[B]? = some (.cells o.cells.toArray 37 (0, 0))) (by kernel_rfl) ⟨HA.out, HO.out⟩ (fun _ => ?_)
  generalize hw3 : w2.drew = w3
  have hb3 : Below w2.heap.size w2 w3 := by rw [← hw3]; exact below_drew _
  have HS3 : Hid (w3.heap[A]? = some (.cells #[tp T, tp R] 27 (0, 0)) ∧ w3.heap[B]? = some (.cells o.cells.toArray 37 (0, 0))) := hide (by rw [← hw3]; exact ⟨HA.out, HO.out⟩)
  have HPr3 := hide ((good_pr T R).below HPr.out hb3)
  have HX3 := hide (HX.out.trans (ext_below (F := F) hb3))
  clear hw3 hb3 HPr HX HA HO
  refine hd_take 0 (o := ⟨some 13, _, _, _, _, _⟩) (.pointer (some ⟨A, 0, none⟩)) (by kernel_rfl) (by kernel_rfl) (by kernel_rfl) rfl (by rfl) (fun W hSw => by go_simp) (fun _ _ _ h => h) HS3.out ?_
  simp only [Act.put, List.setIfInBounds_toArray, List.set_cons_zero, List.set_cons_succ]
  refine hd_take 1 (o := ⟨some 14, _, _, _, _, _⟩) (.pointer (some ⟨T, 0, none⟩)) (by kernel_rfl) (by kernel_rfl) (by kernel_rfl) rfl (by rfl) (fun W hSw => by have s1 := top_cell hSw.1; go_simp) (fun _ _ _ h => h) HS3.out ?_
  simp only [Act.put, List.setIfInBounds_toArray, List.set_cons_zero, List.set_cons_succ]
  refine hd_take 2 (o := ⟨some 15, _, _, _, _, _⟩) (.pointer (some ⟨B, 2, none⟩)) (by kernel_rfl) (by kernel_rfl) (by kernel_rfl) rfl (by rfl) (fun W hSw => by go_simp) (fun _ _ _ h => h) HS3.out ?_
  simp only [Act.put, List.setIfInBounds_toArray, List.set_cons_zero, List.set_cons_succ]
  refine hd_take 3 (o := ⟨some 16, _, _, _, _, _⟩) (.int .i64 o.e) (by kernel_rfl) (by kernel_rfl) (by kernel_rfl) rfl (by rfl) (fun W hSw => by have s1 := ob_cell hSw.2 (j := 2) rfl; go_simp) (fun _ _ _ h => h) HS3.out ?_
  simp only [Act.put, List.setIfInBounds_toArray, List.set_cons_zero, List.set_cons_succ]
  refine hd_take 4 (o := ⟨some 17, _, _, _, _, _⟩) (.pointer (some ⟨B, 8, none⟩)) (by kernel_rfl) (by kernel_rfl) (by kernel_rfl) rfl (by rfl) (fun W hSw => by go_simp) (fun _ _ _ h => h) HS3.out ?_
  simp only [Act.put, List.setIfInBounds_toArray, List.set_cons_zero, List.set_cons_succ]
  refine hd_take 5 (o := ⟨some 18, _, _, _, _, _⟩) (.agg (regsL o.g o.pc).toArray) (by kernel_rfl) (by kernel_rfl) (by kernel_rfl) rfl (by rfl) (fun W hSw => by exact run_loadT Tryz.underlying35 rfl (regsL o.g o.pc) (by rw [regs_len]; exact infoR) _ rfl ⟨B, 8, none⟩ rfl (ob_r hSw.2)) (fun _ _ _ h => h) HS3.out ?_
  simp only [Act.put, List.setIfInBounds_toArray, List.set_cons_zero, List.set_cons_succ]
  refine hd_take 7 (o := ⟨some 20, _, _, _, _, _⟩) (.pointer (some ⟨A, 1, none⟩)) (by kernel_rfl) (by kernel_rfl) (by kernel_rfl) rfl (by rfl) (fun W hSw => by go_simp) (fun _ _ _ h => h) HS3.out ?_
  simp only [Act.put, List.setIfInBounds_toArray, List.set_cons_zero, List.set_cons_succ]
  refine hd_take 8 (o := ⟨some 21, _, _, _, _, _⟩) (.pointer (some ⟨R, 0, none⟩)) (by kernel_rfl) (by kernel_rfl) (by kernel_rfl) rfl (by rfl) (fun W hSw => by have s1 := top_cell1 hSw.1; go_simp) (fun _ _ _ h => h) HS3.out ?_
  simp only [Act.put, List.setIfInBounds_toArray, List.set_cons_zero, List.set_cons_succ]
  refine hd_take 9 (o := ⟨some 22, _, _, _, _, _⟩) (.pointer (some ⟨B, 2, none⟩)) (by kernel_rfl) (by kernel_rfl) (by kernel_rfl) rfl (by rfl) (fun W hSw => by go_simp) (fun _ _ _ h => h) HS3.out ?_
  simp only [Act.put, List.setIfInBounds_toArray, List.set_cons_zero, List.set_cons_succ]
  refine hd_take 10 (o := ⟨some 23, _, _, _, _, _⟩) (.int .i64 o.e) (by kernel_rfl) (by kernel_rfl) (by kernel_rfl) rfl (by rfl) (fun W hSw => by have s1 := ob_cell hSw.2 (j := 2) rfl; go_simp) (fun _ _ _ h => h) HS3.out ?_
  simp only [Act.put, List.setIfInBounds_toArray, List.set_cons_zero, List.set_cons_succ]
  refine hd_take 11 (o := ⟨some 24, _, _, _, _, _⟩) (.pointer (some ⟨B, 8, none⟩)) (by kernel_rfl) (by kernel_rfl) (by kernel_rfl) rfl (by rfl) (fun W hSw => by go_simp) (fun _ _ _ h => h) HS3.out ?_
  simp only [Act.put, List.setIfInBounds_toArray, List.set_cons_zero, List.set_cons_succ]
  refine hd_take 12 (o := ⟨some 25, _, _, _, _, _⟩) (.agg (regsL o.g o.pc).toArray) (by kernel_rfl) (by kernel_rfl) (by kernel_rfl) rfl (by rfl) (fun W hSw => by exact run_loadT Tryz.underlying35 rfl (regsL o.g o.pc) (by rw [regs_len]; exact infoR) _ rfl ⟨B, 8, none⟩ rfl (ob_r hSw.2)) (fun _ _ _ h => h) HS3.out ?_
  simp only [Act.put, List.setIfInBounds_toArray, List.set_cons_zero, List.set_cons_succ]
  refine hd_call 6 (o := ⟨some 19, _, _, _, _, _⟩) (by kernel_rfl) rfl (by rfl) (fun K' hK => ?_)
  go_simp
  go_wp2_with (go_at_call 23; refine ((two_regs T R o.e o.g o.pc).run HPr3.out).mono ?_; rintro x w4 ⟨v, ⟨c, rfl⟩, rfl, hm, hn⟩)
  have HS4 : Hid (w4.heap[A]? = some (.cells #[tp T, tp R] 27 (0, 0)) ∧ w4.heap[B]? = some (.cells o.cells.toArray 37 (0, 0))) := hide ⟨(hm.block A (Array.getElem?_eq_some_iff.1 HS3.out.1).1 HAF.out.1).trans HS3.out.1, (hm.block B (Array.getElem?_eq_some_iff.1 HS3.out.2).1 HAF.out.2).trans HS3.out.2⟩
  have HN := hide (hn w4 (Below.refl _ _))
  clear hm hn HPr3
  refine hK _ _ HS4.out ?_
  clear hK K'
  try simp only [Act.put, List.setIfInBounds_toArray, List.set_cons_zero, List.set_cons_succ]
  refine hd_call 13 (o := ⟨some 26, _, _, _, _, _⟩) (by kernel_rfl) rfl (by rfl) (fun K' hK => ?_)
  go_simp
  go_wp2_with (go_at_call 24; refine HN.out.mono ?_; rintro y w5 ⟨rfl, F', hP, hX, -⟩)
  have HP5 := hide hP
  have HX5 := hide (HX3.out.trans hX)
  have HS5 : Hid (w5.heap[A]? = some (.cells #[tp T, tp R] 27 (0, 0)) ∧ w5.heap[B]? = some (.cells o.cells.toArray 37 (0, 0))) := hide ⟨(hX.mod.block A (Nat.lt_of_lt_of_le (Array.getElem?_eq_some_iff.1 HS3.out.1).1 (Nat.le_refl _)) HAF.out.1).trans HS3.out.1, (hX.mod.block B (Nat.lt_of_lt_of_le (Array.getElem?_eq_some_iff.1 HS3.out.2).1 (Nat.le_refl _)) HAF.out.2).trans HS3.out.2⟩
  clear hP hX HN
  refine hK _ _ HS5.out ?_
  clear hK K'
  try simp only [Act.put, List.setIfInBounds_toArray, List.set_cons_zero, List.set_cons_succ]
  refine hd_take 14 (o := ⟨some 27, _, _, _, _, _⟩) (.bool true) (by kernel_rfl) (by kernel_rfl) (by kernel_rfl) rfl (by rfl) (fun W hSw => by go_simp) (fun _ _ _ h => h) HS5.out ?_
  simp only [Act.put, List.setIfInBounds_toArray, List.set_cons_zero, List.set_cons_succ]
  refine hd_take 15 (o := ⟨some 4, _, _, _, _, _⟩) (.bool true) (by kernel_rfl) (by kernel_rfl) (by kernel_rfl) rfl (by rfl) (fun W hSw => by go_simp) (fun _ _ _ h => h) HS5.out ?_
  simp only [Act.put, List.setIfInBounds_toArray, List.set_cons_zero, List.set_cons_succ]
  refine wpAnyH_done (by kernel_rfl) ?_ _
  clear HS3 HS4 HS5 HX3
  go_wp2
  go_ret
  exact ⟨rfl, F', HP5.out, HX5.out⟩
set_option maxRecDepth 8000 in
set_option maxHeartbeats 3200000 in
theorem sets_state {w : World} {F : Nat → Prop} {T R : Nat} (h : PrA T R w F) (o : Ov) (hk : o.kd = 6) : Calls Tryz.prog 9 #[.agg #[tp T, tp R], .agg o.cells.toArray] w fun x w' => x = .returned (.bool true) ∧ ∃ F', PrA T R w' F' ∧ Ext F w F' w' := by
  have hb1 := (Below.refl w.heap.size w).alloc (Nat.le_refl _) (.cells #[tp T, tp R] 27)
  have hb2 := hb1.alloc hb1.size (.cells o.cells.toArray 37)
  have ha1 := heap_alloc_new w (.cells #[tp T, tp R] 27)
  have ho2 := heap_alloc_new (w.alloc (.cells #[tp T, tp R] 27)) (.cells o.cells.toArray 37)
  have e2 : (w.alloc (.cells #[tp T, tp R] 27)).heap.size = w.heap.size + 1 := by simp
  rw [e2] at ho2
  have ha2 := (Below.heap_alloc _ (.cells o.cells.toArray 37) w.heap.size (by rw [e2]; omega)).trans ha1
  have HPr := hide ((good_pr T R).below h hb2)
  have HX := hide (ext_below (F := F) hb2)
  have HAF : Hid (¬ F w.heap.size ∧ ¬ F (w.heap.size + 1)) := hide ⟨fun e => by have := (good_pr T R).lt h _ e; omega, fun e => by have := (good_pr T R).lt h _ e; omega⟩
  have HA := hide ha2
  have HO := hide ho2
  have HK := hide hk
  clear hb1 hb2 ha1 ho2 ha2 e2 h hk
  go_enter Tryz.func9, Tryz.ntmps9
  go_upto_region 1 with fail
  show Code.wp _ _ _ _ ((w.alloc (.cells #[tp T, tp R] 27)).alloc (.cells o.cells.toArray 37))
  generalize (w.alloc (.cells #[tp T, tp R] 27)).alloc (.cells o.cells.toArray 37) = w2 at *
  generalize hA : w.heap.size = A at *
  generalize hB : A + 1 = B at *
  clear hA hB
  have c0 := ob_cell HO.out (j := 0) rfl
  rw [HK.out] at c0
  go_upto_region 5 with fail
  clear c0
  refine wp_region_held_drew (S := fun W : World => W.heap[A]? = some (.cells #[tp T, tp R] 27 (0, 0)) ∧ W.heap[B]? = some (.cells o.cells.toArray 37 (0, 0))) (by kernel_rfl) ⟨HA.out, HO.out⟩ (fun _ => ?_)
  generalize hw3 : w2.drew = w3
  have hb3 : Below w2.heap.size w2 w3 := by rw [← hw3]; exact below_drew _
  have HS3 : Hid (w3.heap[A]? = some (.cells #[tp T, tp R] 27 (0, 0)) ∧ w3.heap[B]? = some (.cells o.cells.toArray 37 (0, 0))) := hide (by rw [← hw3]; exact ⟨HA.out, HO.out⟩)
  have HPr3 := hide ((good_pr T R).below HPr.out hb3)
  have HX3 := hide (HX.out.trans (ext_below (F := F) hb3))
  clear hw3 hb3 HPr HX HA HO
  refine hd_take 0 (o := ⟨some 30, _, _, _, _, _⟩) (.pointer (some ⟨A, 0, none⟩)) (by kernel_rfl) (by kernel_rfl) (by kernel_rfl) rfl (by rfl) (fun W hSw => by go_simp) (fun _ _ _ h => h) HS3.out ?_
  simp only [Act.put, List.setIfInBounds_toArray, List.set_cons_zero, List.set_cons_succ]
  refine hd_take 1 (o := ⟨some 31, _, _, _, _, _⟩) (.pointer (some ⟨T, 0, none⟩)) (by kernel_rfl) (by kernel_rfl) (by kernel_rfl) rfl (by rfl) (fun W hSw => by have s1 := top_cell hSw.1; go_simp) (fun _ _ _ h => h) HS3.out ?_
  simp only [Act.put, List.setIfInBounds_toArray, List.set_cons_zero, List.set_cons_succ]
  refine hd_take 2 (o := ⟨some 32, _, _, _, _, _⟩) (.pointer (some ⟨B, 2, none⟩)) (by kernel_rfl) (by kernel_rfl) (by kernel_rfl) rfl (by rfl) (fun W hSw => by go_simp) (fun _ _ _ h => h) HS3.out ?_
  simp only [Act.put, List.setIfInBounds_toArray, List.set_cons_zero, List.set_cons_succ]
  refine hd_take 3 (o := ⟨some 33, _, _, _, _, _⟩) (.int .i64 o.e) (by kernel_rfl) (by kernel_rfl) (by kernel_rfl) rfl (by rfl) (fun W hSw => by have s1 := ob_cell hSw.2 (j := 2) rfl; go_simp) (fun _ _ _ h => h) HS3.out ?_
  simp only [Act.put, List.setIfInBounds_toArray, List.set_cons_zero, List.set_cons_succ]
  refine hd_take 4 (o := ⟨some 34, _, _, _, _, _⟩) (.pointer (some ⟨B, 3, none⟩)) (by kernel_rfl) (by kernel_rfl) (by kernel_rfl) rfl (by rfl) (fun W hSw => by go_simp) (fun _ _ _ h => h) HS3.out ?_
  simp only [Act.put, List.setIfInBounds_toArray, List.set_cons_zero, List.set_cons_succ]
  refine hd_take 5 (o := ⟨some 35, _, _, _, _, _⟩) (.int .i64 o.n) (by kernel_rfl) (by kernel_rfl) (by kernel_rfl) rfl (by rfl) (fun W hSw => by have s1 := ob_cell hSw.2 (j := 3) rfl; go_simp) (fun _ _ _ h => h) HS3.out ?_
  simp only [Act.put, List.setIfInBounds_toArray, List.set_cons_zero, List.set_cons_succ]
  refine hd_take 6 (o := ⟨some 36, _, _, _, _, _⟩) (.pointer (some ⟨B, 4, none⟩)) (by kernel_rfl) (by kernel_rfl) (by kernel_rfl) rfl (by rfl) (fun W hSw => by go_simp) (fun _ _ _ h => h) HS3.out ?_
  simp only [Act.put, List.setIfInBounds_toArray, List.set_cons_zero, List.set_cons_succ]
  refine hd_take 7 (o := ⟨some 37, _, _, _, _, _⟩) (.int .i64 o.m) (by kernel_rfl) (by kernel_rfl) (by kernel_rfl) rfl (by rfl) (fun W hSw => by have s1 := ob_cell hSw.2 (j := 4) rfl; go_simp) (fun _ _ _ h => h) HS3.out ?_
  simp only [Act.put, List.setIfInBounds_toArray, List.set_cons_zero, List.set_cons_succ]
  refine hd_take 9 (o := ⟨some 39, _, _, _, _, _⟩) (.pointer (some ⟨A, 1, none⟩)) (by kernel_rfl) (by kernel_rfl) (by kernel_rfl) rfl (by rfl) (fun W hSw => by go_simp) (fun _ _ _ h => h) HS3.out ?_
  simp only [Act.put, List.setIfInBounds_toArray, List.set_cons_zero, List.set_cons_succ]
  refine hd_take 10 (o := ⟨some 40, _, _, _, _, _⟩) (.pointer (some ⟨R, 0, none⟩)) (by kernel_rfl) (by kernel_rfl) (by kernel_rfl) rfl (by rfl) (fun W hSw => by have s1 := top_cell1 hSw.1; go_simp) (fun _ _ _ h => h) HS3.out ?_
  simp only [Act.put, List.setIfInBounds_toArray, List.set_cons_zero, List.set_cons_succ]
  refine hd_take 11 (o := ⟨some 41, _, _, _, _, _⟩) (.pointer (some ⟨B, 2, none⟩)) (by kernel_rfl) (by kernel_rfl) (by kernel_rfl) rfl (by rfl) (fun W hSw => by go_simp) (fun _ _ _ h => h) HS3.out ?_
  simp only [Act.put, List.setIfInBounds_toArray, List.set_cons_zero, List.set_cons_succ]
  refine hd_take 12 (o := ⟨some 42, _, _, _, _, _⟩) (.int .i64 o.e) (by kernel_rfl) (by kernel_rfl) (by kernel_rfl) rfl (by rfl) (fun W hSw => by have s1 := ob_cell hSw.2 (j := 2) rfl; go_simp) (fun _ _ _ h => h) HS3.out ?_
  simp only [Act.put, List.setIfInBounds_toArray, List.set_cons_zero, List.set_cons_succ]
  refine hd_take 13 (o := ⟨some 43, _, _, _, _, _⟩) (.pointer (some ⟨B, 3, none⟩)) (by kernel_rfl) (by kernel_rfl) (by kernel_rfl) rfl (by rfl) (fun W hSw => by go_simp) (fun _ _ _ h => h) HS3.out ?_
  simp only [Act.put, List.setIfInBounds_toArray, List.set_cons_zero, List.set_cons_succ]
  refine hd_take 14 (o := ⟨some 44, _, _, _, _, _⟩) (.int .i64 o.n) (by kernel_rfl) (by kernel_rfl) (by kernel_rfl) rfl (by rfl) (fun W hSw => by have s1 := ob_cell hSw.2 (j := 3) rfl; go_simp) (fun _ _ _ h => h) HS3.out ?_
  simp only [Act.put, List.setIfInBounds_toArray, List.set_cons_zero, List.set_cons_succ]
  refine hd_take 15 (o := ⟨some 45, _, _, _, _, _⟩) (.pointer (some ⟨B, 4, none⟩)) (by kernel_rfl) (by kernel_rfl) (by kernel_rfl) rfl (by rfl) (fun W hSw => by go_simp) (fun _ _ _ h => h) HS3.out ?_
  simp only [Act.put, List.setIfInBounds_toArray, List.set_cons_zero, List.set_cons_succ]
  refine hd_take 16 (o := ⟨some 46, _, _, _, _, _⟩) (.int .i64 o.m) (by kernel_rfl) (by kernel_rfl) (by kernel_rfl) rfl (by rfl) (fun W hSw => by have s1 := ob_cell hSw.2 (j := 4) rfl; go_simp) (fun _ _ _ h => h) HS3.out ?_
  simp only [Act.put, List.setIfInBounds_toArray, List.set_cons_zero, List.set_cons_succ]
  refine hd_call 8 (o := ⟨some 38, _, _, _, _, _⟩) (by kernel_rfl) rfl (by rfl) (fun K' hK => ?_)
  go_simp
  go_wp2_with (go_at_call 25; refine ((two_state T R o.e o.n o.m).run HPr3.out).mono ?_; rintro x w4 ⟨v, ⟨c, rfl⟩, rfl, hm, hn⟩)
  have HS4 : Hid (w4.heap[A]? = some (.cells #[tp T, tp R] 27 (0, 0)) ∧ w4.heap[B]? = some (.cells o.cells.toArray 37 (0, 0))) := hide ⟨(hm.block A (Array.getElem?_eq_some_iff.1 HS3.out.1).1 HAF.out.1).trans HS3.out.1, (hm.block B (Array.getElem?_eq_some_iff.1 HS3.out.2).1 HAF.out.2).trans HS3.out.2⟩
  have HN := hide (hn w4 (Below.refl _ _))
  clear hm hn HPr3
  refine hK _ _ HS4.out ?_
  clear hK K'
  try simp only [Act.put, List.setIfInBounds_toArray, List.set_cons_zero, List.set_cons_succ]
  refine hd_call 17 (o := ⟨some 47, _, _, _, _, _⟩) (by kernel_rfl) rfl (by rfl) (fun K' hK => ?_)
  go_simp
  go_wp2_with (go_at_call 26; refine HN.out.mono ?_; rintro y w5 ⟨rfl, F', hP, hX, -⟩)
  have HP5 := hide hP
  have HX5 := hide (HX3.out.trans hX)
  have HS5 : Hid (w5.heap[A]? = some (.cells #[tp T, tp R] 27 (0, 0)) ∧ w5.heap[B]? = some (.cells o.cells.toArray 37 (0, 0))) := hide ⟨(hX.mod.block A (Nat.lt_of_lt_of_le (Array.getElem?_eq_some_iff.1 HS3.out.1).1 (Nat.le_refl _)) HAF.out.1).trans HS3.out.1, (hX.mod.block B (Nat.lt_of_lt_of_le (Array.getElem?_eq_some_iff.1 HS3.out.2).1 (Nat.le_refl _)) HAF.out.2).trans HS3.out.2⟩
  clear hP hX HN
  refine hK _ _ HS5.out ?_
  clear hK K'
  try simp only [Act.put, List.setIfInBounds_toArray, List.set_cons_zero, List.set_cons_succ]
  refine hd_take 18 (o := ⟨some 48, _, _, _, _, _⟩) (.bool true) (by kernel_rfl) (by kernel_rfl) (by kernel_rfl) rfl (by rfl) (fun W hSw => by go_simp) (fun _ _ _ h => h) HS5.out ?_
  simp only [Act.put, List.setIfInBounds_toArray, List.set_cons_zero, List.set_cons_succ]
  refine hd_take 19 (o := ⟨some 4, _, _, _, _, _⟩) (.bool true) (by kernel_rfl) (by kernel_rfl) (by kernel_rfl) rfl (by rfl) (fun W hSw => by go_simp) (fun _ _ _ h => h) HS5.out ?_
  simp only [Act.put, List.setIfInBounds_toArray, List.set_cons_zero, List.set_cons_succ]
  refine wpAnyH_done (by kernel_rfl) ?_ _
  clear HS3 HS4 HS5 HX3
  go_wp2
  go_ret
  exact ⟨rfl, F', HP5.out, HX5.out⟩
set_option maxRecDepth 8000 in
set_option maxHeartbeats 3200000 in
theorem sets_bits {w : World} {F : Nat → Prop} {T R : Nat} (h : PrA T R w F) (o : Ov) (hk : o.kd = 7) : Calls Tryz.prog 9 #[.agg #[tp T, tp R], .agg o.cells.toArray] w fun x w' => x = .returned (.bool true) ∧ ∃ F', PrA T R w' F' ∧ Ext F w F' w' := by
  have hb1 := (Below.refl w.heap.size w).alloc (Nat.le_refl _) (.cells #[tp T, tp R] 27)
  have hb2 := hb1.alloc hb1.size (.cells o.cells.toArray 37)
  have ha1 := heap_alloc_new w (.cells #[tp T, tp R] 27)
  have ho2 := heap_alloc_new (w.alloc (.cells #[tp T, tp R] 27)) (.cells o.cells.toArray 37)
  have e2 : (w.alloc (.cells #[tp T, tp R] 27)).heap.size = w.heap.size + 1 := by simp
  rw [e2] at ho2
  have ha2 := (Below.heap_alloc _ (.cells o.cells.toArray 37) w.heap.size (by rw [e2]; omega)).trans ha1
  have HPr := hide ((good_pr T R).below h hb2)
  have HX := hide (ext_below (F := F) hb2)
  have HAF : Hid (¬ F w.heap.size ∧ ¬ F (w.heap.size + 1)) := hide ⟨fun e => by have := (good_pr T R).lt h _ e; omega, fun e => by have := (good_pr T R).lt h _ e; omega⟩
  have HA := hide ha2
  have HO := hide ho2
  have HK := hide hk
  clear hb1 hb2 ha1 ho2 ha2 e2 h hk
  go_enter Tryz.func9, Tryz.ntmps9
  go_upto_region 1 with fail
  show Code.wp _ _ _ _ ((w.alloc (.cells #[tp T, tp R] 27)).alloc (.cells o.cells.toArray 37))
  generalize (w.alloc (.cells #[tp T, tp R] 27)).alloc (.cells o.cells.toArray 37) = w2 at *
  generalize hA : w.heap.size = A at *
  generalize hB : A + 1 = B at *
  clear hA hB
  have c0 := ob_cell HO.out (j := 0) rfl
  rw [HK.out] at c0
  go_upto_region 7 with fail
  clear c0
  refine wp_region_held_drew (S := fun W : World => W.heap[A]? = some (.cells #[tp T, tp R] 27 (0, 0)) ∧ W.heap[B]? = some (.cells o.cells.toArray 37 (0, 0))) (by kernel_rfl) ⟨HA.out, HO.out⟩ (fun _ => ?_)
  generalize hw3 : w2.drew = w3
  have hb3 : Below w2.heap.size w2 w3 := by rw [← hw3]; exact below_drew _
  have HS3 : Hid (w3.heap[A]? = some (.cells #[tp T, tp R] 27 (0, 0)) ∧ w3.heap[B]? = some (.cells o.cells.toArray 37 (0, 0))) := hide (by rw [← hw3]; exact ⟨HA.out, HO.out⟩)
  have HPr3 := hide ((good_pr T R).below HPr.out hb3)
  have HX3 := hide (HX.out.trans (ext_below (F := F) hb3))
  clear hw3 hb3 HPr HX HA HO
  refine hd_take 0 (o := ⟨some 51, _, _, _, _, _⟩) (.pointer (some ⟨A, 0, none⟩)) (by kernel_rfl) (by kernel_rfl) (by kernel_rfl) rfl (by rfl) (fun W hSw => by go_simp) (fun _ _ _ h => h) HS3.out ?_
  simp only [Act.put, List.setIfInBounds_toArray, List.set_cons_zero, List.set_cons_succ]
  refine hd_take 1 (o := ⟨some 52, _, _, _, _, _⟩) (.pointer (some ⟨T, 0, none⟩)) (by kernel_rfl) (by kernel_rfl) (by kernel_rfl) rfl (by rfl) (fun W hSw => by have s1 := top_cell hSw.1; go_simp) (fun _ _ _ h => h) HS3.out ?_
  simp only [Act.put, List.setIfInBounds_toArray, List.set_cons_zero, List.set_cons_succ]
  refine hd_take 2 (o := ⟨some 53, _, _, _, _, _⟩) (.pointer (some ⟨B, 2, none⟩)) (by kernel_rfl) (by kernel_rfl) (by kernel_rfl) rfl (by rfl) (fun W hSw => by go_simp) (fun _ _ _ h => h) HS3.out ?_
  simp only [Act.put, List.setIfInBounds_toArray, List.set_cons_zero, List.set_cons_succ]
  refine hd_take 3 (o := ⟨some 54, _, _, _, _, _⟩) (.int .i64 o.e) (by kernel_rfl) (by kernel_rfl) (by kernel_rfl) rfl (by rfl) (fun W hSw => by have s1 := ob_cell hSw.2 (j := 2) rfl; go_simp) (fun _ _ _ h => h) HS3.out ?_
  simp only [Act.put, List.setIfInBounds_toArray, List.set_cons_zero, List.set_cons_succ]
  refine hd_take 4 (o := ⟨some 55, _, _, _, _, _⟩) (.pointer (some ⟨B, 3, none⟩)) (by kernel_rfl) (by kernel_rfl) (by kernel_rfl) rfl (by rfl) (fun W hSw => by go_simp) (fun _ _ _ h => h) HS3.out ?_
  simp only [Act.put, List.setIfInBounds_toArray, List.set_cons_zero, List.set_cons_succ]
  refine hd_take 5 (o := ⟨some 56, _, _, _, _, _⟩) (.int .i64 o.n) (by kernel_rfl) (by kernel_rfl) (by kernel_rfl) rfl (by rfl) (fun W hSw => by have s1 := ob_cell hSw.2 (j := 3) rfl; go_simp) (fun _ _ _ h => h) HS3.out ?_
  simp only [Act.put, List.setIfInBounds_toArray, List.set_cons_zero, List.set_cons_succ]
  refine hd_take 7 (o := ⟨some 58, _, _, _, _, _⟩) (.pointer (some ⟨A, 1, none⟩)) (by kernel_rfl) (by kernel_rfl) (by kernel_rfl) rfl (by rfl) (fun W hSw => by go_simp) (fun _ _ _ h => h) HS3.out ?_
  simp only [Act.put, List.setIfInBounds_toArray, List.set_cons_zero, List.set_cons_succ]
  refine hd_take 8 (o := ⟨some 59, _, _, _, _, _⟩) (.pointer (some ⟨R, 0, none⟩)) (by kernel_rfl) (by kernel_rfl) (by kernel_rfl) rfl (by rfl) (fun W hSw => by have s1 := top_cell1 hSw.1; go_simp) (fun _ _ _ h => h) HS3.out ?_
  simp only [Act.put, List.setIfInBounds_toArray, List.set_cons_zero, List.set_cons_succ]
  refine hd_take 9 (o := ⟨some 60, _, _, _, _, _⟩) (.pointer (some ⟨B, 2, none⟩)) (by kernel_rfl) (by kernel_rfl) (by kernel_rfl) rfl (by rfl) (fun W hSw => by go_simp) (fun _ _ _ h => h) HS3.out ?_
  simp only [Act.put, List.setIfInBounds_toArray, List.set_cons_zero, List.set_cons_succ]
  refine hd_take 10 (o := ⟨some 61, _, _, _, _, _⟩) (.int .i64 o.e) (by kernel_rfl) (by kernel_rfl) (by kernel_rfl) rfl (by rfl) (fun W hSw => by have s1 := ob_cell hSw.2 (j := 2) rfl; go_simp) (fun _ _ _ h => h) HS3.out ?_
  simp only [Act.put, List.setIfInBounds_toArray, List.set_cons_zero, List.set_cons_succ]
  refine hd_take 11 (o := ⟨some 62, _, _, _, _, _⟩) (.pointer (some ⟨B, 3, none⟩)) (by kernel_rfl) (by kernel_rfl) (by kernel_rfl) rfl (by rfl) (fun W hSw => by go_simp) (fun _ _ _ h => h) HS3.out ?_
  simp only [Act.put, List.setIfInBounds_toArray, List.set_cons_zero, List.set_cons_succ]
  refine hd_take 12 (o := ⟨some 63, _, _, _, _, _⟩) (.int .i64 o.n) (by kernel_rfl) (by kernel_rfl) (by kernel_rfl) rfl (by rfl) (fun W hSw => by have s1 := ob_cell hSw.2 (j := 3) rfl; go_simp) (fun _ _ _ h => h) HS3.out ?_
  simp only [Act.put, List.setIfInBounds_toArray, List.set_cons_zero, List.set_cons_succ]
  refine hd_call 6 (o := ⟨some 57, _, _, _, _, _⟩) (by kernel_rfl) rfl (by rfl) (fun K' hK => ?_)
  go_simp
  go_wp2_with (go_at_call 27; refine ((two_bits T R o.e o.n).run HPr3.out).mono ?_; rintro x w4 ⟨v, ⟨c, rfl⟩, rfl, hm, hn⟩)
  have HS4 : Hid (w4.heap[A]? = some (.cells #[tp T, tp R] 27 (0, 0)) ∧ w4.heap[B]? = some (.cells o.cells.toArray 37 (0, 0))) := hide ⟨(hm.block A (Array.getElem?_eq_some_iff.1 HS3.out.1).1 HAF.out.1).trans HS3.out.1, (hm.block B (Array.getElem?_eq_some_iff.1 HS3.out.2).1 HAF.out.2).trans HS3.out.2⟩
  have HN := hide (hn w4 (Below.refl _ _))
  clear hm hn HPr3
  refine hK _ _ HS4.out ?_
  clear hK K'
  try simp only [Act.put, List.setIfInBounds_toArray, List.set_cons_zero, List.set_cons_succ]
  refine hd_call 13 (o := ⟨some 64, _, _, _, _, _⟩) (by kernel_rfl) rfl (by rfl) (fun K' hK => ?_)
  go_simp
  go_wp2_with (go_at_call 28; refine HN.out.mono ?_; rintro y w5 ⟨rfl, F', hP, hX, -⟩)
  have HP5 := hide hP
  have HX5 := hide (HX3.out.trans hX)
  have HS5 : Hid (w5.heap[A]? = some (.cells #[tp T, tp R] 27 (0, 0)) ∧ w5.heap[B]? = some (.cells o.cells.toArray 37 (0, 0))) := hide ⟨(hX.mod.block A (Nat.lt_of_lt_of_le (Array.getElem?_eq_some_iff.1 HS3.out.1).1 (Nat.le_refl _)) HAF.out.1).trans HS3.out.1, (hX.mod.block B (Nat.lt_of_lt_of_le (Array.getElem?_eq_some_iff.1 HS3.out.2).1 (Nat.le_refl _)) HAF.out.2).trans HS3.out.2⟩
  clear hP hX HN
  refine hK _ _ HS5.out ?_
  clear hK K'
  try simp only [Act.put, List.setIfInBounds_toArray, List.set_cons_zero, List.set_cons_succ]
  refine hd_take 14 (o := ⟨some 65, _, _, _, _, _⟩) (.bool true) (by kernel_rfl) (by kernel_rfl) (by kernel_rfl) rfl (by rfl) (fun W hSw => by go_simp) (fun _ _ _ h => h) HS5.out ?_
  simp only [Act.put, List.setIfInBounds_toArray, List.set_cons_zero, List.set_cons_succ]
  refine hd_take 15 (o := ⟨some 4, _, _, _, _, _⟩) (.bool true) (by kernel_rfl) (by kernel_rfl) (by kernel_rfl) rfl (by rfl) (fun W hSw => by go_simp) (fun _ _ _ h => h) HS5.out ?_
  simp only [Act.put, List.setIfInBounds_toArray, List.set_cons_zero, List.set_cons_succ]
  refine wpAnyH_done (by kernel_rfl) ?_ _
  clear HS3 HS4 HS5 HX3
  go_wp2
  go_ret
  exact ⟨rfl, F', HP5.out, HX5.out⟩
set_option maxRecDepth 8000 in
set_option maxHeartbeats 3200000 in
theorem sets_notify {w : World} {F : Nat → Prop} {T R : Nat} (h : PrA T R w F) (o : Ov) (hk : o.kd = 8) : Calls Tryz.prog 9 #[.agg #[tp T, tp R], .agg o.cells.toArray] w fun x w' => x = .returned (.bool true) ∧ ∃ F', PrA T R w' F' ∧ Ext F w F' w' := by
  have hb1 := (Below.refl w.heap.size w).alloc (Nat.le_refl _) (.cells #[tp T, tp R] 27)
  have hb2 := hb1.alloc hb1.size (.cells o.cells.toArray 37)
  have ha1 := heap_alloc_new w (.cells #[tp T, tp R] 27)
  have ho2 := heap_alloc_new (w.alloc (.cells #[tp T, tp R] 27)) (.cells o.cells.toArray 37)
  have e2 : (w.alloc (.cells #[tp T, tp R] 27)).heap.size = w.heap.size + 1 := by simp
  rw [e2] at ho2
  have ha2 := (Below.heap_alloc _ (.cells o.cells.toArray 37) w.heap.size (by rw [e2]; omega)).trans ha1
  have HPr := hide ((good_pr T R).below h hb2)
  have HX := hide (ext_below (F := F) hb2)
  have HAF : Hid (¬ F w.heap.size ∧ ¬ F (w.heap.size + 1)) := hide ⟨fun e => by have := (good_pr T R).lt h _ e; omega, fun e => by have := (good_pr T R).lt h _ e; omega⟩
  have HA := hide ha2
  have HO := hide ho2
  have HK := hide hk
  clear hb1 hb2 ha1 ho2 ha2 e2 h hk
  go_enter Tryz.func9, Tryz.ntmps9
  go_upto_region 1 with fail
  show Code.wp _ _ _ _ ((w.alloc (.cells #[tp T, tp R] 27)).alloc (.cells o.cells.toArray 37))
  generalize (w.alloc (.cells #[tp T, tp R] 27)).alloc (.cells o.cells.toArray 37) = w2 at *
  generalize hA : w.heap.size = A at *
  generalize hB : A + 1 = B at *
  clear hA hB
  have c0 := ob_cell HO.out (j := 0) rfl
  rw [HK.out] at c0
  go_upto_region 9 with fail
  clear c0
  refine wp_region_held_drew (S := fun W : World => W.heap[A]? = some (.cells #[tp T, tp R] 27 (0, 0)) ∧ W.heap[B]? = some (.cells o.cells.toArray 37 (0, 0))) (by kernel_rfl) ⟨HA.out, HO.out⟩ (fun _ => ?_)
  generalize hw3 : w2.drew = w3
  have hb3 : Below w2.heap.size w2 w3 := by rw [← hw3]; exact below_drew _
  have HS3 : Hid (w3.heap[A]? = some (.cells #[tp T, tp R] 27 (0, 0)) ∧ w3.heap[B]? = some (.cells o.cells.toArray 37 (0, 0))) := hide (by rw [← hw3]; exact ⟨HA.out, HO.out⟩)
  have HPr3 := hide ((good_pr T R).below HPr.out hb3)
  have HX3 := hide (HX.out.trans (ext_below (F := F) hb3))
  clear hw3 hb3 HPr HX HA HO
  refine hd_take 0 (o := ⟨some 68, _, _, _, _, _⟩) (.pointer (some ⟨A, 0, none⟩)) (by kernel_rfl) (by kernel_rfl) (by kernel_rfl) rfl (by rfl) (fun W hSw => by go_simp) (fun _ _ _ h => h) HS3.out ?_
  simp only [Act.put, List.setIfInBounds_toArray, List.set_cons_zero, List.set_cons_succ]
  refine hd_take 1 (o := ⟨some 69, _, _, _, _, _⟩) (.pointer (some ⟨T, 0, none⟩)) (by kernel_rfl) (by kernel_rfl) (by kernel_rfl) rfl (by rfl) (fun W hSw => by have s1 := top_cell hSw.1; go_simp) (fun _ _ _ h => h) HS3.out ?_
  simp only [Act.put, List.setIfInBounds_toArray, List.set_cons_zero, List.set_cons_succ]
  refine hd_take 2 (o := ⟨some 70, _, _, _, _, _⟩) (.pointer (some ⟨B, 2, none⟩)) (by kernel_rfl) (by kernel_rfl) (by kernel_rfl) rfl (by rfl) (fun W hSw => by go_simp) (fun _ _ _ h => h) HS3.out ?_
  simp only [Act.put, List.setIfInBounds_toArray, List.set_cons_zero, List.set_cons_succ]
  refine hd_take 3 (o := ⟨some 71, _, _, _, _, _⟩) (.int .i64 o.e) (by kernel_rfl) (by kernel_rfl) (by kernel_rfl) rfl (by rfl) (fun W hSw => by have s1 := ob_cell hSw.2 (j := 2) rfl; go_simp) (fun _ _ _ h => h) HS3.out ?_
  simp only [Act.put, List.setIfInBounds_toArray, List.set_cons_zero, List.set_cons_succ]
  refine hd_take 4 (o := ⟨some 72, _, _, _, _, _⟩) (.pointer (some ⟨B, 3, none⟩)) (by kernel_rfl) (by kernel_rfl) (by kernel_rfl) rfl (by rfl) (fun W hSw => by go_simp) (fun _ _ _ h => h) HS3.out ?_
  simp only [Act.put, List.setIfInBounds_toArray, List.set_cons_zero, List.set_cons_succ]
  refine hd_take 5 (o := ⟨some 73, _, _, _, _, _⟩) (.int .i64 o.n) (by kernel_rfl) (by kernel_rfl) (by kernel_rfl) rfl (by rfl) (fun W hSw => by have s1 := ob_cell hSw.2 (j := 3) rfl; go_simp) (fun _ _ _ h => h) HS3.out ?_
  simp only [Act.put, List.setIfInBounds_toArray, List.set_cons_zero, List.set_cons_succ]
  refine hd_take 7 (o := ⟨some 75, _, _, _, _, _⟩) (.pointer (some ⟨A, 1, none⟩)) (by kernel_rfl) (by kernel_rfl) (by kernel_rfl) rfl (by rfl) (fun W hSw => by go_simp) (fun _ _ _ h => h) HS3.out ?_
  simp only [Act.put, List.setIfInBounds_toArray, List.set_cons_zero, List.set_cons_succ]
  refine hd_take 8 (o := ⟨some 76, _, _, _, _, _⟩) (.pointer (some ⟨R, 0, none⟩)) (by kernel_rfl) (by kernel_rfl) (by kernel_rfl) rfl (by rfl) (fun W hSw => by have s1 := top_cell1 hSw.1; go_simp) (fun _ _ _ h => h) HS3.out ?_
  simp only [Act.put, List.setIfInBounds_toArray, List.set_cons_zero, List.set_cons_succ]
  refine hd_take 9 (o := ⟨some 77, _, _, _, _, _⟩) (.pointer (some ⟨B, 2, none⟩)) (by kernel_rfl) (by kernel_rfl) (by kernel_rfl) rfl (by rfl) (fun W hSw => by go_simp) (fun _ _ _ h => h) HS3.out ?_
  simp only [Act.put, List.setIfInBounds_toArray, List.set_cons_zero, List.set_cons_succ]
  refine hd_take 10 (o := ⟨some 78, _, _, _, _, _⟩) (.int .i64 o.e) (by kernel_rfl) (by kernel_rfl) (by kernel_rfl) rfl (by rfl) (fun W hSw => by have s1 := ob_cell hSw.2 (j := 2) rfl; go_simp) (fun _ _ _ h => h) HS3.out ?_
  simp only [Act.put, List.setIfInBounds_toArray, List.set_cons_zero, List.set_cons_succ]
  refine hd_take 11 (o := ⟨some 79, _, _, _, _, _⟩) (.pointer (some ⟨B, 3, none⟩)) (by kernel_rfl) (by kernel_rfl) (by kernel_rfl) rfl (by rfl) (fun W hSw => by go_simp) (fun _ _ _ h => h) HS3.out ?_
  simp only [Act.put, List.setIfInBounds_toArray, List.set_cons_zero, List.set_cons_succ]
  refine hd_take 12 (o := ⟨some 80, _, _, _, _, _⟩) (.int .i64 o.n) (by kernel_rfl) (by kernel_rfl) (by kernel_rfl) rfl (by rfl) (fun W hSw => by have s1 := ob_cell hSw.2 (j := 3) rfl; go_simp) (fun _ _ _ h => h) HS3.out ?_
  simp only [Act.put, List.setIfInBounds_toArray, List.set_cons_zero, List.set_cons_succ]
  refine hd_call 6 (o := ⟨some 74, _, _, _, _, _⟩) (by kernel_rfl) rfl (by rfl) (fun K' hK => ?_)
  go_simp
  go_wp2_with (go_at_call 29; refine ((two_notify T R o.e o.n).run HPr3.out).mono ?_; rintro x w4 ⟨v, ⟨c, rfl⟩, rfl, hm, hn⟩)
  have HS4 : Hid (w4.heap[A]? = some (.cells #[tp T, tp R] 27 (0, 0)) ∧ w4.heap[B]? = some (.cells o.cells.toArray 37 (0, 0))) := hide ⟨(hm.block A (Array.getElem?_eq_some_iff.1 HS3.out.1).1 HAF.out.1).trans HS3.out.1, (hm.block B (Array.getElem?_eq_some_iff.1 HS3.out.2).1 HAF.out.2).trans HS3.out.2⟩
  have HN := hide (hn w4 (Below.refl _ _))
  clear hm hn HPr3
  refine hK _ _ HS4.out ?_
  clear hK K'
  try simp only [Act.put, List.setIfInBounds_toArray, List.set_cons_zero, List.set_cons_succ]
  refine hd_call 13 (o := ⟨some 81, _, _, _, _, _⟩) (by kernel_rfl) rfl (by rfl) (fun K' hK => ?_)
  go_simp
  go_wp2_with (go_at_call 30; refine HN.out.mono ?_; rintro y w5 ⟨rfl, F', hP, hX, -⟩)
  have HP5 := hide hP
  have HX5 := hide (HX3.out.trans hX)
  have HS5 : Hid (w5.heap[A]? = some (.cells #[tp T, tp R] 27 (0, 0)) ∧ w5.heap[B]? = some (.cells o.cells.toArray 37 (0, 0))) := hide ⟨(hX.mod.block A (Nat.lt_of_lt_of_le (Array.getElem?_eq_some_iff.1 HS3.out.1).1 (Nat.le_refl _)) HAF.out.1).trans HS3.out.1, (hX.mod.block B (Nat.lt_of_lt_of_le (Array.getElem?_eq_some_iff.1 HS3.out.2).1 (Nat.le_refl _)) HAF.out.2).trans HS3.out.2⟩
  clear hP hX HN
  refine hK _ _ HS5.out ?_
  clear hK K'
  try simp only [Act.put, List.setIfInBounds_toArray, List.set_cons_zero, List.set_cons_succ]
  refine hd_take 14 (o := ⟨some 82, _, _, _, _, _⟩) (.bool true) (by kernel_rfl) (by kernel_rfl) (by kernel_rfl) rfl (by rfl) (fun W hSw => by go_simp) (fun _ _ _ h => h) HS5.out ?_
  simp only [Act.put, List.setIfInBounds_toArray, List.set_cons_zero, List.set_cons_succ]
  refine hd_take 15 (o := ⟨some 4, _, _, _, _, _⟩) (.bool true) (by kernel_rfl) (by kernel_rfl) (by kernel_rfl) rfl (by rfl) (fun W hSw => by go_simp) (fun _ _ _ h => h) HS5.out ?_
  simp only [Act.put, List.setIfInBounds_toArray, List.set_cons_zero, List.set_cons_succ]
  refine wpAnyH_done (by kernel_rfl) ?_ _
  clear HS3 HS4 HS5 HX3
  go_wp2
  go_ret
  exact ⟨rfl, F', HP5.out, HX5.out⟩
set_option maxRecDepth 8000 in
set_option maxHeartbeats 3200000 in
theorem sets_wait {w : World} {F : Nat → Prop} {T R : Nat} (h : PrA T R w F) (o : Ov) (hk : o.kd = 9) : Calls Tryz.prog 9 #[.agg #[tp T, tp R], .agg o.cells.toArray] w fun x w' => x = .returned (.bool true) ∧ ∃ F', PrA T R w' F' ∧ Ext F w F' w' := by
  have hb1 := (Below.refl w.heap.size w).alloc (Nat.le_refl _) (.cells #[tp T, tp R] 27)
  have hb2 := hb1.alloc hb1.size (.cells o.cells.toArray 37)
  have ha1 := heap_alloc_new w (.cells #[tp T, tp R] 27)
  have ho2 := heap_alloc_new (w.alloc (.cells #[tp T, tp R] 27)) (.cells o.cells.toArray 37)
  have e2 : (w.alloc (.cells #[tp T, tp R] 27)).heap.size = w.heap.size + 1 := by simp
  rw [e2] at ho2
  have ha2 := (Below.heap_alloc _ (.cells o.cells.toArray 37) w.heap.size (by rw [e2]; omega)).trans ha1
  have HPr := hide ((good_pr T R).below h hb2)
  have HX := hide (ext_below (F := F) hb2)
  have HAF : Hid (¬ F w.heap.size ∧ ¬ F (w.heap.size + 1)) := hide ⟨fun e => by have := (good_pr T R).lt h _ e; omega, fun e => by have := (good_pr T R).lt h _ e; omega⟩
  have HA := hide ha2
  have HO := hide ho2
  have HK := hide hk
  clear hb1 hb2 ha1 ho2 ha2 e2 h hk
  go_enter Tryz.func9, Tryz.ntmps9
  go_upto_region 1 with fail
  show Code.wp _ _ _ _ ((w.alloc (.cells #[tp T, tp R] 27)).alloc (.cells o.cells.toArray 37))
  generalize (w.alloc (.cells #[tp T, tp R] 27)).alloc (.cells o.cells.toArray 37) = w2 at *
  generalize hA : w.heap.size = A at *
  generalize hB : A + 1 = B at *
  clear hA hB
  have c0 := ob_cell HO.out (j := 0) rfl
  rw [HK.out] at c0
  go_upto_region 11 with fail
  clear c0
  have p0 := top_cell HA.out
  have p1 := top_cell1 HA.out
  have c2 := ob_cell HO.out (j := 2) rfl
  have c3 := ob_cell HO.out (j := 3) rfl
  have c5 := ob_cell HO.out (j := 5) rfl
  have c6 := ob_cell HO.out (j := 6) rfl
  have c7 := ob_cell HO.out (j := 7) rfl
  go_wp2_with fail
  refine ((two_wait T R o.e).run HPr.out).mono ?_
  rintro x w3 ⟨v, ⟨c, d, rfl⟩, rfl, hm, hn⟩
  have HA3 := hide ((hm.block A (Array.getElem?_eq_some_iff.1 HA.out).1 HAF.out.1).trans HA.out)
  have HO3 := hide ((hm.block B (Array.getElem?_eq_some_iff.1 HO.out).1 HAF.out.2).trans HO.out)
  have HN := hide (hn w3 (Below.refl _ _))
  clear hm hn p0 p1 c2 c3 c5 c6 c7
  have p0 := top_cell HA3.out
  have p1 := top_cell1 HA3.out
  have c2 := ob_cell HO3.out (j := 2) rfl
  have c3 := ob_cell HO3.out (j := 3) rfl
  have c5 := ob_cell HO3.out (j := 5) rfl
  have c6 := ob_cell HO3.out (j := 6) rfl
  have c7 := ob_cell HO3.out (j := 7) rfl
  go_wp2_with fail
  refine HN.out.mono ?_
  rintro y w4 ⟨rfl, F', hP, hX, -⟩
  have HP4 := hide hP
  have HX4 := hide (HX.out.trans hX)
  clear hP hX HN HX p0 p1 c2 c3 c5 c6 c7
  go_wp2
  go_ret
  exact ⟨rfl, F', HP4.out, HX4.out⟩
set_option maxRecDepth 8000 in
set_option maxHeartbeats 3200000 in
theorem sets_freeze {w : World} {F : Nat → Prop} {T R : Nat} (h : PrA T R w F) (o : Ov) (hk : o.kd = 10) : Calls Tryz.prog 9 #[.agg #[tp T, tp R], .agg o.cells.toArray] w fun x w' => x = .returned (.bool true) ∧ ∃ F', PrA T R w' F' ∧ Ext F w F' w' := by
  have hb1 := (Below.refl w.heap.size w).alloc (Nat.le_refl _) (.cells #[tp T, tp R] 27)
  have hb2 := hb1.alloc hb1.size (.cells o.cells.toArray 37)
  have ha1 := heap_alloc_new w (.cells #[tp T, tp R] 27)
  have ho2 := heap_alloc_new (w.alloc (.cells #[tp T, tp R] 27)) (.cells o.cells.toArray 37)
  have e2 : (w.alloc (.cells #[tp T, tp R] 27)).heap.size = w.heap.size + 1 := by simp
  rw [e2] at ho2
  have ha2 := (Below.heap_alloc _ (.cells o.cells.toArray 37) w.heap.size (by rw [e2]; omega)).trans ha1
  have HPr := hide ((good_pr T R).below h hb2)
  have HX := hide (ext_below (F := F) hb2)
  have HAF : Hid (¬ F w.heap.size ∧ ¬ F (w.heap.size + 1)) := hide ⟨fun e => by have := (good_pr T R).lt h _ e; omega, fun e => by have := (good_pr T R).lt h _ e; omega⟩
  have HA := hide ha2
  have HO := hide ho2
  have HK := hide hk
  clear hb1 hb2 ha1 ho2 ha2 e2 h hk
  go_enter Tryz.func9, Tryz.ntmps9
  go_upto_region 1 with fail
  show Code.wp _ _ _ _ ((w.alloc (.cells #[tp T, tp R] 27)).alloc (.cells o.cells.toArray 37))
  generalize (w.alloc (.cells #[tp T, tp R] 27)).alloc (.cells o.cells.toArray 37) = w2 at *
  generalize hA : w.heap.size = A at *
  generalize hB : A + 1 = B at *
  clear hA hB
  have c0 := ob_cell HO.out (j := 0) rfl
  rw [HK.out] at c0
  go_upto_region 14 with fail
  clear c0
  refine wp_region_held_drew (S := fun W : World => W.heap[A]? = some (.cells #[tp T, tp R] 27 (0, 0)) ∧ W.heap[B]? = some (.cells o.cells.toArray 37 (0, 0))) (by kernel_rfl) ⟨HA.out, HO.out⟩ (fun _ => ?_)
  generalize hw3 : w2.drew = w3
  have hb3 : Below w2.heap.size w2 w3 := by rw [← hw3]; exact below_drew _
  have HS3 : Hid (w3.heap[A]? = some (.cells #[tp T, tp R] 27 (0, 0)) ∧ w3.heap[B]? = some (.cells o.cells.toArray 37 (0, 0))) := hide (by rw [← hw3]; exact ⟨HA.out, HO.out⟩)
  have HPr3 := hide ((good_pr T R).below HPr.out hb3)
  have HX3 := hide (HX.out.trans (ext_below (F := F) hb3))
  clear hw3 hb3 HPr HX HA HO
  refine hd_take 0 (o := ⟨some 109, _, _, _, _, _⟩) (.pointer (some ⟨A, 0, none⟩)) (by kernel_rfl) (by kernel_rfl) (by kernel_rfl) rfl (by rfl) (fun W hSw => by go_simp) (fun _ _ _ h => h) HS3.out ?_
  simp only [Act.put, List.setIfInBounds_toArray, List.set_cons_zero, List.set_cons_succ]
  refine hd_take 1 (o := ⟨some 110, _, _, _, _, _⟩) (.pointer (some ⟨T, 0, none⟩)) (by kernel_rfl) (by kernel_rfl) (by kernel_rfl) rfl (by rfl) (fun W hSw => by have s1 := top_cell hSw.1; go_simp) (fun _ _ _ h => h) HS3.out ?_
  simp only [Act.put, List.setIfInBounds_toArray, List.set_cons_zero, List.set_cons_succ]
  refine hd_take 2 (o := ⟨some 111, _, _, _, _, _⟩) (.pointer (some ⟨B, 2, none⟩)) (by kernel_rfl) (by kernel_rfl) (by kernel_rfl) rfl (by rfl) (fun W hSw => by go_simp) (fun _ _ _ h => h) HS3.out ?_
  simp only [Act.put, List.setIfInBounds_toArray, List.set_cons_zero, List.set_cons_succ]
  refine hd_take 3 (o := ⟨some 112, _, _, _, _, _⟩) (.int .i64 o.e) (by kernel_rfl) (by kernel_rfl) (by kernel_rfl) rfl (by rfl) (fun W hSw => by have s1 := ob_cell hSw.2 (j := 2) rfl; go_simp) (fun _ _ _ h => h) HS3.out ?_
  simp only [Act.put, List.setIfInBounds_toArray, List.set_cons_zero, List.set_cons_succ]
  refine hd_take 4 (o := ⟨some 113, _, _, _, _, _⟩) (.pointer (some ⟨B, 17, none⟩)) (by kernel_rfl) (by kernel_rfl) (by kernel_rfl) rfl (by rfl) (fun W hSw => by go_simp) (fun _ _ _ h => h) HS3.out ?_
  simp only [Act.put, List.setIfInBounds_toArray, List.set_cons_zero, List.set_cons_succ]
  refine hd_take 5 (o := ⟨some 114, _, _, _, _, _⟩) (.bool o.on) (by kernel_rfl) (by kernel_rfl) (by kernel_rfl) rfl (by rfl) (fun W hSw => by have s1 := ob_cell hSw.2 (j := 17) rfl; go_simp) (fun _ _ _ h => h) HS3.out ?_
  simp only [Act.put, List.setIfInBounds_toArray, List.set_cons_zero, List.set_cons_succ]
  refine hd_take 7 (o := ⟨some 116, _, _, _, _, _⟩) (.pointer (some ⟨A, 1, none⟩)) (by kernel_rfl) (by kernel_rfl) (by kernel_rfl) rfl (by rfl) (fun W hSw => by go_simp) (fun _ _ _ h => h) HS3.out ?_
  simp only [Act.put, List.setIfInBounds_toArray, List.set_cons_zero, List.set_cons_succ]
  refine hd_take 8 (o := ⟨some 117, _, _, _, _, _⟩) (.pointer (some ⟨R, 0, none⟩)) (by kernel_rfl) (by kernel_rfl) (by kernel_rfl) rfl (by rfl) (fun W hSw => by have s1 := top_cell1 hSw.1; go_simp) (fun _ _ _ h => h) HS3.out ?_
  simp only [Act.put, List.setIfInBounds_toArray, List.set_cons_zero, List.set_cons_succ]
  refine hd_take 9 (o := ⟨some 118, _, _, _, _, _⟩) (.pointer (some ⟨B, 2, none⟩)) (by kernel_rfl) (by kernel_rfl) (by kernel_rfl) rfl (by rfl) (fun W hSw => by go_simp) (fun _ _ _ h => h) HS3.out ?_
  simp only [Act.put, List.setIfInBounds_toArray, List.set_cons_zero, List.set_cons_succ]
  refine hd_take 10 (o := ⟨some 119, _, _, _, _, _⟩) (.int .i64 o.e) (by kernel_rfl) (by kernel_rfl) (by kernel_rfl) rfl (by rfl) (fun W hSw => by have s1 := ob_cell hSw.2 (j := 2) rfl; go_simp) (fun _ _ _ h => h) HS3.out ?_
  simp only [Act.put, List.setIfInBounds_toArray, List.set_cons_zero, List.set_cons_succ]
  refine hd_take 11 (o := ⟨some 120, _, _, _, _, _⟩) (.pointer (some ⟨B, 17, none⟩)) (by kernel_rfl) (by kernel_rfl) (by kernel_rfl) rfl (by rfl) (fun W hSw => by go_simp) (fun _ _ _ h => h) HS3.out ?_
  simp only [Act.put, List.setIfInBounds_toArray, List.set_cons_zero, List.set_cons_succ]
  refine hd_take 12 (o := ⟨some 121, _, _, _, _, _⟩) (.bool o.on) (by kernel_rfl) (by kernel_rfl) (by kernel_rfl) rfl (by rfl) (fun W hSw => by have s1 := ob_cell hSw.2 (j := 17) rfl; go_simp) (fun _ _ _ h => h) HS3.out ?_
  simp only [Act.put, List.setIfInBounds_toArray, List.set_cons_zero, List.set_cons_succ]
  refine hd_call 6 (o := ⟨some 115, _, _, _, _, _⟩) (by kernel_rfl) rfl (by rfl) (fun K' hK => ?_)
  go_simp
  go_wp2_with (go_at_call 33; refine ((two_freeze T R o.e o.on).run HPr3.out).mono ?_; rintro x w4 ⟨v, ⟨c, rfl⟩, rfl, hm, hn⟩)
  have HS4 : Hid (w4.heap[A]? = some (.cells #[tp T, tp R] 27 (0, 0)) ∧ w4.heap[B]? = some (.cells o.cells.toArray 37 (0, 0))) := hide ⟨(hm.block A (Array.getElem?_eq_some_iff.1 HS3.out.1).1 HAF.out.1).trans HS3.out.1, (hm.block B (Array.getElem?_eq_some_iff.1 HS3.out.2).1 HAF.out.2).trans HS3.out.2⟩
  have HN := hide (hn w4 (Below.refl _ _))
  clear hm hn HPr3
  refine hK _ _ HS4.out ?_
  clear hK K'
  try simp only [Act.put, List.setIfInBounds_toArray, List.set_cons_zero, List.set_cons_succ]
  refine hd_call 13 (o := ⟨some 122, _, _, _, _, _⟩) (by kernel_rfl) rfl (by rfl) (fun K' hK => ?_)
  go_simp
  go_wp2_with (go_at_call 34; refine HN.out.mono ?_; rintro y w5 ⟨rfl, F', hP, hX, -⟩)
  have HP5 := hide hP
  have HX5 := hide (HX3.out.trans hX)
  have HS5 : Hid (w5.heap[A]? = some (.cells #[tp T, tp R] 27 (0, 0)) ∧ w5.heap[B]? = some (.cells o.cells.toArray 37 (0, 0))) := hide ⟨(hX.mod.block A (Nat.lt_of_lt_of_le (Array.getElem?_eq_some_iff.1 HS3.out.1).1 (Nat.le_refl _)) HAF.out.1).trans HS3.out.1, (hX.mod.block B (Nat.lt_of_lt_of_le (Array.getElem?_eq_some_iff.1 HS3.out.2).1 (Nat.le_refl _)) HAF.out.2).trans HS3.out.2⟩
  clear hP hX HN
  refine hK _ _ HS5.out ?_
  clear hK K'
  try simp only [Act.put, List.setIfInBounds_toArray, List.set_cons_zero, List.set_cons_succ]
  refine hd_take 14 (o := ⟨some 123, _, _, _, _, _⟩) (.bool true) (by kernel_rfl) (by kernel_rfl) (by kernel_rfl) rfl (by rfl) (fun W hSw => by go_simp) (fun _ _ _ h => h) HS5.out ?_
  simp only [Act.put, List.setIfInBounds_toArray, List.set_cons_zero, List.set_cons_succ]
  refine hd_take 15 (o := ⟨some 4, _, _, _, _, _⟩) (.bool true) (by kernel_rfl) (by kernel_rfl) (by kernel_rfl) rfl (by rfl) (fun W hSw => by go_simp) (fun _ _ _ h => h) HS5.out ?_
  simp only [Act.put, List.setIfInBounds_toArray, List.set_cons_zero, List.set_cons_succ]
  refine wpAnyH_done (by kernel_rfl) ?_ _
  clear HS3 HS4 HS5 HX3
  go_wp2
  go_ret
  exact ⟨rfl, F', HP5.out, HX5.out⟩
end Go.Proofs.YtbocpmcodlceoaaGreat
