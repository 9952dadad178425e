import Derived.Test.YtbocpmcodlceoaaGreatMT
namespace Go.Proofs.YtbocpmcodlceoaaGreat
open Go.ChangeShapes Go.WideShapes Go.ChangeAt Go.RowKit Go.Deep Go.Shelf

set_option maxRecDepth 8000 in
set_option maxHeartbeats 3200000 in
theorem looks_info {w : World} {F : Nat → Prop} {T R : Nat} (h : PrA T R w F) (o : Ov) (hk : o.kd = 4) : Calls Tryz.prog 10 #[.agg #[tp T, tp R], .agg o.cells.toArray] w fun x w' => x = .returned (.bool true) ∧ ∃ F', PrA T R w' F' ∧ Ext F w F' w' := by
  have hb1 := (Below.refl w.heap.size w).alloc (Nat.le_refl _) (.cells #[tp T, tp R] 27)
  have hb2 := hb1.alloc hb1.size (.cells o.cells.toArray 37)
  have ha1 := heap_alloc_new w (.cells #[tp T, tp R] 27)
  have ho2 := heap_alloc_new (w.alloc (.cells #[tp T, tp R] 27)) (.cells o.cells.toArray 37)
  have e2 : (w.alloc (.cells #[tp T, tp R] 27)).heap.size = w.heap.size + 1 := by simp
  rw [e2] at ho2
  have ha2 := (Below.heap_alloc _ (.cells o.cells.toArray 37) w.heap.size (by rw [e2]; omega)).trans ha1
  have HPr := hide ((good_pr T R).below h hb2)
  have HX := hide (ext_below (F := F) hb2)
  have HAF : Hid (¬ F w.heap.size ∧ ¬ F (w.heap.size + 1)) := hide ⟨fun e => by have := (good_pr T R).lt h _ e; omega, fun e => by have := (good_pr T R).lt h _ e; omega⟩
  have HA := hide ha2
  have HO := hide ho2
  have HK := hide hk
  clear hb1 hb2 ha1 ho2 ha2 e2 h hk
  go_enter Tryz.func10, Tryz.ntmps10
  go_upto_region 1 with fail
  show Code.wp _ _ _ _ ((w.alloc (.cells #[tp T, tp R] 27)).alloc (.cells o.cells.toArray 37))
  generalize (w.alloc (.cells #[tp T, tp R] 27)).alloc (.cells o.cells.toArray 37) = w2 at *
  generalize hA : w.heap.size = A at *
  generalize hB : A + 1 = B at *
  clear hA hB
  have c0 := ob_cell HO.out (j := 0) rfl
  rw [HK.out] at c0
  go_upto_region 3 with fail
  clear c0
  have p0 := top_cell HA.out
  have p1 := top_cell1 HA.out
  have c2 := ob_cell HO.out (j := 2) rfl
  have c3 := ob_cell HO.out (j := 3) rfl
  have c5 := ob_cell HO.out (j := 5) rfl
  have c6 := ob_cell HO.out (j := 6) rfl
  have c7 := ob_cell HO.out (j := 7) rfl
  go_wp2_with fail
  refine ((two_info T R o.e).run HPr.out).mono ?_
  rintro x w3 ⟨v, ⟨er, c, rfl⟩, rfl, hm, hn⟩
  have hbF := freshE_below w3 er
  have HA4 := hide ((hbF.block A (Nat.lt_of_lt_of_le (Array.getElem?_eq_some_iff.1 HA.out).1 hm.size)).trans ((hm.block A (Array.getElem?_eq_some_iff.1 HA.out).1 HAF.out.1).trans HA.out))
  have HO4 := hide ((hbF.block B (Nat.lt_of_lt_of_le (Array.getElem?_eq_some_iff.1 HO.out).1 hm.size)).trans ((hm.block B (Array.getElem?_eq_some_iff.1 HO.out).1 HAF.out.2).trans HO.out))
  have HN := hide (hn (freshE w3 er) hbF)
  have HE := hide (freshE_eb w3 er)
  have HFn : Hid (¬ F w3.heap.size) := hide (fun e => by have := (good_pr T R).lt HPr.out _ e; have := hm.size; omega)
  have hz : Eb (w3.alloc (.cells Er.nil.head.toArray 46)) w3.heap.size Er.nil := Eb.new _ _
  have HZ := hide hz
  clear hm hn p0 p1 c2 c3 c5 c6 c7 hbF hz
  go_upto_region 4 with (refine storeE er ?nw _ _ rfl w3.heap.size Er.nil ?nx ?ny ?nz ?_)
  try (case nw => rfl)
  try (case nx => rfl)
  try (case ny => rfl)
  try (case nz => exact HZ.out)
  show Code.wp _ _ _ _ (freshE w3 er)
  generalize freshE w3 er = w4 at *
  clear HZ
  generalize w3.heap.size = M at *
  have p0 := top_cell HA4.out
  have p1 := top_cell1 HA4.out
  have c2 := ob_cell HO4.out (j := 2) rfl
  have c3 := ob_cell HO4.out (j := 3) rfl
  have c5 := ob_cell HO4.out (j := 5) rfl
  have c6 := ob_cell HO4.out (j := 6) rfl
  have c7 := ob_cell HO4.out (j := 7) rfl
  go_wp2_with fail
  refine HN.out.mono ?_
  rintro y w5 ⟨rfl, F', hP, hX, hM⟩
  have HE5 := hide (HE.out.keep (hM.block M HE.out.lt HFn.out))
  have hbG := freshE_below w5 er
  have HE6 := hide (HE5.out.keep (hbG.block M HE5.out.lt))
  have HG6 := hide (freshE_eb w5 er)
  have HP6 := hide ((good_pr T R).below hP hbG)
  have HX6 := hide ((HX.out.trans hX).trans (ext_below (F := F') hbG))
  have hz : Eb (w5.alloc (.cells Er.nil.head.toArray 46)) w5.heap.size Er.nil := Eb.new _ _
  have HZ := hide hz
  clear hP hX hM HN HX p0 p1 c2 c3 c5 c6 c7 hbG hz HE HE5 HA4 HO4
  go_upto_region 5 with (refine storeE er ?uw _ _ rfl w5.heap.size Er.nil ?ux ?uy ?uz ?_)
  try (case uw => rfl)
  try (case ux => rfl)
  try (case uy => rfl)
  try (case uz => exact HZ.out)
  show Code.wp _ _ _ _ (freshE w5 er)
  generalize freshE w5 er = w6 at *
  clear HZ
  generalize w5.heap.size = M2 at *
  go_wp2_with (first | refine loadE er ?lw _ rfl ⟨M, 0, none⟩ ?lx ?lc ?_ | refine loadE er ?mw _ rfl ⟨M2, 0, none⟩ ?mx ?mc ?_ | refine eqlT er.head.toArray (se_env 9996 er) (by kernel_rfl) ?ew _ _ rfl ?ex ?ey ?_)
  try (case lw => rfl)
  try (case lx => rfl)
  try (case lc => exact HE6.out.hcell)
  try (case mw => rfl)
  try (case mx => rfl)
  try (case mc => exact HG6.out.hcell)
  try (case ew => rfl)
  try (case ex => rfl)
  try (case ey => rfl)
  go_ret
  exact ⟨rfl, F', HP6.out, HX6.out⟩
set_option maxRecDepth 8000 in
set_option maxHeartbeats 3200000 in
theorem looks_children {w : World} {F : Nat → Prop} {T R : Nat} (h : PrA T R w F) (o : Ov) (hk : o.kd = 13) : Calls Tryz.prog 10 #[.agg #[tp T, tp R], .agg o.cells.toArray] w fun x w' => x = .returned (.bool true) ∧ ∃ F', PrA T R w' F' ∧ Ext F w F' w' := by
  have hb1 := (Below.refl w.heap.size w).alloc (Nat.le_refl _) (.cells #[tp T, tp R] 27)
  have hb2 := hb1.alloc hb1.size (.cells o.cells.toArray 37)
  have ha1 := heap_alloc_new w (.cells #[tp T, tp R] 27)
  have ho2 := heap_alloc_new (w.alloc (.cells #[tp T, tp R] 27)) (.cells o.cells.toArray 37)
  have e2 : (w.alloc (.cells #[tp T, tp R] 27)).heap.size = w.heap.size + 1 := by simp
  rw [e2] at ho2
  have ha2 := (Below.heap_alloc _ (.cells o.cells.toArray 37) w.heap.size (by rw [e2]; omega)).trans ha1
  have HPr := hide ((good_pr T R).below h hb2)
  have HX := hide (ext_below (F := F) hb2)
  have HAF : Hid (¬ F w.heap.size ∧ ¬ F (w.heap.size + 1)) := hide ⟨fun e => by have := (good_pr T R).lt h _ e; omega, fun e => by have := (good_pr T R).lt h _ e; omega⟩
  have HA := hide ha2
  have HO := hide ho2
  have HK := hide hk
  clear hb1 hb2 ha1 ho2 ha2 e2 h hk
  go_enter Tryz.func10, Tryz.ntmps10
  go_upto_region 1 with fail
  show Code.wp _ _ _ _ ((w.alloc (.cells #[tp T, tp R] 27)).alloc (.cells o.cells.toArray 37))
  generalize (w.alloc (.cells #[tp T, tp R] 27)).alloc (.cells o.cells.toArray 37) = w2 at *
  generalize hA : w.heap.size = A at *
  generalize hB : A + 1 = B at *
  clear hA hB
  have c0 := ob_cell HO.out (j := 0) rfl
  rw [HK.out] at c0
  go_upto_region 7 with fail
  clear c0
  have p0 := top_cell HA.out
  have p1 := top_cell1 HA.out
  have c2 := ob_cell HO.out (j := 2) rfl
  have c3 := ob_cell HO.out (j := 3) rfl
  have c5 := ob_cell HO.out (j := 5) rfl
  have c6 := ob_cell HO.out (j := 6) rfl
  have c7 := ob_cell HO.out (j := 7) rfl
  go_wp2_with fail
  refine ((two_children T R o.e).run HPr.out).mono ?_
  rintro x w3 ⟨u, c, l, rfl, hl, ho, hm, hn⟩
  unfold mkT
  have HA3 := hide ((hm.block A (Array.getElem?_eq_some_iff.1 HA.out).1 HAF.out.1).trans HA.out)
  have HO3 := hide ((hm.block B (Array.getElem?_eq_some_iff.1 HO.out).1 HAF.out.2).trans HO.out)
  have HN := hide (hn w3 (Below.refl _ _))
  have HLl := hide hl
  clear hm hn p0 p1 c2 c3 c5 c6 c7 hl ho
  have p0 := top_cell HA3.out
  have p1 := top_cell1 HA3.out
  have c2 := ob_cell HO3.out (j := 2) rfl
  have c3 := ob_cell HO3.out (j := 3) rfl
  have c5 := ob_cell HO3.out (j := 5) rfl
  have c6 := ob_cell HO3.out (j := 6) rfl
  have c7 := ob_cell HO3.out (j := 7) rfl
  go_wp2_with fail
  refine HN.out.mono ?_
  rintro y w4 ⟨u2, rfl, ho, ho2, F', hP, hX, -⟩
  unfold mkT
  have HSm := hide (same_n ho ho2 HLl.out)
  have HP4 := hide hP
  have HX4 := hide (HX.out.trans hX)
  clear hP hX HN HX p0 p1 c2 c3 c5 c6 c7 ho ho2
  go_wp2_with fail
  refine HSm.out.mono ?_
  rintro y w5 ⟨rfl, hb5⟩
  have HP5 := hide ((good_pr T R).below HP4.out hb5)
  have HX5 := hide (HX4.out.trans (ext_below (F := F') hb5))
  clear hb5 HP4 HX4 HSm
  go_wp2
  go_ret
  exact ⟨rfl, F', HP5.out, HX5.out⟩
set_option maxRecDepth 8000 in
set_option maxHeartbeats 3200000 in
theorem looks_tree {w : World} {F : Nat → Prop} {T R : Nat} (h : PrA T R w F) (o : Ov) (hk : o.kd = 14) : Calls Tryz.prog 10 #[.agg #[tp T, tp R], .agg o.cells.toArray] w fun x w' => x = .returned (.bool true) ∧ ∃ F', PrA T R w' F' ∧ Ext F w F' w' := by
  have hb1 := (Below.refl w.heap.size w).alloc (Nat.le_refl _) (.cells #[tp T, tp R] 27)
  have hb2 := hb1.alloc hb1.size (.cells o.cells.toArray 37)
  have ha1 := heap_alloc_new w (.cells #[tp T, tp R] 27)
  have ho2 := heap_alloc_new (w.alloc (.cells #[tp T, tp R] 27)) (.cells o.cells.toArray 37)
  have e2 : (w.alloc (.cells #[tp T, tp R] 27)).heap.size = w.heap.size + 1 := by simp
  rw [e2] at ho2
  have ha2 := (Below.heap_alloc _ (.cells o.cells.toArray 37) w.heap.size (by rw [e2]; omega)).trans ha1
  have HPr := hide ((good_pr T R).below h hb2)
  have HX := hide (ext_below (F := F) hb2)
  have HAF : Hid (¬ F w.heap.size ∧ ¬ F (w.heap.size + 1)) := hide ⟨fun e => by have := (good_pr T R).lt h _ e; omega, fun e => by have := (good_pr T R).lt h _ e; omega⟩
  have HA := hide ha2
  have HO := hide ho2
  have HK := hide hk
  clear hb1 hb2 ha1 ho2 ha2 e2 h hk
  go_enter Tryz.func10, Tryz.ntmps10
  go_upto_region 1 with fail
  show Code.wp _ _ _ _ ((w.alloc (.cells #[tp T, tp R] 27)).alloc (.cells o.cells.toArray 37))
  generalize (w.alloc (.cells #[tp T, tp R] 27)).alloc (.cells o.cells.toArray 37) = w2 at *
  generalize hA : w.heap.size = A at *
  generalize hB : A + 1 = B at *
  clear hA hB
  have c0 := ob_cell HO.out (j := 0) rfl
  rw [HK.out] at c0
  go_upto_region 11 with fail
  clear c0
  have p0 := top_cell HA.out
  have p1 := top_cell1 HA.out
  have c2 := ob_cell HO.out (j := 2) rfl
  have c3 := ob_cell HO.out (j := 3) rfl
  have c5 := ob_cell HO.out (j := 5) rfl
  have c6 := ob_cell HO.out (j := 6) rfl
  have c7 := ob_cell HO.out (j := 7) rfl
  go_wp2_with fail
  refine ((two_tree T R o.e).run HPr.out).mono ?_
  rintro x w3 ⟨u, c, l, rfl, hl, ho, hm, hn⟩
  unfold mkT
  have HA3 := hide ((hm.block A (Array.getElem?_eq_some_iff.1 HA.out).1 HAF.out.1).trans HA.out)
  have HO3 := hide ((hm.block B (Array.getElem?_eq_some_iff.1 HO.out).1 HAF.out.2).trans HO.out)
  have HN := hide (hn w3 (Below.refl _ _))
  have HLl := hide hl
  clear hm hn p0 p1 c2 c3 c5 c6 c7 hl ho
  have p0 := top_cell HA3.out
  have p1 := top_cell1 HA3.out
  have c2 := ob_cell HO3.out (j := 2) rfl
  have c3 := ob_cell HO3.out (j := 3) rfl
  have c5 := ob_cell HO3.out (j := 5) rfl
  have c6 := ob_cell HO3.out (j := 6) rfl
  have c7 := ob_cell HO3.out (j := 7) rfl
  go_wp2_with fail
  refine HN.out.mono ?_
  rintro y w4 ⟨u2, rfl, ho, ho2, F', hP, hX, -⟩
  unfold mkT
  have HSm := hide (same_n ho ho2 HLl.out)
  have HP4 := hide hP
  have HX4 := hide (HX.out.trans hX)
  clear hP hX HN HX p0 p1 c2 c3 c5 c6 c7 ho ho2
  go_wp2_with fail
  refine HSm.out.mono ?_
  rintro y w5 ⟨rfl, hb5⟩
  have HP5 := hide ((good_pr T R).below HP4.out hb5)
  have HX5 := hide (HX4.out.trans (ext_below (F := F') hb5))
  clear hb5 HP4 HX4 HSm
  go_wp2
  go_ret
  exact ⟨rfl, F', HP5.out, HX5.out⟩
set_option maxRecDepth 8000 in
set_option maxHeartbeats 3200000 in
theorem looks_inside {w : World} {F : Nat → Prop} {T R : Nat} (h : PrA T R w F) (o : Ov) (hk : o.kd = 15) : Calls Tryz.prog 10 #[.agg #[tp T, tp R], .agg o.cells.toArray] w fun x w' => x = .returned (.bool true) ∧ ∃ F', PrA T R w' F' ∧ Ext F w F' w' := by
  have hb1 := (Below.refl w.heap.size w).alloc (Nat.le_refl _) (.cells #[tp T, tp R] 27)
  have hb2 := hb1.alloc hb1.size (.cells o.cells.toArray 37)
  have ha1 := heap_alloc_new w (.cells #[tp T, tp R] 27)
  have ho2 := heap_alloc_new (w.alloc (.cells #[tp T, tp R] 27)) (.cells o.cells.toArray 37)
  have e2 : (w.alloc (.cells #[tp T, tp R] 27)).heap.size = w.heap.size + 1 := by simp
  rw [e2] at ho2
  have ha2 := (Below.heap_alloc _ (.cells o.cells.toArray 37) w.heap.size (by rw [e2]; omega)).trans ha1
  have HPr := hide ((good_pr T R).below h hb2)
  have HX := hide (ext_below (F := F) hb2)
  have HAF : Hid (¬ F w.heap.size ∧ ¬ F (w.heap.size + 1)) := hide ⟨fun e => by have := (good_pr T R).lt h _ e; omega, fun e => by have := (good_pr T R).lt h _ e; omega⟩
  have HA := hide ha2
  have HO := hide ho2
  have HK := hide hk
  clear hb1 hb2 ha1 ho2 ha2 e2 h hk
  go_enter Tryz.func10, Tryz.ntmps10
  go_upto_region 1 with fail
  show Code.wp _ _ _ _ ((w.alloc (.cells #[tp T, tp R] 27)).alloc (.cells o.cells.toArray 37))
  generalize (w.alloc (.cells #[tp T, tp R] 27)).alloc (.cells o.cells.toArray 37) = w2 at *
  generalize hA : w.heap.size = A at *
  generalize hB : A + 1 = B at *
  clear hA hB
  have c0 := ob_cell HO.out (j := 0) rfl
  rw [HK.out] at c0
  go_upto_region 15 with fail
  clear c0
  refine wp_region_held_drew (S := fun W : World => W.heap[A]? = some (.cells #[tp T, tp R] 27 (0, 0)) ∧ W.heap[B]? = some (.cells o.cells.toArray 37 (0, 0))) (by kernel_rfl) ⟨HA.out, HO.out⟩ (fun _ => ?_)
  generalize hw3 : w2.drew = w3
  have hb3 : Below w2.heap.size w2 w3 := by rw [← hw3]; exact below_drew _
  have HS3 : Hid (w3.heap[A]? = some (.cells #[tp T, tp R] 27 (0, 0)) ∧ w3.heap[B]? = some (.cells o.cells.toArray 37 (0, 0))) := hide (by rw [← hw3]; exact ⟨HA.out, HO.out⟩)
  have HPr3 := hide ((good_pr T R).below HPr.out hb3)
  have HX3 := hide (HX.out.trans (ext_below (F := F) hb3))
  clear hw3 hb3 HPr HX HA HO
  refine hd_take 0 (o := ⟨some 99, _, _, _, _, _⟩) (.pointer (some ⟨A, 0, none⟩)) (by kernel_rfl) (by kernel_rfl) (by kernel_rfl) rfl (by rfl) (fun W hSw => by go_simp) (fun _ _ _ h => h) HS3.out ?_
  simp only [Act.put, List.setIfInBounds_toArray, List.set_cons_zero, List.set_cons_succ]
  refine hd_take 1 (o := ⟨some 100, _, _, _, _, _⟩) (.pointer (some ⟨T, 0, none⟩)) (by kernel_rfl) (by kernel_rfl) (by kernel_rfl) rfl (by rfl) (fun W hSw => by have s1 := top_cell hSw.1; go_simp) (fun _ _ _ h => h) HS3.out ?_
  simp only [Act.put, List.setIfInBounds_toArray, List.set_cons_zero, List.set_cons_succ]
  refine hd_take 2 (o := ⟨some 101, _, _, _, _, _⟩) (.pointer (some ⟨B, 3, none⟩)) (by kernel_rfl) (by kernel_rfl) (by kernel_rfl) rfl (by rfl) (fun W hSw => by go_simp) (fun _ _ _ h => h) HS3.out ?_
  simp only [Act.put, List.setIfInBounds_toArray, List.set_cons_zero, List.set_cons_succ]
  refine hd_take 3 (o := ⟨some 102, _, _, _, _, _⟩) (.int .i64 o.n) (by kernel_rfl) (by kernel_rfl) (by kernel_rfl) rfl (by rfl) (fun W hSw => by have s1 := ob_cell hSw.2 (j := 3) rfl; go_simp) (fun _ _ _ h => h) HS3.out ?_
  simp only [Act.put, List.setIfInBounds_toArray, List.set_cons_zero, List.set_cons_succ]
  refine hd_take 4 (o := ⟨some 103, _, _, _, _, _⟩) (.pointer (some ⟨B, 2, none⟩)) (by kernel_rfl) (by kernel_rfl) (by kernel_rfl) rfl (by rfl) (fun W hSw => by go_simp) (fun _ _ _ h => h) HS3.out ?_
  simp only [Act.put, List.setIfInBounds_toArray, List.set_cons_zero, List.set_cons_succ]
  refine hd_take 5 (o := ⟨some 104, _, _, _, _, _⟩) (.int .i64 o.e) (by kernel_rfl) (by kernel_rfl) (by kernel_rfl) rfl (by rfl) (fun W hSw => by have s1 := ob_cell hSw.2 (j := 2) rfl; go_simp) (fun _ _ _ h => h) HS3.out ?_
  simp only [Act.put, List.setIfInBounds_toArray, List.set_cons_zero, List.set_cons_succ]
  refine hd_take 7 (o := ⟨some 106, _, _, _, _, _⟩) (.pointer (some ⟨A, 1, none⟩)) (by kernel_rfl) (by kernel_rfl) (by kernel_rfl) rfl (by rfl) (fun W hSw => by go_simp) (fun _ _ _ h => h) HS3.out ?_
  simp only [Act.put, List.setIfInBounds_toArray, List.set_cons_zero, List.set_cons_succ]
  refine hd_take 8 (o := ⟨some 107, _, _, _, _, _⟩) (.pointer (some ⟨R, 0, none⟩)) (by kernel_rfl) (by kernel_rfl) (by kernel_rfl) rfl (by rfl) (fun W hSw => by have s1 := top_cell1 hSw.1; go_simp) (fun _ _ _ h => h) HS3.out ?_
  simp only [Act.put, List.setIfInBounds_toArray, List.set_cons_zero, List.set_cons_succ]
  refine hd_take 9 (o := ⟨some 108, _, _, _, _, _⟩) (.pointer (some ⟨B, 3, none⟩)) (by kernel_rfl) (by kernel_rfl) (by kernel_rfl) rfl (by rfl) (fun W hSw => by go_simp) (fun _ _ _ h => h) HS3.out ?_
  simp only [Act.put, List.setIfInBounds_toArray, List.set_cons_zero, List.set_cons_succ]
  refine hd_take 10 (o := ⟨some 109, _, _, _, _, _⟩) (.int .i64 o.n) (by kernel_rfl) (by kernel_rfl) (by kernel_rfl) rfl (by rfl) (fun W hSw => by have s1 := ob_cell hSw.2 (j := 3) rfl; go_simp) (fun _ _ _ h => h) HS3.out ?_
  simp only [Act.put, List.setIfInBounds_toArray, List.set_cons_zero, List.set_cons_succ]
  refine hd_take 11 (o := ⟨some 110, _, _, _, _, _⟩) (.pointer (some ⟨B, 2, none⟩)) (by kernel_rfl) (by kernel_rfl) (by kernel_rfl) rfl (by rfl) (fun W hSw => by go_simp) (fun _ _ _ h => h) HS3.out ?_
  simp only [Act.put, List.setIfInBounds_toArray, List.set_cons_zero, List.set_cons_succ]
  refine hd_take 12 (o := ⟨some 111, _, _, _, _, _⟩) (.int .i64 o.e) (by kernel_rfl) (by kernel_rfl) (by kernel_rfl) rfl (by rfl) (fun W hSw => by have s1 := ob_cell hSw.2 (j := 2) rfl; go_simp) (fun _ _ _ h => h) HS3.out ?_
  simp only [Act.put, List.setIfInBounds_toArray, List.set_cons_zero, List.set_cons_succ]
  refine hd_call 6 (o := ⟨some 105, _, _, _, _, _⟩) (by kernel_rfl) rfl (by rfl) (fun K' hK => ?_)
  go_simp
  go_wp2_with (go_at_call 40; refine ((two_inside T R o.n o.e).run HPr3.out).mono ?_; rintro x w4 ⟨v, ⟨c, rfl⟩, rfl, hm, hn⟩)
  have HS4 : Hid (w4.heap[A]? = some (.cells #[tp T, tp R] 27 (0, 0)) ∧ w4.heap[B]? = some (.cells o.cells.toArray 37 (0, 0))) := hide ⟨(hm.block A (Array.getElem?_eq_some_iff.1 HS3.out.1).1 HAF.out.1).trans HS3.out.1, (hm.block B (Array.getElem?_eq_some_iff.1 HS3.out.2).1 HAF.out.2).trans HS3.out.2⟩
  have HN := hide (hn w4 (Below.refl _ _))
  clear hm hn HPr3
  refine hK _ _ HS4.out ?_
  clear hK K'
  try simp only [Act.put, List.setIfInBounds_toArray, List.set_cons_zero, List.set_cons_succ]
  refine hd_call 13 (o := ⟨some 112, _, _, _, _, _⟩) (by kernel_rfl) rfl (by rfl) (fun K' hK => ?_)
  go_simp
  go_wp2_with (go_at_call 41; refine HN.out.mono ?_; rintro y w5 ⟨rfl, F', hP, hX, -⟩)
  have HP5 := hide hP
  have HX5 := hide (HX3.out.trans hX)
  have HS5 : Hid (w5.heap[A]? = some (.cells #[tp T, tp R] 27 (0, 0)) ∧ w5.heap[B]? = some (.cells o.cells.toArray 37 (0, 0))) := hide ⟨(hX.mod.block A (Nat.lt_of_lt_of_le (Array.getElem?_eq_some_iff.1 HS3.out.1).1 (Nat.le_refl _)) HAF.out.1).trans HS3.out.1, (hX.mod.block B (Nat.lt_of_lt_of_le (Array.getElem?_eq_some_iff.1 HS3.out.2).1 (Nat.le_refl _)) HAF.out.2).trans HS3.out.2⟩
  clear hP hX HN
  refine hK _ _ HS5.out ?_
  clear hK K'
  try simp only [Act.put, List.setIfInBounds_toArray, List.set_cons_zero, List.set_cons_succ]
  refine hd_take 14 (o := ⟨some 113, _, _, _, _, _⟩) (.bool true) (by kernel_rfl) (by kernel_rfl) (by kernel_rfl) rfl (by rfl) (fun W hSw => by go_simp) (fun _ _ _ h => h) HS5.out ?_
  simp only [Act.put, List.setIfInBounds_toArray, List.set_cons_zero, List.set_cons_succ]
  refine hd_take 15 (o := ⟨some 4, _, _, _, _, _⟩) (.bool true) (by kernel_rfl) (by kernel_rfl) (by kernel_rfl) rfl (by rfl) (fun W hSw => by go_simp) (fun _ _ _ h => h) HS5.out ?_
  simp only [Act.put, List.setIfInBounds_toArray, List.set_cons_zero, List.set_cons_succ]
  refine wpAnyH_done (by kernel_rfl) ?_ _
  clear HS3 HS4 HS5 HX3
  go_wp2
  go_ret
  exact ⟨rfl, F', HP5.out, HX5.out⟩
set_option maxRecDepth 8000 in
set_option maxHeartbeats 3200000 in
theorem looks_runs {w : World} {F : Nat → Prop} {T R : Nat} (h : PrA T R w F) (o : Ov) (hk : o.kd = 16) : Calls Tryz.prog 10 #[.agg #[tp T, tp R], .agg o.cells.toArray] w fun x w' => x = .returned (.bool true) ∧ ∃ F', PrA T R w' F' ∧ Ext F w F' w' := by
  have hb1 := (Below.refl w.heap.size w).alloc (Nat.le_refl _) (.cells #[tp T, tp R] 27)
  have hb2 := hb1.alloc hb1.size (.cells o.cells.toArray 37)
  have ha1 := heap_alloc_new w (.cells #[tp T, tp R] 27)
  have ho2 := heap_alloc_new (w.alloc (.cells #[tp T, tp R] 27)) (.cells o.cells.toArray 37)
  have e2 : (w.alloc (.cells #[tp T, tp R] 27)).heap.size = w.heap.size + 1 := by simp
  rw [e2] at ho2
  have ha2 := (Below.heap_alloc _ (.cells o.cells.toArray 37) w.heap.size (by rw [e2]; omega)).trans ha1
  have HPr := hide ((good_pr T R).below h hb2)
  have HX := hide (ext_below (F := F) hb2)
  have HAF : Hid (¬ F w.heap.size ∧ ¬ F (w.heap.size + 1)) := hide ⟨fun e => by have := (good_pr T R).lt h _ e; omega, fun e => by have := (good_pr T R).lt h _ e; omega⟩
  have HA := hide ha2
  have HO := hide ho2
  have HK := hide hk
  clear hb1 hb2 ha1 ho2 ha2 e2 h hk
  go_enter Tryz.func10, Tryz.ntmps10
  go_upto_region 1 with fail
  show Code.wp _ _ _ _ ((w.alloc (.cells #[tp T, tp R] 27)).alloc (.cells o.cells.toArray 37))
  generalize (w.alloc (.cells #[tp T, tp R] 27)).alloc (.cells o.cells.toArray 37) = w2 at *
  generalize hA : w.heap.size = A at *
  generalize hB : A + 1 = B at *
  clear hA hB
  have c0 := ob_cell HO.out (j := 0) rfl
  rw [HK.out] at c0
  go_upto_region 17 with fail
  clear c0
  refine wp_region_held_drew (S := fun W : World => W.heap[A]? = some (.cells #[tp T, tp R] 27 (0, 0)) ∧ W.heap[B]? = some (.cells o.cells.toArray 37 (0, 0))) (by kernel_rfl) ⟨HA.out, HO.out⟩ (fun _ => ?_)
  generalize hw3 : w2.drew = w3
  have hb3 : Below w2.heap.size w2 w3 := by rw [← hw3]; exact below_drew _
  have HS3 : Hid (w3.heap[A]? = some (.cells #[tp T, tp R] 27 (0, 0)) ∧ w3.heap[B]? = some (.cells o.cells.toArray 37 (0, 0))) := hide (by rw [← hw3]; exact ⟨HA.out, HO.out⟩)
  have HPr3 := hide ((good_pr T R).below HPr.out hb3)
  have HX3 := hide (HX.out.trans (ext_below (F := F) hb3))
  clear hw3 hb3 HPr HX HA HO
  refine hd_take 0 (o := ⟨some 116, _, _, _, _, _⟩) (.pointer (some ⟨A, 0, none⟩)) (by kernel_rfl) (by kernel_rfl) (by kernel_rfl) rfl (by rfl) (fun W hSw => by go_simp) (fun _ _ _ h => h) HS3.out ?_
  simp only [Act.put, List.setIfInBounds_toArray, List.set_cons_zero, List.set_cons_succ]
  refine hd_take 1 (o := ⟨some 117, _, _, _, _, _⟩) (.pointer (some ⟨T, 0, none⟩)) (by kernel_rfl) (by kernel_rfl) (by kernel_rfl) rfl (by rfl) (fun W hSw => by have s1 := top_cell hSw.1; go_simp) (fun _ _ _ h => h) HS3.out ?_
  simp only [Act.put, List.setIfInBounds_toArray, List.set_cons_zero, List.set_cons_succ]
  refine hd_take 2 (o := ⟨some 118, _, _, _, _, _⟩) (.pointer (some ⟨B, 2, none⟩)) (by kernel_rfl) (by kernel_rfl) (by kernel_rfl) rfl (by rfl) (fun W hSw => by go_simp) (fun _ _ _ h => h) HS3.out ?_
  simp only [Act.put, List.setIfInBounds_toArray, List.set_cons_zero, List.set_cons_succ]
  refine hd_take 3 (o := ⟨some 119, _, _, _, _, _⟩) (.int .i64 o.e) (by kernel_rfl) (by kernel_rfl) (by kernel_rfl) rfl (by rfl) (fun W hSw => by have s1 := ob_cell hSw.2 (j := 2) rfl; go_simp) (fun _ _ _ h => h) HS3.out ?_
  simp only [Act.put, List.setIfInBounds_toArray, List.set_cons_zero, List.set_cons_succ]
  refine hd_take 5 (o := ⟨some 121, _, _, _, _, _⟩) (.pointer (some ⟨A, 1, none⟩)) (by kernel_rfl) (by kernel_rfl) (by kernel_rfl) rfl (by rfl) (fun W hSw => by go_simp) (fun _ _ _ h => h) HS3.out ?_
  simp only [Act.put, List.setIfInBounds_toArray, List.set_cons_zero, List.set_cons_succ]
  refine hd_take 6 (o := ⟨some 122, _, _, _, _, _⟩) (.pointer (some ⟨R, 0, none⟩)) (by kernel_rfl) (by kernel_rfl) (by kernel_rfl) rfl (by rfl) (fun W hSw => by have s1 := top_cell1 hSw.1; go_simp) (fun _ _ _ h => h) HS3.out ?_
  simp only [Act.put, List.setIfInBounds_toArray, List.set_cons_zero, List.set_cons_succ]
  refine hd_take 7 (o := ⟨some 123, _, _, _, _, _⟩) (.pointer (some ⟨B, 2, none⟩)) (by kernel_rfl) (by kernel_rfl) (by kernel_rfl) rfl (by rfl) (fun W hSw => by go_simp) (fun _ _ _ h => h) HS3.out ?_
  simp only [Act.put, List.setIfInBounds_toArray, List.set_cons_zero, List.set_cons_succ]
  refine hd_take 8 (o := ⟨some 124, _, _, _, _, _⟩) (.int .i64 o.e) (by kernel_rfl) (by kernel_rfl) (by kernel_rfl) rfl (by rfl) (fun W hSw => by have s1 := ob_cell hSw.2 (j := 2) rfl; go_simp) (fun _ _ _ h => h) HS3.out ?_
  simp only [Act.put, List.setIfInBounds_toArray, List.set_cons_zero, List.set_cons_succ]
  refine hd_call 4 (o := ⟨some 120, _, _, _, _, _⟩) (by kernel_rfl) rfl (by rfl) (fun K' hK => ?_)
  go_simp
  go_wp2_with (go_at_call 42; refine ((two_runs T R o.e).run HPr3.out).mono ?_; rintro x w4 ⟨v, ⟨c, rfl⟩, rfl, hm, hn⟩)
  have HS4 : Hid (w4.heap[A]? = some (.cells #[tp T, tp R] 27 (0, 0)) ∧ w4.heap[B]? = some (.cells o.cells.toArray 37 (0, 0))) := hide ⟨(hm.block A (Array.getElem?_eq_some_iff.1 HS3.out.1).1 HAF.out.1).trans HS3.out.1, (hm.block B (Array.getElem?_eq_some_iff.1 HS3.out.2).1 HAF.out.2).trans HS3.out.2⟩
  have HN := hide (hn w4 (Below.refl _ _))
  clear hm hn HPr3
  refine hK _ _ HS4.out ?_
  clear hK K'
  try simp only [Act.put, List.setIfInBounds_toArray, List.set_cons_zero, List.set_cons_succ]
  refine hd_call 9 (o := ⟨some 125, _, _, _, _, _⟩) (by kernel_rfl) rfl (by rfl) (fun K' hK => ?_)
  go_simp
  go_wp2_with (go_at_call 43; refine HN.out.mono ?_; rintro y w5 ⟨rfl, F', hP, hX, -⟩)
  have HP5 := hide hP
  have HX5 := hide (HX3.out.trans hX)
  have HS5 : Hid (w5.heap[A]? = some (.cells #[tp T, tp R] 27 (0, 0)) ∧ w5.heap[B]? = some (.cells o.cells.toArray 37 (0, 0))) := hide ⟨(hX.mod.block A (Nat.lt_of_lt_of_le (Array.getElem?_eq_some_iff.1 HS3.out.1).1 (Nat.le_refl _)) HAF.out.1).trans HS3.out.1, (hX.mod.block B (Nat.lt_of_lt_of_le (Array.getElem?_eq_some_iff.1 HS3.out.2).1 (Nat.le_refl _)) HAF.out.2).trans HS3.out.2⟩
  clear hP hX HN
  refine hK _ _ HS5.out ?_
  clear hK K'
  try simp only [Act.put, List.setIfInBounds_toArray, List.set_cons_zero, List.set_cons_succ]
  refine hd_take 10 (o := ⟨some 126, _, _, _, _, _⟩) (.bool true) (by kernel_rfl) (by kernel_rfl) (by kernel_rfl) rfl (by rfl) (fun W hSw => by go_simp) (fun _ _ _ h => h) HS5.out ?_
  simp only [Act.put, List.setIfInBounds_toArray, List.set_cons_zero, List.set_cons_succ]
  refine hd_take 11 (o := ⟨some 4, _, _, _, _, _⟩) (.bool true) (by kernel_rfl) (by kernel_rfl) (by kernel_rfl) rfl (by rfl) (fun W hSw => by go_simp) (fun _ _ _ h => h) HS5.out ?_
  simp only [Act.put, List.setIfInBounds_toArray, List.set_cons_zero, List.set_cons_succ]
  refine wpAnyH_done (by kernel_rfl) ?_ _
  clear HS3 HS4 HS5 HX3
  go_wp2
  go_ret
  exact ⟨rfl, F', HP5.out, HX5.out⟩
set_option maxRecDepth 8000 in
set_option maxHeartbeats 3200000 in
theorem looks_find {w : World} {F : Nat → Prop} {T R : Nat} (h : PrA T R w F) (o : Ov) (hk : o.kd = 17) : Calls Tryz.prog 10 #[.agg #[tp T, tp R], .agg o.cells.toArray] w fun x w' => x = .returned (.bool true) ∧ ∃ F', PrA T R w' F' ∧ Ext F w F' w' := by
  have hb1 := (Below.refl w.heap.size w).alloc (Nat.le_refl _) (.cells #[tp T, tp R] 27)
  have hb2 := hb1.alloc hb1.size (.cells o.cells.toArray 37)
  have ha1 := heap_alloc_new w (.cells #[tp T, tp R] 27)
  have ho2 := heap_alloc_new (w.alloc (.cells #[tp T, tp R] 27)) (.cells o.cells.toArray 37)
  have e2 : (w.alloc (.cells #[tp T, tp R] 27)).heap.size = w.heap.size + 1 := by simp
  rw [e2] at ho2
  have ha2 := (Below.heap_alloc _ (.cells o.cells.toArray 37) w.heap.size (by rw [e2]; omega)).trans ha1
  have HPr := hide ((good_pr T R).below h hb2)
  have HX := hide (ext_below (F := F) hb2)
  have HAF : Hid (¬ F w.heap.size ∧ ¬ F (w.heap.size + 1)) := hide ⟨fun e => by have := (good_pr T R).lt h _ e; omega, fun e => by have := (good_pr T R).lt h _ e; omega⟩
  have HA := hide ha2
  have HO := hide ho2
  have HK := hide hk
  clear hb1 hb2 ha1 ho2 ha2 e2 h hk
  go_enter Tryz.func10, Tryz.ntmps10
  go_upto_region 1 with fail
  show Code.wp _ _ _ _ ((w.alloc (.cells #[tp T, tp R] 27)).alloc (.cells o.cells.toArray 37))
  generalize (w.alloc (.cells #[tp T, tp R] 27)).alloc (.cells o.cells.toArray 37) = w2 at *
  generalize hA : w.heap.size = A at *
  generalize hB : A + 1 = B at *
  clear hA hB
  have c0 := ob_cell HO.out (j := 0) rfl
  rw [HK.out] at c0
  go_upto_region 19 with fail
  clear c0
  refine wp_region_held_drew (S := fun W : World => W.heap[A]? = some (.cells #[tp T, tp R] 27 (0, 0)) ∧ W.heap[B]? = some (.cells o.cells.toArray 37 (0, 0))) (by kernel_rfl) ⟨HA.out, HO.out⟩ (fun _ => ?_)
  generalize hw3 : w2.drew = w3
  have hb3 : Below w2.heap.size w2 w3 := by rw [← hw3]; exact below_drew _
  have HS3 : Hid (w3.heap[A]? = some (.cells #[tp T, tp R] 27 (0, 0)) ∧ w3.heap[B]? = some (.cells o.cells.toArray 37 (0, 0))) := hide (by rw [← hw3]; exact ⟨HA.out, HO.out⟩)
  have HPr3 := hide ((good_pr T R).below HPr.out hb3)
  have HX3 := hide (HX.out.trans (ext_below (F := F) hb3))
  clear hw3 hb3 HPr HX HA HO
  refine hd_take 0 (o := ⟨some 129, _, _, _, _, _⟩) (.pointer (some ⟨A, 0, none⟩)) (by kernel_rfl) (by kernel_rfl) (by kernel_rfl) rfl (by rfl) (fun W hSw => by go_simp) (fun _ _ _ h => h) HS3.out ?_
  simp only [Act.put, List.setIfInBounds_toArray, List.set_cons_zero, List.set_cons_succ]
  refine hd_take 1 (o := ⟨some 130, _, _, _, _, _⟩) (.pointer (some ⟨T, 0, none⟩)) (by kernel_rfl) (by kernel_rfl) (by kernel_rfl) rfl (by rfl) (fun W hSw => by have s1 := top_cell hSw.1; go_simp) (fun _ _ _ h => h) HS3.out ?_
  simp only [Act.put, List.setIfInBounds_toArray, List.set_cons_zero, List.set_cons_succ]
  refine hd_take 2 (o := ⟨some 131, _, _, _, _, _⟩) (.pointer (some ⟨B, 3, none⟩)) (by kernel_rfl) (by kernel_rfl) (by kernel_rfl) rfl (by rfl) (fun W hSw => by go_simp) (fun _ _ _ h => h) HS3.out ?_
  simp only [Act.put, List.setIfInBounds_toArray, List.set_cons_zero, List.set_cons_succ]
  refine hd_take 3 (o := ⟨some 132, _, _, _, _, _⟩) (.int .i64 o.n) (by kernel_rfl) (by kernel_rfl) (by kernel_rfl) rfl (by rfl) (fun W hSw => by have s1 := ob_cell hSw.2 (j := 3) rfl; go_simp) (fun _ _ _ h => h) HS3.out ?_
  simp only [Act.put, List.setIfInBounds_toArray, List.set_cons_zero, List.set_cons_succ]
  refine hd_take 5 (o := ⟨some 134, _, _, _, _, _⟩) (.pointer (some ⟨A, 1, none⟩)) (by kernel_rfl) (by kernel_rfl) (by kernel_rfl) rfl (by rfl) (fun W hSw => by go_simp) (fun _ _ _ h => h) HS3.out ?_
  simp only [Act.put, List.setIfInBounds_toArray, List.set_cons_zero, List.set_cons_succ]
  refine hd_take 6 (o := ⟨some 135, _, _, _, _, _⟩) (.pointer (some ⟨R, 0, none⟩)) (by kernel_rfl) (by kernel_rfl) (by kernel_rfl) rfl (by rfl) (fun W hSw => by have s1 := top_cell1 hSw.1; go_simp) (fun _ _ _ h => h) HS3.out ?_
  simp only [Act.put, List.setIfInBounds_toArray, List.set_cons_zero, List.set_cons_succ]
  refine hd_take 7 (o := ⟨some 136, _, _, _, _, _⟩) (.pointer (some ⟨B, 3, none⟩)) (by kernel_rfl) (by kernel_rfl) (by kernel_rfl) rfl (by rfl) (fun W hSw => by go_simp) (fun _ _ _ h => h) HS3.out ?_
  simp only [Act.put, List.setIfInBounds_toArray, List.set_cons_zero, List.set_cons_succ]
  refine hd_take 8 (o := ⟨some 137, _, _, _, _, _⟩) (.int .i64 o.n) (by kernel_rfl) (by kernel_rfl) (by kernel_rfl) rfl (by rfl) (fun W hSw => by have s1 := ob_cell hSw.2 (j := 3) rfl; go_simp) (fun _ _ _ h => h) HS3.out ?_
  simp only [Act.put, List.setIfInBounds_toArray, List.set_cons_zero, List.set_cons_succ]
  refine hd_call 4 (o := ⟨some 133, _, _, _, _, _⟩) (by kernel_rfl) rfl (by rfl) (fun K' hK => ?_)
  go_simp
  go_wp2_with (go_at_call 44; refine ((two_find T R o.n).run HPr3.out).mono ?_; rintro x w4 ⟨v, ⟨c, rfl⟩, rfl, hm, hn⟩)
  have HS4 : Hid (w4.heap[A]? = some (.cells #[tp T, tp R] 27 (0, 0)) ∧ w4.heap[B]? = some (.cells o.cells.toArray 37 (0, 0))) := hide ⟨(hm.block A (Array.getElem?_eq_some_iff.1 HS3.out.1).1 HAF.out.1).trans HS3.out.1, (hm.block B (Array.getElem?_eq_some_iff.1 HS3.out.2).1 HAF.out.2).trans HS3.out.2⟩
  have HN := hide (hn w4 (Below.refl _ _))
  clear hm hn HPr3
  refine hK _ _ HS4.out ?_
  clear hK K'
  try simp only [Act.put, List.setIfInBounds_toArray, List.set_cons_zero, List.set_cons_succ]
  refine hd_call 9 (o := ⟨some 138, _, _, _, _, _⟩) (by kernel_rfl) rfl (by rfl) (fun K' hK => ?_)
  go_simp
  go_wp2_with (go_at_call 45; refine HN.out.mono ?_; rintro y w5 ⟨rfl, F', hP, hX, -⟩)
  have HP5 := hide hP
  have HX5 := hide (HX3.out.trans hX)
  have HS5 : Hid (w5.heap[A]? = some (.cells #[tp T, tp R] 27 (0, 0)) ∧ w5.heap[B]? = some (.cells o.cells.toArray 37 (0, 0))) := hide ⟨(hX.mod.block A (Nat.lt_of_lt_of_le (Array.getElem?_eq_some_iff.1 HS3.out.1).1 (Nat.le_refl _)) HAF.out.1).trans HS3.out.1, (hX.mod.block B (Nat.lt_of_lt_of_le (Array.getElem?_eq_some_iff.1 HS3.out.2).1 (Nat.le_refl _)) HAF.out.2).trans HS3.out.2⟩
  clear hP hX HN
  refine hK _ _ HS5.out ?_
  clear hK K'
  try simp only [Act.put, List.setIfInBounds_toArray, List.set_cons_zero, List.set_cons_succ]
  refine hd_take 10 (o := ⟨some 139, _, _, _, _, _⟩) (.bool true) (by kernel_rfl) (by kernel_rfl) (by kernel_rfl) rfl (by rfl) (fun W hSw => by go_simp) (fun _ _ _ h => h) HS5.out ?_
  simp only [Act.put, List.setIfInBounds_toArray, List.set_cons_zero, List.set_cons_succ]
  refine hd_take 11 (o := ⟨some 4, _, _, _, _, _⟩) (.bool true) (by kernel_rfl) (by kernel_rfl) (by kernel_rfl) rfl (by rfl) (fun W hSw => by go_simp) (fun _ _ _ h => h) HS5.out ?_
  simp only [Act.put, List.setIfInBounds_toArray, List.set_cons_zero, List.set_cons_succ]
  refine wpAnyH_done (by kernel_rfl) ?_ _
  clear HS3 HS4 HS5 HX3
  go_wp2
  go_ret
  exact ⟨rfl, F', HP5.out, HX5.out⟩
set_option maxRecDepth 8000 in
set_option maxHeartbeats 3200000 in
theorem looks_live {w : World} {F : Nat → Prop} {T R : Nat} (h : PrA T R w F) (o : Ov) (hk : o.kd = 18) : Calls Tryz.prog 10 #[.agg #[tp T, tp R], .agg o.cells.toArray] w fun x w' => x = .returned (.bool true) ∧ ∃ F', PrA T R w' F' ∧ Ext F w F' w' := by
  have hb1 := (Below.refl w.heap.size w).alloc (Nat.le_refl _) (.cells #[tp T, tp R] 27)
  have hb2 := hb1.alloc hb1.size (.cells o.cells.toArray 37)
  have ha1 := heap_alloc_new w (.cells #[tp T, tp R] 27)
  have ho2 := heap_alloc_new (w.alloc (.cells #[tp T, tp R] 27)) (.cells o.cells.toArray 37)
  have e2 : (w.alloc (.cells #[tp T, tp R] 27)).heap.size = w.heap.size + 1 := by simp
  rw [e2] at ho2
  have ha2 := (Below.heap_alloc _ (.cells o.cells.toArray 37) w.heap.size (by rw [e2]; omega)).trans ha1
  have HPr := hide ((good_pr T R).below h hb2)
  have HX := hide (ext_below (F := F) hb2)
  have HAF : Hid (¬ F w.heap.size ∧ ¬ F (w.heap.size + 1)) := hide ⟨fun e => by have := (good_pr T R).lt h _ e; omega, fun e => by have := (good_pr T R).lt h _ e; omega⟩
  have HA := hide ha2
  have HO := hide ho2
  have HK := hide hk
  clear hb1 hb2 ha1 ho2 ha2 e2 h hk
  go_enter Tryz.func10, Tryz.ntmps10
  go_upto_region 1 with fail
  show Code.wp _ _ _ _ ((w.alloc (.cells #[tp T, tp R] 27)).alloc (.cells o.cells.toArray 37))
  generalize (w.alloc (.cells #[tp T, tp R] 27)).alloc (.cells o.cells.toArray 37) = w2 at *
  generalize hA : w.heap.size = A at *
  generalize hB : A + 1 = B at *
  clear hA hB
  have c0 := ob_cell HO.out (j := 0) rfl
  rw [HK.out] at c0
  go_upto_region 20 with fail
  clear c0
  refine wp_region_held_drew (S := fun W : World => W.heap[A]? = some (.cells #[tp T, tp R] 27 (0, 0)) ∧ W.heap[B]? = some (.cells o.cells.toArray 37 (0, 0))) (by kernel_rfl) ⟨HA.out, HO.out⟩ (fun _ => ?_)
  generalize hw3 : w2.drew = w3
  have hb3 : Below w2.heap.size w2 w3 := by rw [← hw3]; exact below_drew _
  have HS3 : Hid (w3.heap[A]? = some (.cells #[tp T, tp R] 27 (0, 0)) ∧ w3.heap[B]? = some (.cells o.cells.toArray 37 (0, 0))) := hide (by rw [← hw3]; exact ⟨HA.out, HO.out⟩)
  have HPr3 := hide ((good_pr T R).below HPr.out hb3)
  have HX3 := hide (HX.out.trans (ext_below (F := F) hb3))
  clear hw3 hb3 HPr HX HA HO
  refine hd_take 0 (o := ⟨some 140, _, _, _, _, _⟩) (.pointer (some ⟨A, 0, none⟩)) (by kernel_rfl) (by kernel_rfl) (by kernel_rfl) rfl (by rfl) (fun W hSw => by go_simp) (fun _ _ _ h => h) HS3.out ?_
  simp only [Act.put, List.setIfInBounds_toArray, List.set_cons_zero, List.set_cons_succ]
  refine hd_take 1 (o := ⟨some 141, _, _, _, _, _⟩) (.pointer (some ⟨T, 0, none⟩)) (by kernel_rfl) (by kernel_rfl) (by kernel_rfl) rfl (by rfl) (fun W hSw => by have s1 := top_cell hSw.1; go_simp) (fun _ _ _ h => h) HS3.out ?_
  simp only [Act.put, List.setIfInBounds_toArray, List.set_cons_zero, List.set_cons_succ]
  refine hd_take 3 (o := ⟨some 143, _, _, _, _, _⟩) (.pointer (some ⟨A, 1, none⟩)) (by kernel_rfl) (by kernel_rfl) (by kernel_rfl) rfl (by rfl) (fun W hSw => by go_simp) (fun _ _ _ h => h) HS3.out ?_
  simp only [Act.put, List.setIfInBounds_toArray, List.set_cons_zero, List.set_cons_succ]
  refine hd_take 4 (o := ⟨some 144, _, _, _, _, _⟩) (.pointer (some ⟨R, 0, none⟩)) (by kernel_rfl) (by kernel_rfl) (by kernel_rfl) rfl (by rfl) (fun W hSw => by have s1 := top_cell1 hSw.1; go_simp) (fun _ _ _ h => h) HS3.out ?_
  simp only [Act.put, List.setIfInBounds_toArray, List.set_cons_zero, List.set_cons_succ]
  refine hd_call 2 (o := ⟨some 142, _, _, _, _, _⟩) (by kernel_rfl) rfl (by rfl) (fun K' hK => ?_)
  go_simp
  go_wp2_with (go_at_call 46; refine ((two_live T R).run HPr3.out).mono ?_; rintro x w4 ⟨u, c, l, rfl, hl, ho, hm, hn⟩)
  have HS4 : Hid (w4.heap[A]? = some (.cells #[tp T, tp R] 27 (0, 0)) ∧ w4.heap[B]? = some (.cells o.cells.toArray 37 (0, 0))) := hide ⟨(hm.block A (Array.getElem?_eq_some_iff.1 HS3.out.1).1 HAF.out.1).trans HS3.out.1, (hm.block B (Array.getElem?_eq_some_iff.1 HS3.out.2).1 HAF.out.2).trans HS3.out.2⟩
  have HN := hide (hn w4 (Below.refl _ _))
  have HLl := hide hl
  clear hm hn HPr3 ho hl
  refine hK _ _ HS4.out ?_
  clear hK K'
  try simp only [Act.put, List.setIfInBounds_toArray, List.set_cons_zero, List.set_cons_succ]
  refine hd_call 5 (o := ⟨some 145, _, _, _, _, _⟩) (by kernel_rfl) rfl (by rfl) (fun K' hK => ?_)
  go_simp
  go_wp2_with (go_at_call 47; refine HN.out.mono ?_; rintro y w5 ⟨u2, rfl, ho, ho2, F', hP, hX, -⟩)
  have HP5 := hide hP
  have HX5 := hide (HX3.out.trans hX)
  have HSm := hide (same_n ho ho2 HLl.out)
  have HS5 : Hid (w5.heap[A]? = some (.cells #[tp T, tp R] 27 (0, 0)) ∧ w5.heap[B]? = some (.cells o.cells.toArray 37 (0, 0))) := hide ⟨(hX.mod.block A (Array.getElem?_eq_some_iff.1 HS3.out.1).1 HAF.out.1).trans HS3.out.1, (hX.mod.block B (Array.getElem?_eq_some_iff.1 HS3.out.2).1 HAF.out.2).trans HS3.out.2⟩
  clear hP hX HN ho ho2
  refine hK _ _ HS5.out ?_
  clear hK K'
  try simp only [Act.put, List.setIfInBounds_toArray, List.set_cons_zero, List.set_cons_succ]
  refine hd_call 6 (o := ⟨some 146, _, _, _, _, _⟩) (by kernel_rfl) rfl (by rfl) (fun K' hK => ?_)
  go_simp
  go_wp2_with (go_at_call 18; refine HSm.out.mono ?_; rintro y w6 ⟨rfl, hb6⟩)
  have HP6 := hide ((good_pr T R).below HP5.out hb6)
  have HX6 := hide (HX5.out.trans (ext_below (F := F') hb6))
  have HS6 : Hid (w6.heap[A]? = some (.cells #[tp T, tp R] 27 (0, 0)) ∧ w6.heap[B]? = some (.cells o.cells.toArray 37 (0, 0))) := hide ⟨(hb6.block A (Array.getElem?_eq_some_iff.1 HS5.out.1).1).trans HS5.out.1, (hb6.block B (Array.getElem?_eq_some_iff.1 HS5.out.2).1).trans HS5.out.2⟩
  clear hb6 HSm
  refine hK _ _ HS6.out ?_
  clear hK K'
  try simp only [Act.put, List.setIfInBounds_toArray, List.set_cons_zero, List.set_cons_succ]
  refine hd_take 7 (o := ⟨some 4, _, _, _, _, _⟩) (.bool true) (by kernel_rfl) (by kernel_rfl) (by kernel_rfl) rfl (by rfl) (fun W hSw => by go_simp) (fun _ _ _ h => h) HS6.out ?_
  simp only [Act.put, List.setIfInBounds_toArray, List.set_cons_zero, List.set_cons_succ]
  refine wpAnyH_done (by kernel_rfl) ?_ _
  clear HS3 HS4 HS5 HS6 HX3 HX5 HP5
  go_wp2
  go_ret
  exact ⟨rfl, F', HP6.out, HX6.out⟩
end Go.Proofs.YtbocpmcodlceoaaGreat
