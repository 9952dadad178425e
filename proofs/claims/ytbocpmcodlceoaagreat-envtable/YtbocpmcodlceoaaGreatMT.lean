import Derived.Test.YtbocpmcodlceoaaGreatMR
namespace Go.Proofs.YtbocpmcodlceoaaGreat
open Go.ChangeShapes Go.WideShapes Go.ChangeAt Go.RowKit Go.Deep Go.Shelf

theorem infoOp : (Tryz.prog.info? 37).map (·.size) = some 18 := by kernel_rfl
theorem ob_cell {W : World} {B j : Nat} {o : Ov} {v : Value} (h : W.heap[B]? = some (.cells o.cells.toArray 37 (0, 0))) (hv : o.cells[j]? = some v) : W.cell? ⟨B, j, none⟩ = some v := by
  rw [cell_of_row _ _ _ _ _ _ h]; simpa using hv
theorem ob_q {W : World} {B : Nat} {o : Ov} (h : W.heap[B]? = some (.cells o.cells.toArray 37 (0, 0))) (j : Nat) (v : Value) (hv : (qtL o.q)[j]? = some v) : W.cell? ((⟨B, 5, none⟩ : Addr).add j) = some v := by
  rw [add_off]
  match j with
  | 0 => exact ob_cell h hv
  | 1 => exact ob_cell h hv
  | 2 => exact ob_cell h hv
  | j + 3 => simp [qtL] at hv
theorem ob_r {W : World} {B : Nat} {o : Ov} (h : W.heap[B]? = some (.cells o.cells.toArray 37 (0, 0))) (j : Nat) (v : Value) (hv : (regsL o.g o.pc)[j]? = some v) : W.cell? ((⟨B, 8, none⟩ : Addr).add j) = some v := by
  rw [add_off]
  match j with
  | 0 => exact ob_cell h hv
  | 1 => exact ob_cell h hv
  | 2 => exact ob_cell h hv
  | 3 => exact ob_cell h hv
  | 4 => exact ob_cell h hv
  | 5 => exact ob_cell h hv
  | 6 => exact ob_cell h hv
  | 7 => exact ob_cell h hv
  | 8 => exact ob_cell h hv
  | j + 9 => simp [regsL] at hv
theorem nums_of (l : List Nat) : numN l = nums (l.map (fun k : Nat => (k : Int))) := by simp [numN, nums]
set_option maxRecDepth 8000 in
set_option maxHeartbeats 3200000 in
theorem sameInts_any (w : World) (base base' : Nat) (a a' : Option Addr) (c c' : Nat) (l : List Int) (hrow : w.ownsRow base 3 1 (.slice a l.length c) l.length (nums l)) (hrow' : w.ownsRow base' 3 1 (.slice a' l.length c') l.length (nums l)) (hl : l.length ≤ 4096) : Calls Tryz.prog 18 #[.slice a l.length c, .slice a' l.length c'] w fun x w' => x = .returned (.bool true) ∧ Below w.heap.size w w' := by
  have HR := hide hrow
  have HR' := hide hrow'
  obtain ⟨L, hL⟩ : ∃ L, l.length = L := ⟨_, rfl⟩
  have HL := hide hL
  rw [hL] at hl HR HR' ⊢
  clear hrow hrow' hL
  go_enter Tryz.func18, Tryz.ntmps18
  go_upto_region 4 with fail
  go_loopw [5] (fun x wr => ∃ j : Nat, j ≤ L ∧ x = .int .i64 (j : Int) ∧ Hid (Below w.heap.size w wr)) (fun x _ => L - (intOf x).toNat)
  case atStart => exact ⟨0, by omega, rfl, Below.refl _ _⟩
  case round =>
  obtain ⟨j, hj, rfl, KB⟩ := hrel
  by_cases hlt : j < L
  · have hd : decide ((j : Int) < (L : Int)) = true := by simp; omega
    have hj3 : (j : Int) < (L : Int) := by omega
    obtain ⟨y, hy⟩ : ∃ y, l[j]? = some y := ⟨_, List.getElem?_eq_getElem (by have := HL.out; omega)⟩
    have hro := own_below HR.out KB.out
    have hro' := own_below HR'.out KB.out
    rw [← HL.out] at hro hro'
    obtain ⟨g, rfl, hc⟩ := row_cell hro hy
    obtain ⟨g', rfl, hc'⟩ := row_cell hro' hy
    clear hy hro hro'
    go_upto_region 6 with fail
    go_quiet (fail)
    have bN : Below wr.heap.size wr (wr.drewN nq) := ⟨rfl, rfl, rfl, Nat.le_refl _, fun _ _ => rfl⟩
    have KB2 := hide (KB.out.trans (bN.mono KB.out.size))
    clear bN KB
    go_wp2
    go_roundw
    case rel =>
      first
        | exact ⟨j + 1, by omega, by go_num, KB2⟩
        | ((repeat apply Exists.intro); refine ⟨?_, rfl⟩; exact ⟨j + 1, by omega, by go_num, KB2⟩)
    case measure => simp [intOf]; omega
  · have hd : decide ((j : Int) < (L : Int)) = false := by simp; omega
    go_wp2
    go_ret
    exact ⟨by simp, KB.out⟩
theorem same_n {w : World} {u u' : Value} {l : List Nat} (h : w.ownsRow 0 3 1 u l.length (numN l)) (h' : w.ownsRow 0 3 1 u' l.length (numN l)) (hl : l.length ≤ 4096) : Calls Tryz.prog 18 #[u, u'] w fun x w' => x = .returned (.bool true) ∧ Below w.heap.size w w' := by
  obtain ⟨a, c, rfl⟩ := own_shape h
  obtain ⟨a', c', rfl⟩ := own_shape h'
  have e : (l.map (fun k : Nat => (k : Int))).length = l.length := by simp
  have h1 := sameInts_any w 0 0 a a' c c' (l.map (fun k : Nat => (k : Int))) (by rw [e, ← nums_of]; exact h) (by rw [e, ← nums_of]; exact h') (by rw [e]; exact hl)
  rw [e] at h1
  exact h1
set_option maxRecDepth 8000 in
set_option maxHeartbeats 3200000 in
theorem makes_create {w : World} {F : Nat → Prop} {T R : Nat} (h : PrA T R w F) (o : Ov) (hk : o.kd = 2) : Calls Tryz.prog 8 #[.agg #[tp T, tp R], .agg o.cells.toArray] w fun x w' => x = .returned (.bool true) ∧ ∃ F', PrA T R w' F' ∧ Ext F w F' w' := by
  have hb1 := (Below.refl w.heap.size w).alloc (Nat.le_refl _) (.cells #[tp T, tp R] 27)
  have hb2 := hb1.alloc hb1.size (.cells o.cells.toArray 37)
  have ha1 := heap_alloc_new w (.cells #[tp T, tp R] 27)
  have ho2 := heap_alloc_new (w.alloc (.cells #[tp T, tp R] 27)) (.cells o.cells.toArray 37)
  have e2 : (w.alloc (.cells #[tp T, tp R] 27)).heap.size = w.heap.size + 1 := by simp
  rw [e2] at ho2
  have ha2 := (Below.heap_alloc _ (.cells o.cells.toArray 37) w.heap.size (by rw [e2]; omega)).trans ha1
  have HPr := hide ((good_pr T R).below h hb2)
  have HX := hide (ext_below (F := F) hb2)
  have HAF : Hid (¬ F w.heap.size ∧ ¬ F (w.heap.size + 1)) := hide ⟨fun e => by have := (good_pr T R).lt h _ e; omega, fun e => by have := (good_pr T R).lt h _ e; omega⟩
  have HA := hide ha2
  have HO := hide ho2
  have HK := hide hk
  clear hb1 hb2 ha1 ho2 ha2 e2 h hk
  go_enter Tryz.func8, Tryz.ntmps8
  go_upto_region 1 with fail
  show Code.wp _ _ _ _ ((w.alloc (.cells #[tp T, tp R] 27)).alloc (.cells o.cells.toArray 37))
  generalize (w.alloc (.cells #[tp T, tp R] 27)).alloc (.cells o.cells.toArray 37) = w2 at *
  generalize hA : w.heap.size = A at *
  generalize hB : A + 1 = B at *
  clear hA hB
  have c0 := ob_cell HO.out (j := 0) rfl
  rw [HK.out] at c0
  go_upto_region 3 with fail
  clear c0
  have p0 := top_cell HA.out
  have p1 := top_cell1 HA.out
  have c2 := ob_cell HO.out (j := 2) rfl
  have c3 := ob_cell HO.out (j := 3) rfl
  have c5 := ob_cell HO.out (j := 5) rfl
  have c6 := ob_cell HO.out (j := 6) rfl
  have c7 := ob_cell HO.out (j := 7) rfl
  go_wp2_with fail
  refine ((two_create T R o.e o.n o.q).run HPr.out).mono ?_
  rintro x w3 ⟨v, ⟨c, d, rfl⟩, rfl, hm, hn⟩
  have HA3 := hide ((hm.block A (Array.getElem?_eq_some_iff.1 HA.out).1 HAF.out.1).trans HA.out)
  have HO3 := hide ((hm.block B (Array.getElem?_eq_some_iff.1 HO.out).1 HAF.out.2).trans HO.out)
  have HN := hide (hn w3 (Below.refl _ _))
  clear hm hn p0 p1 c2 c3 c5 c6 c7
  have p0 := top_cell HA3.out
  have p1 := top_cell1 HA3.out
  have c2 := ob_cell HO3.out (j := 2) rfl
  have c3 := ob_cell HO3.out (j := 3) rfl
  have c5 := ob_cell HO3.out (j := 5) rfl
  have c6 := ob_cell HO3.out (j := 6) rfl
  have c7 := ob_cell HO3.out (j := 7) rfl
  go_wp2_with fail
  refine HN.out.mono ?_
  rintro y w4 ⟨rfl, F', hP, hX, -⟩
  have HP4 := hide hP
  have HX4 := hide (HX.out.trans hX)
  clear hP hX HN HX p0 p1 c2 c3 c5 c6 c7
  go_wp2
  go_ret
  exact ⟨rfl, F', HP4.out, HX4.out⟩
set_option maxRecDepth 8000 in
set_option maxHeartbeats 3200000 in
theorem makes_destroy {w : World} {F : Nat → Prop} {T R : Nat} (h : PrA T R w F) (o : Ov) (hk : o.kd = 3) : Calls Tryz.prog 8 #[.agg #[tp T, tp R], .agg o.cells.toArray] w fun x w' => x = .returned (.bool true) ∧ ∃ F', PrA T R w' F' ∧ Ext F w F' w' := by
  have hb1 := (Below.refl w.heap.size w).alloc (Nat.le_refl _) (.cells #[tp T, tp R] 27)
  have hb2 := hb1.alloc hb1.size (.cells o.cells.toArray 37)
  have ha1 := heap_alloc_new w (.cells #[tp T, tp R] 27)
  have ho2 := heap_alloc_new (w.alloc (.cells #[tp T, tp R] 27)) (.cells o.cells.toArray 37)
  have e2 : (w.alloc (.cells #[tp T, tp R] 27)).heap.size = w.heap.size + 1 := by simp
  rw [e2] at ho2
  have ha2 := (Below.heap_alloc _ (.cells o.cells.toArray 37) w.heap.size (by rw [e2]; omega)).trans ha1
  have HPr := hide ((good_pr T R).below h hb2)
  have HX := hide (ext_below (F := F) hb2)
  have HAF : Hid (¬ F w.heap.size ∧ ¬ F (w.heap.size + 1)) := hide ⟨fun e => by have := (good_pr T R).lt h _ e; omega, fun e => by have := (good_pr T R).lt h _ e; omega⟩
  have HA := hide ha2
  have HO := hide ho2
  have HK := hide hk
  clear hb1 hb2 ha1 ho2 ha2 e2 h hk
  go_enter Tryz.func8, Tryz.ntmps8
  go_upto_region 1 with fail
  show Code.wp _ _ _ _ ((w.alloc (.cells #[tp T, tp R] 27)).alloc (.cells o.cells.toArray 37))
  generalize (w.alloc (.cells #[tp T, tp R] 27)).alloc (.cells o.cells.toArray 37) = w2 at *
  generalize hA : w.heap.size = A at *
  generalize hB : A + 1 = B at *
  clear hA hB
  have c0 := ob_cell HO.out (j := 0) rfl
  rw [HK.out] at c0
  go_upto_region 7 with fail
  clear c0
  have p0 := top_cell HA.out
  have p1 := top_cell1 HA.out
  have c2 := ob_cell HO.out (j := 2) rfl
  have c3 := ob_cell HO.out (j := 3) rfl
  have c5 := ob_cell HO.out (j := 5) rfl
  have c6 := ob_cell HO.out (j := 6) rfl
  have c7 := ob_cell HO.out (j := 7) rfl
  go_wp2_with fail
  refine ((two_destroy T R o.e).run HPr.out).mono ?_
  rintro x w3 ⟨u, c, l, rfl, hl, ho, hm, hn⟩
  unfold mkT
  have HA3 := hide ((hm.block A (Array.getElem?_eq_some_iff.1 HA.out).1 HAF.out.1).trans HA.out)
  have HO3 := hide ((hm.block B (Array.getElem?_eq_some_iff.1 HO.out).1 HAF.out.2).trans HO.out)
  have HN := hide (hn w3 (Below.refl _ _))
  have HLl := hide hl
  clear hm hn p0 p1 c2 c3 c5 c6 c7 hl ho
  have p0 := top_cell HA3.out
  have p1 := top_cell1 HA3.out
  have c2 := ob_cell HO3.out (j := 2) rfl
  have c3 := ob_cell HO3.out (j := 3) rfl
  have c5 := ob_cell HO3.out (j := 5) rfl
  have c6 := ob_cell HO3.out (j := 6) rfl
  have c7 := ob_cell HO3.out (j := 7) rfl
  go_wp2_with fail
  refine HN.out.mono ?_
  rintro y w4 ⟨u2, rfl, ho, ho2, F', hP, hX, -⟩
  unfold mkT
  have HSm := hide (same_n ho ho2 HLl.out)
  have HP4 := hide hP
  have HX4 := hide (HX.out.trans hX)
  clear hP hX HN HX p0 p1 c2 c3 c5 c6 c7 ho ho2
  go_wp2_with fail
  refine HSm.out.mono ?_
  rintro y w5 ⟨rfl, hb5⟩
  have HP5 := hide ((good_pr T R).below HP4.out hb5)
  have HX5 := hide (HX4.out.trans (ext_below (F := F') hb5))
  clear hb5 HP4 HX4 HSm
  go_wp2
  go_ret
  exact ⟨rfl, F', HP5.out, HX5.out⟩
set_option maxRecDepth 8000 in
set_option maxHeartbeats 3200000 in
theorem makes_pay {w : World} {F : Nat → Prop} {T R : Nat} (h : PrA T R w F) (o : Ov) (hk : o.kd = 11) : Calls Tryz.prog 8 #[.agg #[tp T, tp R], .agg o.cells.toArray] w fun x w' => x = .returned (.bool true) ∧ ∃ F', PrA T R w' F' ∧ Ext F w F' w' := by
  have hb1 := (Below.refl w.heap.size w).alloc (Nat.le_refl _) (.cells #[tp T, tp R] 27)
  have hb2 := hb1.alloc hb1.size (.cells o.cells.toArray 37)
  have ha1 := heap_alloc_new w (.cells #[tp T, tp R] 27)
  have ho2 := heap_alloc_new (w.alloc (.cells #[tp T, tp R] 27)) (.cells o.cells.toArray 37)
  have e2 : (w.alloc (.cells #[tp T, tp R] 27)).heap.size = w.heap.size + 1 := by simp
  rw [e2] at ho2
  have ha2 := (Below.heap_alloc _ (.cells o.cells.toArray 37) w.heap.size (by rw [e2]; omega)).trans ha1
  have HPr := hide ((good_pr T R).below h hb2)
  have HX := hide (ext_below (F := F) hb2)
  have HAF : Hid (¬ F w.heap.size ∧ ¬ F (w.heap.size + 1)) := hide ⟨fun e => by have := (good_pr T R).lt h _ e; omega, fun e => by have := (good_pr T R).lt h _ e; omega⟩
  have HA := hide ha2
  have HO := hide ho2
  have HK := hide hk
  clear hb1 hb2 ha1 ho2 ha2 e2 h hk
  go_enter Tryz.func8, Tryz.ntmps8
  go_upto_region 1 with fail
  show Code.wp _ _ _ _ ((w.alloc (.cells #[tp T, tp R] 27)).alloc (.cells o.cells.toArray 37))
  generalize (w.alloc (.cells #[tp T, tp R] 27)).alloc (.cells o.cells.toArray 37) = w2 at *
  generalize hA : w.heap.size = A at *
  generalize hB : A + 1 = B at *
  clear hA hB
  have c0 := ob_cell HO.out (j := 0) rfl
  rw [HK.out] at c0
  go_upto_region 11 with fail
  clear c0
  refine wp_region_held_drew (S := fun W : World => W.heap[A]? = some (.cells #[tp T, tp R] 27 (0, 0)) ∧ W.heap[B]? = some (.cells o.cells.toArray 37 (0, 0))) (by kernel_rfl) ⟨HA.out, HO.out⟩ (fun _ => ?_)
  generalize hw3 : w2.drew = w3
  have hb3 : Below w2.heap.size w2 w3 := by rw [← hw3]; exact below_drew _
  have HS3 : Hid (w3.heap[A]? = some (.cells #[tp T, tp R] 27 (0, 0)) ∧ w3.heap[B]? = some (.cells o.cells.toArray 37 (0, 0))) := hide (by rw [← hw3]; exact ⟨HA.out, HO.out⟩)
  have HPr3 := hide ((good_pr T R).below HPr.out hb3)
  have HX3 := hide (HX.out.trans (ext_below (F := F) hb3))
  clear hw3 hb3 HPr HX HA HO
  refine hd_take 0 (o := ⟨some 77, _, _, _, _, _⟩) (.pointer (some ⟨A, 0, none⟩)) (by kernel_rfl) (by kernel_rfl) (by kernel_rfl) rfl (by rfl) (fun W hSw => by go_simp) (fun _ _ _ h => h) HS3.out ?_
  simp only [Act.put, List.setIfInBounds_toArray, List.set_cons_zero, List.set_cons_succ]
  refine hd_take 1 (o := ⟨some 78, _, _, _, _, _⟩) (.pointer (some ⟨T, 0, none⟩)) (by kernel_rfl) (by kernel_rfl) (by kernel_rfl) rfl (by rfl) (fun W hSw => by have s1 := top_cell hSw.1; go_simp) (fun _ _ _ h => h) HS3.out ?_
  simp only [Act.put, List.setIfInBounds_toArray, List.set_cons_zero, List.set_cons_succ]
  refine hd_take 2 (o := ⟨some 79, _, _, _, _, _⟩) (.pointer (some ⟨B, 2, none⟩)) (by kernel_rfl) (by kernel_rfl) (by kernel_rfl) rfl (by rfl) (fun W hSw => by go_simp) (fun _ _ _ h => h) HS3.out ?_
  simp only [Act.put, List.setIfInBounds_toArray, List.set_cons_zero, List.set_cons_succ]
  refine hd_take 3 (o := ⟨some 80, _, _, _, _, _⟩) (.int .i64 o.e) (by kernel_rfl) (by kernel_rfl) (by kernel_rfl) rfl (by rfl) (fun W hSw => by have s1 := ob_cell hSw.2 (j := 2) rfl; go_simp) (fun _ _ _ h => h) HS3.out ?_
  simp only [Act.put, List.setIfInBounds_toArray, List.set_cons_zero, List.set_cons_succ]
  refine hd_take 4 (o := ⟨some 81, _, _, _, _, _⟩) (.pointer (some ⟨B, 5, none⟩)) (by kernel_rfl) (by kernel_rfl) (by kernel_rfl) rfl (by rfl) (fun W hSw => by go_simp) (fun _ _ _ h => h) HS3.out ?_
  simp only [Act.put, List.setIfInBounds_toArray, List.set_cons_zero, List.set_cons_succ]
  refine hd_take 5 (o := ⟨some 82, _, _, _, _, _⟩) (o.q.val) (by kernel_rfl) (by kernel_rfl) (by kernel_rfl) rfl (by rfl) (fun W hSw => by exact run_loadT Tryz.underlying30 rfl (qtL o.q) infoQ _ rfl ⟨B, 5, none⟩ rfl (ob_q hSw.2)) (fun _ _ _ h => h) HS3.out ?_
  simp only [Act.put, List.setIfInBounds_toArray, List.set_cons_zero, List.set_cons_succ]
  refine hd_take 7 (o := ⟨some 84, _, _, _, _, _⟩) (.pointer (some ⟨A, 1, none⟩)) (by kernel_rfl) (by kernel_rfl) (by kernel_rfl) rfl (by rfl) (fun W hSw => by go_simp) (fun _ _ _ h => h) HS3.out ?_
  simp only [Act.put, List.setIfInBounds_toArray, List.set_cons_zero, List.set_cons_succ]
  refine hd_take 8 (o := ⟨some 85, _, _, _, _, _⟩) (.pointer (some ⟨R, 0, none⟩)) (by kernel_rfl) (by kernel_rfl) (by kernel_rfl) rfl (by rfl) (fun W hSw => by have s1 := top_cell1 hSw.1; go_simp) (fun _ _ _ h => h) HS3.out ?_
  simp only [Act.put, List.setIfInBounds_toArray, List.set_cons_zero, List.set_cons_succ]
  refine hd_take 9 (o := ⟨some 86, _, _, _, _, _⟩) (.pointer (some ⟨B, 2, none⟩)) (by kernel_rfl) (by kernel_rfl) (by kernel_rfl) rfl (by rfl) (fun W hSw => by go_simp) (fun _ _ _ h => h) HS3.out ?_
  simp only [Act.put, List.setIfInBounds_toArray, List.set_cons_zero, List.set_cons_succ]
  refine hd_take 10 (o := ⟨some 87, _, _, _, _, _⟩) (.int .i64 o.e) (by kernel_rfl) (by kernel_rfl) (by kernel_rfl) rfl (by rfl) (fun W hSw => by have s1 := ob_cell hSw.2 (j := 2) rfl; go_simp) (fun _ _ _ h => h) HS3.out ?_
  simp only [Act.put, List.setIfInBounds_toArray, List.set_cons_zero, List.set_cons_succ]
  refine hd_take 11 (o := ⟨some 88, _, _, _, _, _⟩) (.pointer (some ⟨B, 5, none⟩)) (by kernel_rfl) (by kernel_rfl) (by kernel_rfl) rfl (by rfl) (fun W hSw => by go_simp) (fun _ _ _ h => h) HS3.out ?_
  simp only [Act.put, List.setIfInBounds_toArray, List.set_cons_zero, List.set_cons_succ]
  refine hd_take 12 (o := ⟨some 89, _, _, _, _, _⟩) (o.q.val) (by kernel_rfl) (by kernel_rfl) (by kernel_rfl) rfl (by rfl) (fun W hSw => by exact run_loadT Tryz.underlying30 rfl (qtL o.q) infoQ _ rfl ⟨B, 5, none⟩ rfl (ob_q hSw.2)) (fun _ _ _ h => h) HS3.out ?_
  simp only [Act.put, List.setIfInBounds_toArray, List.set_cons_zero, List.set_cons_succ]
  refine hd_call 6 (o := ⟨some 83, _, _, _, _, _⟩) (by kernel_rfl) rfl (by rfl) (fun K' hK => ?_)
  go_simp
  go_wp2_with (go_at_call 19; refine ((two_pay T R o.e o.q).run HPr3.out).mono ?_; rintro x w4 ⟨v, ⟨c, rfl⟩, rfl, hm, hn⟩)
  have HS4 : Hid (w4.heap[A]? = some (.cells #[tp T, tp R] 27 (0, 0)) ∧ w4.heap[B]? = some (.cells o.cells.toArray 37 (0, 0))) := hide ⟨(hm.block A (Array.getElem?_eq_some_iff.1 HS3.out.1).1 HAF.out.1).trans HS3.out.1, (hm.block B (Array.getElem?_eq_some_iff.1 HS3.out.2).1 HAF.out.2).trans HS3.out.2⟩
  have HN := hide (hn w4 (Below.refl _ _))
  clear hm hn HPr3
  refine hK _ _ HS4.out ?_
  clear hK K'
  try simp only [Act.put, List.setIfInBounds_toArray, List.set_cons_zero, List.set_cons_succ]
  refine hd_call 13 (o := ⟨some 90, _, _, _, _, _⟩) (by kernel_rfl) rfl (by rfl) (fun K' hK => ?_)
  go_simp
  go_wp2_with (go_at_call 20; refine HN.out.mono ?_; rintro y w5 ⟨rfl, F', hP, hX, -⟩)
  have HP5 := hide hP
  have HX5 := hide (HX3.out.trans hX)
  have HS5 : Hid (w5.heap[A]? = some (.cells #[tp T, tp R] 27 (0, 0)) ∧ w5.heap[B]? = some (.cells o.cells.toArray 37 (0, 0))) := hide ⟨(hX.mod.block A (Nat.lt_of_lt_of_le (Array.getElem?_eq_some_iff.1 HS3.out.1).1 (Nat.le_refl _)) HAF.out.1).trans HS3.out.1, (hX.mod.block B (Nat.lt_of_lt_of_le (Array.getElem?_eq_some_iff.1 HS3.out.2).1 (Nat.le_refl _)) HAF.out.2).trans HS3.out.2⟩
  clear hP hX HN
  refine hK _ _ HS5.out ?_
  clear hK K'
  try simp only [Act.put, List.setIfInBounds_toArray, List.set_cons_zero, List.set_cons_succ]
  refine hd_take 14 (o := ⟨some 91, _, _, _, _, _⟩) (.bool true) (by kernel_rfl) (by kernel_rfl) (by kernel_rfl) rfl (by rfl) (fun W hSw => by go_simp) (fun _ _ _ h => h) HS5.out ?_
  simp only [Act.put, List.setIfInBounds_toArray, List.set_cons_zero, List.set_cons_succ]
  refine hd_take 15 (o := ⟨some 4, _, _, _, _, _⟩) (.bool true) (by kernel_rfl) (by kernel_rfl) (by kernel_rfl) rfl (by rfl) (fun W hSw => by go_simp) (fun _ _ _ h => h) HS5.out ?_
  simp only [Act.put, List.setIfInBounds_toArray, List.set_cons_zero, List.set_cons_succ]
  refine wpAnyH_done (by kernel_rfl) ?_ _
  clear HS3 HS4 HS5 HX3
  go_wp2
  go_ret
  exact ⟨rfl, F', HP5.out, HX5.out⟩
set_option maxRecDepth 8000 in
set_option maxHeartbeats 3200000 in
theorem makes_refund {w : World} {F : Nat → Prop} {T R : Nat} (h : PrA T R w F) (o : Ov) (hk : o.kd = 12) : Calls Tryz.prog 8 #[.agg #[tp T, tp R], .agg o.cells.toArray] w fun x w' => x = .returned (.bool true) ∧ ∃ F', PrA T R w' F' ∧ Ext F w F' w' := by
  have hb1 := (Below.refl w.heap.size w).alloc (Nat.le_refl _) (.cells #[tp T, tp R] 27)
  have hb2 := hb1.alloc hb1.size (.cells o.cells.toArray 37)
  have ha1 := heap_alloc_new w (.cells #[tp T, tp R] 27)
  have ho2 := heap_alloc_new (w.alloc (.cells #[tp T, tp R] 27)) (.cells o.cells.toArray 37)
  have e2 : (w.alloc (.cells #[tp T, tp R] 27)).heap.size = w.heap.size + 1 := by simp
  rw [e2] at ho2
  have ha2 := (Below.heap_alloc _ (.cells o.cells.toArray 37) w.heap.size (by rw [e2]; omega)).trans ha1
  have HPr := hide ((good_pr T R).below h hb2)
  have HX := hide (ext_below (F := F) hb2)
  have HAF : Hid (¬ F w.heap.size ∧ ¬ F (w.heap.size + 1)) := hide ⟨fun e => by have := (good_pr T R).lt h _ e; omega, fun e => by have := (good_pr T R).lt h _ e; omega⟩
  have HA := hide ha2
  have HO := hide ho2
  have HK := hide hk
  clear hb1 hb2 ha1 ho2 ha2 e2 h hk
  go_enter Tryz.func8, Tryz.ntmps8
  go_upto_region 1 with fail
  show Code.wp _ _ _ _ ((w.alloc (.cells #[tp T, tp R] 27)).alloc (.cells o.cells.toArray 37))
  generalize (w.alloc (.cells #[tp T, tp R] 27)).alloc (.cells o.cells.toArray 37) = w2 at *
  generalize hA : w.heap.size = A at *
  generalize hB : A + 1 = B at *
  clear hA hB
  have c0 := ob_cell HO.out (j := 0) rfl
  rw [HK.out] at c0
  go_upto_region 12 with fail
  clear c0
  refine wp_region_held_drew (S := fun W : World => W.heap[A]? = some (.cells #[tp T, tp R] 27 (0, 0)) ∧ W.heap[B]? = some (.cells o.cells.toArray 37 (0, 0))) (by kernel_rfl) ⟨HA.out, HO.out⟩ (fun _ => ?_)
  generalize hw3 : w2.drew = w3
  have hb3 : Below w2.heap.size w2 w3 := by rw [← hw3]; exact below_drew _
  have HS3 : Hid (w3.heap[A]? = some (.cells #[tp T, tp R] 27 (0, 0)) ∧ w3.heap[B]? = some (.cells o.cells.toArray 37 (0, 0))) := hide (by rw [← hw3]; exact ⟨HA.out, HO.out⟩)
  have HPr3 := hide ((good_pr T R).below HPr.out hb3)
  have HX3 := hide (HX.out.trans (ext_below (F := F) hb3))
  clear hw3 hb3 HPr HX HA HO
  refine hd_take 0 (o := ⟨some 92, _, _, _, _, _⟩) (.pointer (some ⟨A, 0, none⟩)) (by kernel_rfl) (by kernel_rfl) (by kernel_rfl) rfl (by rfl) (fun W hSw => by go_simp) (fun _ _ _ h => h) HS3.out ?_
  simp only [Act.put, List.setIfInBounds_toArray, List.set_cons_zero, List.set_cons_succ]
  refine hd_take 1 (o := ⟨some 93, _, _, _, _, _⟩) (.pointer (some ⟨T, 0, none⟩)) (by kernel_rfl) (by kernel_rfl) (by kernel_rfl) rfl (by rfl) (fun W hSw => by have s1 := top_cell hSw.1; go_simp) (fun _ _ _ h => h) HS3.out ?_
  simp only [Act.put, List.setIfInBounds_toArray, List.set_cons_zero, List.set_cons_succ]
  refine hd_take 2 (o := ⟨some 94, _, _, _, _, _⟩) (.pointer (some ⟨B, 2, none⟩)) (by kernel_rfl) (by kernel_rfl) (by kernel_rfl) rfl (by rfl) (fun W hSw => by go_simp) (fun _ _ _ h => h) HS3.out ?_
  simp only [Act.put, List.setIfInBounds_toArray, List.set_cons_zero, List.set_cons_succ]
  refine hd_take 3 (o := ⟨some 95, _, _, _, _, _⟩) (.int .i64 o.e) (by kernel_rfl) (by kernel_rfl) (by kernel_rfl) rfl (by rfl) (fun W hSw => by have s1 := ob_cell hSw.2 (j := 2) rfl; go_simp) (fun _ _ _ h => h) HS3.out ?_
  simp only [Act.put, List.setIfInBounds_toArray, List.set_cons_zero, List.set_cons_succ]
  refine hd_take 4 (o := ⟨some 96, _, _, _, _, _⟩) (.pointer (some ⟨B, 5, none⟩)) (by kernel_rfl) (by kernel_rfl) (by kernel_rfl) rfl (by rfl) (fun W hSw => by go_simp) (fun _ _ _ h => h) HS3.out ?_
  simp only [Act.put, List.setIfInBounds_toArray, List.set_cons_zero, List.set_cons_succ]
  refine hd_take 5 (o := ⟨some 97, _, _, _, _, _⟩) (o.q.val) (by kernel_rfl) (by kernel_rfl) (by kernel_rfl) rfl (by rfl) (fun W hSw => by exact run_loadT Tryz.underlying30 rfl (qtL o.q) infoQ _ rfl ⟨B, 5, none⟩ rfl (ob_q hSw.2)) (fun _ _ _ h => h) HS3.out ?_
  simp only [Act.put, List.setIfInBounds_toArray, List.set_cons_zero, List.set_cons_succ]
  refine hd_take 7 (o := ⟨some 99, _, _, _, _, _⟩) (.pointer (some ⟨A, 1, none⟩)) (by kernel_rfl) (by kernel_rfl) (by kernel_rfl) rfl (by rfl) (fun W hSw => by go_simp) (fun _ _ _ h => h) HS3.out ?_
  simp only [Act.put, List.setIfInBounds_toArray, List.set_cons_zero, List.set_cons_succ]
  refine hd_take 8 (o := ⟨some 100, _, _, _, _, _⟩) (.pointer (some ⟨R, 0, none⟩)) (by kernel_rfl) (by kernel_rfl) (by kernel_rfl) rfl (by rfl) (fun W hSw => by have s1 := top_cell1 hSw.1; go_simp) (fun _ _ _ h => h) HS3.out ?_
  simp only [Act.put, List.setIfInBounds_toArray, List.set_cons_zero, List.set_cons_succ]
  refine hd_take 9 (o := ⟨some 101, _, _, _, _, _⟩) (.pointer (some ⟨B, 2, none⟩)) (by kernel_rfl) (by kernel_rfl) (by kernel_rfl) rfl (by rfl) (fun W hSw => by go_simp) (fun _ _ _ h => h) HS3.out ?_
  simp only [Act.put, List.setIfInBounds_toArray, List.set_cons_zero, List.set_cons_succ]
  refine hd_take 10 (o := ⟨some 102, _, _, _, _, _⟩) (.int .i64 o.e) (by kernel_rfl) (by kernel_rfl) (by kernel_rfl) rfl (by rfl) (fun W hSw => by have s1 := ob_cell hSw.2 (j := 2) rfl; go_simp) (fun _ _ _ h => h) HS3.out ?_
  simp only [Act.put, List.setIfInBounds_toArray, List.set_cons_zero, List.set_cons_succ]
  refine hd_take 11 (o := ⟨some 103, _, _, _, _, _⟩) (.pointer (some ⟨B, 5, none⟩)) (by kernel_rfl) (by kernel_rfl) (by kernel_rfl) rfl (by rfl) (fun W hSw => by go_simp) (fun _ _ _ h => h) HS3.out ?_
  simp only [Act.put, List.setIfInBounds_toArray, List.set_cons_zero, List.set_cons_succ]
  refine hd_take 12 (o := ⟨some 104, _, _, _, _, _⟩) (o.q.val) (by kernel_rfl) (by kernel_rfl) (by kernel_rfl) rfl (by rfl) (fun W hSw => by exact run_loadT Tryz.underlying30 rfl (qtL o.q) infoQ _ rfl ⟨B, 5, none⟩ rfl (ob_q hSw.2)) (fun _ _ _ h => h) HS3.out ?_
  simp only [Act.put, List.setIfInBounds_toArray, List.set_cons_zero, List.set_cons_succ]
  refine hd_call 6 (o := ⟨some 98, _, _, _, _, _⟩) (by kernel_rfl) rfl (by rfl) (fun K' hK => ?_)
  go_simp
  go_wp2_with (go_at_call 21; refine ((two_refund T R o.e o.q).run HPr3.out).mono ?_; rintro x w4 ⟨v, ⟨c, rfl⟩, rfl, hm, hn⟩)
  have HS4 : Hid (w4.heap[A]? = some (.cells #[tp T, tp R] 27 (0, 0)) ∧ w4.heap[B]? = some (.cells o.cells.toArray 37 (0, 0))) := hide ⟨(hm.block A (Array.getElem?_eq_some_iff.1 HS3.out.1).1 HAF.out.1).trans HS3.out.1, (hm.block B (Array.getElem?_eq_some_iff.1 HS3.out.2).1 HAF.out.2).trans HS3.out.2⟩
  have HN := hide (hn w4 (Below.refl _ _))
  clear hm hn HPr3
  refine hK _ _ HS4.out ?_
  clear hK K'
  try simp only [Act.put, List.setIfInBounds_toArray, List.set_cons_zero, List.set_cons_succ]
  refine hd_call 13 (o := ⟨some 105, _, _, _, _, _⟩) (by kernel_rfl) rfl (by rfl) (fun K' hK => ?_)
  go_simp
  go_wp2_with (go_at_call 22; refine HN.out.mono ?_; rintro y w5 ⟨rfl, F', hP, hX, -⟩)
  have HP5 := hide hP
  have HX5 := hide (HX3.out.trans hX)
  have HS5 : Hid (w5.heap[A]? = some (.cells #[tp T, tp R] 27 (0, 0)) ∧ w5.heap[B]? = some (.cells o.cells.toArray 37 (0, 0))) := hide ⟨(hX.mod.block A (Nat.lt_of_lt_of_le (Array.getElem?_eq_some_iff.1 HS3.out.1).1 (Nat.le_refl _)) HAF.out.1).trans HS3.out.1, (hX.mod.block B (Nat.lt_of_lt_of_le (Array.getElem?_eq_some_iff.1 HS3.out.2).1 (Nat.le_refl _)) HAF.out.2).trans HS3.out.2⟩
  clear hP hX HN
  refine hK _ _ HS5.out ?_
  clear hK K'
  try simp only [Act.put, List.setIfInBounds_toArray, List.set_cons_zero, List.set_cons_succ]
  refine hd_take 14 (o := ⟨some 106, _, _, _, _, _⟩) (.bool true) (by kernel_rfl) (by kernel_rfl) (by kernel_rfl) rfl (by rfl) (fun W hSw => by go_simp) (fun _ _ _ h => h) HS5.out ?_
  simp only [Act.put, List.setIfInBounds_toArray, List.set_cons_zero, List.set_cons_succ]
  refine hd_take 15 (o := ⟨some 4, _, _, _, _, _⟩) (.bool true) (by kernel_rfl) (by kernel_rfl) (by kernel_rfl) rfl (by rfl) (fun W hSw => by go_simp) (fun _ _ _ h => h) HS5.out ?_
  simp only [Act.put, List.setIfInBounds_toArray, List.set_cons_zero, List.set_cons_succ]
  refine wpAnyH_done (by kernel_rfl) ?_ _
  clear HS3 HS4 HS5 HX3
  go_wp2
  go_ret
  exact ⟨rfl, F', HP5.out, HX5.out⟩
end Go.Proofs.YtbocpmcodlceoaaGreat
