import Derived.Test.YtoddadohmnaolaaMK
namespace Go.Proofs.Ytoddadohmnaolaa
open Go.ChangeShapes Go.WideShapes Go.ChangeAt Go.RowKit Go.Deep Go.Shelf Go.Great

/-- the blocks of 'set': the step, what was told, what is told -/
structure Sw (w0 W : World) (N : Nat) (os : List Value) (x y : Er) : Prop where
  o : W.heap[N]? = some (.cells os.toArray 47 (0, 0))
  hx : Eb W (N + 1) x
  hy : Eb W (N + 1 + 1) y
  b : Below N w0 W
section
variable {w0 W : World} {N : Nat} {os : List Value} {x y : Er}
theorem Sw.put (h : Sw w0 W N os x y) {j : Nat} {v : Value} {x' : Er} (hv : x.head.set j v = x'.head) : Sw w0 (W.setCell ⟨N + 1, j, none⟩ v) N os x' y := by
  refine ⟨?_, ⟨?_⟩, ⟨?_⟩, h.b.setCell (p := ⟨N + 1, j, none⟩) (show N ≤ N + 1 by omega) v⟩
  · rw [heap_setCell_other _ _ _ _ (show N ≠ N + 1 by omega)]; exact h.o
  · rw [heap_setCell_same _ _ _ _ _ v h.hx.out, List.setIfInBounds_toArray, hv]
  · rw [heap_setCell_other _ _ _ _ (show N + 1 + 1 ≠ N + 1 by omega)]; exact h.hy.out
theorem Sw.puts (h : Sw w0 W N os x y) {j : Nat} {vs : List Value} {x' : Er} (hv : setsL x.head j vs = x'.head) : Sw w0 (W.setCells (N + 1) j vs) N os x' y := by
  refine ⟨?_, ⟨?_⟩, ⟨?_⟩, below_setCells h.b (show N ≤ N + 1 by omega) j vs⟩
  · rw [heap_setCells_other _ _ (by omega)]; exact h.o
  · rw [heap_setCells_row (N + 1) _ vs j W _ h.hx.out, hv]
  · rw [heap_setCells_other _ _ (by omega)]; exact h.hy.out
theorem Sw.cell (h : Sw w0 W N os x y) {j : Nat} {v : Value} (hv : os[j]? = some v) : W.cell? ⟨N, j, none⟩ = some v := by
  rw [cell_of_row _ _ _ _ _ _ h.o]; simpa using hv
end
theorem add_off (b o j : Nat) : (⟨b, o, none⟩ : Addr).add j = ⟨b, o + j, none⟩ := by simp [Addr.add]
def regL (g : Nat → Nat) (pc : Nat) : List Value := [.int .u32 (g 0 : Nat), .int .u32 (g 1 : Nat), .int .u32 (g 2 : Nat), .int .u32 (g 3 : Nat), .int .u32 (g 4 : Nat), .int .u32 (g 5 : Nat), .int .u32 (g 6 : Nat), .int .u32 (g 7 : Nat), .int .u32 (pc : Nat)]
theorem regL_one (g : Nat → Nat) (pc : Nat) : ∀ u ∈ regL g pc, u.oneCell' = true := by
  intro u hu
  simp [regL] at hu
  rcases hu with rfl | rfl | rfl | rfl | rfl | rfl | rfl | rfl | rfl <;> rfl
def qtL (q : Qt) : List Value := [.int .i64 q.f, .int .i64 q.e, .int .i64 q.x]
theorem qtL_one (q : Qt) : ∀ u ∈ qtL q, u.oneCell' = true := by
  intro u hu
  simp [qtL] at hu
  rcases hu with rfl | rfl | rfl <;> rfl
def opL (kd t e n m : Int) (q : Qt) (g : Nat → Nat) (pc : Nat) (on : Bool) : List Value := [.int .i64 kd, .int .i64 t, .int .i64 e, .int .i64 n, .int .i64 m, .int .i64 q.f, .int .i64 q.e, .int .i64 q.x, .int .u32 (g 0 : Nat), .int .u32 (g 1 : Nat), .int .u32 (g 2 : Nat), .int .u32 (g 3 : Nat), .int .u32 (g 4 : Nat), .int .u32 (g 5 : Nat), .int .u32 (g 6 : Nat), .int .u32 (g 7 : Nat), .int .u32 (pc : Nat), .bool on]
theorem infoRegs : (Try.prog.info? 33).map (·.size) = some 9 := by kernel_rfl
theorem infoQt : (Try.prog.info? 39).map (·.size) = some 3 := by kernel_rfl
set_option maxRecDepth 100000 in
set_option maxHeartbeats 12800000 in
theorem set_any (w : World) (kd t e n m : Int) (q : Qt) (g : Nat → Nat) (pc : Nat) (on : Bool) (x y : Er) (hh : (sx kd n m g pc on x y).head = y.head) :
    Calls Try.prog 30 #[.agg #[.int .i64 kd, .int .i64 t, .int .i64 e, .int .i64 n, .int .i64 m, .int .i64 q.f, .int .i64 q.e, .int .i64 q.x, .int .u32 (g 0 : Nat), .int .u32 (g 1 : Nat), .int .u32 (g 2 : Nat), .int .u32 (g 3 : Nat), .int .u32 (g 4 : Nat), .int .u32 (g 5 : Nat), .int .u32 (g 6 : Nat), .int .u32 (g 7 : Nat), .int .u32 (pc : Nat), .bool on], .agg x.head.toArray, .agg y.head.toArray] w fun r w' => r = .returned (.bool true) ∧ Below w.heap.size w w' := by
  have HH := hide hh
  clear hh
  obtain ⟨os, hos⟩ : ∃ os, os = opL kd t e n m q g pc on := ⟨_, rfl⟩
  rw [show (#[.int .i64 kd, .int .i64 t, .int .i64 e, .int .i64 n, .int .i64 m, .int .i64 q.f, .int .i64 q.e, .int .i64 q.x, .int .u32 (g 0 : Nat), .int .u32 (g 1 : Nat), .int .u32 (g 2 : Nat), .int .u32 (g 3 : Nat), .int .u32 (g 4 : Nat), .int .u32 (g 5 : Nat), .int .u32 (g 6 : Nat), .int .u32 (g 7 : Nat), .int .u32 (pc : Nat), .bool on] : Array Value) = os.toArray by rw [hos]; rfl]
  have HO := hide hos
  clear hos
  have hb1 := (Below.refl w.heap.size w).alloc (Nat.le_refl _) (.cells os.toArray 47)
  have a1 := heap_alloc_new w (.cells os.toArray 47)
  have hn1 : (w.alloc (.cells os.toArray 47)).heap.size = w.heap.size + 1 := by simp
  have hb2 := hb1.alloc (by simp) (.cells x.head.toArray 41)
  have a2 := heap_alloc_new (w.alloc (.cells os.toArray 47)) (.cells x.head.toArray 41)
  have hn2 : ((w.alloc (.cells os.toArray 47)).alloc (.cells x.head.toArray 41)).heap.size = w.heap.size + 2 := by simp
  have hb3 := hb2.alloc (by rw [hn2]; omega) (.cells y.head.toArray 41)
  have a3 := heap_alloc_new ((w.alloc (.cells os.toArray 47)).alloc (.cells x.head.toArray 41)) (.cells y.head.toArray 41)
  rw [hn2] at a3
  rw [hn1] at a2
  have b2 : (((w.alloc (.cells os.toArray 47)).alloc (.cells x.head.toArray 41)).alloc (.cells y.head.toArray 41)).heap[w.heap.size + 1]? = some (.cells x.head.toArray 41 (0, 0)) := by rw [Below.heap_alloc _ _ _ (by rw [hn2]; omega)]; exact a2
  have b1 : (((w.alloc (.cells os.toArray 47)).alloc (.cells x.head.toArray 41)).alloc (.cells y.head.toArray 41)).heap[w.heap.size]? = some (.cells os.toArray 47 (0, 0)) := by rw [Below.heap_alloc _ _ _ (by rw [hn2]; omega), Below.heap_alloc _ _ _ (by rw [hn1]; omega)]; exact a1
  have HW := hide (show Sw w _ w.heap.size os x y from ⟨b1, ⟨b2⟩, ⟨a3⟩, hb3⟩)
  clear hb1 a1 hb2 a2 hb3 a3 b1 b2 hn1 hn2
  go_enter Try.func30, Try.ntmps30
  go_upto_region 1 with fail
  generalize ((w.alloc (.cells os.toArray 47)).alloc (.cells x.head.toArray 41)).alloc (.cells y.head.toArray 41) = W at *
  obtain ⟨N, hN⟩ : ∃ N, N = w.heap.size := ⟨_, rfl⟩
  rw [← hN] at HW ⊢
  have HN := hide hN
  clear hN
  have c0 : W.cell? ⟨N, 0, none⟩ = some (.int .i64 kd) := HW.out.cell (by rw [HO.out]; rfl)
  have c3 : W.cell? ⟨N, 3, none⟩ = some (.int .i64 n) := HW.out.cell (by rw [HO.out]; rfl)
  have c4 : W.cell? ⟨N, 4, none⟩ = some (.int .i64 m) := HW.out.cell (by rw [HO.out]; rfl)
  have c17 : W.cell? ⟨N, 17, none⟩ = some (.bool on) := HW.out.cell (by rw [HO.out]; rfl)
  have x2 : W.cell? ⟨N + 1, 2, none⟩ = some (.int .i64 x.st) := HW.out.hx.get rfl
  have f2 : W.frozen? ⟨N + 1, 2, none⟩ = false := HW.out.hx.frz 2
  have x4 : W.cell? ⟨N + 1, 4, none⟩ = some (.int .i64 x.bi) := HW.out.hx.get rfl
  have f4 : W.frozen? ⟨N + 1, 4, none⟩ = false := HW.out.hx.frz 4
  have x5 : W.cell? ⟨N + 1, 5, none⟩ = some (.bool x.fz) := HW.out.hx.get rfl
  have f5 : W.frozen? ⟨N + 1, 5, none⟩ = false := HW.out.hx.frz 5
  by_cases k5 : kd = 5
  · subst k5
    have HC8 : Hid (∀ (j : Nat) (v : Value), (regL g pc)[j]? = some v → W.cell? ((⟨N, 8, none⟩ : Addr).add j) = some v) := hide (fun j v hv => by
      have h9 : W.cell? ⟨N, 8 + j, none⟩ = some v := HW.out.cell (by
        rw [HO.out]
        show ([.int .i64 5, .int .i64 t, .int .i64 e, .int .i64 n, .int .i64 m, .int .i64 q.f, .int .i64 q.e, .int .i64 q.x] ++ (regL g pc ++ [.bool on]))[8 + j]? = some v
        rw [List.getElem?_append_right (by simp), List.getElem?_append_left (by have := (List.getElem?_eq_some_iff.1 hv).1; simpa using this)]
        simpa using hv)
      rw [add_off]; exact h9)
    have HW2 := hide (HW.out.puts (j := 6) (vs := regL g pc) (x' := { x with rg := g, pc := pc }) rfl)
    go_upto_region 22 with (first
      | (refine loadT Try.underlying33 rfl (regL g pc) infoRegs rfl _ rfl ⟨N, 8, none⟩ rfl HC8.out ?_)
      | (refine storeT (regL g pc) infoRegs (regL_one g pc) rfl _ _ rfl (N + 1) 6 rfl rfl x.head HW.out.hx.out (by rw [head_len]; exact (by decide : 6 + 9 ≤ 21)) ?_; generalize W.setCells (N + 1) 6 (regL g pc) = W2 at *))
    clear c0 c3 c4 c17 x2 x4 x5 f2 f4 f5 HW HC8
    have HW := HW2
    clear HW2
    have HX := hide HW.out.hx
    have HY := hide HW.out.hy
    have HB := hide HW.out.b
    have hE : ({ x with rg := g, pc := pc } : Er).head = y.head := HH.out
    have HE := hide hE
    clear hE
    go_wp2_with (first
      | (refine loadE y rfl _ rfl ⟨N + 1, 0, none⟩ rfl (fun j v hv => HX.out.hcell j v (by rw [HE.out]; exact hv)) ?_)
      | (refine loadE y rfl _ rfl ⟨N + 1 + 1, 0, none⟩ rfl (fun j v hv => HY.out.hcell j v hv) ?_)
      | (refine eqlT y.head.toArray (se_env 9996 y) (by kernel_rfl) rfl _ _ rfl rfl rfl ?_))
    go_ret
    exact ⟨rfl, by rw [HN.out] at HB; exact HB.out⟩
  by_cases k6 : kd = 6
  · subst k6
    by_cases hc : (0 ≤ n ∧ n ≤ 4) ∧ (0 ≤ m ∧ m ≤ 4294967295)
    · obtain ⟨⟨n0, n1⟩, m0, m1⟩ := hc
      have hH : ({ x with st := n, co := m } : Er).head = y.head := by
        have := HH.out
        simp only [sx] at this
        rw [if_neg (by omega), if_pos trivial, if_pos ⟨⟨n0, n1⟩, m0, m1⟩] at this
        exact this
      have HH2 := hide hH
      clear hH HH
      have HH := HH2
      clear HH2
      have HW1 := hide (HW.out.put (j := 2) (v := .int .i64 n) (x' := { x with st := n }) rfl)
      go_upto_region 7 with fail
      clear c0 c3 c4 c17 x2 x4 x5 f2 f4 f5 HW
      generalize W.setCell ⟨N + 1, 2, none⟩ (.int .i64 n) = W1 at *
      have c4 : W1.cell? ⟨N, 4, none⟩ = some (.int .i64 m) := HW1.out.cell (by rw [HO.out]; rfl)
      have x3 : W1.cell? ⟨N + 1, 3, none⟩ = some (.int .i64 x.co) := HW1.out.hx.get rfl
      have f3 : W1.frozen? ⟨N + 1, 3, none⟩ = false := HW1.out.hx.frz 3
      have HW := hide (HW1.out.put (j := 3) (v := .int .i64 m) (x' := { x with st := n, co := m }) rfl)
      go_upto_region 22 with fail
      clear c4 x3 f3 HW1
      generalize W1.setCell ⟨N + 1, 3, none⟩ (.int .i64 m) = W2 at *
      have HX := hide HW.out.hx
      have HY := hide HW.out.hy
      have HB := hide HW.out.b
      have HE := HH
      go_wp2_with (first
        | (refine loadE y rfl _ rfl ⟨N + 1, 0, none⟩ rfl (fun j v hv => HX.out.hcell j v (by rw [HE.out]; exact hv)) ?_)
        | (refine loadE y rfl _ rfl ⟨N + 1 + 1, 0, none⟩ rfl (fun j v hv => HY.out.hcell j v hv) ?_)
        | (refine eqlT y.head.toArray (se_env 9996 y) (by kernel_rfl) rfl _ _ rfl rfl rfl ?_))
      go_ret
      exact ⟨rfl, by rw [HN.out] at HB; exact HB.out⟩
    · have hH : x.head = y.head := by
        have := HH.out
        simp only [sx] at this
        rw [if_neg (by omega), if_pos trivial, if_neg hc] at this
        exact this
      have HH2 := hide hH
      clear hH HH
      have HH := HH2
      clear HH2
      by_cases n0 : 0 ≤ n
      · by_cases n1 : n ≤ 4
        · by_cases m0 : 0 ≤ m
          · have m1 : ¬ m ≤ 4294967295 := fun h => hc ⟨⟨n0, n1⟩, m0, h⟩
            clear hc
            go_upto_region 22 with fail
            clear c0 c3 c4 c17 x2 x4 x5 f2 f4 f5
            have HX := hide HW.out.hx
            have HY := hide HW.out.hy
            have HB := hide HW.out.b
            have HE := HH
            go_wp2_with (first
              | (refine loadE y rfl _ rfl ⟨N + 1, 0, none⟩ rfl (fun j v hv => HX.out.hcell j v (by rw [HE.out]; exact hv)) ?_)
              | (refine loadE y rfl _ rfl ⟨N + 1 + 1, 0, none⟩ rfl (fun j v hv => HY.out.hcell j v hv) ?_)
              | (refine eqlT y.head.toArray (se_env 9996 y) (by kernel_rfl) rfl _ _ rfl rfl rfl ?_))
            go_ret
            exact ⟨rfl, by rw [HN.out] at HB; exact HB.out⟩
          · clear hc
            go_upto_region 22 with fail
            clear c0 c3 c4 c17 x2 x4 x5 f2 f4 f5
            have HX := hide HW.out.hx
            have HY := hide HW.out.hy
            have HB := hide HW.out.b
            have HE := HH
            go_wp2_with (first
              | (refine loadE y rfl _ rfl ⟨N + 1, 0, none⟩ rfl (fun j v hv => HX.out.hcell j v (by rw [HE.out]; exact hv)) ?_)
              | (refine loadE y rfl _ rfl ⟨N + 1 + 1, 0, none⟩ rfl (fun j v hv => HY.out.hcell j v hv) ?_)
              | (refine eqlT y.head.toArray (se_env 9996 y) (by kernel_rfl) rfl _ _ rfl rfl rfl ?_))
            go_ret
            exact ⟨rfl, by rw [HN.out] at HB; exact HB.out⟩
        · clear hc
          go_upto_region 22 with fail
          clear c0 c3 c4 c17 x2 x4 x5 f2 f4 f5
          have HX := hide HW.out.hx
          have HY := hide HW.out.hy
          have HB := hide HW.out.b
          have HE := HH
          go_wp2_with (first
            | (refine loadE y rfl _ rfl ⟨N + 1, 0, none⟩ rfl (fun j v hv => HX.out.hcell j v (by rw [HE.out]; exact hv)) ?_)
            | (refine loadE y rfl _ rfl ⟨N + 1 + 1, 0, none⟩ rfl (fun j v hv => HY.out.hcell j v hv) ?_)
            | (refine eqlT y.head.toArray (se_env 9996 y) (by kernel_rfl) rfl _ _ rfl rfl rfl ?_))
          go_ret
          exact ⟨rfl, by rw [HN.out] at HB; exact HB.out⟩
      · clear hc
        go_upto_region 22 with fail
        clear c0 c3 c4 c17 x2 x4 x5 f2 f4 f5
        have HX := hide HW.out.hx
        have HY := hide HW.out.hy
        have HB := hide HW.out.b
        have HE := HH
        go_wp2_with (first
          | (refine loadE y rfl _ rfl ⟨N + 1, 0, none⟩ rfl (fun j v hv => HX.out.hcell j v (by rw [HE.out]; exact hv)) ?_)
          | (refine loadE y rfl _ rfl ⟨N + 1 + 1, 0, none⟩ rfl (fun j v hv => HY.out.hcell j v hv) ?_)
          | (refine eqlT y.head.toArray (se_env 9996 y) (by kernel_rfl) rfl _ _ rfl rfl rfl ?_))
        go_ret
        exact ⟨rfl, by rw [HN.out] at HB; exact HB.out⟩
  by_cases k7 : kd = 7
  · subst k7
    by_cases hc : 0 ≤ n ∧ n ≤ 4294967295
    · obtain ⟨n0, n1⟩ := hc
      have hH : ({ x with bi := n } : Er).head = y.head := by
        have := HH.out
        simp only [sx] at this
        rw [if_neg (by omega), if_neg (by omega), if_pos trivial, if_pos ⟨n0, n1⟩] at this
        exact this
      have HH2 := hide hH
      clear hH HH
      have HH := HH2
      clear HH2
      have HW1 := hide (HW.out.put (j := 4) (v := .int .i64 n) (x' := { x with bi := n }) rfl)
      go_upto_region 22 with fail
      clear c0 c3 c4 c17 x2 x4 x5 f2 f4 f5 HW
      have HW := HW1
      clear HW1
      generalize W.setCell ⟨N + 1, 4, none⟩ (.int .i64 n) = W1 at *
      have HX := hide HW.out.hx
      have HY := hide HW.out.hy
      have HB := hide HW.out.b
      have HE := HH
      go_wp2_with (first
        | (refine loadE y rfl _ rfl ⟨N + 1, 0, none⟩ rfl (fun j v hv => HX.out.hcell j v (by rw [HE.out]; exact hv)) ?_)
        | (refine loadE y rfl _ rfl ⟨N + 1 + 1, 0, none⟩ rfl (fun j v hv => HY.out.hcell j v hv) ?_)
        | (refine eqlT y.head.toArray (se_env 9996 y) (by kernel_rfl) rfl _ _ rfl rfl rfl ?_))
      go_ret
      exact ⟨rfl, by rw [HN.out] at HB; exact HB.out⟩
    · have hH : x.head = y.head := by
        have := HH.out
        simp only [sx] at this
        rw [if_neg (by omega), if_neg (by omega), if_pos trivial, if_neg hc] at this
        exact this
      have HH2 := hide hH
      clear hH HH
      have HH := HH2
      clear HH2
      by_cases n0 : 0 ≤ n
      · have n1 : ¬ n ≤ 4294967295 := fun h => hc ⟨n0, h⟩
        clear hc
        go_upto_region 22 with fail
        clear c0 c3 c4 c17 x2 x4 x5 f2 f4 f5
        have HX := hide HW.out.hx
        have HY := hide HW.out.hy
        have HB := hide HW.out.b
        have HE := HH
        go_wp2_with (first
          | (refine loadE y rfl _ rfl ⟨N + 1, 0, none⟩ rfl (fun j v hv => HX.out.hcell j v (by rw [HE.out]; exact hv)) ?_)
          | (refine loadE y rfl _ rfl ⟨N + 1 + 1, 0, none⟩ rfl (fun j v hv => HY.out.hcell j v hv) ?_)
          | (refine eqlT y.head.toArray (se_env 9996 y) (by kernel_rfl) rfl _ _ rfl rfl rfl ?_))
        go_ret
        exact ⟨rfl, by rw [HN.out] at HB; exact HB.out⟩
      · clear hc
        go_upto_region 22 with fail
        clear c0 c3 c4 c17 x2 x4 x5 f2 f4 f5
        have HX := hide HW.out.hx
        have HY := hide HW.out.hy
        have HB := hide HW.out.b
        have HE := HH
        go_wp2_with (first
          | (refine loadE y rfl _ rfl ⟨N + 1, 0, none⟩ rfl (fun j v hv => HX.out.hcell j v (by rw [HE.out]; exact hv)) ?_)
          | (refine loadE y rfl _ rfl ⟨N + 1 + 1, 0, none⟩ rfl (fun j v hv => HY.out.hcell j v hv) ?_)
          | (refine eqlT y.head.toArray (se_env 9996 y) (by kernel_rfl) rfl _ _ rfl rfl rfl ?_))
        go_ret
        exact ⟨rfl, by rw [HN.out] at HB; exact HB.out⟩
  by_cases k10 : kd = 10
  · subst k10
    have HW1 := hide (HW.out.put (j := 5) (v := .bool on) (x' := { x with fz := on }) rfl)
    go_upto_region 22 with fail
    clear c0 c3 c4 c17 x2 x4 x5 f2 f4 f5 HW
    have HW := HW1
    clear HW1
    generalize W.setCell ⟨N + 1, 5, none⟩ (.bool on) = W1 at *
    have HX := hide HW.out.hx
    have HY := hide HW.out.hy
    have HB := hide HW.out.b
    have hE : ({ x with fz := on } : Er).head = y.head := HH.out
    have HE := hide hE
    clear hE
    go_wp2_with (first
      | (refine loadE y rfl _ rfl ⟨N + 1, 0, none⟩ rfl (fun j v hv => HX.out.hcell j v (by rw [HE.out]; exact hv)) ?_)
      | (refine loadE y rfl _ rfl ⟨N + 1 + 1, 0, none⟩ rfl (fun j v hv => HY.out.hcell j v hv) ?_)
      | (refine eqlT y.head.toArray (se_env 9996 y) (by kernel_rfl) rfl _ _ rfl rfl rfl ?_))
    go_ret
    exact ⟨rfl, by rw [HN.out] at HB; exact HB.out⟩
  by_cases k11 : kd = 11 ∨ kd = 12
  · have hH : ({ x with lf := y.lf } : Er).head = y.head := by
      have := HH.out
      unfold sx at this
      rw [if_neg k5, if_neg k6, if_neg k7, if_neg k10, if_pos k11] at this
      exact this
    have HH2 := hide hH
    clear hH HH
    have HH := HH2
    clear HH2
    have HCq : Hid (∀ (j : Nat) (v : Value), (qtL y.lf)[j]? = some v → W.cell? ((⟨N + 1 + 1, 18, none⟩ : Addr).add j) = some v) := hide (fun j v hv => by
      have h9 : W.cell? ⟨N + 1 + 1, 18 + j, none⟩ = some v := HW.out.hy.get (by
        have hj : j < 3 := (List.getElem?_eq_some_iff.1 hv).1
        rw [show y.head = y.head.take 18 ++ qtL y.lf from rfl, List.getElem?_append_right (by simp [Er.head])]
        simpa [Er.head] using hv)
      rw [add_off]; exact h9)
    have HW2 := hide (HW.out.puts (j := 18) (vs := qtL y.lf) (x' := { x with lf := y.lf }) rfl)
    rcases k11 with k11 | k11
    · subst k11
      clear k5 k6 k7 k10
      go_upto_region 22 with (first
        | (refine loadT Try.underlying39 rfl (qtL y.lf) infoQt rfl _ rfl ⟨N + 1 + 1, 18, none⟩ rfl HCq.out ?_)
        | (refine storeT (qtL y.lf) infoQt (qtL_one y.lf) rfl _ _ rfl (N + 1) 18 rfl rfl x.head HW.out.hx.out (by rw [head_len]; exact (by decide : 18 + 3 ≤ 21)) ?_; generalize W.setCells (N + 1) 18 (qtL y.lf) = W2 at *))
      clear c0 c3 c4 c17 x2 x4 x5 f2 f4 f5 HW HCq
      have HW := HW2
      clear HW2
      have HX := hide HW.out.hx
      have HY := hide HW.out.hy
      have HB := hide HW.out.b
      have HE := HH
      go_wp2_with (first
        | (refine loadE y rfl _ rfl ⟨N + 1, 0, none⟩ rfl (fun j v hv => HX.out.hcell j v (by rw [HE.out]; exact hv)) ?_)
        | (refine loadE y rfl _ rfl ⟨N + 1 + 1, 0, none⟩ rfl (fun j v hv => HY.out.hcell j v hv) ?_)
        | (refine eqlT y.head.toArray (se_env 9996 y) (by kernel_rfl) rfl _ _ rfl rfl rfl ?_))
      go_ret
      exact ⟨rfl, by rw [HN.out] at HB; exact HB.out⟩
    · subst k11
      clear k5 k6 k7 k10
      go_upto_region 22 with (first
        | (refine loadT Try.underlying39 rfl (qtL y.lf) infoQt rfl _ rfl ⟨N + 1 + 1, 18, none⟩ rfl HCq.out ?_)
        | (refine storeT (qtL y.lf) infoQt (qtL_one y.lf) rfl _ _ rfl (N + 1) 18 rfl rfl x.head HW.out.hx.out (by rw [head_len]; exact (by decide : 18 + 3 ≤ 21)) ?_; generalize W.setCells (N + 1) 18 (qtL y.lf) = W2 at *))
      clear c0 c3 c4 c17 x2 x4 x5 f2 f4 f5 HW HCq
      have HW := HW2
      clear HW2
      have HX := hide HW.out.hx
      have HY := hide HW.out.hy
      have HB := hide HW.out.b
      have HE := HH
      go_wp2_with (first
        | (refine loadE y rfl _ rfl ⟨N + 1, 0, none⟩ rfl (fun j v hv => HX.out.hcell j v (by rw [HE.out]; exact hv)) ?_)
        | (refine loadE y rfl _ rfl ⟨N + 1 + 1, 0, none⟩ rfl (fun j v hv => HY.out.hcell j v hv) ?_)
        | (refine eqlT y.head.toArray (se_env 9996 y) (by kernel_rfl) rfl _ _ rfl rfl rfl ?_))
      go_ret
      exact ⟨rfl, by rw [HN.out] at HB; exact HB.out⟩
  obtain ⟨k11, k12⟩ := not_or.1 k11
  by_cases k8 : kd = 8 ∨ kd = 9
  · have hH : ({ x with st := y.st, bi := y.bi, rg := fun i => if i = 0 then y.rg 0 else if i = 1 then y.rg 1 else x.rg i } : Er).head = y.head := by
      have := HH.out
      unfold sx at this
      rw [if_neg k5, if_neg k6, if_neg k7, if_neg k10, if_neg (by omega), if_pos k8] at this
      exact this
    have HH2 := hide hH
    clear hH HH
    have HH := HH2
    clear HH2
    have y2 : W.cell? ⟨N + 1 + 1, 2, none⟩ = some (.int .i64 y.st) := HW.out.hy.get rfl
    have HW1 := hide (HW.out.put (j := 2) (v := .int .i64 y.st) (x' := { x with st := y.st }) rfl)
    rcases k8 with k8 | k8
    · subst k8
      clear k5 k6 k7 k10 k11 k12
      go_upto_region 19 with fail
      clear c0 c3 c4 c17 x2 x4 x5 f2 f4 f5 y2 HW
      generalize W.setCell ⟨N + 1, 2, none⟩ (.int .i64 y.st) = W1 at *
      have y4 : W1.cell? ⟨N + 1 + 1, 4, none⟩ = some (.int .i64 y.bi) := HW1.out.hy.get rfl
      have x4 : W1.cell? ⟨N + 1, 4, none⟩ = some (.int .i64 x.bi) := HW1.out.hx.get rfl
      have f4 : W1.frozen? ⟨N + 1, 4, none⟩ = false := HW1.out.hx.frz 4
      have HW2 := hide (HW1.out.put (j := 4) (v := .int .i64 y.bi) (x' := { x with st := y.st, bi := y.bi }) rfl)
      go_upto_region 20 with fail
      clear x4 f4 y4 HW1
      generalize W1.setCell ⟨N + 1, 4, none⟩ (.int .i64 y.bi) = W2 at *
      have y6 : W2.cell? ⟨N + 1 + 1, 6, none⟩ = some (.int .u32 (y.rg 0 : Nat)) := HW2.out.hy.get rfl
      have x6 : W2.cell? ⟨N + 1, 6, none⟩ = some (.int .u32 (x.rg 0 : Nat)) := HW2.out.hx.get rfl
      have f6 : W2.frozen? ⟨N + 1, 6, none⟩ = false := HW2.out.hx.frz 6
      have HW3 := hide (HW2.out.put (j := 6) (v := .int .u32 (y.rg 0 : Nat)) (x' := { x with st := y.st, bi := y.bi, rg := fun i => if i = 0 then y.rg 0 else x.rg i }) rfl)
      go_upto_region 21 with fail
      clear x6 f6 y6 HW2
      generalize W2.setCell ⟨N + 1, 6, none⟩ (.int .u32 (y.rg 0 : Nat)) = W3 at *
      have y7 : W3.cell? ⟨N + 1 + 1, 7, none⟩ = some (.int .u32 (y.rg 1 : Nat)) := HW3.out.hy.get rfl
      have x7 : W3.cell? ⟨N + 1, 7, none⟩ = some (.int .u32 (x.rg 1 : Nat)) := HW3.out.hx.get rfl
      have f7 : W3.frozen? ⟨N + 1, 7, none⟩ = false := HW3.out.hx.frz 7
      have HW := hide (HW3.out.put (j := 7) (v := .int .u32 (y.rg 1 : Nat)) (x' := { x with st := y.st, bi := y.bi, rg := fun i => if i = 0 then y.rg 0 else if i = 1 then y.rg 1 else x.rg i }) rfl)
      go_upto_region 22 with fail
      clear x7 f7 y7 HW3
      generalize W3.setCell ⟨N + 1, 7, none⟩ (.int .u32 (y.rg 1 : Nat)) = W4 at *
      have HX := hide HW.out.hx
      have HY := hide HW.out.hy
      have HB := hide HW.out.b
      have hE : ({ x with st := y.st, bi := y.bi, rg := fun i => if i = 0 then y.rg 0 else if i = 1 then y.rg 1 else x.rg i } : Er).head = y.head := HH.out
      have HE := hide hE
      clear hE
      go_wp2_with (first
        | (refine loadE y rfl _ rfl ⟨N + 1, 0, none⟩ rfl (fun j v hv => HX.out.hcell j v (by rw [HE.out]; exact hv)) ?_)
        | (refine loadE y rfl _ rfl ⟨N + 1 + 1, 0, none⟩ rfl (fun j v hv => HY.out.hcell j v hv) ?_)
        | (refine eqlT y.head.toArray (se_env 9996 y) (by kernel_rfl) rfl _ _ rfl rfl rfl ?_))
      go_ret
      exact ⟨rfl, by rw [HN.out] at HB; exact HB.out⟩
    · subst k8
      clear k5 k6 k7 k10 k11 k12
      go_upto_region 19 with fail
      clear c0 c3 c4 c17 x2 x4 x5 f2 f4 f5 y2 HW
      generalize W.setCell ⟨N + 1, 2, none⟩ (.int .i64 y.st) = W1 at *
      have y4 : W1.cell? ⟨N + 1 + 1, 4, none⟩ = some (.int .i64 y.bi) := HW1.out.hy.get rfl
      have x4 : W1.cell? ⟨N + 1, 4, none⟩ = some (.int .i64 x.bi) := HW1.out.hx.get rfl
      have f4 : W1.frozen? ⟨N + 1, 4, none⟩ = false := HW1.out.hx.frz 4
      have HW2 := hide (HW1.out.put (j := 4) (v := .int .i64 y.bi) (x' := { x with st := y.st, bi := y.bi }) rfl)
      go_upto_region 20 with fail
      clear x4 f4 y4 HW1
      generalize W1.setCell ⟨N + 1, 4, none⟩ (.int .i64 y.bi) = W2 at *
      have y6 : W2.cell? ⟨N + 1 + 1, 6, none⟩ = some (.int .u32 (y.rg 0 : Nat)) := HW2.out.hy.get rfl
      have x6 : W2.cell? ⟨N + 1, 6, none⟩ = some (.int .u32 (x.rg 0 : Nat)) := HW2.out.hx.get rfl
      have f6 : W2.frozen? ⟨N + 1, 6, none⟩ = false := HW2.out.hx.frz 6
      have HW3 := hide (HW2.out.put (j := 6) (v := .int .u32 (y.rg 0 : Nat)) (x' := { x with st := y.st, bi := y.bi, rg := fun i => if i = 0 then y.rg 0 else x.rg i }) rfl)
      go_upto_region 21 with fail
      clear x6 f6 y6 HW2
      generalize W2.setCell ⟨N + 1, 6, none⟩ (.int .u32 (y.rg 0 : Nat)) = W3 at *
      have y7 : W3.cell? ⟨N + 1 + 1, 7, none⟩ = some (.int .u32 (y.rg 1 : Nat)) := HW3.out.hy.get rfl
      have x7 : W3.cell? ⟨N + 1, 7, none⟩ = some (.int .u32 (x.rg 1 : Nat)) := HW3.out.hx.get rfl
      have f7 : W3.frozen? ⟨N + 1, 7, none⟩ = false := HW3.out.hx.frz 7
      have HW := hide (HW3.out.put (j := 7) (v := .int .u32 (y.rg 1 : Nat)) (x' := { x with st := y.st, bi := y.bi, rg := fun i => if i = 0 then y.rg 0 else if i = 1 then y.rg 1 else x.rg i }) rfl)
      go_upto_region 22 with fail
      clear x7 f7 y7 HW3
      generalize W3.setCell ⟨N + 1, 7, none⟩ (.int .u32 (y.rg 1 : Nat)) = W4 at *
      have HX := hide HW.out.hx
      have HY := hide HW.out.hy
      have HB := hide HW.out.b
      have hE : ({ x with st := y.st, bi := y.bi, rg := fun i => if i = 0 then y.rg 0 else if i = 1 then y.rg 1 else x.rg i } : Er).head = y.head := HH.out
      have HE := hide hE
      clear hE
      go_wp2_with (first
        | (refine loadE y rfl _ rfl ⟨N + 1, 0, none⟩ rfl (fun j v hv => HX.out.hcell j v (by rw [HE.out]; exact hv)) ?_)
        | (refine loadE y rfl _ rfl ⟨N + 1 + 1, 0, none⟩ rfl (fun j v hv => HY.out.hcell j v hv) ?_)
        | (refine eqlT y.head.toArray (se_env 9996 y) (by kernel_rfl) rfl _ _ rfl rfl rfl ?_))
      go_ret
      exact ⟨rfl, by rw [HN.out] at HB; exact HB.out⟩
  obtain ⟨k8, k9⟩ := not_or.1 k8
  have hH : x.head = y.head := by
    have := HH.out
    unfold sx at this
    rw [if_neg k5, if_neg k6, if_neg k7, if_neg k10, if_neg (by omega), if_neg (by omega)] at this
    exact this
  have HH2 := hide hH
  clear hH HH
  have HH := HH2
  clear HH2
  go_upto_region 22 with fail
  clear c0 c3 c4 c17 x2 x4 x5 f2 f4 f5
  have HX := hide HW.out.hx
  have HY := hide HW.out.hy
  have HB := hide HW.out.b
  have hE : x.head = y.head := HH.out
  have HE := hide hE
  clear hE
  go_wp2_with (first
    | (refine loadE y rfl _ rfl ⟨N + 1, 0, none⟩ rfl (fun j v hv => HX.out.hcell j v (by rw [HE.out]; exact hv)) ?_)
    | (refine loadE y rfl _ rfl ⟨N + 1 + 1, 0, none⟩ rfl (fun j v hv => HY.out.hcell j v hv) ?_)
    | (refine eqlT y.head.toArray (se_env 9996 y) (by kernel_rfl) rfl _ _ rfl rfl rfl ?_))
  go_ret
  exact ⟨rfl, by rw [HN.out] at HB; exact HB.out⟩
end Go.Proofs.Ytoddadohmnaolaa
