import Derived.Test.YtcbfolpeglfbcaaGC
namespace Go.Proofs.Ytcbfolpeglfbcaa
open Go.RowKit
/-- a step at block N -/
structure Ob (w : World) (N : Nat) (o : Ost) : Prop where
  out : w.heap[N]? = some (.cells o.cells.toArray 31 (0, 0))
section
variable {w w' : World} {N : Nat} {o : Ost}
theorem Ob.get (h : Ob w N o) {j : Nat} {v : Value} (hv : o.cells[j]? = some v) : w.cell? ⟨N, j, none⟩ = some v := by
  rw [cell_of_row _ _ _ _ _ _ h.out]; simpa using hv
theorem Ob.lt (h : Ob w N o) : N < w.heap.size := (Array.getElem?_eq_some_iff.1 h.out).1
theorem Ob.below (h : Ob w N o) (hb : Below w.heap.size w w') : Ob w' N o := ⟨by rw [hb.block N h.lt]; exact h.out⟩
theorem Ob.mod (h : Ob w N o) {F : Nat → Prop} (hm : Mod F w w') (hF : ¬ F N) : Ob w' N o := ⟨by rw [hm.block N h.lt hF]; exact h.out⟩
theorem Ob.new (w : World) (o : Ost) : Ob (w.alloc (.cells o.cells.toArray 31)) w.heap.size o := ⟨heap_alloc_last _ _⟩
end
/-- three arguments laid into variables -/
structure Bx (w wr : World) (m m' : Nat → E) (o : Ost) : Prop where
  n0 : Sn wr w.heap.size m
  n1 : Sn wr (w.heap.size + 1) m'
  n2 : Ob wr (w.heap.size + 2) o
  b : Below w.heap.size w wr
theorem Bx.below {w wr w' : World} {m m' : Nat → E} {o : Ost} (h : Bx w wr m m' o) (hb : Below wr.heap.size wr w') : Bx w w' m m' o :=
  ⟨h.n0.below hb, h.n1.below hb, h.n2.below hb, h.b.trans (hb.mono h.b.size)⟩
theorem Bx.new (w : World) (m m' : Nat → E) (o : Ost) : Bx w (((w.alloc (.cells (sc m).toArray 35)).alloc (.cells (sc m').toArray 35)).alloc (.cells o.cells.toArray 31)) m m' o := by
  have b1 : Below w.heap.size w (w.alloc (.cells (sc m).toArray 35)) := (Below.refl _ _).alloc (Nat.le_refl _) _
  have n0 := Sn.new w m
  have b2 : Below (w.alloc (.cells (sc m).toArray 35)).heap.size (w.alloc (.cells (sc m).toArray 35)) ((w.alloc (.cells (sc m).toArray 35)).alloc (.cells (sc m').toArray 35)) := (Below.refl _ _).alloc (Nat.le_refl _) _
  have n1 := Sn.new (w.alloc (.cells (sc m).toArray 35)) m'
  have b3 : Below ((w.alloc (.cells (sc m).toArray 35)).alloc (.cells (sc m').toArray 35)).heap.size ((w.alloc (.cells (sc m).toArray 35)).alloc (.cells (sc m').toArray 35)) (((w.alloc (.cells (sc m).toArray 35)).alloc (.cells (sc m').toArray 35)).alloc (.cells o.cells.toArray 31)) := (Below.refl _ _).alloc (Nat.le_refl _) _
  have n2 := Ob.new ((w.alloc (.cells (sc m).toArray 35)).alloc (.cells (sc m').toArray 35)) o
  have e1 : (w.alloc (.cells (sc m).toArray 35)).heap.size = w.heap.size + 1 := by simp
  have e2 : ((w.alloc (.cells (sc m).toArray 35)).alloc (.cells (sc m').toArray 35)).heap.size = w.heap.size + 2 := by simp
  have n1' := n1.below b3
  rw [e1] at n1'
  rw [e2] at n2
  exact ⟨(n0.below b2).below b3, n1', n2, (b1.trans (b2.mono b1.size)).trans (b3.mono ((b1.trans (b2.mono b1.size)).size))⟩
section
variable (w : World) (m m' : Nat → E) (o : Ost)
set_option maxRecDepth 100000 in
set_option maxHeartbeats 1600000 in
theorem stepped_err (c : Int) (hc : c ≠ 0) :
    Calls Try.prog 14 #[.agg (sc m).toArray, .agg (sc m').toArray, .agg o.cells.toArray, .int .i64 c] w fun e w' => e = .returned (.bool (same m m')) ∧ Below w.heap.size w w' := by
  have HX := hide (Bx.new w m m' o)
  have hi : (Try.prog.info? 35).map (·.size) = some (sc m).length := by rw [sc_len]; exact info35
  have hi' : (Try.prog.info? 35).map (·.size) = some (sc m').length := by rw [sc_len]; exact info35
  have hc' : ¬ c = 0 := hc
  go_enter Try.func14, Try.ntmps14
  go_upto_region 1 with fail
  generalize ((w.alloc (.cells (sc m).toArray 35)).alloc (.cells (sc m').toArray 35)).alloc (.cells o.cells.toArray 31) = w0 at *
  have he := eq35 m m'
  obtain ⟨N, hN⟩ : ∃ N, w.heap.size = N := ⟨_, rfl⟩
  rw [hN]
  go_wp2_with (first
    | refine load_st 35 _ Try.underlying35 rfl (sc m) hi ?hwA _ rfl ⟨N, 0, none⟩ rfl (fun j v hv => by rw [add0, ← hN]; exact HX.out.n0.get hv) ?_
    | refine load_st 35 _ Try.underlying35 rfl (sc m') hi' ?hwB _ rfl ⟨N + 1, 0, none⟩ rfl (fun j v hv => by rw [add0, ← hN]; exact HX.out.n1.get hv) ?_)
  go_ret
  exact ⟨rfl, HX.out.b⟩
set_option maxRecDepth 100000 in
set_option maxHeartbeats 3200000 in
theorem stepped_1 (hk0 : o.kd = 1) (v s : Nat) (hv : o.v = v) (hs : o.s = s) (hn : m v = none) (hy : m' v = some (s, o.b)) (ho : ∀ k, k < 16 → k ≠ v → m' k = m k) :
    Calls Try.prog 14 #[.agg (sc m).toArray, .agg (sc m').toArray, .agg o.cells.toArray, .int .i64 0] w fun e w' => e = .returned (.bool true) ∧ Below w.heap.size w w' := by
  have HK := hide hk0
  clear hk0
  have HX := hide (Bx.new w m m' o)
  go_enter Try.func14, Try.ntmps14
  go_upto_region 1 with fail
  generalize ((w.alloc (.cells (sc m).toArray 35)).alloc (.cells (sc m').toArray 35)).alloc (.cells o.cells.toArray 31) = w0 at *
  obtain ⟨N, hN⟩ : ∃ N, w.heap.size = N := ⟨_, rfl⟩
  rw [hN]
  go_upto_region 4 with fail
  go_loopw [9] (fun i wr => ∃ k : Nat, k ≤ 16 ∧ i = .int .i64 (k : Int) ∧ Bx w wr m m' o) (fun i _ => 16 - (intOf i).toNat)
  case atStart => exact ⟨0, by omega, rfl, HX.out⟩
  case round =>
    obtain ⟨k, hk, rfl, hX⟩ := hrel
    clear HX
    by_cases hlt : k < 16
    · have hd : decide ((k : Int) < 16) = true := by simp; omega
      have HX := hide hX
      have c0 := (hX.n0.c hlt).1
      have c1 := (hX.n0.c hlt).2.1
      have c2 := (hX.n0.c hlt).2.2
      have i0 := fun ob => ((hX.n1.below ((Below.refl _ _).alloc (Nat.le_refl _) ob)).c hlt).1
      have i1 := fun ob => ((hX.n1.below ((Below.refl _ _).alloc (Nat.le_refl _) ob)).c hlt).2.1
      have i2 := fun ob => ((hX.n1.below ((Below.refl _ _).alloc (Nat.le_refl _) ob)).c hlt).2.2
      have o0 : ∀ ob, (wr.alloc ob).cell? ⟨w.heap.size + 2, 0, none⟩ = some (.int .i64 o.kd) := fun ob => (hX.n2.below ((Below.refl _ _).alloc (Nat.le_refl _) ob)).get rfl
      have o2 : ∀ ob, (wr.alloc ob).cell? ⟨w.heap.size + 2, 2, none⟩ = some (.int .i64 o.v) := fun ob => (hX.n2.below ((Below.refl _ _).alloc (Nat.le_refl _) ob)).get rfl
      have o3 : ∀ ob, (wr.alloc ob).cell? ⟨w.heap.size + 2, 3, none⟩ = some (.int .i64 o.s) := fun ob => (hX.n2.below ((Below.refl _ _).alloc (Nat.le_refl _) ob)).get rfl
      have o4 : ∀ ob, (wr.alloc ob).cell? ⟨w.heap.size + 2, 4, none⟩ = some (.bool o.b) := fun ob => (hX.n2.below ((Below.refl _ _).alloc (Nat.le_refl _) ob)).get rfl
      rw [hN] at c0 c1 c2 i0 i1 i2 o0 o2 o3 o4
      rw [HK.out] at o0
      clear hX
      by_cases e : k = v
      · subst e
        rw [hn] at c0 c1 c2
        have c0' : wr.cell? ⟨N, k * 3, none⟩ = some (.bool false) := c0
        have c1' : wr.cell? ⟨N, k * 3 + 1, none⟩ = some (.int .i64 0) := c1
        have c2' : wr.cell? ⟨N, k * 3 + 2, none⟩ = some (.bool false) := c2
        have i0' : ∀ ob, (wr.alloc ob).cell? ⟨N + 1, k * 3, none⟩ = some (.bool true) := fun ob => by rw [i0, hy]; rfl
        have i1' : ∀ ob, (wr.alloc ob).cell? ⟨N + 1, k * 3 + 1, none⟩ = some (.int .i64 (s : Int)) := fun ob => by rw [i1, hy]; rfl
        have i2' : ∀ ob, (wr.alloc ob).cell? ⟨N + 1, k * 3 + 2, none⟩ = some (.bool o.b) := fun ob => by rw [i2, hy]; rfl
        rw [hv] at o2
        rw [hs] at o3
        clear c0 c1 c2 i0 i1 i2 hn hy ho hs
        generalize o.b = q at *
        go_upto_region 21 with fail
        go_region_held (fun W => W.cell? ⟨wr.heap.size, 0, none⟩ = some (.bool true) ∧ W.cell? ⟨wr.heap.size, 1, none⟩ = some (.int .i64 (s : Int)) ∧ W.cell? ⟨wr.heap.size, 2, none⟩ = some (.bool q) ∧ W.cell? ⟨N + 1, k * 3, none⟩ = some (.bool true) ∧ W.cell? ⟨N + 1, k * 3 + 1, none⟩ = some (.int .i64 (s : Int)) ∧ W.cell? ⟨N + 1, k * 3 + 2, none⟩ = some (.bool q)) (go_keep) (fail)
        rename_i hHeld
        have HY := hide (HX.out.below (((Below.refl wr.heap.size wr).alloc (Nat.le_refl _) (.cells #[.bool true, .int .i64 (s : Int), .bool q] 33)).drew))
        clear hHeld i0' i1' i2' o0 o2 o3 o4 HX
        go_wp2
        go_roundw
        case rel => exact ⟨k + 1, by omega, by go_num, HY.out⟩
        case measure => simp [intOf]; omega
      · have e2 : ((k : Int) == o.v) = false := by rw [hv]; simp; omega
        have he := ho k hlt e
        rw [he] at i0 i1 i2
        generalize (m k).isSome = p at *
        generalize ((sl (m k) : Nat) : Int) = z at *
        generalize wb (m k) = q at *
        go_upto_region 21 with fail
        go_region_held (fun W => W.cell? ⟨wr.heap.size, 0, none⟩ = some (.bool p) ∧ W.cell? ⟨wr.heap.size, 1, none⟩ = some (.int .i64 z) ∧ W.cell? ⟨wr.heap.size, 2, none⟩ = some (.bool q) ∧ W.cell? ⟨N + 1, k * 3, none⟩ = some (.bool p) ∧ W.cell? ⟨N + 1, k * 3 + 1, none⟩ = some (.int .i64 z) ∧ W.cell? ⟨N + 1, k * 3 + 2, none⟩ = some (.bool q)) (go_keep) (fail)
        rename_i hHeld
        have HY := hide (HX.out.below (((Below.refl wr.heap.size wr).alloc (Nat.le_refl _) (.cells #[.bool p, .int .i64 z, .bool q] 33)).drew))
        clear hHeld i0 i1 i2 o0 o2 o3 o4 HX
        go_wp2
        go_roundw
        case rel => exact ⟨k + 1, by omega, by go_num, HY.out⟩
        case measure => simp [intOf]; omega
    · have hd : decide ((k : Int) < 16) = false := by simp; omega
      have HB := hide hX.b
      clear hX
      go_wp2
      go_ret
      exact ⟨rfl, HB.out⟩
set_option maxRecDepth 100000 in
set_option maxHeartbeats 3200000 in
theorem stepped_2 (hk0 : o.kd = 2) (v : Nat) (hv : o.v = v) (x : Nat × Bool) (hn : m v = some x) (hy : m' v = none) (ho : ∀ k, k < 16 → k ≠ v → m' k = m k) :
    Calls Try.prog 14 #[.agg (sc m).toArray, .agg (sc m').toArray, .agg o.cells.toArray, .int .i64 0] w fun e w' => e = .returned (.bool true) ∧ Below w.heap.size w w' := by
  have HK := hide hk0
  clear hk0
  have HX := hide (Bx.new w m m' o)
  go_enter Try.func14, Try.ntmps14
  go_upto_region 1 with fail
  generalize ((w.alloc (.cells (sc m).toArray 35)).alloc (.cells (sc m').toArray 35)).alloc (.cells o.cells.toArray 31) = w0 at *
  obtain ⟨N, hN⟩ : ∃ N, w.heap.size = N := ⟨_, rfl⟩
  rw [hN]
  go_upto_region 4 with fail
  go_loopw [9] (fun i wr => ∃ k : Nat, k ≤ 16 ∧ i = .int .i64 (k : Int) ∧ Bx w wr m m' o) (fun i _ => 16 - (intOf i).toNat)
  case atStart => exact ⟨0, by omega, rfl, HX.out⟩
  case round =>
    obtain ⟨k, hk, rfl, hX⟩ := hrel
    clear HX
    by_cases hlt : k < 16
    · have hd : decide ((k : Int) < 16) = true := by simp; omega
      have HX := hide hX
      have c0 := (hX.n0.c hlt).1
      have c1 := (hX.n0.c hlt).2.1
      have c2 := (hX.n0.c hlt).2.2
      have i0 := fun ob => ((hX.n1.below ((Below.refl _ _).alloc (Nat.le_refl _) ob)).c hlt).1
      have i1 := fun ob => ((hX.n1.below ((Below.refl _ _).alloc (Nat.le_refl _) ob)).c hlt).2.1
      have i2 := fun ob => ((hX.n1.below ((Below.refl _ _).alloc (Nat.le_refl _) ob)).c hlt).2.2
      have o0 : ∀ ob, (wr.alloc ob).cell? ⟨w.heap.size + 2, 0, none⟩ = some (.int .i64 o.kd) := fun ob => (hX.n2.below ((Below.refl _ _).alloc (Nat.le_refl _) ob)).get rfl
      have o2 : ∀ ob, (wr.alloc ob).cell? ⟨w.heap.size + 2, 2, none⟩ = some (.int .i64 o.v) := fun ob => (hX.n2.below ((Below.refl _ _).alloc (Nat.le_refl _) ob)).get rfl
      have o3 : ∀ ob, (wr.alloc ob).cell? ⟨w.heap.size + 2, 3, none⟩ = some (.int .i64 o.s) := fun ob => (hX.n2.below ((Below.refl _ _).alloc (Nat.le_refl _) ob)).get rfl
      have o4 : ∀ ob, (wr.alloc ob).cell? ⟨w.heap.size + 2, 4, none⟩ = some (.bool o.b) := fun ob => (hX.n2.below ((Below.refl _ _).alloc (Nat.le_refl _) ob)).get rfl
      rw [hN] at c0 c1 c2 i0 i1 i2 o0 o2 o3 o4
      rw [HK.out] at o0
      clear hX
      by_cases e : k = v
      · subst e
        rw [hn] at c0 c1 c2
        have c0' : wr.cell? ⟨N, k * 3, none⟩ = some (.bool true) := c0
        have i0' : ∀ ob, (wr.alloc ob).cell? ⟨N + 1, k * 3, none⟩ = some (.bool false) := fun ob => by rw [i0, hy]; rfl
        have i1' : ∀ ob, (wr.alloc ob).cell? ⟨N + 1, k * 3 + 1, none⟩ = some (.int .i64 0) := fun ob => by rw [i1, hy]; rfl
        have i2' : ∀ ob, (wr.alloc ob).cell? ⟨N + 1, k * 3 + 2, none⟩ = some (.bool false) := fun ob => by rw [i2, hy]; rfl
        rw [hv] at o2
        clear c0 i0 i1 i2 hn hy ho
        generalize ((sl (some x) : Nat) : Int) = z at *
        generalize wb (some x) = q at *
        go_upto_region 21 with fail
        go_region_held (fun W => W.cell? ⟨wr.heap.size, 0, none⟩ = some (.bool false) ∧ W.cell? ⟨wr.heap.size, 1, none⟩ = some (.int .i64 0) ∧ W.cell? ⟨wr.heap.size, 2, none⟩ = some (.bool false) ∧ W.cell? ⟨N + 1, k * 3, none⟩ = some (.bool false) ∧ W.cell? ⟨N + 1, k * 3 + 1, none⟩ = some (.int .i64 0) ∧ W.cell? ⟨N + 1, k * 3 + 2, none⟩ = some (.bool false)) (go_keep) (fail)
        rename_i hHeld
        have HY := hide (HX.out.below (((Below.refl wr.heap.size wr).alloc (Nat.le_refl _) (.cells #[.bool false, .int .i64 0, .bool false] 33)).drew))
        clear hHeld i0' i1' i2' o0 o2 o3 o4 HX
        go_wp2
        go_roundw
        case rel => exact ⟨k + 1, by omega, by go_num, HY.out⟩
        case measure => simp [intOf]; omega
      · have e2 : ((k : Int) == o.v) = false := by rw [hv]; simp; omega
        have he := ho k hlt e
        rw [he] at i0 i1 i2
        generalize (m k).isSome = p at *
        generalize ((sl (m k) : Nat) : Int) = z at *
        generalize wb (m k) = q at *
        go_upto_region 21 with fail
        go_region_held (fun W => W.cell? ⟨wr.heap.size, 0, none⟩ = some (.bool p) ∧ W.cell? ⟨wr.heap.size, 1, none⟩ = some (.int .i64 z) ∧ W.cell? ⟨wr.heap.size, 2, none⟩ = some (.bool q) ∧ W.cell? ⟨N + 1, k * 3, none⟩ = some (.bool p) ∧ W.cell? ⟨N + 1, k * 3 + 1, none⟩ = some (.int .i64 z) ∧ W.cell? ⟨N + 1, k * 3 + 2, none⟩ = some (.bool q)) (go_keep) (fail)
        rename_i hHeld
        have HY := hide (HX.out.below (((Below.refl wr.heap.size wr).alloc (Nat.le_refl _) (.cells #[.bool p, .int .i64 z, .bool q] 33)).drew))
        clear hHeld i0 i1 i2 o0 o2 o3 o4 HX
        go_wp2
        go_roundw
        case rel => exact ⟨k + 1, by omega, by go_num, HY.out⟩
        case measure => simp [intOf]; omega
    · have hd : decide ((k : Int) < 16) = false := by simp; omega
      have HB := hide hX.b
      clear hX
      go_wp2
      go_ret
      exact ⟨rfl, HB.out⟩
set_option maxRecDepth 100000 in
set_option maxHeartbeats 3200000 in
theorem stepped_3 (hk0 : o.kd = 3) (v s : Nat) (c : Bool) (hv : o.v = v) (hn : m v = some (s, c)) (hy : m' v = some (s, o.b)) (ho : ∀ k, k < 16 → k ≠ v → m' k = m k) :
    Calls Try.prog 14 #[.agg (sc m).toArray, .agg (sc m').toArray, .agg o.cells.toArray, .int .i64 0] w fun e w' => e = .returned (.bool true) ∧ Below w.heap.size w w' := by
  have HK := hide hk0
  clear hk0
  have HX := hide (Bx.new w m m' o)
  go_enter Try.func14, Try.ntmps14
  go_upto_region 1 with fail
  generalize ((w.alloc (.cells (sc m).toArray 35)).alloc (.cells (sc m').toArray 35)).alloc (.cells o.cells.toArray 31) = w0 at *
  obtain ⟨N, hN⟩ : ∃ N, w.heap.size = N := ⟨_, rfl⟩
  rw [hN]
  go_upto_region 4 with fail
  go_loopw [9] (fun i wr => ∃ k : Nat, k ≤ 16 ∧ i = .int .i64 (k : Int) ∧ Bx w wr m m' o) (fun i _ => 16 - (intOf i).toNat)
  case atStart => exact ⟨0, by omega, rfl, HX.out⟩
  case round =>
    obtain ⟨k, hk, rfl, hX⟩ := hrel
    clear HX
    by_cases hlt : k < 16
    · have hd : decide ((k : Int) < 16) = true := by simp; omega
      have HX := hide hX
      have c0 := (hX.n0.c hlt).1
      have c1 := (hX.n0.c hlt).2.1
      have c2 := (hX.n0.c hlt).2.2
      have i0 := fun ob => ((hX.n1.below ((Below.refl _ _).alloc (Nat.le_refl _) ob)).c hlt).1
      have i1 := fun ob => ((hX.n1.below ((Below.refl _ _).alloc (Nat.le_refl _) ob)).c hlt).2.1
      have i2 := fun ob => ((hX.n1.below ((Below.refl _ _).alloc (Nat.le_refl _) ob)).c hlt).2.2
      have o0 : ∀ ob, (wr.alloc ob).cell? ⟨w.heap.size + 2, 0, none⟩ = some (.int .i64 o.kd) := fun ob => (hX.n2.below ((Below.refl _ _).alloc (Nat.le_refl _) ob)).get rfl
      have o2 : ∀ ob, (wr.alloc ob).cell? ⟨w.heap.size + 2, 2, none⟩ = some (.int .i64 o.v) := fun ob => (hX.n2.below ((Below.refl _ _).alloc (Nat.le_refl _) ob)).get rfl
      have o3 : ∀ ob, (wr.alloc ob).cell? ⟨w.heap.size + 2, 3, none⟩ = some (.int .i64 o.s) := fun ob => (hX.n2.below ((Below.refl _ _).alloc (Nat.le_refl _) ob)).get rfl
      have o4 : ∀ ob, (wr.alloc ob).cell? ⟨w.heap.size + 2, 4, none⟩ = some (.bool o.b) := fun ob => (hX.n2.below ((Below.refl _ _).alloc (Nat.le_refl _) ob)).get rfl
      rw [hN] at c0 c1 c2 i0 i1 i2 o0 o2 o3 o4
      rw [HK.out] at o0
      clear hX
      by_cases e : k = v
      · subst e
        rw [hn] at c0 c1 c2
        have c0' : wr.cell? ⟨N, k * 3, none⟩ = some (.bool true) := c0
        have c1' : wr.cell? ⟨N, k * 3 + 1, none⟩ = some (.int .i64 (s : Int)) := c1
        have c2' : wr.cell? ⟨N, k * 3 + 2, none⟩ = some (.bool c) := c2
        have i0' : ∀ ob, (wr.alloc ob).cell? ⟨N + 1, k * 3, none⟩ = some (.bool true) := fun ob => by rw [i0, hy]; rfl
        have i1' : ∀ ob, (wr.alloc ob).cell? ⟨N + 1, k * 3 + 1, none⟩ = some (.int .i64 (s : Int)) := fun ob => by rw [i1, hy]; rfl
        have i2' : ∀ ob, (wr.alloc ob).cell? ⟨N + 1, k * 3 + 2, none⟩ = some (.bool o.b) := fun ob => by rw [i2, hy]; rfl
        rw [hv] at o2
        clear c0 c1 c2 i0 i1 i2 hn hy ho
        generalize (s : Int) = z at *
        generalize o.b = q at *
        go_upto_region 21 with fail
        go_region_held (fun W => W.cell? ⟨wr.heap.size, 0, none⟩ = some (.bool true) ∧ W.cell? ⟨wr.heap.size, 1, none⟩ = some (.int .i64 z) ∧ W.cell? ⟨wr.heap.size, 2, none⟩ = some (.bool q) ∧ W.cell? ⟨N + 1, k * 3, none⟩ = some (.bool true) ∧ W.cell? ⟨N + 1, k * 3 + 1, none⟩ = some (.int .i64 z) ∧ W.cell? ⟨N + 1, k * 3 + 2, none⟩ = some (.bool q)) (go_keep) (fail)
        rename_i hHeld
        have HY := hide (HX.out.below (((Below.refl wr.heap.size wr).alloc (Nat.le_refl _) (.cells #[.bool true, .int .i64 z, .bool q] 33)).drew))
        clear hHeld i0' i1' i2' o0 o2 o3 o4 HX
        go_wp2
        go_roundw
        case rel => exact ⟨k + 1, by omega, by go_num, HY.out⟩
        case measure => simp [intOf]; omega
      · have e2 : ((k : Int) == o.v) = false := by rw [hv]; simp; omega
        have he := ho k hlt e
        rw [he] at i0 i1 i2
        generalize (m k).isSome = p at *
        generalize ((sl (m k) : Nat) : Int) = z at *
        generalize wb (m k) = q at *
        go_upto_region 21 with fail
        go_region_held (fun W => W.cell? ⟨wr.heap.size, 0, none⟩ = some (.bool p) ∧ W.cell? ⟨wr.heap.size, 1, none⟩ = some (.int .i64 z) ∧ W.cell? ⟨wr.heap.size, 2, none⟩ = some (.bool q) ∧ W.cell? ⟨N + 1, k * 3, none⟩ = some (.bool p) ∧ W.cell? ⟨N + 1, k * 3 + 1, none⟩ = some (.int .i64 z) ∧ W.cell? ⟨N + 1, k * 3 + 2, none⟩ = some (.bool q)) (go_keep) (fail)
        rename_i hHeld
        have HY := hide (HX.out.below (((Below.refl wr.heap.size wr).alloc (Nat.le_refl _) (.cells #[.bool p, .int .i64 z, .bool q] 33)).drew))
        clear hHeld i0 i1 i2 o0 o2 o3 o4 HX
        go_wp2
        go_roundw
        case rel => exact ⟨k + 1, by omega, by go_num, HY.out⟩
        case measure => simp [intOf]; omega
    · have hd : decide ((k : Int) < 16) = false := by simp; omega
      have HB := hide hX.b
      clear hX
      go_wp2
      go_ret
      exact ⟨rfl, HB.out⟩
set_option maxRecDepth 100000 in
set_option maxHeartbeats 3200000 in
theorem stepped_6 (hk0 : o.kd = 6) (hy : ∀ k, k < 16 → m' k = if leads (m k) o.s = true then none else m k) :
    Calls Try.prog 14 #[.agg (sc m).toArray, .agg (sc m').toArray, .agg o.cells.toArray, .int .i64 0] w fun e w' => e = .returned (.bool true) ∧ Below w.heap.size w w' := by
  have HK := hide hk0
  clear hk0
  have HX := hide (Bx.new w m m' o)
  go_enter Try.func14, Try.ntmps14
  go_upto_region 1 with fail
  generalize ((w.alloc (.cells (sc m).toArray 35)).alloc (.cells (sc m').toArray 35)).alloc (.cells o.cells.toArray 31) = w0 at *
  obtain ⟨N, hN⟩ : ∃ N, w.heap.size = N := ⟨_, rfl⟩
  rw [hN]
  go_upto_region 4 with fail
  go_loopw [9] (fun i wr => ∃ k : Nat, k ≤ 16 ∧ i = .int .i64 (k : Int) ∧ Bx w wr m m' o) (fun i _ => 16 - (intOf i).toNat)
  case atStart => exact ⟨0, by omega, rfl, HX.out⟩
  case round =>
    obtain ⟨k, hk, rfl, hX⟩ := hrel
    clear HX
    by_cases hlt : k < 16
    · have hd : decide ((k : Int) < 16) = true := by simp; omega
      have HX := hide hX
      have c0 := (hX.n0.c hlt).1
      have c1 := (hX.n0.c hlt).2.1
      have c2 := (hX.n0.c hlt).2.2
      have i0 := fun ob => ((hX.n1.below ((Below.refl _ _).alloc (Nat.le_refl _) ob)).c hlt).1
      have i1 := fun ob => ((hX.n1.below ((Below.refl _ _).alloc (Nat.le_refl _) ob)).c hlt).2.1
      have i2 := fun ob => ((hX.n1.below ((Below.refl _ _).alloc (Nat.le_refl _) ob)).c hlt).2.2
      have o0 : ∀ ob, (wr.alloc ob).cell? ⟨w.heap.size + 2, 0, none⟩ = some (.int .i64 o.kd) := fun ob => (hX.n2.below ((Below.refl _ _).alloc (Nat.le_refl _) ob)).get rfl
      have o2 : ∀ ob, (wr.alloc ob).cell? ⟨w.heap.size + 2, 2, none⟩ = some (.int .i64 o.v) := fun ob => (hX.n2.below ((Below.refl _ _).alloc (Nat.le_refl _) ob)).get rfl
      have o3 : ∀ ob, (wr.alloc ob).cell? ⟨w.heap.size + 2, 3, none⟩ = some (.int .i64 o.s) := fun ob => (hX.n2.below ((Below.refl _ _).alloc (Nat.le_refl _) ob)).get rfl
      have o4 : ∀ ob, (wr.alloc ob).cell? ⟨w.heap.size + 2, 4, none⟩ = some (.bool o.b) := fun ob => (hX.n2.below ((Below.refl _ _).alloc (Nat.le_refl _) ob)).get rfl
      rw [hN] at c0 c1 c2 i0 i1 i2 o0 o2 o3 o4
      rw [HK.out] at o0
      clear hX
      rcases hm : m k with _ | ⟨s, c⟩
      · have he : m' k = none := by rw [hy k hlt, hm]; rfl
        rw [hm] at c0 c1 c2
        have c0' : wr.cell? ⟨N, k * 3, none⟩ = some (.bool false) := c0
        have c1' : wr.cell? ⟨N, k * 3 + 1, none⟩ = some (.int .i64 0) := c1
        have c2' : wr.cell? ⟨N, k * 3 + 2, none⟩ = some (.bool false) := c2
        have i0' : ∀ ob, (wr.alloc ob).cell? ⟨N + 1, k * 3, none⟩ = some (.bool false) := fun ob => by rw [i0, he]; rfl
        have i1' : ∀ ob, (wr.alloc ob).cell? ⟨N + 1, k * 3 + 1, none⟩ = some (.int .i64 0) := fun ob => by rw [i1, he]; rfl
        have i2' : ∀ ob, (wr.alloc ob).cell? ⟨N + 1, k * 3 + 2, none⟩ = some (.bool false) := fun ob => by rw [i2, he]; rfl
        clear c0 c1 c2 i0 i1 i2 hm hy he
        go_upto_region 21 with fail
        go_region_held (fun W => W.cell? ⟨wr.heap.size, 0, none⟩ = some (.bool false) ∧ W.cell? ⟨wr.heap.size, 1, none⟩ = some (.int .i64 0) ∧ W.cell? ⟨wr.heap.size, 2, none⟩ = some (.bool false) ∧ W.cell? ⟨N + 1, k * 3, none⟩ = some (.bool false) ∧ W.cell? ⟨N + 1, k * 3 + 1, none⟩ = some (.int .i64 0) ∧ W.cell? ⟨N + 1, k * 3 + 2, none⟩ = some (.bool false)) (go_keep) (fail)
        rename_i hHeld
        have HY := hide (HX.out.below (((Below.refl wr.heap.size wr).alloc (Nat.le_refl _) (.cells #[.bool false, .int .i64 0, .bool false] 33)).drew))
        clear hHeld i0' i1' i2' o0 o2 o3 o4 HX
        go_wp2
        go_roundw
        case rel => exact ⟨k + 1, by omega, by go_num, HY.out⟩
        case measure => simp [intOf]; omega
      · rw [hm] at c0 c1 c2
        have c0' : wr.cell? ⟨N, k * 3, none⟩ = some (.bool true) := c0
        have c1' : wr.cell? ⟨N, k * 3 + 1, none⟩ = some (.int .i64 (s : Int)) := c1
        have c2' : wr.cell? ⟨N, k * 3 + 2, none⟩ = some (.bool c) := c2
        by_cases e : (s : Int) = o.s
        · have he : m' k = none := by rw [hy k hlt, hm]; simp [leads, e]
          have i0' : ∀ ob, (wr.alloc ob).cell? ⟨N + 1, k * 3, none⟩ = some (.bool false) := fun ob => by rw [i0, he]; rfl
          have i1' : ∀ ob, (wr.alloc ob).cell? ⟨N + 1, k * 3 + 1, none⟩ = some (.int .i64 0) := fun ob => by rw [i1, he]; rfl
          have i2' : ∀ ob, (wr.alloc ob).cell? ⟨N + 1, k * 3 + 2, none⟩ = some (.bool false) := fun ob => by rw [i2, he]; rfl
          rw [← e] at o3
          clear c0 c1 c2 i0 i1 i2 hm hy he e
          generalize (s : Int) = z at *
          go_upto_region 21 with fail
          go_region_held (fun W => W.cell? ⟨wr.heap.size, 0, none⟩ = some (.bool false) ∧ W.cell? ⟨wr.heap.size, 1, none⟩ = some (.int .i64 0) ∧ W.cell? ⟨wr.heap.size, 2, none⟩ = some (.bool false) ∧ W.cell? ⟨N + 1, k * 3, none⟩ = some (.bool false) ∧ W.cell? ⟨N + 1, k * 3 + 1, none⟩ = some (.int .i64 0) ∧ W.cell? ⟨N + 1, k * 3 + 2, none⟩ = some (.bool false)) (go_keep) (fail)
          rename_i hHeld
          have HY := hide (HX.out.below (((Below.refl wr.heap.size wr).alloc (Nat.le_refl _) (.cells #[.bool false, .int .i64 0, .bool false] 33)).drew))
          clear hHeld i0' i1' i2' o0 o2 o3 o4 HX
          go_wp2
          go_roundw
          case rel => exact ⟨k + 1, by omega, by go_num, HY.out⟩
          case measure => simp [intOf]; omega
        · have he : m' k = some (s, c) := by rw [hy k hlt, hm]; simp [leads, e]
          have i0' : ∀ ob, (wr.alloc ob).cell? ⟨N + 1, k * 3, none⟩ = some (.bool true) := fun ob => by rw [i0, he]; rfl
          have i1' : ∀ ob, (wr.alloc ob).cell? ⟨N + 1, k * 3 + 1, none⟩ = some (.int .i64 (s : Int)) := fun ob => by rw [i1, he]; rfl
          have i2' : ∀ ob, (wr.alloc ob).cell? ⟨N + 1, k * 3 + 2, none⟩ = some (.bool c) := fun ob => by rw [i2, he]; rfl
          have e2 : ((s : Int) == o.s) = false := by simpa using e
          clear c0 c1 c2 i0 i1 i2 hm hy he
          generalize (s : Int) = z at *
          go_upto_region 21 with fail
          go_region_held (fun W => W.cell? ⟨wr.heap.size, 0, none⟩ = some (.bool true) ∧ W.cell? ⟨wr.heap.size, 1, none⟩ = some (.int .i64 z) ∧ W.cell? ⟨wr.heap.size, 2, none⟩ = some (.bool c) ∧ W.cell? ⟨N + 1, k * 3, none⟩ = some (.bool true) ∧ W.cell? ⟨N + 1, k * 3 + 1, none⟩ = some (.int .i64 z) ∧ W.cell? ⟨N + 1, k * 3 + 2, none⟩ = some (.bool c)) (go_keep) (fail)
          rename_i hHeld
          have HY := hide (HX.out.below (((Below.refl wr.heap.size wr).alloc (Nat.le_refl _) (.cells #[.bool true, .int .i64 z, .bool c] 33)).drew))
          clear hHeld i0' i1' i2' o0 o2 o3 o4 HX
          go_wp2
          go_roundw
          case rel => exact ⟨k + 1, by omega, by go_num, HY.out⟩
          case measure => simp [intOf]; omega
    · have hd : decide ((k : Int) < 16) = false := by simp; omega
      have HB := hide hX.b
      clear hX
      go_wp2
      go_ret
      exact ⟨rfl, HB.out⟩
end
end Go.Proofs.Ytcbfolpeglfbcaa
