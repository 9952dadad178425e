import Derived.Test.YtmflohehnoghhaaG3
namespace Go.Proofs.Ytmflohehnoghhaa
open Go.RowKit
section
variable (w : World) (B : Nat) (m : Nat → E)
theorem ent_laid {w : World} {N : Nat} {cs : Value × Value × Value} {x y z : Value} (h : w.heap[N]? = some (.cells #[cs.1, cs.2.1, cs.2.2] 59 (0, 0))) :
    (((w.setCell ⟨N, 0, none⟩ x).setCell ⟨N, 1, none⟩ y).setCell ⟨N, 2, none⟩ z).drew.heap[N]? = some (.cells #[x, y, z] 59 (0, 0)) := by
  have h1 := heap_setCell_same _ N 2 _ _ z (heap_setCell_same _ N 1 _ _ y (heap_setCell_same _ N 0 _ _ x h))
  have h3 : ((#[cs.1, cs.2.1, cs.2.2].setIfInBounds 0 x).setIfInBounds 1 y).setIfInBounds 2 z = #[x, y, z] := rfl
  rw [h3] at h1
  exact h1
set_option maxHeartbeats 800000 in
theorem entry_ok (v : Nat) (h : Tb w B m) (hv : v < 16) :
    Calls Try.prog 27 #[.pointer (some ⟨B, 0, none⟩), .int .i64 (v : Int)] w fun e w' => e = .returned (.tuple #[.agg (ent (m v)).toArray, .int .i64 0]) ∧ Below w.heap.size w w' := by
  have hmay := may_two (m v)
  have hb0 : Below w.heap.size w (w.alloc (.cells #[.bool false, .int .i64 0, .bool false] 59)) := (Below.refl _ _).alloc (Nat.le_refl _) _
  have hz := heap_alloc_last w (.cells #[.bool false, .int .i64 0, .bool false] 59)
  have h0 := h.below hb0
  go_enter Try.func27, Try.ntmps27
  go_wp2_with fail
  refine (isPage_yes _ v hv).mono ?_
  rintro e w1 ⟨rfl, rfl⟩
  obtain ⟨c0, c1⟩ := h0.c hv
  have hp : ∀ W, Tb W B m → Calls Try.prog 31 #[.pointer (some ⟨B, 0, none⟩), .int .i64 (v : Int)] W fun e w' => e = .returned (.bool (m v).isSome) ∧ w' = W := fun W hW => present_any W B m v hW hv
  generalize w.alloc (.cells #[.bool false, .int .i64 0, .bool false] 59) = w0 at *
  generalize hx : ((may (m v) : Nat) : Int) = z0 at *
  generalize hy : ((sl (m v) : Nat) : Int) = z1 at *
  have hq : (z0 = 2) ↔ wb (m v) = true := by rw [← hx, ← hmay]; omega
  generalize hp' : (m v).isSome = p at *
  generalize hq' : wb (m v) = q at *
  go_wp2
  have hb1 : Below w.heap.size w (w0.alloc (.cells #[.int .i64 z0, .int .i64 z1] 48)) := hb0.alloc hb0.size _
  have h1 := h0.alloc (.cells #[.int .i64 z0, .int .i64 z1] 48)
  have hz1 := heap_alloc_last w0 (.cells #[.int .i64 z0, .int .i64 z1] 48)
  have hlt : w.heap.size < w0.heap.size := (Array.getElem?_eq_some_iff.1 hz).1
  have hz2 : (w0.alloc (.cells #[.int .i64 z0, .int .i64 z1] 48)).heap[w.heap.size]? = some (.cells #[.bool false, .int .i64 0, .bool false] 59 (0, 0)) := by rw [Below.heap_alloc _ _ _ hlt]; exact hz
  have d0 := cell_of_row _ _ 0 _ _ _ hz1
  have d1 := cell_of_row _ _ 1 _ _ _ hz1
  have e0 := cell_of_row _ _ 0 _ _ _ hz2
  have e1 := cell_of_row _ _ 1 _ _ _ hz2
  have e2 := cell_of_row _ _ 2 _ _ _ hz2
  have g0 := frozen_of_row _ _ 0 _ _ hz2
  have g1 := frozen_of_row _ _ 1 _ _ hz2
  have g2 := frozen_of_row _ _ 2 _ _ hz2
  generalize w0.alloc (.cells #[.int .i64 z0, .int .i64 z1] 48) = w2 at *
  generalize w0.heap.size = M at *
  have hne : w.heap.size ≠ M := by omega
  have HX := hide (And.intro hb1 (And.intro hz2 (And.intro hx (And.intro hy (And.intro hp' hq')))))
  have HT := hide h1
  clear h h0 hb0 hz hz1 hz2 hb1 h1 hx hy hp' hq' c0 c1 hlt
  generalize hN : w.heap.size = N at *
  simp at d0 d1 e0 e1 e2
  have HQ : Hid ((z0 == 2) = q) := hide (by
    cases q
    · simp; intro e; have := hq.1 e; cases this
    · simp; exact hq.2 rfl)
  clear hq hmay
  go_region_held (fun W => W.cell? ⟨M, 0, none⟩ = some (.int .i64 z0) ∧ W.cell? ⟨M, 1, none⟩ = some (.int .i64 z1)) (go_keep)
    ((refine (hp _ HT.out.drew).mono ?_; rintro e w3 ⟨rfl, rfl⟩))
  go_wp2
  obtain ⟨x1, x2, x3, x4, x5, x6⟩ := HX.out
  refine bodyPost_ret (results_row2 rfl _ _ N 59 #[.bool p, .int .i64 z1, .bool (z0 == 2)] (0, 0) _ rfl (ent_laid (cs := (_, _, _)) x2) Try.underlying59 rfl info33) rfl ?_
  refine ⟨?_, ?_⟩
  · rw [HQ.out, ← x4, ← x5, ← x6]; rfl
  · rw [hN]
    exact (((x1.setCell (Nat.le_refl _) _).setCell (Nat.le_refl _) _).setCell (Nat.le_refl _) _).drew
set_option maxHeartbeats 800000 in
theorem trans_no (a : Nat) (b : Bool) (ha : 512 ≤ a) (ha2 : a < 4294967296) :
    Calls Try.prog 18 #[.pointer (some ⟨B, 0, none⟩), .int .u32 (a : Int), .bool b] w fun e w' => e = .returned (.tuple #[.int .i64 0, .int .i64 0, .int .i64 60]) ∧ Below w.heap.size w w' := by
  obtain ⟨q, hq⟩ : ∃ q, a / 32 = q := ⟨_, rfl⟩
  have hqi : (a : Int) / 32 = (q : Int) := by omega
  have hw1 : IntKind.i64.wrap (q : Int) = (q : Int) := by rw [IntKind.wrap_i64]; omega
  have hw2 : IntKind.u32.wrap (q : Int) = (q : Int) := by rw [IntKind.wrap_u32]; omega
  have hn : NoPage (q : Int) := .inr (by omega)
  clear hq
  go_enter Try.func18, Try.ntmps18
  go_wp2_with fail
  refine (mapped_no w B q hn).mono ?_
  rintro e w1 ⟨rfl, rfl⟩
  go_wp2
  go_ret3
  exact ⟨rfl, Below.refl _ _⟩
set_option maxHeartbeats 800000 in
theorem trans_un (a : Nat) (b : Bool) (h : Tb w B m) (ha : a < 512) (hm : m (a / 32) = none) :
    Calls Try.prog 18 #[.pointer (some ⟨B, 0, none⟩), .int .u32 (a : Int), .bool b] w fun e w' => e = .returned (.tuple #[.int .i64 0, .int .i64 0, .int .i64 62]) ∧ Below w.heap.size w w' := by
  obtain ⟨q, hq⟩ : ∃ q, a / 32 = q := ⟨_, rfl⟩
  rw [hq] at hm
  have hqi : (a : Int) / 32 = (q : Int) := by omega
  have hw1 : IntKind.i64.wrap (q : Int) = (q : Int) := by rw [IntKind.wrap_i64]; omega
  have hw2 : IntKind.u32.wrap (q : Int) = (q : Int) := by rw [IntKind.wrap_u32]; omega
  have hn : q < 16 := by omega
  clear hq
  go_enter Try.func18, Try.ntmps18
  go_wp2_with fail
  refine (mapped_un w B m q h hn hm).mono ?_
  rintro e w1 ⟨rfl, rfl⟩
  go_wp2
  go_ret3
  exact ⟨rfl, Below.refl _ _⟩
set_option maxHeartbeats 800000 in
theorem trans_ro (a : Nat) (h : Tb w B m) (ha : a < 512) (s : Nat) (hm : m (a / 32) = some (s, false)) :
    Calls Try.prog 18 #[.pointer (some ⟨B, 0, none⟩), .int .u32 (a : Int), .bool true] w fun e w' => e = .returned (.tuple #[.int .i64 0, .int .i64 0, .int .i64 63]) ∧ Below w.heap.size w w' := by
  obtain ⟨q, hq⟩ : ∃ q, a / 32 = q := ⟨_, rfl⟩
  rw [hq] at hm
  have hqi : (a : Int) / 32 = (q : Int) := by omega
  have hw1 : IntKind.i64.wrap (q : Int) = (q : Int) := by rw [IntKind.wrap_i64]; omega
  have hw2 : IntKind.u32.wrap (q : Int) = (q : Int) := by rw [IntKind.wrap_u32]; omega
  have hn : q < 16 := by omega
  clear hq
  go_enter Try.func18, Try.ntmps18
  go_wp2_with fail
  refine (mapped_yes w B m q h hn _ hm).mono ?_
  rintro e w1 ⟨rfl, rfl⟩
  obtain ⟨c0, c1⟩ := h.c hn
  rw [hm] at c0 c1
  have hb1 : Below w1.heap.size w1 (w1.alloc (.cells #[.int .i64 1, .int .i64 (s : Int)] 48)) := (Below.refl _ _).alloc (Nat.le_refl _) _
  have e0 : ((may (some (s, false)) : Nat) : Int) = 1 := rfl
  have e1 : sl (some (s, false)) = s := rfl
  rw [e0] at c0
  rw [e1] at c1
  have HB := hide hb1
  clear h hm e0 e1 hb1
  go_wp2
  go_ret3
  exact ⟨rfl, HB.out⟩
set_option maxHeartbeats 800000 in
theorem trans_ok (a : Nat) (b : Bool) (h : Tb w B m) (ha : a < 512) (s : Nat) (c : Bool) (hm : m (a / 32) = some (s, c)) (hb : b = true → c = true) :
    Calls Try.prog 18 #[.pointer (some ⟨B, 0, none⟩), .int .u32 (a : Int), .bool b] w fun e w' => e = .returned (.tuple #[.int .i64 (s : Int), .int .i64 ((a % 32 : Nat) : Int), .int .i64 0]) ∧ Below w.heap.size w w' := by
  obtain ⟨q, hq⟩ : ∃ q, a / 32 = q := ⟨_, rfl⟩
  rw [hq] at hm
  have hqi : (a : Int) / 32 = (q : Int) := by omega
  have hw1 : IntKind.i64.wrap (q : Int) = (q : Int) := by rw [IntKind.wrap_i64]; omega
  have hw2 : IntKind.u32.wrap (q : Int) = (q : Int) := by rw [IntKind.wrap_u32]; omega
  have hn : q < 16 := by omega
  obtain ⟨r, hr⟩ : ∃ r, a % 32 = r := ⟨_, rfl⟩
  have hri : (a : Int) % 32 = (r : Int) := by omega
  have hw3 : IntKind.i64.wrap (r : Int) = (r : Int) := by rw [IntKind.wrap_i64]; omega
  have hw4 : IntKind.u32.wrap (r : Int) = (r : Int) := by rw [IntKind.wrap_u32]; omega
  rw [hr]
  clear hq hr
  go_enter Try.func18, Try.ntmps18
  go_wp2_with fail
  refine (mapped_yes w B m q h hn _ hm).mono ?_
  rintro e w1 ⟨rfl, rfl⟩
  obtain ⟨c0, c1⟩ := h.c hn
  rw [hm] at c0 c1
  have e1 : sl (some (s, c)) = s := rfl
  rw [e1] at c1
  clear h hm e1
  cases c
  · obtain rfl : b = false := by cases b; rfl; exact absurd (hb rfl) (by decide)
    have e0 : ((may (some (s, false)) : Nat) : Int) = 1 := rfl
    rw [e0] at c0
    have hb1 : Below w1.heap.size w1 (w1.alloc (.cells #[.int .i64 1, .int .i64 (s : Int)] 48)) := (Below.refl _ _).alloc (Nat.le_refl _) _
    have HB := hide hb1
    clear e0 hb1
    go_wp2
    go_ret3
    exact ⟨rfl, HB.out⟩
  · have e0 : ((may (some (s, true)) : Nat) : Int) = 2 := rfl
    rw [e0] at c0
    have hb1 : Below w1.heap.size w1 (w1.alloc (.cells #[.int .i64 2, .int .i64 (s : Int)] 48)) := (Below.refl _ _).alloc (Nat.le_refl _) _
    have HB := hide hb1
    clear e0 hb1 hb
    cases b
    · go_wp2
      go_ret3
      exact ⟨rfl, HB.out⟩
    · go_wp2
      go_ret3
      exact ⟨rfl, HB.out⟩
theorem tc_nil : tc nil = [.int .i64 0, .int .i64 0, .int .i64 0, .int .i64 0, .int .i64 0, .int .i64 0, .int .i64 0, .int .i64 0, .int .i64 0, .int .i64 0, .int .i64 0, .int .i64 0, .int .i64 0, .int .i64 0, .int .i64 0, .int .i64 0, .int .i64 0, .int .i64 0, .int .i64 0, .int .i64 0, .int .i64 0, .int .i64 0, .int .i64 0, .int .i64 0, .int .i64 0, .int .i64 0, .int .i64 0, .int .i64 0, .int .i64 0, .int .i64 0, .int .i64 0, .int .i64 0] := rfl
set_option maxHeartbeats 800000 in
theorem new_any :
    Calls Try.prog 5 #[] w fun e w' => e = .returned (.pointer (some ⟨w.heap.size, 0, none⟩)) ∧ Tb w' w.heap.size nil ∧ Below w.heap.size w w' := by
  go_enter Try.func5, Try.ntmps5
  go_wp2
  go_ret
  refine ⟨rfl, ⟨?_⟩, (Below.refl _ _).alloc (Nat.le_refl _) _⟩
  rw [tc_nil]
  exact heap_alloc_last w _
end
end Go.Proofs.Ytmflohehnoghhaa
