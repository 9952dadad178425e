import Derived.Test.YtoddadohmnaolaaEE
namespace Go.Proofs.Ytoddadohmnaolaa
open Go.RowKit

set_option maxRecDepth 8000 in
set_option maxHeartbeats 3200000 in
theorem affords_any (w : World) (b : Nat) (r : Er) (h : Rb w b r) (q : Qt) : Calls Try.prog 43 #[.pointer (some ⟨b, 21, none⟩), q.val] w fun e w' => e = .returned (.bool (decide (q.le r.le))) ∧ Below w.heap.size w w' := by
  have hb1 := (Below.refl w.heap.size w).alloc (Nat.le_refl _) (.cells #[.int .i64 q.f, .int .i64 q.e, .int .i64 q.x] 39)
  have a1 := heap_alloc_new w (.cells #[.int .i64 q.f, .int .i64 q.e, .int .i64 q.x] 39)
  have hR := h.keep (hb1.block b h.lt)
  have HB1 := hide hb1
  have HN := hide hb1.size
  have HC := hide (fun W => fits_any W q r.le)
  obtain ⟨z, hz⟩ : ∃ z, decide (q.le r.le) = z := ⟨_, rfl⟩
  rw [hz] at HC ⊢
  clear h hb1 hz
  unfold Qt.val at *
  go_enter Try.func43, Try.ntmps43
  go_upto_region 1 with fail
  generalize w.alloc (.cells #[.int .i64 q.f, .int .i64 q.e, .int .i64 q.x] 39) = w1 at *
  obtain ⟨N, hN⟩ : ∃ N, w.heap.size = N := ⟨_, rfl⟩
  rw [hN] at a1 HB1 HN ⊢
  have HNE := hide hN
  clear hN
  obtain ⟨c0, c1, c2, -, -, -⟩ := blk3 a1
  have d0 := hR.get (j := 24) rfl
  have d1 := hR.get (j := 25) rfl
  have d2 := hR.get (j := 26) rfl
  have q0 : (w1.cell? ⟨b, 24, none⟩ = some (.int .i64 r.le.f) ∧ w1.cell? ⟨b, 25, none⟩ = some (.int .i64 r.le.e) ∧ w1.cell? ⟨b, 26, none⟩ = some (.int .i64 r.le.x)) ∧
    w1.cell? ⟨N, 0, none⟩ = some (.int .i64 q.f) ∧ w1.cell? ⟨N, 1, none⟩ = some (.int .i64 q.e) ∧ w1.cell? ⟨N, 2, none⟩ = some (.int .i64 q.x) := ⟨⟨d0, d1, d2⟩, c0, c1, c2⟩
  clear c0 c1 c2 d0 d1 d2 a1 hR
  go_region_held (fun W => (W.cell? ⟨b, 24, none⟩ = some (.int .i64 r.le.f) ∧ W.cell? ⟨b, 25, none⟩ = some (.int .i64 r.le.e) ∧ W.cell? ⟨b, 26, none⟩ = some (.int .i64 r.le.x)) ∧ W.cell? ⟨N, 0, none⟩ = some (.int .i64 q.f) ∧ W.cell? ⟨N, 1, none⟩ = some (.int .i64 q.e) ∧ W.cell? ⟨N, 2, none⟩ = some (.int .i64 q.x))
    (first | assumption | exact q1 | exact q0)
    (first
      | (go_at_call 60; refine (HC.out _).mono ?_; rintro e1 w3 ⟨rfl, hb3⟩
         have q1 : (w3.cell? ⟨b, 24, none⟩ = some (.int .i64 r.le.f) ∧ w3.cell? ⟨b, 25, none⟩ = some (.int .i64 r.le.e) ∧ w3.cell? ⟨b, 26, none⟩ = some (.int .i64 r.le.x)) ∧ w3.cell? ⟨N, 0, none⟩ = some (.int .i64 q.f) ∧ w3.cell? ⟨N, 1, none⟩ = some (.int .i64 q.e) ∧ w3.cell? ⟨N, 2, none⟩ = some (.int .i64 q.x) := by
           refine ⟨⟨?_, ?_, ?_⟩, ?_, ?_, ?_⟩
           · rw [hb3.cell (World.block_lt_of_cell? _ _ q0.1.1)]; exact q0.1.1
           · rw [hb3.cell (World.block_lt_of_cell? _ _ q0.1.2.1)]; exact q0.1.2.1
           · rw [hb3.cell (World.block_lt_of_cell? _ _ q0.1.2.2)]; exact q0.1.2.2
           · rw [hb3.cell (World.block_lt_of_cell? _ _ q0.2.1)]; exact q0.2.1
           · rw [hb3.cell (World.block_lt_of_cell? _ _ q0.2.2.1)]; exact q0.2.2.1
           · rw [hb3.cell (World.block_lt_of_cell? _ _ q0.2.2.2)]; exact q0.2.2.2
         have HB3 := hide (HB1.out.drew.trans (hb3.mono HN.out))
         clear hb3))
  go_wp2
  go_ret
  exact ⟨rfl, by rw [HNE.out]; exact HB3.out⟩
end Go.Proofs.Ytoddadohmnaolaa
