import Derived.Test.YtngmnlmagbfijaaPY
import Derived.OwnWalk
namespace Go.Proofs.Ytngmnlmagbfijaa
open Go.RowKit
theorem Oi.set {w : World} {base g n cap j : Nat} {z : Int} {zs : List Int} (h : Oi w base (.slice (some ⟨g, 0, none⟩) n cap) zs) :
    Oi (w.setCell ⟨g, j, none⟩ (.int .i64 z)) base (.slice (some ⟨g, 0, none⟩) n cap) (zs.set j z) := by
  obtain ⟨hl, ⟨h0, _⟩ | ⟨g', cap', cur, hv, hb, hg, hn, hm, hs, ht⟩⟩ := h
  · cases h0
  · cases hv
    refine ⟨by simp, .inr ⟨g, cap, cur.setIfInBounds j (.int .i64 z), by simp, hb, heap_setCell_same w g j cur 3 (.int .i64 z) hg, by simpa using hn, hm, by simpa using hs, ?_⟩⟩
    rw [List.map_set, ← ht, Array.toList_setIfInBounds]
    rw [List.length_set, List.take_set]
    rfl
theorem Oi.cell {w : World} {base g n cap j : Nat} {zs : List Int} (h : Oi w base (.slice (some ⟨g, 0, none⟩) n cap) zs) (hj : j < zs.length) :
    w.cell? ⟨g, j, none⟩ = some (.int .i64 (zs.getD j 0)) ∧ w.frozen? ⟨g, j, none⟩ = false := by
  have hc := World.ownsRow.cells h rfl j (.int .i64 (zs.getD j 0)) (by simp [List.getD, List.getElem?_eq_getElem hj, Zi])
  rw [add0] at hc
  obtain ⟨hl, ⟨h0, _⟩ | ⟨g', cap', cur, hv, hb, hg, hn, hm, hs, ht⟩⟩ := h
  · cases h0
  · cases hv
    exact ⟨hc, frozen_of_row w g j cur 3 hg⟩
theorem made_ints (n : Nat) : (madeCells (Value.int .i64 0).cells (n * 1)).toList = (List.replicate n (0 : Int)).map Zi := by
  rw [Nat.mul_one]
  show (madeCells #[Value.int .i64 0] n).toList = _
  rw [toList_madeCells_one]
  simp [Zi]
end Go.Proofs.Ytngmnlmagbfijaa
