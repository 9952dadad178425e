import Derived.Test.YtaoppgkkgpdcaaaRows
import Derived.WalkKit
import Derived.WalkSpells
import Derived.WalkLawsBesides
import Derived.Laws.AppendOwnNone
import Derived.Deep.RegionLaw
import Derived.Deep.WholeRow
namespace Go.Proofs.Ytaoppgkkgpdcaaa
open Go.RowKit

theorem hide {p : Prop} (h : p) : Hid p := h

/-- the writer at block B: what was written is v, its bound L, no run is open, its error e -/
def Wr (w : World) (B : Nat) (v : Value) (L e : Nat) : Prop :=
  w.heap[B]? = some (.cells #[v, .int .i64 (L : Int), .slice none 0 0, .int .i64 (e : Int)] 35 (0, 0))
theorem cell_of {w : World} {B : Nat} {cur : Array Value} {t : TypeId} (h : w.heap[B]? = some (.cells cur t (0, 0))) (i : Nat) (u : Value) (hu : cur[i]? = some u) : w.cell? ⟨B, i, none⟩ = some u := by
  simp [World.cell?, h, hu]
theorem Wr.cells {w : World} {B : Nat} {v : Value} {L e : Nat} (h : Wr w B v L e) :
    w.cell? ⟨B, 0, none⟩ = some v ∧ w.cell? ⟨B, 1, none⟩ = some (.int .i64 (L : Int)) ∧ w.cell? ⟨B, 2, none⟩ = some (.slice none 0 0) ∧ w.cell? ⟨B, 3, none⟩ = some (.int .i64 (e : Int)) ∧
    w.frozen? ⟨B, 0, none⟩ = false ∧ w.frozen? ⟨B, 3, none⟩ = false :=
  ⟨cell_of h 0 _ rfl, cell_of h 1 _ rfl, cell_of h 2 _ rfl, cell_of h 3 _ rfl, frozen_of_row w B 0 _ 35 h, frozen_of_row w B 3 _ 35 h⟩
theorem Wr.set0 {w : World} {B : Nat} {v : Value} {L e : Nat} (h : Wr w B v L e) (v' : Value) : Wr (w.setCell ⟨B, 0, none⟩ v') B v' L e := by
  have := heap_setCell_same w B 0 _ 35 v' h
  simpa [Wr] using this
theorem Wr.set3 {w : World} {B : Nat} {v : Value} {L e : Nat} (h : Wr w B v L e) (e' : Nat) : Wr (w.setCell ⟨B, 3, none⟩ (.int .i64 (e' : Int))) B v L e' := by
  have := heap_setCell_same w B 3 _ 35 (.int .i64 (e' : Int)) h
  simpa [Wr] using this
theorem Wr.lt {w : World} {B : Nat} {v : Value} {L e : Nat} (h : Wr w B v L e) : B < w.heap.size := by
  rcases Nat.lt_or_ge B w.heap.size with h' | h'
  · exact h'
  · simp [Wr, Array.getElem?_eq_none h'] at h
theorem Wr.at {w w' : World} {B : Nat} {v : Value} {L e : Nat} (h : Wr w B v L e) (hb : w'.heap[B]? = w.heap[B]?) : Wr w' B v L e := by
  unfold Wr; rw [hb]; exact h

/-- n bytes of the call's own, behind block B -/
def Ow (w : World) (B : Nat) (v : Value) (n : Nat) : Prop := ∃ xs, w.ownsRow (B + 1) 5 1 v n xs ∧ ∀ u ∈ xs, u.oneCell' = true
theorem Ow.len {w : World} {B : Nat} {v : Value} {n : Nat} (h : Ow w B v n) : ∃ ao cap, v = .slice ao n cap := by
  obtain ⟨xs, ⟨hl, ⟨rfl, rfl⟩ | ⟨g, cap, cur, rfl, _⟩⟩, _⟩ := h
  · exact ⟨_, _, rfl⟩
  · exact ⟨_, _, rfl⟩
theorem info5' : ∃ i, Try.prog.info? 5 = some i ∧ i.zero = some (.int .u8 0) ∧ i.size = 1 ∧ i.bytes = 1 := info_parts (by kernel_rfl)

/-- the writer with n bytes written -/
def St (w : World) (B n L e : Nat) : Prop := ∃ v, Wr w B v L e ∧ Ow w B v n

set_option maxHeartbeats 400000 in
theorem err_any (w : World) (B : Nat) (v : Value) (L e : Nat) (h : Wr w B v L e) :
    Calls Try.prog 6 #[.pointer (some ⟨B, 0, none⟩)] w fun x w' => x = .returned (.int .i64 (e : Int)) ∧ w' = w := by
  obtain ⟨c0, c1, c2, c3, f0, f3⟩ := h.cells
  clear h
  go_enter Try.func6, Try.ntmps6
  go_wp2
  go_ret
  exact ⟨rfl, rfl⟩
set_option maxHeartbeats 400000 in
theorem len_any (w : World) (B : Nat) (v : Value) (n L e : Nat) (h : Wr w B v L e) (hv : Ow w B v n) :
    Calls Try.prog 7 #[.pointer (some ⟨B, 0, none⟩)] w fun x w' => x = .returned (.int .i64 (n : Int)) ∧ w' = w := by
  obtain ⟨ao, cap, rfl⟩ := hv.len
  obtain ⟨c0, c1, c2, c3, f0, f3⟩ := h.cells
  clear h hv
  go_enter Try.func7, Try.ntmps7
  go_wp2
  go_ret
  exact ⟨rfl, rfl⟩
set_option maxHeartbeats 400000 in
theorem new_any (w : World) (L : Nat) (hL : L ≤ 4096) :
    Calls Try.prog 4 #[.int .i64 (L : Int)] w fun x w' => x = .returned (.pointer (some ⟨w.heap.size, 0, none⟩)) ∧ St w' w.heap.size 0 L 0 ∧ Below w.heap.size w w' := by
  go_enter Try.func4, Try.ntmps4
  go_wp2
  go_ret
  refine ⟨rfl, ⟨.slice none 0 0, ?_, [], World.ownsRow_nil _ _ _ _, by simp⟩, (Below.refl _ _).alloc (Nat.le_refl _) _⟩
  exact heap_alloc_last _ _
set_option maxHeartbeats 400000 in
theorem fail_zero (w : World) (B : Nat) (v : Value) (L c : Nat) (h : Wr w B v L 0) :
    Calls Try.prog 13 #[.pointer (some ⟨B, 0, none⟩), .int .i64 (c : Int)] w fun x w' => x = .returned (.tuple #[]) ∧ w' = w.setCell ⟨B, 3, none⟩ (.int .i64 (c : Int)) := by
  obtain ⟨c0, c1, c2, c3, f0, f3⟩ := h.cells
  clear h
  go_enter Try.func13, Try.ntmps13
  go_wp2
  go_end0
  exact ⟨rfl, rfl⟩
end Go.Proofs.Ytaoppgkkgpdcaaa
