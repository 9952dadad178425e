import Derived.Test.YtjpnjgbcmodnoaaX9
import Derived.Shelf.GgSortFunc.InsertionK
namespace Go.Proofs.Ytjpnjgbcmodnoaa
open Go.RowKit Go.Shelf Go.Sort Go.Proofs

theorem flat_encPs (ps : List (Nat × Nat)) : (flatK encP 2 ps.toArray).toList = encPs ps := by
  apply List.ext_getElem?
  intro t
  by_cases h : t < ps.length * 2
  · have hk : t / 2 < ps.length := by omega
    have hz : t < (flatK encP 2 ps.toArray).size := by rw [size_flatK]; simpa using h
    have e0 := get_flatK encP 2 ps.toArray t (by simpa using h)
    rw [getElem!_pos _ t hz] at e0
    have e1 : ps.toArray[t / 2]! = ps[t / 2] := by rw [getElem!_pos _ _ (by simpa using hk)]; simp
    rw [Array.getElem?_toList, Array.getElem?_eq_getElem hz, e0, e1]
    rcases Nat.mod_two_eq_zero_or_one t with h2 | h2
    · have h3 := (encPs_at hk).1
      rw [show t / 2 * 2 = t by omega] at h3
      rw [h3, h2]; rfl
    · have h3 := (encPs_at hk).2
      rw [show t / 2 * 2 + 1 = t by omega] at h3
      rw [h3, h2]; rfl
  · rw [List.getElem?_eq_none (by rw [Array.length_toList, size_flatK]; simp; omega), List.getElem?_eq_none (by rw [encPs_len]; omega)]
theorem holdsK_own {w : World} {g : Nat} {cur : Array Value} {e : TypeId} {ps : List (Nat × Nat)} (hb : w.heap[g]? = some (.cells cur e (0, 0))) (ht : cur.toList.take (ps.length * 2) = encPs ps) : HoldsK encP 2 w g 0 ps.toArray := by
  intro j hj
  have hj' : j < ps.length * 2 := by simpa using hj
  refine ⟨?_, by simp [World.frozen?, hb]⟩
  have h1 : (cur.toList.take (ps.length * 2))[j]? = (encPs ps)[j]? := by rw [ht]
  rw [List.getElem?_take_of_lt hj', ← flat_encPs, Array.getElem?_toList, Array.getElem?_toList, Array.getElem?_eq_getElem hj] at h1
  simp only [World.cell?, hb, Nat.zero_add]
  simp only [Option.isSome_none, Bool.false_eq_true, if_false]
  rw [h1, getElem!_pos _ j hj]; rfl
theorem heap_sortedK {w : World} {g n : Nat} {os : Array Obj} {cur : Array Value} {e : TypeId} {fr : Nat × Nat} (d : Array (Nat × Nat)) (hb : w.heap[g]? = some (.cells cur e fr)) :
    (sortWorldK encP 2 w g 0 n d os).heap[g]? = some (.cells (putCells id 0 (flatK encP 2 d) cur) e fr) := by
  have hg : g < w.heap.size := (Array.getElem?_eq_some_iff.1 hb).1
  unfold sortWorldK putRowK
  rw [heap_grow_old _ _ (by simpa using hg)]
  simp [putRow, mapBlock, Sort.ahead, Array.getElem?_modify, hb, onCells]
theorem grownBy_sortedK {w : World} {g n : Nat} {os : Array Obj} (d : Array (Nat × Nat)) : w.grownBy (sortWorldK encP 2 w g 0 n d os) (some g) := by
  unfold sortWorldK putRowK
  refine ⟨rfl, rfl, rfl, by simp, fun k hk hne => ?_⟩
  rw [heap_grow_old _ _ (by simpa using hk)]
  have : g ≠ k := fun e => hne (by rw [e])
  simp [putRow, mapBlock, Sort.ahead, Array.getElem?_modify, this]
theorem take_putCellsK (cur D : Array Value) (h : D.size ≤ cur.size) : (putCells id 0 D cur).toList.take D.size = D.toList := by
  apply List.ext_getElem?
  intro j
  by_cases hj : j < D.size
  · rw [List.getElem?_take_of_lt hj, Array.getElem?_toList]
    simp [putCells, hj, show j < cur.size by omega]
  · rw [List.getElem?_take_eq_none (by omega), List.getElem?_eq_none (by simp; omega)]
/-- behind the sort the same slice owns the sorted list -/
theorem ownsRow_sortedK {w : World} {base g cap n : Nat} {e : TypeId} {os : Array Obj} {cur : Array Value} {ss ts : List (Nat × Nat)} (hl : ts.length = ss.length) (hbase : base ≤ g) (hb : w.heap[g]? = some (.cells cur e (0, 0)))
    (h1 : ss.length ≤ cap) (h2 : cap ≤ maxLen) (h3 : cur.size = cap * 2) :
    (sortWorldK encP 2 w g 0 n ts.toArray os).ownsRow base e 2 (.slice (some ⟨g, 0, none⟩) ss.length cap) ss.length (encPs ts) := by
  have hz : (flatK encP 2 ts.toArray).size = ss.length * 2 := by rw [size_flatK]; simp [hl]
  refine ⟨by rw [encPs_len, hl], .inr ⟨g, cap, _, rfl, hbase, heap_sortedK _ hb, h1, h2, by simp [putCells, h3], ?_⟩⟩
  have h4 := take_putCellsK cur (flatK encP 2 ts.toArray) (by omega)
  rw [hz, flat_encPs] at h4
  exact h4
theorem grew_sorted {w : World} {g n len cap : Nat} {os : Array Obj} (d : Array (Nat × Nat)) : Grew w (.slice (some ⟨g, 0, none⟩) len cap) (sortWorldK encP 2 w g 0 n d os) (.slice (some ⟨g, 0, none⟩) len cap) := ⟨grownBy_sortedK d, fun _ h => .inl h⟩
/-- the order of places -/
theorem ci_neg (x y : Nat) : (ci (x : Int) (y : Int) < 0) = (x < y) := by
  unfold ci
  split
  · simp; omega
  · split
    · simp; omega
    · simp; omega
theorem ci_zero (x y : Nat) : (ci (x : Int) (y : Int) = 0) = (x = y) := by
  unfold ci
  split
  · simp; omega
  · split
    · simp; omega
    · simp; omega
theorem cp_neg (x y : Nat × Nat) : cp x y < 0 ↔ PLt x y := by
  unfold cp orr PLt
  split
  · rename_i h
    rw [ci_zero] at h
    rw [ci_neg]; omega
  · rename_i h
    rw [ci_zero] at h
    rw [ci_neg]; omega
end Go.Proofs.Ytjpnjgbcmodnoaa
