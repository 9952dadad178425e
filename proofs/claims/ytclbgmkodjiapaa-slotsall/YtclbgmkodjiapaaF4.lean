import Derived.Test.YtclbgmkodjiapaaF3
namespace Go.Proofs.Ytclbgmkodjiapaa
open Go.RowKit Go.Shelf
attribute [local go_sem] Oper.semAt_some

/-- a table that is being filled: its count is told apart -/
structure RawAt {α : Type} (K : Knd α) (w : World) (F : Nat → Prop) (B p : Nat) (ps : List (Option Nat)) (m : List (Option α)) (cnt : Nat) : Prop where
  top : w.heap[B]? = some (.cells #[.slice (some ⟨p, 0, none⟩) m.length m.length, .int .i64 (cnt : Int)] K.S (0, 0))
  row : w.heap[p]? = some (.cells (ps.map ptr).toArray K.P (0, 0))
  len : ps.length = m.length
  free : ∀ (i : Nat), m[i]? = some none → ps[i]? = some none
  held : ∀ (i : Nat) (x : α), m[i]? = some (some x) → ∃ q, ps[i]? = some (some q) ∧ w.heap[q]? = some (.cells (K.enc x) K.E (0, 0)) ∧ F q ∧ q ≠ B ∧ q ≠ p
  inj : ∀ (i j q : Nat), ps[i]? = some (some q) → ps[j]? = some (some q) → i = j
  fB : F B
  fp : F p
  ne : p ≠ B
  lt : ∀ b, F b → b < w.heap.size
  cap : m.length ≤ 4096
section
variable {α : Type} {K : Knd α} {w : World} {F : Nat → Prop} {B p cnt : Nat} {ps : List (Option Nat)} {m : List (Option α)}
theorem TabAt.raw (h : TabAt K w F B p ps m) : RawAt K w F B p ps m (m.countP Option.isSome) := ⟨h.top, h.row, h.len, h.free, h.held, h.inj, h.fB, h.fp, h.ne, h.lt, h.cap⟩
theorem RawAt.tab (h : RawAt K w F B p ps m cnt) (hc : m.countP Option.isSome = cnt) : TabAt K w F B p ps m := ⟨by rw [hc]; exact h.top, h.row, h.len, h.free, h.held, h.inj, h.fB, h.fp, h.ne, h.lt, h.cap⟩
theorem RawAt.own (h : RawAt K w F B p ps m cnt) {w' : World} {row : Option Nat} (hg : w.grownBy w' row) (hr : ∀ r, row = some r → ∃ o : Obj, w.heap[r]? = some o ∧ o.isCells = false) : RawAt K w' F B p ps m cnt := by
  have key : ∀ (b : Nat) (cs : Array Value) (t : TypeId) (fr : Nat × Nat), w.heap[b]? = some (Obj.cells cs t fr) → w'.heap[b]? = some (Obj.cells cs t fr) := fun b cs t fr hb => by
    rw [hg.block b (Array.getElem?_eq_some_iff.1 hb).1 (fun e => by obtain ⟨o, h1, h2⟩ := hr b e.symm; rw [hb] at h1; cases h1; cases h2)]
    exact hb
  exact ⟨key _ _ _ _ h.top, key _ _ _ _ h.row, h.len, h.free, fun i x hx => by obtain ⟨q, h1, h2, h3⟩ := h.held i x hx; exact ⟨q, h1, key _ _ _ _ h2, h3⟩,
    h.inj, h.fB, h.fp, h.ne, fun b hb => Nat.lt_of_lt_of_le (h.lt b hb) hg.size, h.cap⟩
/-- what lay leaves, of whatever place -/
theorem RawAt.lay (h : RawAt K w F B p ps m cnt) {i : Nat} (hi : i < m.length) (x : α) {c : Int} (hc : c = ((cnt + 1 : Nat) : Int)) :
    RawAt K (((w.alloc (.cells (K.enc x) K.E)).setCell ⟨p, i, none⟩ (.pointer (some ⟨w.heap.size, 0, none⟩))).setCell ⟨B, 1, none⟩ (.int .i64 c)) (fun b => F b ∨ b = w.heap.size) B p (ps.set i (some w.heap.size)) (m.set i (some x)) (cnt + 1) := by
  have hB := h.lt B h.fB
  have hp := h.lt p h.fp
  have hne := h.ne
  have t1 : (w.alloc (.cells (K.enc x) K.E)).heap[B]? = _ := (Below.heap_alloc w _ B hB).trans h.top
  have r1 : (w.alloc (.cells (K.enc x) K.E)).heap[p]? = _ := (Below.heap_alloc w _ p hp).trans h.row
  have hil : i < ps.length := by rw [h.len]; exact hi
  refine ⟨?_, ?_, by simp [h.len], ?_, ?_, ?_, .inl h.fB, .inl h.fp, h.ne, ?_, by simpa using h.cap⟩
  · have t2 : ((w.alloc (.cells (K.enc x) K.E)).setCell ⟨p, i, none⟩ (.pointer (some ⟨w.heap.size, 0, none⟩))).heap[B]? = _ := (heap_setCell_other _ _ B _ (fun e => hne e.symm)).trans t1
    rw [heap_setCell_same _ B 1 _ _ _ t2, hc]
    simp
  · rw [heap_setCell_other _ _ p _ hne, heap_setCell_same _ p i _ _ _ r1]
    rw [show (Value.pointer (some ⟨w.heap.size, 0, none⟩)) = Ytclbgmkodjiapaa.ptr (some w.heap.size) from rfl, set_ptr]
  · intro j hj
    rw [List.getElem?_set] at hj ⊢
    split at hj
    · simp at hj
    · rename_i e
      rw [if_neg e]
      exact h.free j hj
  · intro j y hj
    rw [List.getElem?_set] at hj
    split at hj
    · rename_i e
      subst e
      cases hj
      refine ⟨w.heap.size, ?_, ?_, .inr rfl, by omega, by omega⟩
      · rw [List.getElem?_set]; simp [hil]
      · rw [heap_setCell_other _ _ _ _ (show w.heap.size ≠ B by omega), heap_setCell_other _ _ _ _ (show w.heap.size ≠ p by omega)]
        exact heap_alloc_new _ _
    · rename_i e
      obtain ⟨q, h1, h2, h3, h4, h5⟩ := h.held j y hj
      have hq := h.lt q h3
      refine ⟨q, ?_, ?_, .inl h3, h4, h5⟩
      · rw [List.getElem?_set]; simp [e, h1]
      · rw [heap_setCell_other _ _ _ _ h4, heap_setCell_other _ _ _ _ h5, Below.heap_alloc w _ q hq]; exact h2
  · intro j k q hj hk
    rw [List.getElem?_set] at hj hk
    have hold : ∀ l : Nat, ps[l]? = some (some w.heap.size) → False := by
      intro l hl
      have hlm : l < m.length := by rw [← h.len]; exact (List.getElem?_eq_some_iff.1 hl).1
      cases hm : m[l] with
      | none => have := h.free l (by rw [List.getElem?_eq_getElem hlm, hm]); rw [hl] at this; cases this
      | some y =>
        obtain ⟨q', h1, _, h3, _⟩ := h.held l y (by rw [List.getElem?_eq_getElem hlm, hm])
        rw [hl] at h1; cases h1
        have := h.lt _ h3; omega
    split at hj <;> split at hk
    · omega
    · cases hj; exact (hold _ hk).elim
    · cases hk; exact (hold _ hj).elim
    · exact h.inj j k q hj hk
  · intro b hb
    have hs : w.heap.size < (w.alloc (.cells (K.enc x) K.E)).heap.size := by simp
    simp [World.setCell] at *
    rcases hb with hb | hb
    · have := h.lt b hb; omega
    · omega

end
set_option maxHeartbeats 400000 in
theorem layRaw_any (w : World) (F : Nat → Prop) (B p cnt : Nat) (ps : List (Option Nat)) (m : List (Option Int)) (h : RawAt KI w F B p ps m cnt) (k : Nat) (hk : k < m.length) (hcnt : cnt ≤ 4096) (c : Int) :
    Calls Try.prog 32 #[.pointer (some ⟨B, 0, none⟩), .int .i64 k, .int .i64 c] w fun x w' => x = .returned (.tuple #[]) ∧ (∃ ps', RawAt KI w' (fun b => F b ∨ b = w.heap.size) B p ps' (m.set k (some c)) (cnt + 1)) ∧ Mod F w w' ∧ KeepsOthers w w' ∧ w.heap.size < w'.heap.size := by
  have HL := hide (fun t => h.lay hk c (c := t))
  have HM := hide (fun a b c => (((Mod.refl F w).alloc a).setCell (p := ⟨p, k, none⟩) (.inl h.fp) b).setCell (p := ⟨B, 1, none⟩) (.inl h.fB) c)
  have hB := h.lt B h.fB
  have hp := h.lt p h.fp
  have t1 := fun o => (Below.heap_alloc w o B hB).trans h.top
  have r1 := fun o => (Below.heap_alloc w o p hp).trans h.row
  have c0 := fun o => cell_of_row _ _ 0 _ _ _ (t1 o)
  have c1 := fun o => cell_of_row _ _ 1 _ _ _ (t1 o)
  have f1 := fun o => frozen_of_row _ B 1 _ _ (t1 o)
  have f2 := fun o => frozen_of_row _ p k _ _ (r1 o)
  have hks : k < ps.length := by rw [h.len]; exact hk
  have c2 := fun o => cell_of_row _ _ k _ _ _ (r1 o)
  simp at c0 c1 c2
  simp only [List.getElem?_eq_getElem hks, Option.map_some] at c2
  generalize ptr ps[k] = v0 at c2
  have hne := h.ne
  clear h t1 r1 hB hp
  generalize m.length = n at *
  go_enter Try.func32, Try.ntmps32
  go_wp2
  go_end0
  exact ⟨rfl, ⟨_, HL.out _ (by simp)⟩, HM.out _ _ _, ((KeepsOthers.alloc _ _).trans (KeepsOthers.setCell _ _ _)).trans (KeepsOthers.setCell _ _ _), by simp [World.setCell]⟩
end Go.Proofs.Ytclbgmkodjiapaa
