import Derived.Test.YtclbgmkodjiapaaGK
import Derived.Test.YtclbgmkodjiapaaGS
namespace Go.Proofs.Ytclbgmkodjiapaa
open Go.RowKit

/-- the document's table: whether a place is taken, and what lies there -/
def hb (m : List (Option Int)) : List Value := m.map (fun o => .bool o.isSome)
def hv (m : List (Option Int)) : List Value := m.map (fun o => .int .i64 (o.getD 0))
structure RefAt (w : World) (F : Nat → Prop) (R p q : Nat) (m : List (Option Int)) : Prop where
  top : w.heap[R]? = some (.cells #[.slice (some ⟨p, 0, none⟩) m.length m.length, .slice (some ⟨q, 0, none⟩) m.length m.length] 65 (0, 0))
  has : w.heap[p]? = some (.cells (hb m).toArray 4 (0, 0))
  val : w.heap[q]? = some (.cells (hv m).toArray 3 (0, 0))
  npq : p ≠ q
  npR : p ≠ R
  nqR : q ≠ R
  fR : F R
  fp : F p
  fq : F q
  lt : ∀ b, F b → b < w.heap.size
  cap : m.length ≤ 4096
def Ref (w : World) (F : Nat → Prop) (R : Nat) (m : List (Option Int)) : Prop := ∃ p q, RefAt w F R p q m
section
variable {w w' : World} {F : Nat → Prop} {R p q : Nat} {m : List (Option Int)}
theorem RefAt.keep (h : RefAt w F R p q m) (hs : w.heap.size ≤ w'.heap.size) (hk : ∀ b, F b → w'.heap[b]? = w.heap[b]?) : RefAt w' F R p q m :=
  ⟨by rw [hk R h.fR]; exact h.top, by rw [hk p h.fp]; exact h.has, by rw [hk q h.fq]; exact h.val, h.npq, h.npR, h.nqR, h.fR, h.fp, h.fq, fun b hb => Nat.lt_of_lt_of_le (h.lt b hb) hs, h.cap⟩
theorem Ref.keep (h : Ref w F R m) (hs : w.heap.size ≤ w'.heap.size) (hk : ∀ b, F b → w'.heap[b]? = w.heap[b]?) : Ref w' F R m := by
  obtain ⟨p, q, h⟩ := h; exact ⟨p, q, h.keep hs hk⟩
theorem Ref.lt (h : Ref w F R m) : ∀ b, F b → b < w.heap.size := by obtain ⟨p, q, h⟩ := h; exact h.lt
theorem Ref.cap (h : Ref w F R m) : m.length ≤ 4096 := by obtain ⟨p, q, h⟩ := h; exact h.cap
theorem Ref.apart (h : Ref w F R m) {G G' : Nat → Prop} (hx : Ext G w G' w') (hd : ∀ b, F b → ¬ G b) : Ref w' F R m :=
  h.keep hx.mod.size (fun b hb => hx.mod.block b (h.lt b hb) (hd b hb))
theorem Ref.below (h : Ref w F R m) (hb : Below w.heap.size w w') : Ref w' F R m := h.keep hb.size (fun b hF => hb.block b (h.lt b hF))
theorem RefAt.cells (h : RefAt w F R p q m) : w.cell? ⟨R, 0, none⟩ = some (.slice (some ⟨p, 0, none⟩) m.length m.length) ∧ w.cell? ⟨R, 1, none⟩ = some (.slice (some ⟨q, 0, none⟩) m.length m.length) :=
  ⟨by rw [cell_of_row _ _ _ _ _ _ h.top]; rfl, by rw [cell_of_row _ _ _ _ _ _ h.top]; rfl⟩
theorem RefAt.at (h : RefAt w F R p q m) {k : Nat} {o : Option Int} (hk : m[k]? = some o) : w.cell? ⟨p, k, none⟩ = some (.bool o.isSome) ∧ w.cell? ⟨q, k, none⟩ = some (.int .i64 (o.getD 0)) ∧ w.frozen? ⟨p, k, none⟩ = false ∧ w.frozen? ⟨q, k, none⟩ = false :=
  ⟨by rw [cell_of_row _ _ _ _ _ _ h.has]; simp [hb, hk], by rw [cell_of_row _ _ _ _ _ _ h.val]; simp [hv, hk], frozen_of_row _ _ _ _ _ h.has, frozen_of_row _ _ _ _ _ h.val⟩
theorem hb_set (m : List (Option Int)) (k : Nat) (o : Option Int) : (hb m).toArray.setIfInBounds k (.bool o.isSome) = (hb (m.set k o)).toArray := by
  apply Array.toList_inj.1; simp [hb, List.map_set]
theorem hv_set (m : List (Option Int)) (k : Nat) (o : Option Int) : (hv m).toArray.setIfInBounds k (.int .i64 (o.getD 0)) = (hv (m.set k o)).toArray := by
  apply Array.toList_inj.1; simp [hv, List.map_set]
theorem RefAt.set (h : RefAt w F R p q m) (k : Nat) (o : Option Int) : RefAt ((w.setCell ⟨p, k, none⟩ (.bool o.isSome)).setCell ⟨q, k, none⟩ (.int .i64 (o.getD 0))) F R p q (m.set k o) := by
  refine ⟨?_, ?_, ?_, h.npq, h.npR, h.nqR, h.fR, h.fp, h.fq, fun b hb => by have := h.lt b hb; simpa [World.setCell] using this, by simpa using h.cap⟩
  · rw [heap_setCell_other _ _ _ _ (fun e => h.nqR e.symm), heap_setCell_other _ _ _ _ (fun e => h.npR e.symm), List.length_set]; exact h.top
  · rw [heap_setCell_other _ _ _ _ h.npq, heap_setCell_same _ p k _ _ _ h.has, hb_set]
  · rw [heap_setCell_same _ q k _ _ _ ((heap_setCell_other _ _ _ _ (fun e => h.npq e.symm)).trans h.val), hv_set]
theorem RefAt.setv (h : RefAt w F R p q m) {k : Nat} {x : Int} (hk : m[k]? = some (some x)) (v : Int) : RefAt (w.setCell ⟨q, k, none⟩ (.int .i64 v)) F R p q (m.set k (some v)) := by
  refine ⟨?_, ?_, ?_, h.npq, h.npR, h.nqR, h.fR, h.fp, h.fq, fun b hb => by have := h.lt b hb; simpa [World.setCell] using this, by simpa using h.cap⟩
  · rw [heap_setCell_other _ _ _ _ (fun e => h.nqR e.symm), List.length_set]; exact h.top
  · rw [heap_setCell_other _ _ _ _ h.npq, ← hb_set, h.has]
    congr 2
    apply Array.ext_getElem?
    intro j
    obtain ⟨hk1, hk2⟩ := List.getElem?_eq_some_iff.1 hk
    rw [Array.getElem?_setIfInBounds]
    split
    · rename_i e; subst e
      simp [hb, hk1, hk2]
    · rfl
  · rw [heap_setCell_same _ q k _ _ _ h.val]; rw [show (Value.int .i64 v) = .int .i64 ((some v).getD 0) from rfl, hv_set]
theorem RefAt.mod (h : RefAt w F R p q m) {W : World} (hm : Mod F w W) (k : Nat) (u v : Value) : Mod F w ((W.setCell ⟨p, k, none⟩ u).setCell ⟨q, k, none⟩ v) :=
  (hm.setCell (p := ⟨p, k, none⟩) (.inl h.fp) u).setCell (p := ⟨q, k, none⟩) (.inl h.fq) v
end
theorem boundR_any (w : World) (n : Int) : Calls Try.prog 34 #[.int .i64 n] w fun x w' => x = .returned (.int .i64 (clp n : Nat)) ∧ w' = w := by
  rcases clp_cases n with ⟨h, e⟩ | ⟨N, h1, rfl, e⟩ | ⟨h, e⟩ <;> rw [e] <;> clear e
  · go_enter Try.func34, Try.ntmps34
    go_wp2
    go_ret
    exact ⟨rfl, rfl⟩
  · have h3 : decide ((4096 : Int) < (N : Int)) = false := by simp; omega
    have h4 : decide ((N : Int) < 0) = false := by simp
    go_enter Try.func34, Try.ntmps34
    go_wp2
    go_ret
    exact ⟨rfl, rfl⟩
  · have h4 : decide (n < 0) = false := by simp; omega
    rcases Int.lt_or_eq_of_le h with h' | rfl
    · have h3 : decide ((4096 : Int) < n) = true := by simp; omega
      go_enter Try.func34, Try.ntmps34
      go_wp2
      go_ret
      exact ⟨rfl, rfl⟩
    · go_enter Try.func34, Try.ntmps34
      go_wp2
      go_ret
      exact ⟨rfl, rfl⟩
theorem infoB : ∃ i, Try.prog.info? 4 = some i ∧ i.zero = some (.bool false) ∧ i.size = 1 ∧ i.bytes = 1 := info_parts (by kernel_rfl)
theorem infoN : ∃ i, Try.prog.info? 3 = some i ∧ i.zero = some (.int .i64 0) ∧ i.size = 1 ∧ i.bytes = 8 := info_parts (by kernel_rfl)
theorem makeB (w : World) (n : Nat) (h : n ≤ 4096) : (Instr.makeSlice 62 (.int .i64 (n : Int)) (.int .i64 (n : Int))).run Try.prog w = .ok (.slice (some ⟨w.heap.size, 0, none⟩) n n) (w.alloc (.cells (madeCells #[.bool false] n) 4)) := by
  obtain ⟨i, hi, hz, hs, hb⟩ := infoB
  simpa [hs, Value.cells] using run_make (P := Try.prog) w 62 4 i (.bool false) Try.underlying62 hi hz .i64 .i64 n n (by omega) (Int.le_refl _) (by rw [hb]; omega) (by omega)
theorem makeN (w : World) (n : Nat) (h : n ≤ 4096) : (Instr.makeSlice 63 (.int .i64 (n : Int)) (.int .i64 (n : Int))).run Try.prog w = .ok (.slice (some ⟨w.heap.size, 0, none⟩) n n) (w.alloc (.cells (madeCells #[.int .i64 0] n) 3)) := by
  obtain ⟨i, hi, hz, hs, hb⟩ := infoN
  simpa [hs, Value.cells] using run_make (P := Try.prog) w 63 3 i (.int .i64 0) Try.underlying63 hi hz .i64 .i64 n n (by omega) (Int.le_refl _) (by rw [hb]; omega) (by omega)
theorem RefAt.fresh {w W : World} {R p q N : Nat} (hN : N ≤ 4096) (top : W.heap[R]? = some (.cells #[.slice (some ⟨p, 0, none⟩) N N, .slice (some ⟨q, 0, none⟩) N N] 65 (0, 0)))
    (has : W.heap[p]? = some (.cells (madeCells #[.bool false] N) 4 (0, 0))) (val : W.heap[q]? = some (.cells (madeCells #[.int .i64 0] N) 3 (0, 0))) (h1 : p ≠ q) (h2 : p ≠ R) (h3 : q ≠ R) (h4 : w.heap.size ≤ R ∧ w.heap.size ≤ p ∧ w.heap.size ≤ q) :
    ∃ F, RefAt W F R p q (List.replicate N none) ∧ ∀ b, F b → w.heap.size ≤ b := by
  refine ⟨fun b => b = R ∨ b = p ∨ b = q, ⟨by simpa using top, ?_, ?_, h1, h2, h3, .inl rfl, .inr (.inl rfl), .inr (.inr rfl), ?_, by simpa using hN⟩, ?_⟩
  · rw [has]; congr 2; rw [← Array.toArray_toList (xs := madeCells #[Value.bool false] N), toList_madeCells_one]; simp [hb]
  · rw [val]; congr 2; rw [← Array.toArray_toList (xs := madeCells #[Value.int .i64 0] N), toList_madeCells_one]; simp [hv]
  · rintro b (rfl | rfl | rfl)
    · exact (Array.getElem?_eq_some_iff.1 top).1
    · exact (Array.getElem?_eq_some_iff.1 has).1
    · exact (Array.getElem?_eq_some_iff.1 val).1
  · rintro b (rfl | rfl | rfl)
    · exact h4.1
    · exact h4.2.1
    · exact h4.2.2
theorem heap3 (w : World) (a b c : Obj) : (((w.alloc a).alloc b).alloc c).drew.heap[w.heap.size]? = some a ∧ (((w.alloc a).alloc b).alloc c).drew.heap[w.heap.size + 1]? = some b ∧ (((w.alloc a).alloc b).alloc c).drew.heap[w.heap.size + 1 + 1]? = some c := by
  refine ⟨?_, ?_, ?_⟩
  · show (((w.alloc a).alloc b).alloc c).heap[w.heap.size]? = _
    rw [Below.heap_alloc _ _ _ (by simp; omega), Below.heap_alloc _ _ _ (by simp)]; exact heap_alloc_new w a
  · show (((w.alloc a).alloc b).alloc c).heap[w.heap.size + 1]? = _
    rw [Below.heap_alloc _ _ _ (by simp)]
    have := heap_alloc_new (w.alloc a) b
    simpa using this
  · show (((w.alloc a).alloc b).alloc c).heap[w.heap.size + 1 + 1]? = _
    have := heap_alloc_new ((w.alloc a).alloc b) c
    simpa using this
theorem below3 (w : World) (a b c : Obj) : Below w.heap.size w (((w.alloc a).alloc b).alloc c).drew :=
  have h := (((Below.refl w.heap.size w).alloc (Nat.le_refl _) a).alloc (by simp) b).alloc (by simp; omega) c
  ⟨h.os, h.tape, h.output, h.size, h.block⟩
set_option maxHeartbeats 800000 in
theorem newR_any (w : World) (n : Int) : Calls Try.prog 17 #[.int .i64 n] w fun x w' => ∃ R F, x = .returned (.pointer (some ⟨R, 0, none⟩)) ∧ Ref w' F R (List.replicate (clp n) none) ∧ (∀ b, F b → w.heap.size ≤ b) ∧ Below w.heap.size w w' := by
  have hc := clp_le n
  have HB := hide (boundR_any w n)
  generalize clp n = N at *
  have hm1 := fun W => makeB W N hc
  have hm2 := fun W => makeN W N hc
  go_enter Try.func17, Try.ntmps17
  go_wp2_with fail
  refine HB.out.mono ?_
  rintro e w1 ⟨rfl, rfl⟩
  go_wp2
  go_region
  · go_wp2
    go_ret
    obtain ⟨F, h1, h2⟩ := RefAt.fresh (w := w1) hc (heap3 w1 _ _ _).2.2 (heap3 w1 _ _ _).1 (heap3 w1 _ _ _).2.1 (by omega) (by omega) (by omega) ⟨by omega, by omega, by omega⟩
    exact ⟨_, F, rfl, ⟨_, _, h1⟩, h2, below3 _ _ _ _⟩
  · go_wp2
    go_ret
    obtain ⟨F, h1, h2⟩ := RefAt.fresh (w := w1) hc (heap3 w1 _ _ _).2.2 (heap3 w1 _ _ _).2.1 (heap3 w1 _ _ _).1 (by omega) (by omega) (by omega) ⟨by omega, by omega, by omega⟩
    exact ⟨_, F, rfl, ⟨_, _, h1⟩, h2, below3 _ _ _ _⟩
end Go.Proofs.Ytclbgmkodjiapaa
