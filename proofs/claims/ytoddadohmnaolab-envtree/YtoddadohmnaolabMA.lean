import Derived.Test.YtoddadohmnaolabRows
import Derived.WalkKit
import Derived.Handy
import Derived.WalkSpells
import Derived.WalkLawsBesides
import Derived.Deep.RegionLaw
import Derived.Deep.WholeRow
import Derived.Laws.OwnMore
import Derived.Laws.MakeOwn
import Derived.Laws.ResultCell
import Derived.Deep.RegionHeld
import Derived.BigQuiet
import Derived.Deep.Cut
import Derived.Deep.DeepCutAuto
import Derived.WalkSmall
namespace Go.Proofs.Ytoddadohmnaolab
open Go.RowKit

theorem hide {p : Prop} (h : p) : Hid p := h

/-- the types of a table's struct, of its places' pointers, of its values; how a value lies in memory -/
structure Knd (α : Type) where
  S : TypeId
  P : TypeId
  E : TypeId
  enc : α → Array Value
def ptr : Option Nat → Value
  | none => .pointer none
  | some q => .pointer (some ⟨q, 0, none⟩)

/-- what a call on a table with the blocks F leaves of the rest -/
structure Mod (F : Nat → Prop) (w w' : World) : Prop where
  os : w'.os = w.os
  tape : w'.tape = w.tape
  output : w'.output = w.output
  size : w.heap.size ≤ w'.heap.size
  block : ∀ b, b < w.heap.size → ¬ F b → w'.heap[b]? = w.heap[b]?
/-- and the table's blocks behind it are F' -/
structure Ext (F : Nat → Prop) (w : World) (F' : Nat → Prop) (w' : World) : Prop where
  mod : Mod F w w'
  new : ∀ b, F' b → F b ∨ w.heap.size ≤ b

theorem Mod.refl (F : Nat → Prop) (w : World) : Mod F w w := ⟨rfl, rfl, rfl, Nat.le_refl _, fun _ _ _ => rfl⟩
theorem Mod.trans {F : Nat → Prop} {a b c : World} (h : Mod F a b) (k : Mod F b c) : Mod F a c :=
  ⟨k.os.trans h.os, k.tape.trans h.tape, k.output.trans h.output, Nat.le_trans h.size k.size, fun i hi hf => (k.block i (Nat.lt_of_lt_of_le hi h.size) hf).trans (h.block i hi hf)⟩
theorem Mod.alloc {F : Nat → Prop} {a w : World} (h : Mod F a w) (o : Obj) : Mod F a (w.alloc o) :=
  h.trans ⟨rfl, rfl, rfl, by simp, fun k hk _ => Below.heap_alloc _ _ _ (by omega)⟩
theorem Mod.setCell {F : Nat → Prop} {a w : World} (h : Mod F a w) {p : Addr} (hp : F p.block ∨ a.heap.size ≤ p.block) (u : Value) : Mod F a (w.setCell p u) :=
  ⟨h.os, h.tape, h.output, by simp [World.setCell]; exact h.size, fun k hk hf => by
    rw [Below.heap_setCell _ _ _ _ (fun e => by subst e; rcases hp with hp | hp; exact hf hp; omega)]; exact h.block k hk hf⟩
theorem Mod.drew {F : Nat → Prop} {a w : World} (h : Mod F a w) : Mod F a w.drew := ⟨h.os, h.tape, h.output, h.size, h.block⟩
theorem Mod.of_below {F : Nat → Prop} {a w : World} (h : Below a.heap.size a w) : Mod F a w := ⟨h.os, h.tape, h.output, h.size, fun k hk _ => h.block k hk⟩
theorem Mod.below {F : Nat → Prop} {a w : World} {B : Nat} (h : Mod F a w) (hF : ∀ b, F b → B ≤ b) (hB : B ≤ a.heap.size) : Below B a w :=
  ⟨h.os, h.tape, h.output, h.size, fun k hk => h.block k (by omega) (fun hf => by have := hF k hf; omega)⟩
theorem Ext.refl (F : Nat → Prop) (w : World) : Ext F w F w := ⟨Mod.refl _ _, fun _ h => .inl h⟩
theorem Ext.trans {F F' F'' : Nat → Prop} {a b c : World} (h : Ext F a F' b) (k : Ext F' b F'' c) : Ext F a F'' c :=
  ⟨⟨k.mod.os.trans h.mod.os, k.mod.tape.trans h.mod.tape, k.mod.output.trans h.mod.output, Nat.le_trans h.mod.size k.mod.size, fun i hi hf => by
      rw [k.mod.block i (Nat.lt_of_lt_of_le hi h.mod.size) (fun h' => by rcases h.new i h' with h1 | h1; exact hf h1; omega)]
      exact h.mod.block i hi hf⟩,
   fun i h' => by
      rcases k.new i h' with h1 | h1
      · exact h.new i h1
      · exact .inr (Nat.le_trans h.mod.size h1)⟩
theorem Ext.low {F F' : Nat → Prop} {a w : World} {B : Nat} (h : Ext F a F' w) (hF : ∀ b, F b → B ≤ b) (hB : B ≤ a.heap.size) : ∀ b, F' b → B ≤ b := by
  intro b hb; rcases h.new b hb with h1 | h1
  · exact hF b h1
  · omega

structure TabAt {α : Type} (K : Knd α) (w : World) (F : Nat → Prop) (B p : Nat) (ps : List (Option Nat)) (m : List (Option α)) : Prop where
  top : w.heap[B]? = some (.cells #[.slice (some ⟨p, 0, none⟩) m.length m.length, .int .i64 ((m.countP Option.isSome : Nat) : Int)] K.S (0, 0))
  row : w.heap[p]? = some (.cells (ps.map ptr).toArray K.P (0, 0))
  len : ps.length = m.length
  free : ∀ (i : Nat), m[i]? = some none → ps[i]? = some none
  held : ∀ (i : Nat) (x : α), m[i]? = some (some x) → ∃ q, ps[i]? = some (some q) ∧ w.heap[q]? = some (.cells (K.enc x) K.E (0, 0)) ∧ F q ∧ q ≠ B ∧ q ≠ p
  inj : ∀ (i j q : Nat), ps[i]? = some (some q) → ps[j]? = some (some q) → i = j
  fB : F B
  fp : F p
  ne : p ≠ B
  lt : ∀ b, F b → b < w.heap.size
  cap : m.length ≤ 4096
/-- a table at block B, its blocks among F, with m in its places -/
def Tab {α : Type} (K : Knd α) (w : World) (F : Nat → Prop) (B : Nat) (m : List (Option α)) : Prop := ∃ p ps, TabAt K w F B p ps m

section
variable {α : Type} {K : Knd α} {w : World} {F : Nat → Prop} {B p : Nat} {ps : List (Option Nat)} {m : List (Option α)}

theorem TabAt.keep (h : TabAt K w F B p ps m) {w' : World} (hs : w.heap.size ≤ w'.heap.size) (hk : ∀ b, F b → w'.heap[b]? = w.heap[b]?) : TabAt K w' F B p ps m :=
  ⟨by rw [hk B h.fB]; exact h.top, by rw [hk p h.fp]; exact h.row, h.len, h.free,
   fun i x hx => by obtain ⟨q, h1, h2, h3, h4⟩ := h.held i x hx; exact ⟨q, h1, by rw [hk q h3]; exact h2, h3, h4⟩,
   h.inj, h.fB, h.fp, h.ne, fun b hb => Nat.lt_of_lt_of_le (h.lt b hb) hs, h.cap⟩
theorem Tab.keep (h : Tab K w F B m) {w' : World} (hs : w.heap.size ≤ w'.heap.size) (hk : ∀ b, F b → w'.heap[b]? = w.heap[b]?) : Tab K w' F B m := by
  obtain ⟨p, ps, h⟩ := h; exact ⟨p, ps, h.keep hs hk⟩
theorem Tab.lt (h : Tab K w F B m) : ∀ b, F b → b < w.heap.size := by obtain ⟨p, ps, h⟩ := h; exact h.lt
theorem Tab.fB (h : Tab K w F B m) : F B := by obtain ⟨p, ps, h⟩ := h; exact h.fB
theorem Tab.cap (h : Tab K w F B m) : m.length ≤ 4096 := by obtain ⟨p, ps, h⟩ := h; exact h.cap
theorem Tab.below (h : Tab K w F B m) {w' : World} (hb : Below w.heap.size w w') : Tab K w' F B m :=
  h.keep hb.size (fun b hf => hb.block b (h.lt b hf))
/-- another table's calls leave this one -/
theorem Tab.apart (h : Tab K w F B m) {G G' : Nat → Prop} {w' : World} (hx : Ext G w G' w') (hd : ∀ b, F b → ¬ G b) : Tab K w' F B m :=
  h.keep hx.mod.size (fun b hf => hx.mod.block b (h.lt b hf) (hd b hf))

theorem add0 (g j : Nat) : (⟨g, 0, none⟩ : Addr).add j = ⟨g, j, none⟩ := by unfold Addr.add; split <;> simp_all

theorem TabAt.cells (h : TabAt K w F B p ps m) :
    w.cell? ⟨B, 0, none⟩ = some (.slice (some ⟨p, 0, none⟩) m.length m.length) ∧ w.cell? ⟨B, 1, none⟩ = some (.int .i64 ((m.countP Option.isSome : Nat) : Int)) ∧
    w.frozen? ⟨B, 0, none⟩ = false ∧ w.frozen? ⟨B, 1, none⟩ = false :=
  ⟨by rw [cell_of_row _ _ _ _ _ _ h.top]; rfl, by rw [cell_of_row _ _ _ _ _ _ h.top]; rfl, frozen_of_row w B 0 _ _ h.top, frozen_of_row w B 1 _ _ h.top⟩
theorem TabAt.place (h : TabAt K w F B p ps m) {i : Nat} {o : Option Nat} (ho : ps[i]? = some o) : w.cell? ⟨p, i, none⟩ = some (ptr o) ∧ w.frozen? ⟨p, i, none⟩ = false :=
  ⟨by rw [cell_of_row _ _ _ _ _ _ h.row]; simp [ho], frozen_of_row w p i _ _ h.row⟩
theorem TabAt.nil (h : TabAt K w F B p ps m) {i : Nat} (hi : m[i]? = some none) : w.cell? ⟨p, i, none⟩ = some (.pointer none) := (h.place (h.free i hi)).1
theorem TabAt.ptr (h : TabAt K w F B p ps m) {i : Nat} {x : α} (hi : m[i]? = some (some x)) : ∃ q, ps[i]? = some (some q) ∧ w.cell? ⟨p, i, none⟩ = some (.pointer (some ⟨q, 0, none⟩)) ∧ w.heap[q]? = some (.cells (K.enc x) K.E (0, 0)) ∧ F q := by
  obtain ⟨q, h1, h2, h3, _⟩ := h.held i x hi
  exact ⟨q, h1, (h.place h1).1, h2, h3⟩
theorem TabAt.frz (h : TabAt K w F B p ps m) (i : Nat) : w.frozen? ⟨p, i, none⟩ = false := frozen_of_row w p i _ _ h.row

theorem count_lay {i : Nat} (hi : m[i]? = some none) (x : α) : (m.set i (some x)).countP Option.isSome = m.countP Option.isSome + 1 := by
  obtain ⟨hl, e⟩ := List.getElem?_eq_some_iff.1 hi
  rw [List.countP_set hl, e]; simp
theorem count_drop {i : Nat} {x : α} (hi : m[i]? = some (some x)) : (m.set i none).countP Option.isSome + 1 = m.countP Option.isSome := by
  obtain ⟨hl, e⟩ := List.getElem?_eq_some_iff.1 hi
  have hp : 0 < m.countP Option.isSome := List.countP_pos_iff.2 ⟨m[i], List.getElem_mem hl, by rw [e]; rfl⟩
  rw [List.countP_set hl, e]; simp; omega
theorem count_le : m.countP Option.isSome ≤ m.length := List.countP_le_length

theorem set_ptr (ps : List (Option Nat)) (i : Nat) (o : Option Nat) : ((ps.map ptr).toArray).setIfInBounds i (ptr o) = ((ps.set i o).map ptr).toArray := by
  rw [List.map_set]; simp

/-- what lay leaves -/
theorem TabAt.lay (h : TabAt K w F B p ps m) {i : Nat} (hi : m[i]? = some none) (x : α) {c : Int} (hc : c = ((m.countP Option.isSome : Nat) : Int) + 1) :
    TabAt K (((w.alloc (.cells (K.enc x) K.E)).setCell ⟨p, i, none⟩ (.pointer (some ⟨w.heap.size, 0, none⟩))).setCell ⟨B, 1, none⟩ (.int .i64 c)) (fun b => F b ∨ b = w.heap.size) B p (ps.set i (some w.heap.size)) (m.set i (some x)) := by
  have hB := h.lt B h.fB
  have hp := h.lt p h.fp
  have hne := h.ne
  have t1 : (w.alloc (.cells (K.enc x) K.E)).heap[B]? = _ := (Below.heap_alloc w _ B hB).trans h.top
  have r1 : (w.alloc (.cells (K.enc x) K.E)).heap[p]? = _ := (Below.heap_alloc w _ p hp).trans h.row
  have hil : i < ps.length := by rw [h.len]; exact (List.getElem?_eq_some_iff.1 hi).1
  refine ⟨?_, ?_, by simp [h.len], ?_, ?_, ?_, .inl h.fB, .inl h.fp, h.ne, ?_, by simpa using h.cap⟩
  · have t2 : ((w.alloc (.cells (K.enc x) K.E)).setCell ⟨p, i, none⟩ (.pointer (some ⟨w.heap.size, 0, none⟩))).heap[B]? = _ := (heap_setCell_other _ _ B _ (fun e => hne e.symm)).trans t1
    rw [heap_setCell_same _ B 1 _ _ _ t2, hc, count_lay hi]
    simp
  · rw [heap_setCell_other _ _ p _ hne, heap_setCell_same _ p i _ _ _ r1]
    rw [show (Value.pointer (some ⟨w.heap.size, 0, none⟩)) = Ytoddadohmnaolab.ptr (some w.heap.size) from rfl, set_ptr]
  · intro j hj
    rw [List.getElem?_set] at hj ⊢
    split at hj
    · split at hj <;> simp at hj
    · rename_i e
      rw [if_neg e]
      exact h.free j hj
  · intro j y hj
    rw [List.getElem?_set] at hj
    split at hj
    · rename_i e
      subst e
      split at hj
      · cases hj
        refine ⟨w.heap.size, ?_, ?_, .inr rfl, by omega, by omega⟩
        · rw [List.getElem?_set]; simp [hil]
        · rw [heap_setCell_other _ _ _ _ (show w.heap.size ≠ B by omega), heap_setCell_other _ _ _ _ (show w.heap.size ≠ p by omega)]
          exact heap_alloc_new _ _
      · simp at hj
    · rename_i e
      obtain ⟨q, h1, h2, h3, h4, h5⟩ := h.held j y hj
      have hq := h.lt q h3
      refine ⟨q, ?_, ?_, .inl h3, h4, h5⟩
      · rw [List.getElem?_set]; simp [e, h1]
      · rw [heap_setCell_other _ _ _ _ h4, heap_setCell_other _ _ _ _ h5, Below.heap_alloc w _ q hq]; exact h2
  · intro j k q hj hk
    rw [List.getElem?_set] at hj hk
    have hold : ∀ l : Nat, ps[l]? = some (some w.heap.size) → False := by
      intro l hl
      have hlm : l < m.length := by rw [← h.len]; exact (List.getElem?_eq_some_iff.1 hl).1
      cases hm : m[l] with
      | none => have := h.free l (by rw [List.getElem?_eq_getElem hlm, hm]); rw [hl] at this; cases this
      | some y =>
        obtain ⟨q', h1, _, h3, _⟩ := h.held l y (by rw [List.getElem?_eq_getElem hlm, hm])
        rw [hl] at h1; cases h1
        have := h.lt _ h3; omega
    split at hj <;> split at hk
    · omega
    · cases hj; exact (hold _ hk).elim
    · cases hk; exact (hold _ hj).elim
    · exact h.inj j k q hj hk
  · intro b hb
    have hs : w.heap.size < (w.alloc (.cells (K.enc x) K.E)).heap.size := by simp
    simp [World.setCell] at *
    rcases hb with hb | hb
    · have := h.lt b hb; omega
    · omega

/-- what a dropping leaves -/
theorem TabAt.drop (h : TabAt K w F B p ps m) {i : Nat} {x : α} (hi : m[i]? = some (some x)) {c : Int} (hc : c = ((m.countP Option.isSome : Nat) : Int) - 1) :
    TabAt K ((w.setCell ⟨p, i, none⟩ (.pointer none)).setCell ⟨B, 1, none⟩ (.int .i64 c)) F B p (ps.set i none) (m.set i none) := by
  have hne := h.ne
  refine ⟨?_, ?_, by simp [h.len], ?_, ?_, ?_, h.fB, h.fp, h.ne, ?_, by simpa using h.cap⟩
  · have t2 : (w.setCell ⟨p, i, none⟩ (.pointer none)).heap[B]? = _ := (heap_setCell_other _ _ B _ (fun e => hne e.symm)).trans h.top
    have hcd := count_drop hi
    rw [heap_setCell_same _ B 1 _ _ _ t2, hc]
    have : ((m.countP Option.isSome : Nat) : Int) - 1 = (((m.set i none).countP Option.isSome : Nat) : Int) := by omega
    rw [this]; simp
  · rw [heap_setCell_other _ _ p _ hne, heap_setCell_same _ p i _ _ _ h.row]
    rw [show (Value.pointer none) = Ytoddadohmnaolab.ptr none from rfl, set_ptr]
  · intro j hj
    have hl : j < ps.length := by rw [h.len]; have := (List.getElem?_eq_some_iff.1 hj).1; simpa using this
    rw [List.getElem?_set] at hj ⊢
    split
    · simp_all
    · rename_i e
      rw [if_neg e] at hj
      exact h.free j hj
  · intro j y hj
    rw [List.getElem?_set] at hj
    split at hj
    · split at hj <;> cases hj
    · rename_i e
      obtain ⟨q, h1, h2, h3, h4, h5⟩ := h.held j y hj
      refine ⟨q, ?_, ?_, h3, h4, h5⟩
      · rw [List.getElem?_set]; simp [e, h1]
      · rw [heap_setCell_other _ _ _ _ h4, heap_setCell_other _ _ _ _ h5]; exact h2
  · intro j k q hj hk
    rw [List.getElem?_set] at hj hk
    split at hj
    · split at hj <;> cases hj
    split at hk
    · split at hk <;> cases hk
    exact h.inj j k q hj hk
  · intro b hb; have := h.lt b hb; simpa [World.setCell] using this

/-- a new table -/
theorem TabAt.fresh (K : Knd α) (w : World) (n : Nat) (hn : n ≤ 4096) :
    TabAt K ((w.alloc (.cells (madeCells #[.pointer none] n) K.P)).alloc (.cells #[.slice (some ⟨w.heap.size, 0, none⟩) n n, .int .i64 0] K.S)) (fun b => b = w.heap.size ∨ b = w.heap.size + 1) (w.heap.size + 1) w.heap.size (List.replicate n none) (List.replicate n none) := by
  refine ⟨?_, ?_, by simp, ?_, ?_, ?_, .inr rfl, .inl rfl, by omega, ?_, by simpa using hn⟩
  · have := heap_alloc2_new w (.cells (madeCells #[.pointer none] n) K.P) (.cells #[.slice (some ⟨w.heap.size, 0, none⟩) n n, .int .i64 0] K.S)
    rw [this]
    have e : (List.replicate n (none : Option α)).countP Option.isSome = 0 := List.countP_eq_zero.2 (fun a ha => by rw [(List.mem_replicate.1 ha).2]; simp)
    rw [e]; simp
  · rw [heap_alloc2_old]
    have : madeCells #[Value.pointer none] n = ((List.replicate n none).map Ytoddadohmnaolab.ptr).toArray := by
      rw [← Array.toArray_toList (xs := madeCells #[Value.pointer none] n), toList_madeCells_one]
      simp [Ytoddadohmnaolab.ptr]
    rw [this]
  · intro i hi; rw [List.getElem?_replicate] at hi ⊢; split <;> simp_all
  · intro i x hi; rw [List.getElem?_replicate] at hi; split at hi <;> simp at hi
  · intro i j q hi; rw [List.getElem?_replicate] at hi; split at hi <;> simp at hi
  · intro b hb
    simp
    omega
end

/-- tables of pointers to records -/
def KL : Knd Nat := ⟨101, 98, 71, fun b => #[.pointer (some ⟨b, 0, none⟩)]⟩
end Go.Proofs.Ytoddadohmnaolab

namespace Go.Proofs.Ytoddadohmnaolab
open Go.RowKit

/-- what lies at i -/
def look {α : Type} (m : List (Option α)) (i : Int) : Option α := if i < 0 then none else (m[i.toNat]?).join
theorem look_nat {α : Type} (m : List (Option α)) (k : Nat) : look m (k : Int) = (m[k]?).join := by
  unfold look; rw [if_neg (by omega)]; simp
theorem look_out {α : Type} (m : List (Option α)) (i : Int) (h : i < 0 ∨ (m.length : Int) ≤ i) : look m i = none := by
  unfold look; split
  · rfl
  · rw [List.getElem?_eq_none (by omega)]; rfl
theorem look_cases {α : Type} (m : List (Option α)) (i : Int) : ((i < 0 ∨ (m.length : Int) ≤ i) ∧ look m i = none) ∨ (∃ k : Nat, i = k ∧ k < m.length ∧ m[k]? = some none ∧ look m i = none) ∨ ∃ (k : Nat) (x : α), i = k ∧ k < m.length ∧ m[k]? = some (some x) ∧ look m i = some x := by
  by_cases h : i < 0 ∨ (m.length : Int) ≤ i
  · exact .inl ⟨h, look_out m i h⟩
  · obtain ⟨k, rfl⟩ : ∃ k : Nat, i = k := ⟨i.toNat, by omega⟩
    have hk : k < m.length := by omega
    rcases hm : m[k] with _ | x
    · exact .inr (.inl ⟨k, rfl, hk, by rw [List.getElem?_eq_getElem hk, hm], by rw [look_nat, List.getElem?_eq_getElem hk, hm]; rfl⟩)
    · exact .inr (.inr ⟨k, x, rfl, hk, by rw [List.getElem?_eq_getElem hk, hm], by rw [look_nat, List.getElem?_eq_getElem hk, hm]; rfl⟩)
theorem in_false {n k : Nat} (h : k < n) : decide ((k : Int) < 0 ∨ (n : Int) ≤ (k : Int)) = false := by simp; omega
/-- the lowest free place (the length, if there is none) -/
def ff {α : Type} (m : List (Option α)) : Nat := m.findIdx Option.isNone
theorem ff_le {α : Type} (m : List (Option α)) : ff m ≤ m.length := List.findIdx_le_length
theorem ff_free {α : Type} {m : List (Option α)} (h : ff m < m.length) : m[ff m]? = some none := by
  have := List.findIdx_getElem (w := h)
  rw [List.getElem?_eq_getElem h]
  refine congrArg some ?_
  unfold ff
  simpa using this
theorem ff_held {α : Type} {m : List (Option α)} {j : Nat} (h : j < ff m) : ∃ x, m[j]? = some (some x) := by
  have h1 := List.not_of_lt_findIdx h
  have h2 : j < m.length := Nat.lt_of_lt_of_le h (ff_le m)
  rw [List.getElem?_eq_getElem h2]
  cases hm : m[j] with
  | none => rw [hm] at h1; simp at h1
  | some x => exact ⟨x, rfl⟩
/-- k is the lowest taken place from s on -/
def IsNext {α : Type} (m : List (Option α)) (s k : Nat) : Prop := s ≤ k ∧ (∃ c, m[k]? = some (some c)) ∧ ∀ j : Nat, s ≤ j → j < k → look m (j : Int) = none
/-- there is none from s on -/
def NoNext {α : Type} (m : List (Option α)) (s : Nat) : Prop := ∀ j : Nat, s ≤ j → look m (j : Int) = none
theorem TabAt.setNew {α : Type} {K : Knd α} {w : World} {F : Nat → Prop} {B p : Nat} {ps : List (Option Nat)} {m : List (Option α)} (h : TabAt K w F B p ps m) {a : Addr} (ha : ¬ F a.block) (u : Value) : TabAt K (w.setCell a u) F B p ps m :=
  h.keep (by simp [World.setCell]) (fun b hb => Below.heap_setCell _ _ _ _ (fun e => by subst e; exact ha hb))
end Go.Proofs.Ytoddadohmnaolab

namespace Go.Proofs.Ytoddadohmnaolab
open Go.RowKit

theorem infoL : ∃ i, Try.prog.info? 98 = some i ∧ i.zero = some (.pointer none) ∧ i.size = 1 ∧ i.bytes = 8 := info_parts (by kernel_rfl)
theorem makeL (w : World) (n : Nat) (h : n ≤ 4096) : (Instr.makeSlice 99 (.int .i64 (n : Int)) (.int .i64 (n : Int))).run Try.prog w = .ok (.slice (some ⟨w.heap.size, 0, none⟩) n n) (w.alloc (.cells (madeCells #[.pointer none] n) 98)) := by
  obtain ⟨i, hi, hz, hs, hb⟩ := infoL
  simpa [hs, Value.cells] using run_make (P := Try.prog) w 99 98 i (.pointer none) Try.underlying99 hi hz .i64 .i64 n n (by omega) (Int.le_refl _) (by rw [hb]; omega) (by omega)
set_option maxHeartbeats 400000 in
theorem newL_any (w : World) :
    Calls Try.prog 47 #[.int .i64 16] w fun x w' => x = .returned (.pointer (some ⟨w.heap.size + 1, 0, none⟩)) ∧ Tab KL w' (fun b => b = w.heap.size ∨ b = w.heap.size + 1) (w.heap.size + 1) (List.replicate 16 none) ∧ Below w.heap.size w w' := by
  have H := hide (⟨_, _, TabAt.fresh KL w 16 (by omega)⟩ : Tab KL _ _ _ _)
  have hbel : ∀ a b, Below w.heap.size w ((w.alloc a).alloc b) := fun a b => ((Below.refl _ _).alloc (Nat.le_refl _) _).alloc (by simp) _
  have hm : (Instr.makeSlice 99 (.int .i64 16) (.int .i64 16)).run Try.prog w = _ := makeL w 16 (by omega)
  go_enter Try.func47, Try.ntmps47
  go_wp2
  go_ret
  exact ⟨rfl, H.out, hbel _ _⟩
set_option maxHeartbeats 400000 in
theorem outsideL_any (w : World) (F : Nat → Prop) (B : Nat) (m : List (Option Nat)) (h : Tab KL w F B m) (i : Int) :
    Calls Try.prog 75 #[.pointer (some ⟨B, 0, none⟩), .int .i64 i] w fun x w' => x = .returned (.bool (decide (i < 0 ∨ (m.length : Int) ≤ i))) ∧ w' = w := by
  obtain ⟨p, ps, h⟩ := h
  obtain ⟨c0, c1, f0, f1⟩ := h.cells
  clear h
  generalize m.length = c at *
  by_cases h0 : i < 0
  · have e : decide (i < 0 ∨ (c : Nat) ≤ i) = true := by simp [h0]
    rw [e]
    go_enter Try.func75, Try.ntmps75
    go_wp2
    go_ret
    exact ⟨rfl, rfl⟩
  · have e : decide (i < 0 ∨ (c : Nat) ≤ i) = decide ((c : Nat) ≤ i) := by simp [h0]
    rw [e]
    go_enter Try.func75, Try.ntmps75
    go_wp2
    go_ret
    exact ⟨rfl, rfl⟩
set_option maxHeartbeats 400000 in
theorem holdsL_any (w : World) (F : Nat → Prop) (B : Nat) (m : List (Option Nat)) (h : Tab KL w F B m) (i : Int) :
    Calls Try.prog 55 #[.pointer (some ⟨B, 0, none⟩), .int .i64 i] w fun x w' => x = .returned (.bool (look m i).isSome) ∧ w' = w := by
  have HO := hide (outsideL_any w F B m h i)
  obtain ⟨p, ps, h⟩ := h
  obtain ⟨c0, c1, f0, f1⟩ := h.cells
  rcases look_cases m i with ⟨h1, e⟩ | ⟨k, rfl, hk, hm, e⟩ | ⟨k, x, rfl, hk, hm, e⟩ <;> rw [e] <;> clear e
  · have hd : decide (i < 0 ∨ (m.length : Int) ≤ i) = true := by simpa using h1
    clear h h1
    rw [hd] at HO
    generalize m.length = n at *
    go_enter Try.func55, Try.ntmps55
    go_wp2_with fail
    refine HO.out.mono ?_
    rintro e w1 ⟨rfl, rfl⟩
    go_wp2
    go_ret
    exact ⟨rfl, rfl⟩
  · rw [in_false hk] at HO
    have c2 := h.nil hm
    clear h hm
    generalize m.length = n at *
    go_enter Try.func55, Try.ntmps55
    go_wp2_with fail
    refine HO.out.mono ?_
    rintro e w1 ⟨rfl, rfl⟩
    go_wp2
    go_ret
    exact ⟨rfl, rfl⟩
  · rw [in_false hk] at HO
    obtain ⟨q, hq1, c2, hq3, hq4⟩ := h.ptr hm
    clear h hm hq1 hq3 hq4
    generalize m.length = n at *
    go_enter Try.func55, Try.ntmps55
    go_wp2_with fail
    refine HO.out.mono ?_
    rintro e w1 ⟨rfl, rfl⟩
    go_wp2
    go_ret
    exact ⟨rfl, rfl⟩
set_option maxHeartbeats 400000 in
theorem layL_any (w : World) (F : Nat → Prop) (B : Nat) (m : List (Option Nat)) (h : Tab KL w F B m) (k : Nat) (hk : m[k]? = some none) (c : Nat) :
    Calls Try.prog 70 #[.pointer (some ⟨B, 0, none⟩), .int .i64 k, .pointer (some ⟨c, 0, none⟩)] w fun x w' => x = .returned (.tuple #[]) ∧ ∃ F', Tab KL w' F' B (m.set k (some c)) ∧ Ext F w F' w' := by
  obtain ⟨p, ps, h⟩ := h
  have HL := hide (fun t => h.lay hk c (c := t))
  have hks : k < m.length := (List.getElem?_eq_some_iff.1 hk).1
  have hcnt : m.countP Option.isSome ≤ 4096 := Nat.le_trans count_le h.cap
  have HM := hide (fun a b c => (((Mod.refl F w).alloc a).setCell (p := ⟨p, k, none⟩) (.inl h.fp) b).setCell (p := ⟨B, 1, none⟩) (.inl h.fB) c)
  have h' := fun o => h.keep (w' := w.alloc o) (by simp) (fun b hb => Below.heap_alloc _ _ _ (h.lt b hb))
  have c0 := fun o => (h' o).cells.1
  have c1 := fun o => (h' o).cells.2.1
  have f1 := fun o => (h' o).cells.2.2.2
  have f2 := fun o => (h' o).frz k
  have c2 := fun o => (h' o).nil hk
  have hne := h.ne
  clear h h' hk
  generalize m.countP Option.isSome = cnt at *
  generalize m.length = n at *
  go_enter Try.func70, Try.ntmps70
  go_wp2
  go_end0
  exact ⟨rfl, _, ⟨_, _, HL.out _ rfl⟩, HM.out _ _ _, fun b hb => hb.imp id (fun e => by omega)⟩
set_option maxHeartbeats 400000 in
theorem nextL_nat (w : World) (F : Nat → Prop) (B : Nat) (m : List (Option Nat)) (h : Tab KL w F B m) (i : Int) (s : Nat) (hs : (if i < 0 then 0 else i) = (s : Int)) :
    Calls Try.prog 65 #[.pointer (some ⟨B, 0, none⟩), .int .i64 i] w fun x w' => w' = w ∧ ((∃ k : Nat, x = .returned (.int .i64 k) ∧ IsNext m s k) ∨ (x = .returned (.int .i64 (-1)) ∧ NoNext m s)) := by
  have hcap := h.cap
  obtain ⟨p, ps, h⟩ := h
  obtain ⟨c0, c1, f0, f1⟩ := h.cells
  have HN := hide (fun (k : Nat) hk => h.nil (i := k) hk)
  have HP := hide (fun (k : Nat) (x : Nat) hk => (let ⟨q, _, hq, _⟩ := h.ptr (i := k) (x := x) hk; ⟨q, hq⟩ : ∃ q, w.cell? ⟨p, k, none⟩ = some (.pointer (some ⟨q, 0, none⟩))))
  have HQ := hide (fun k : Nat => look_cases m k)
  have HI := hide (fun k (e : IsNext m s k) => e)
  have HO := hide (fun (k : Nat) (e : m.length ≤ k) => look_out m (k : Int) (.inr (by omega)))
  clear h
  generalize hn : m.length = n at *
  clear hn
  go_enter Try.func65, Try.ntmps65
  go_wp2
  go_loopw [5] (fun i wr => ∃ k : Nat, s ≤ k ∧ i = .int .i64 k ∧ wr = w ∧ Hid (∀ j : Nat, s ≤ j → j < k → look m (j : Int) = none)) (fun i _ => n - (intOf i).toNat)
  case atStart => exact ⟨s, by omega, rfl, rfl, fun j h1 h2 => by omega⟩
  case round =>
    obtain ⟨k, hk, rfl, rfl, hH⟩ := hrel
    by_cases hlt : k < n
    · rcases HQ.out k with ⟨h1, e⟩ | ⟨k', h0, _, hm, e⟩ | ⟨k', x, h0, _, hm, e⟩
      · omega
      · obtain rfl : k = k' := by omega
        have c2 := HN.out k hm
        have HE := hide e
        clear hm e h0
        go_wp2
        go_roundw
        case rel => exact ⟨k + 1, by omega, by go_num, by first | rfl | trivial, fun j h1 h2 => by
            rcases Nat.lt_or_ge j k with h3 | h3
            · exact hH j h1 h3
            · obtain rfl : j = k := by omega
              exact HE.out⟩
        case measure => simp [intOf]; omega
      · obtain rfl : k = k' := by omega
        obtain ⟨q, c2⟩ := HP.out k x hm
        have HE := hide hm
        clear hm e h0
        go_wp2
        go_ret
        exact ⟨rfl, .inl ⟨k, rfl, hk, ⟨x, HE.out⟩, hH⟩⟩
    · go_wp2
      go_ret
      exact ⟨rfl, .inr ⟨rfl, fun j h1 => by
        rcases Nat.lt_or_ge j k with h3 | h3
        · exact hH j h1 h3
        · exact HO.out j (by omega)⟩⟩
theorem nextL_any (w : World) (F : Nat → Prop) (B : Nat) (m : List (Option Nat)) (h : Tab KL w F B m) (i : Int) :
    Calls Try.prog 65 #[.pointer (some ⟨B, 0, none⟩), .int .i64 i] w fun x w' => w' = w ∧ ((∃ k : Nat, x = .returned (.int .i64 k) ∧ IsNext m i.toNat k) ∨ (x = .returned (.int .i64 (-1)) ∧ NoNext m i.toNat)) :=
  nextL_nat w F B m h i i.toNat (by split <;> omega)
set_option maxHeartbeats 400000 in
theorem getL_any (w : World) (F : Nat → Prop) (B : Nat) (m : List (Option Nat)) (h : Tab KL w F B m) (i : Int) :
    Calls Try.prog 29 #[.pointer (some ⟨B, 0, none⟩), .int .i64 i] w fun x w' => x = .returned (.tuple #[ptr (look m i), .bool (look m i).isSome]) ∧ w' = w := by
  have HO := hide (holdsL_any _ F B m h i)
  obtain ⟨p, ps, h⟩ := h
  rcases look_cases m i with ⟨h1, e⟩ | ⟨k, rfl, hk, hm, e⟩ | ⟨k, x, rfl, hk, hm, e⟩ <;> rw [e] at HO ⊢ <;> clear e
  · clear h h1
    go_enter Try.func29, Try.ntmps29
    go_wp2_with fail
    refine HO.out.mono ?_
    rintro e w1 ⟨rfl, rfl⟩
    go_wp2
    go_returns
    exact ⟨rfl, rfl⟩
  · clear h hm
    go_enter Try.func29, Try.ntmps29
    go_wp2_with fail
    refine HO.out.mono ?_
    rintro e w1 ⟨rfl, rfl⟩
    go_wp2
    go_returns
    exact ⟨rfl, rfl⟩
  · have c0 := h.cells.1
    obtain ⟨q, hq1, c2, hq3, hq4⟩ := h.ptr hm
    have c3 := (cell_of_row _ q 0 _ _ _ hq3)
    simp [KL] at c3
    simp only [ptr, Option.isSome_some]
    clear h hm hq1 hq3 hq4
    generalize m.length = n at *
    go_enter Try.func29, Try.ntmps29
    go_wp2_with fail
    refine HO.out.mono ?_
    rintro e w1 ⟨rfl, rfl⟩
    go_wp2
    go_returns
    exact ⟨rfl, rfl⟩
end Go.Proofs.Ytoddadohmnaolab

namespace Go.Proofs.Ytoddadohmnaolab
open Go.RowKit

set_option maxHeartbeats 800000 in
theorem putL_any (w : World) (F : Nat → Prop) (B : Nat) (m : List (Option Nat)) (h : Tab KL w F B m) (c : Nat) :
    Calls Try.prog 48 #[.pointer (some ⟨B, 0, none⟩), .pointer (some ⟨c, 0, none⟩)] w fun x w' => (ff m < m.length → x = .returned (.tuple #[.int .i64 (ff m : Nat), .int .i64 0]) ∧ ∃ F', Tab KL w' F' B (m.set (ff m) (some c)) ∧ Ext F w F' w') ∧
      (ff m = m.length → x = .returned (.tuple #[.int .i64 (-1), .int .i64 2]) ∧ w' = w) := by
  have hf := ff_le m
  have hcap := h.cap
  have HL := hide (fun (hk : ff m < m.length) => layL_any _ F B m h (ff m) (ff_free hk) c)
  obtain ⟨p, ps, h⟩ := h
  have c0 := h.cells.1
  have HH := hide (fun (k : Nat) (hk : k < ff m) => by obtain ⟨x, hx⟩ := ff_held hk; exact (let ⟨q, _, hq, _⟩ := h.ptr hx; ⟨q, hq⟩ : ∃ q, w.cell? ⟨p, k, none⟩ = some (.pointer (some ⟨q, 0, none⟩))))
  have HN := hide (fun (hk : ff m < m.length) => h.nil (ff_free hk))
  clear h
  generalize ff m = f at *
  generalize m.length = n at *
  go_enter Try.func48, Try.ntmps48
  go_wp2
  go_loopw [13] (fun i wr => ∃ k : Nat, k ≤ f ∧ i = .int .i64 k ∧ wr = w) (fun i _ => n - (intOf i).toNat)
  case atStart => exact ⟨0, by omega, rfl, rfl⟩
  case round =>
    obtain ⟨k, hk, rfl, rfl⟩ := hrel
    by_cases hlt : k < f
    · obtain ⟨q, hq⟩ := HH.out k hlt
      have hkn : k < n := by omega
      go_wp2
      go_roundw
      case rel => exact ⟨k + 1, by omega, by go_num, by first | rfl | trivial⟩
      case measure => simp [intOf]; omega
    · obtain rfl : k = f := by omega
      by_cases hkn : k < n
      · have hq := HN.out hkn
        go_wp2_with fail
        refine (HL.out hkn).mono ?_
        rintro e w1 ⟨rfl, F', hT, hE⟩
        have HT1 := hide hT
        have HE1 := hide hE
        clear hT hE
        go_wp2
        go_ret2
        exact ⟨fun _ => ⟨rfl, F', HT1.out, HE1.out⟩, fun e => by omega⟩
      · go_wp2
        go_ret2
        exact ⟨fun e => by omega, fun _ => ⟨rfl, rfl⟩⟩
set_option maxHeartbeats 800000 in
theorem dropL_some (w : World) (F : Nat → Prop) (B : Nat) (m : List (Option Nat)) (h : Tab KL w F B m) (k x : Nat) (hm : m[k]? = some (some x)) :
    Calls Try.prog 58 #[.pointer (some ⟨B, 0, none⟩), .int .i64 k] w fun e w' => e = .returned (.tuple #[.pointer (some ⟨x, 0, none⟩), .bool true]) ∧ Tab KL w' F B (m.set k none) ∧ Ext F w F w' := by
  have HG := hide (getL_any _ F B m h k)
  have hi : look m (k : Int) = some x := by rw [look_nat, hm]; rfl
  rw [hi] at HG
  have hcnt : m.countP Option.isSome ≤ 4096 := Nat.le_trans count_le h.cap
  have hk : k < m.length := (List.getElem?_eq_some_iff.1 hm).1
  obtain ⟨p, ps, h1⟩ := h
  obtain ⟨d0, d1, g0, g1⟩ := h1.cells
  have g2 := h1.frz k
  obtain ⟨q, hq1, d2, hq3, hq4⟩ := h1.ptr hm
  have hne := h1.ne
  have HD := hide (fun t => h1.drop hm (c := t))
  have HM := hide (fun a b => ((Mod.refl F w).setCell (p := ⟨p, k, none⟩) (.inl h1.fp) a).setCell (p := ⟨B, 1, none⟩) (.inl h1.fB) b)
  have hpos : 0 < m.countP Option.isSome := List.countP_pos_iff.2 ⟨_, List.mem_of_getElem? hm, rfl⟩
  clear h1 hq1 hq3 hq4 hm hi
  generalize m.countP Option.isSome = cnt at *
  generalize m.length = n at *
  simp only [ptr, Option.isSome_some] at *
  go_enter Try.func58, Try.ntmps58
  go_wp2_with fail
  refine HG.out.mono ?_
  rintro e w1 ⟨rfl, rfl⟩
  go_wp2
  go_ret2
  exact ⟨rfl, ⟨_, _, HD.out _ rfl⟩, HM.out _ _, fun b hb => .inl hb⟩
end Go.Proofs.Ytoddadohmnaolab

namespace Go.Proofs.Ytoddadohmnaolab
open Go.RowKit

/-- a quota -/
structure Qt where
  f : Int
  e : Int
  x : Int
def Qt.val (q : Qt) : Value := .agg #[.int .i64 q.f, .int .i64 q.e, .int .i64 q.x]
theorem blk3 {w1 : World} {b : Nat} {x0 x1 x2 : Value} {t : TypeId} (h : w1.heap[b]? = some (.cells #[x0, x1, x2] t (0, 0))) :
    w1.cell? ⟨b, 0, none⟩ = some x0 ∧ w1.cell? ⟨b, 1, none⟩ = some x1 ∧ w1.cell? ⟨b, 2, none⟩ = some x2 ∧ w1.frozen? ⟨b, 0, none⟩ = false ∧ w1.frozen? ⟨b, 1, none⟩ = false ∧ w1.frozen? ⟨b, 2, none⟩ = false :=
  ⟨by rw [cell_of_row _ _ _ _ _ _ h]; rfl, by rw [cell_of_row _ _ _ _ _ _ h]; rfl, by rw [cell_of_row _ _ _ _ _ _ h]; rfl, frozen_of_row _ _ _ _ _ h, frozen_of_row _ _ _ _ _ h, frozen_of_row _ _ _ _ _ h⟩
theorem set3 {w : World} {b : Nat} {x0 x1 x2 : Value} {t : TypeId} (h : w.heap[b]? = some (.cells #[x0, x1, x2] t (0, 0))) (y0 y1 y2 : Value) :
    (((w.setCell ⟨b, 0, none⟩ y0).setCell ⟨b, 1, none⟩ y1).setCell ⟨b, 2, none⟩ y2).heap[b]? = some (.cells #[y0, y1, y2] t (0, 0)) := by
  have h1 := heap_setCell_same _ b 0 _ _ y0 h
  have h2 := heap_setCell_same _ b 1 _ _ y1 h1
  exact heap_setCell_same _ b 2 _ _ y2 h2
theorem results_row1 {P : Program} {fn : Func} {p : Tmp} {ty : TypeId} (h : fn.results = #[.cell p ty]) (tmps : Array Value) (w : World) (g : Nat) (t : TypeId) (cs : Array Value) (fr : Nat × Nat) (d : TypeDesc)
    (hp : tmps.getD p undef = .pointer (some ⟨g, 0, none⟩)) (hg : w.heap[g]? = some (.cells cs t fr))
    (hu : P.underlying ty = some d) (hd : (match d with | .struct _ | .array _ _ => true | _ => false) = true) (hi : (P.info? ty).map (·.size) = some cs.size) :
    (results fn tmps).run P w = .ok (.agg cs) w := by
  have hp' : tmps[p]?.getD undef = .pointer (some ⟨g, 0, none⟩) := by simpa using hp
  unfold results
  simp [h, hp', asAddr, run_loadVar_row w g t ty cs fr d hg hu hd hi]
def pt (n : Int) : Int := if n < 0 then 0 else if 4611686018427387903 < n then 4611686018427387903 else n
theorem part_any (w : World) (n : Int) : Calls Try.prog 71 #[.int .i64 n] w fun e w' => e = .returned (.int .i64 (pt n)) ∧ w' = w := by
  by_cases h1 : n < 0
  · have e : pt n = 0 := by unfold pt; rw [if_pos h1]
    have h2 : ¬ (4611686018427387903 : Int) < 0 := by omega
    rw [e]
    go_enter Try.func71, Try.ntmps71
    go_wp2
    go_ret
    exact ⟨rfl, rfl⟩
  · by_cases h2 : 4611686018427387903 < n
    · have e : pt n = 4611686018427387903 := by unfold pt; rw [if_neg h1, if_pos h2]
      rw [e]
      go_enter Try.func71, Try.ntmps71
      go_wp2
      go_ret
      exact ⟨rfl, rfl⟩
    · have e : pt n = n := by unfold pt; rw [if_neg h1, if_neg h2]
      rw [e]
      go_enter Try.func71, Try.ntmps71
      go_wp2
      go_ret
      exact ⟨rfl, rfl⟩
theorem isWord_any (w : World) (n : Int) : Calls Try.prog 30 #[.int .i64 n] w fun e w' => e = .returned (.bool (decide (0 ≤ n ∧ n ≤ 4294967295))) ∧ w' = w := by
  by_cases h1 : 0 ≤ n
  · by_cases h2 : n ≤ 4294967295
    · have hd : decide (0 ≤ n ∧ n ≤ 4294967295) = true := by simp [h1, h2]
      rw [hd]
      go_enter Try.func30, Try.ntmps30
      go_wp2
      go_ret
      exact ⟨rfl, rfl⟩
    · have hd : decide (0 ≤ n ∧ n ≤ 4294967295) = false := by simp; omega
      rw [hd]
      go_enter Try.func30, Try.ntmps30
      go_wp2
      go_ret
      exact ⟨rfl, rfl⟩
  · have hd : decide (0 ≤ n ∧ n ≤ 4294967295) = false := by simp; omega
    rw [hd]
    go_enter Try.func30, Try.ntmps30
    go_wp2
    go_ret
    exact ⟨rfl, rfl⟩
/-- all three parts within the bounds of sums -/
def Qt.ok (q : Qt) : Prop := (-4611686018427387904 ≤ q.f ∧ q.f ≤ 4611686018427387903) ∧ (-4611686018427387904 ≤ q.e ∧ q.e ≤ 4611686018427387903) ∧ (-4611686018427387904 ≤ q.x ∧ q.x ≤ 4611686018427387903)
def Qt.plus (p q : Qt) : Qt := ⟨p.f + q.f, p.e + q.e, p.x + q.x⟩
def Qt.less (p q : Qt) : Qt := ⟨p.f - q.f, p.e - q.e, p.x - q.x⟩
theorem below3 {B : Nat} {a w : World} (h : Below B a w) {b : Nat} (hb : B ≤ b) (y0 y1 y2 : Value) : Below B a (((w.setCell ⟨b, 0, none⟩ y0).setCell ⟨b, 1, none⟩ y1).setCell ⟨b, 2, none⟩ y2) :=
  ((h.setCell (p := ⟨b, 0, none⟩) hb _).setCell (p := ⟨b, 1, none⟩) hb _).setCell (p := ⟨b, 2, none⟩) hb _
set_option maxHeartbeats 1600000 in
theorem plus_any (w : World) (p q : Qt) (hp : p.ok) (hq : q.ok) : Calls Try.prog 73 #[p.val, q.val] w fun e w' => e = .returned (p.plus q).val ∧ Below w.heap.size w w' := by
  obtain ⟨⟨h1, h2⟩, ⟨h3, h4⟩, ⟨h5, h6⟩⟩ := hp
  obtain ⟨⟨k1, k2⟩, ⟨k3, k4⟩, ⟨k5, k6⟩⟩ := hq
  have hb1 := (Below.refl w.heap.size w).alloc (Nat.le_refl _) (.cells #[.int .i64 p.f, .int .i64 p.e, .int .i64 p.x] 32)
  have hb2 := hb1.alloc hb1.size (.cells #[.int .i64 q.f, .int .i64 q.e, .int .i64 q.x] 32)
  have hb3 := hb2.alloc hb2.size (.cells #[.int .i64 0, .int .i64 0, .int .i64 0] 32)
  have a1 := heap_alloc_new w (.cells #[.int .i64 p.f, .int .i64 p.e, .int .i64 p.x] 32)
  have a2 := heap_alloc_new (w.alloc (.cells #[.int .i64 p.f, .int .i64 p.e, .int .i64 p.x] 32)) (.cells #[.int .i64 q.f, .int .i64 q.e, .int .i64 q.x] 32)
  have a3 := heap_alloc_new ((w.alloc (.cells #[.int .i64 p.f, .int .i64 p.e, .int .i64 p.x] 32)).alloc (.cells #[.int .i64 q.f, .int .i64 q.e, .int .i64 q.x] 32)) (.cells #[.int .i64 0, .int .i64 0, .int .i64 0] 32)
  have e2 : (w.alloc (.cells #[.int .i64 p.f, .int .i64 p.e, .int .i64 p.x] 32)).heap.size = w.heap.size + 1 := by simp
  have e3 : ((w.alloc (.cells #[.int .i64 p.f, .int .i64 p.e, .int .i64 p.x] 32)).alloc (.cells #[.int .i64 q.f, .int .i64 q.e, .int .i64 q.x] 32)).heap.size = w.heap.size + 2 := by simp
  have b1 := (Below.heap_alloc _ (.cells #[.int .i64 0, .int .i64 0, .int .i64 0] 32) w.heap.size (by rw [e3]; omega)).trans ((Below.heap_alloc _ (.cells #[.int .i64 q.f, .int .i64 q.e, .int .i64 q.x] 32) w.heap.size (by rw [e2]; omega)).trans a1)
  rw [e2] at a2
  have b2 := (Below.heap_alloc _ (.cells #[.int .i64 0, .int .i64 0, .int .i64 0] 32) (w.heap.size + 1) (by rw [e3]; omega)).trans a2
  rw [e3] at a3
  have HB3 := hide hb3
  clear hb1 hb2 hb3 a1 a2 e2 e3
  unfold Qt.val
  go_enter Try.func73, Try.ntmps73
  go_upto_region 1 with fail
  generalize ((w.alloc (.cells #[.int .i64 p.f, .int .i64 p.e, .int .i64 p.x] 32)).alloc (.cells #[.int .i64 q.f, .int .i64 q.e, .int .i64 q.x] 32)).alloc (.cells #[.int .i64 0, .int .i64 0, .int .i64 0] 32) = w3 at *
  obtain ⟨c0, c1, c2, -, -, -⟩ := blk3 b1
  obtain ⟨d0, d1, d2, -, -, -⟩ := blk3 b2
  obtain ⟨r0, r1, r2, f0, f1, f2⟩ := blk3 a3
  have HS := hide (fun a b c => set3 a3 a b c)
  clear b1 b2 a3
  go_wp2
  refine bodyPost_ret (results_row1 rfl _ _ (w.heap.size + 2) 32 #[.int .i64 (p.f + q.f), .int .i64 (p.e + q.e), .int .i64 (p.x + q.x)] (0, 0) _ rfl (HS.out _ _ _) Try.underlying32 rfl (by kernel_rfl)) rfl ?_
  exact ⟨rfl, below3 HB3.out (by omega) _ _ _⟩
end Go.Proofs.Ytoddadohmnaolab

namespace Go.Proofs.Ytoddadohmnaolab
open Go.RowKit

set_option maxHeartbeats 1600000 in
theorem less_any (w : World) (p q : Qt) (hp : p.ok) (hq : q.ok) : Calls Try.prog 74 #[p.val, q.val] w fun e w' => e = .returned (p.less q).val ∧ Below w.heap.size w w' := by
  obtain ⟨⟨h1, h2⟩, ⟨h3, h4⟩, ⟨h5, h6⟩⟩ := hp
  obtain ⟨⟨k1, k2⟩, ⟨k3, k4⟩, ⟨k5, k6⟩⟩ := hq
  have hb1 := (Below.refl w.heap.size w).alloc (Nat.le_refl _) (.cells #[.int .i64 p.f, .int .i64 p.e, .int .i64 p.x] 32)
  have hb2 := hb1.alloc hb1.size (.cells #[.int .i64 q.f, .int .i64 q.e, .int .i64 q.x] 32)
  have hb3 := hb2.alloc hb2.size (.cells #[.int .i64 0, .int .i64 0, .int .i64 0] 32)
  have a1 := heap_alloc_new w (.cells #[.int .i64 p.f, .int .i64 p.e, .int .i64 p.x] 32)
  have a2 := heap_alloc_new (w.alloc (.cells #[.int .i64 p.f, .int .i64 p.e, .int .i64 p.x] 32)) (.cells #[.int .i64 q.f, .int .i64 q.e, .int .i64 q.x] 32)
  have a3 := heap_alloc_new ((w.alloc (.cells #[.int .i64 p.f, .int .i64 p.e, .int .i64 p.x] 32)).alloc (.cells #[.int .i64 q.f, .int .i64 q.e, .int .i64 q.x] 32)) (.cells #[.int .i64 0, .int .i64 0, .int .i64 0] 32)
  have e2 : (w.alloc (.cells #[.int .i64 p.f, .int .i64 p.e, .int .i64 p.x] 32)).heap.size = w.heap.size + 1 := by simp
  have e3 : ((w.alloc (.cells #[.int .i64 p.f, .int .i64 p.e, .int .i64 p.x] 32)).alloc (.cells #[.int .i64 q.f, .int .i64 q.e, .int .i64 q.x] 32)).heap.size = w.heap.size + 2 := by simp
  have b1 := (Below.heap_alloc _ (.cells #[.int .i64 0, .int .i64 0, .int .i64 0] 32) w.heap.size (by rw [e3]; omega)).trans ((Below.heap_alloc _ (.cells #[.int .i64 q.f, .int .i64 q.e, .int .i64 q.x] 32) w.heap.size (by rw [e2]; omega)).trans a1)
  rw [e2] at a2
  have b2 := (Below.heap_alloc _ (.cells #[.int .i64 0, .int .i64 0, .int .i64 0] 32) (w.heap.size + 1) (by rw [e3]; omega)).trans a2
  rw [e3] at a3
  have HB3 := hide hb3
  clear hb1 hb2 hb3 a1 a2 e2 e3
  unfold Qt.val
  go_enter Try.func74, Try.ntmps74
  go_upto_region 1 with fail
  generalize ((w.alloc (.cells #[.int .i64 p.f, .int .i64 p.e, .int .i64 p.x] 32)).alloc (.cells #[.int .i64 q.f, .int .i64 q.e, .int .i64 q.x] 32)).alloc (.cells #[.int .i64 0, .int .i64 0, .int .i64 0] 32) = w3 at *
  obtain ⟨c0, c1, c2, -, -, -⟩ := blk3 b1
  obtain ⟨d0, d1, d2, -, -, -⟩ := blk3 b2
  obtain ⟨r0, r1, r2, f0, f1, f2⟩ := blk3 a3
  have HS := hide (fun a b c => set3 a3 a b c)
  clear b1 b2 a3
  go_wp2
  refine bodyPost_ret (results_row1 rfl _ _ (w.heap.size + 2) 32 #[.int .i64 (p.f - q.f), .int .i64 (p.e - q.e), .int .i64 (p.x - q.x)] (0, 0) _ rfl (HS.out _ _ _) Try.underlying32 rfl (by kernel_rfl)) rfl ?_
  exact ⟨rfl, below3 HB3.out (by omega) _ _ _⟩
abbrev Qt.le (p q : Qt) : Prop := p.f ≤ q.f ∧ p.e ≤ q.e ∧ p.x ≤ q.x
set_option maxHeartbeats 1600000 in
theorem fits_any (w : World) (p q : Qt) : Calls Try.prog 72 #[p.val, q.val] w fun e w' => e = .returned (.bool (decide (p.le q))) ∧ Below w.heap.size w w' := by
  obtain ⟨bb, hbb⟩ : ∃ bb, decide (p.le q) = bb := ⟨_, rfl⟩
  rw [hbb]
  have HD := hide hbb
  clear hbb
  have hb1 := (Below.refl w.heap.size w).alloc (Nat.le_refl _) (.cells #[.int .i64 p.f, .int .i64 p.e, .int .i64 p.x] 32)
  have hb2 := hb1.alloc hb1.size (.cells #[.int .i64 q.f, .int .i64 q.e, .int .i64 q.x] 32)
  have a1 := heap_alloc_new w (.cells #[.int .i64 p.f, .int .i64 p.e, .int .i64 p.x] 32)
  have a2 := heap_alloc_new (w.alloc (.cells #[.int .i64 p.f, .int .i64 p.e, .int .i64 p.x] 32)) (.cells #[.int .i64 q.f, .int .i64 q.e, .int .i64 q.x] 32)
  have e2 : (w.alloc (.cells #[.int .i64 p.f, .int .i64 p.e, .int .i64 p.x] 32)).heap.size = w.heap.size + 1 := by simp
  have b1 := (Below.heap_alloc _ (.cells #[.int .i64 q.f, .int .i64 q.e, .int .i64 q.x] 32) w.heap.size (by rw [e2]; omega)).trans a1
  rw [e2] at a2
  have HB2 := hide hb2
  clear hb1 hb2 a1 e2
  unfold Qt.val
  go_enter Try.func72, Try.ntmps72
  go_upto_region 1 with fail
  generalize (w.alloc (.cells #[.int .i64 p.f, .int .i64 p.e, .int .i64 p.x] 32)).alloc (.cells #[.int .i64 q.f, .int .i64 q.e, .int .i64 q.x] 32) = w3 at *
  obtain ⟨c0, c1, c2, -, -, -⟩ := blk3 b1
  obtain ⟨d0, d1, d2, -, -, -⟩ := blk3 a2
  clear b1 a2
  by_cases h1 : p.f ≤ q.f
  · by_cases h2 : p.e ≤ q.e
    · by_cases h3 : p.x ≤ q.x
      · have hd : decide (p.le q) = true := by simp [Qt.le, h1, h2, h3]
        rw [HD.out] at hd
        subst hd
        go_wp2
        go_ret
        exact ⟨rfl, HB2.out⟩
      · have hd : decide (p.le q) = false := by simp [Qt.le, h3]
        rw [HD.out] at hd
        subst hd
        go_wp2
        go_ret
        exact ⟨rfl, HB2.out⟩
    · have hd : decide (p.le q) = false := by simp [Qt.le, h2]
      rw [HD.out] at hd
      subst hd
      go_wp2
      go_ret
      exact ⟨rfl, HB2.out⟩
  · have hd : decide (p.le q) = false := by simp [Qt.le, h1]
    rw [HD.out] at hd
    subst hd
    go_wp2
    go_ret
    exact ⟨rfl, HB2.out⟩
def Qt.bnd (q : Qt) : Qt := ⟨pt q.f, pt q.e, pt q.x⟩
set_option maxHeartbeats 1600000 in
theorem bounded_any (w : World) (q : Qt) : Calls Try.prog 50 #[q.val] w fun e w' => e = .returned q.bnd.val ∧ Below w.heap.size w w' := by
  have hb1 := (Below.refl w.heap.size w).alloc (Nat.le_refl _) (.cells #[.int .i64 q.f, .int .i64 q.e, .int .i64 q.x] 32)
  have hb2 := hb1.alloc hb1.size (.cells #[.int .i64 0, .int .i64 0, .int .i64 0] 32)
  have a1 := heap_alloc_new w (.cells #[.int .i64 q.f, .int .i64 q.e, .int .i64 q.x] 32)
  have a2 := heap_alloc_new (w.alloc (.cells #[.int .i64 q.f, .int .i64 q.e, .int .i64 q.x] 32)) (.cells #[.int .i64 0, .int .i64 0, .int .i64 0] 32)
  have e2 : (w.alloc (.cells #[.int .i64 q.f, .int .i64 q.e, .int .i64 q.x] 32)).heap.size = w.heap.size + 1 := by simp
  have b1 := (Below.heap_alloc _ (.cells #[.int .i64 0, .int .i64 0, .int .i64 0] 32) w.heap.size (by rw [e2]; omega)).trans a1
  rw [e2] at a2
  have HB2 := hide hb2
  clear hb1 hb2 a1 e2
  unfold Qt.val
  go_enter Try.func50, Try.ntmps50
  go_upto_region 1 with fail
  generalize (w.alloc (.cells #[.int .i64 q.f, .int .i64 q.e, .int .i64 q.x] 32)).alloc (.cells #[.int .i64 0, .int .i64 0, .int .i64 0] 32) = w3 at *
  obtain ⟨c0, c1, c2, -, -, -⟩ := blk3 b1
  obtain ⟨r0, r1, r2, f0, f1, f2⟩ := blk3 a2
  have HS := hide (fun a b c => set3 a2 a b c)
  have HB4 := hide (fun a b c => (below3 HB2.out (show w.heap.size ≤ w.heap.size + 1 by omega) a b c).drew)
  have HSo : Hid (∀ a b c, (((w3.setCell ⟨w.heap.size + 1, 0, none⟩ a).setCell ⟨w.heap.size + 1, 1, none⟩ b).setCell ⟨w.heap.size + 1, 2, none⟩ c).drew.cell? ⟨w.heap.size, 0, none⟩ = some (.int .i64 q.f) ∧ (((w3.setCell ⟨w.heap.size + 1, 0, none⟩ a).setCell ⟨w.heap.size + 1, 1, none⟩ b).setCell ⟨w.heap.size + 1, 2, none⟩ c).drew.cell? ⟨w.heap.size, 1, none⟩ = some (.int .i64 q.e) ∧ (((w3.setCell ⟨w.heap.size + 1, 0, none⟩ a).setCell ⟨w.heap.size + 1, 1, none⟩ b).setCell ⟨w.heap.size + 1, 2, none⟩ c).drew.cell? ⟨w.heap.size, 2, none⟩ = some (.int .i64 q.x)) := by
    refine hide fun a b c => ?_
    have h1 : ((((w3.setCell ⟨w.heap.size + 1, 0, none⟩ a).setCell ⟨w.heap.size + 1, 1, none⟩ b).setCell ⟨w.heap.size + 1, 2, none⟩ c).drew).heap[w.heap.size]? = some (.cells #[.int .i64 q.f, .int .i64 q.e, .int .i64 q.x] 32 (0, 0)) := by
      show (((w3.setCell ⟨w.heap.size + 1, 0, none⟩ a).setCell ⟨w.heap.size + 1, 1, none⟩ b).setCell ⟨w.heap.size + 1, 2, none⟩ c).heap[w.heap.size]? = _
      rw [heap_setCell_other _ _ _ _ (by show w.heap.size ≠ w.heap.size + 1; omega), heap_setCell_other _ _ _ _ (by show w.heap.size ≠ w.heap.size + 1; omega), heap_setCell_other _ _ _ _ (by show w.heap.size ≠ w.heap.size + 1; omega)]
      exact b1
    obtain ⟨h2, h3, h4, -⟩ := blk3 h1
    exact ⟨h2, h3, h4⟩
  have c12 : w3.drew.cell? ⟨w.heap.size, 0, none⟩ = some (.int .i64 q.f) ∧ w3.drew.cell? ⟨w.heap.size, 1, none⟩ = some (.int .i64 q.e) ∧ w3.drew.cell? ⟨w.heap.size, 2, none⟩ = some (.int .i64 q.x) := ⟨c0, c1, c2⟩
  clear b1 a2 HB2
  go_region_held (fun W => W.cell? ⟨w.heap.size, 0, none⟩ = some (.int .i64 q.f) ∧ W.cell? ⟨w.heap.size, 1, none⟩ = some (.int .i64 q.e) ∧ W.cell? ⟨w.heap.size, 2, none⟩ = some (.int .i64 q.x))
    (first | assumption | exact c12 | exact HSo.out _ _ _)
    (first | (go_at_call 71; refine (part_any _ _).mono ?_; rintro e1 w5 ⟨rfl, rfl⟩))
  go_wp2
  refine bodyPost_ret (results_row1 rfl _ _ (w.heap.size + 1) 32 #[.int .i64 (pt q.f), .int .i64 (pt q.e), .int .i64 (pt q.x)] (0, 0) _ rfl (HS.out _ _ _) Try.underlying32 rfl (by kernel_rfl)) rfl ?_
  exact ⟨rfl, HB4.out _ _ _⟩
end Go.Proofs.Ytoddadohmnaolab

namespace Go.Proofs.Ytoddadohmnaolab
open Go.RowKit

abbrev Qt.good (q : Qt) : Prop := pt q.f = q.f ∧ pt q.e = q.e ∧ pt q.x = q.x
def Qt.one : Qt := ⟨0, 1, 0⟩
set_option maxHeartbeats 1600000 in
theorem price_any (w : World) (q : Qt) (hq : q.ok) : Calls Try.prog 53 #[q.val] w fun e w' => e = .returned (q.plus Qt.one).val ∧ Below w.heap.size w w' := by
  have hb1 := (Below.refl w.heap.size w).alloc (Nat.le_refl _) (.cells #[.int .i64 q.f, .int .i64 q.e, .int .i64 q.x] 32)
  have hb2 := hb1.alloc hb1.size (.cells #[.int .i64 0, .int .i64 0, .int .i64 0] 32)
  have a1 := heap_alloc_new w (.cells #[.int .i64 q.f, .int .i64 q.e, .int .i64 q.x] 32)
  have a2 := heap_alloc_new (w.alloc (.cells #[.int .i64 q.f, .int .i64 q.e, .int .i64 q.x] 32)) (.cells #[.int .i64 0, .int .i64 0, .int .i64 0] 32)
  have e2 : (w.alloc (.cells #[.int .i64 q.f, .int .i64 q.e, .int .i64 q.x] 32)).heap.size = w.heap.size + 1 := by simp
  have b1 := (Below.heap_alloc _ (.cells #[.int .i64 0, .int .i64 0, .int .i64 0] 32) w.heap.size (by rw [e2]; omega)).trans a1
  rw [e2] at a2
  have HB2 := hide hb2
  have HP := hide (fun W => plus_any W q Qt.one hq ⟨⟨by decide, by decide⟩, ⟨by decide, by decide⟩, ⟨by decide, by decide⟩⟩)
  clear hb1 hb2 a1 e2 hq
  unfold Qt.val at *
  simp only [Qt.one, Qt.plus] at *
  go_enter Try.func53, Try.ntmps53
  go_upto_region 1 with fail
  generalize (w.alloc (.cells #[.int .i64 q.f, .int .i64 q.e, .int .i64 q.x] 32)).alloc (.cells #[.int .i64 0, .int .i64 0, .int .i64 0] 32) = w3 at *
  obtain ⟨c0, c1, c2, -, -, -⟩ := blk3 b1
  have HA2 := hide a2
  clear b1 a2
  go_wp2_with fail
  refine (HP.out _).mono ?_
  rintro e1 w4 ⟨rfl, hb4⟩
  have a4 := (hb4.block (w.heap.size + 1) (Array.getElem?_eq_some_iff.1 HA2.out).1).trans HA2.out
  have HB4 := hide (HB2.out.trans (hb4.mono HB2.out.size))
  obtain ⟨r0, r1, r2, f0, f1, f2⟩ := blk3 a4
  have HS := hide (fun a b c => set3 a4 a b c)
  clear a4 hb4 HA2 HB2 c0 c1 c2
  go_wp2
  refine bodyPost_ret (results_row1 rfl _ _ (w.heap.size + 1) 32 #[.int .i64 q.f, .int .i64 (q.e + 1), .int .i64 q.x] (0, 0) _ rfl (HS.out _ _ _) Try.underlying32 rfl (by kernel_rfl)) rfl ?_
  exact ⟨by simp, below3 HB4.out (by omega) _ _ _⟩
set_option maxHeartbeats 1600000 in
theorem isGood_any (w : World) (q : Qt) : Calls Try.prog 51 #[q.val] w fun e w' => e = .returned (.bool (decide q.good)) ∧ Below w.heap.size w w' := by
  obtain ⟨bb, hbb⟩ : ∃ bb, decide q.good = bb := ⟨_, rfl⟩
  rw [hbb]
  have HD : Hid (bb = true ↔ q.good) := hide (by rw [← hbb]; exact decide_eq_true_iff)
  clear hbb
  have hb1 := (Below.refl w.heap.size w).alloc (Nat.le_refl _) (.cells #[.int .i64 q.f, .int .i64 q.e, .int .i64 q.x] 32)
  have a1 := heap_alloc_new w (.cells #[.int .i64 q.f, .int .i64 q.e, .int .i64 q.x] 32)
  have HB1 := hide hb1
  clear hb1
  unfold Qt.val
  go_enter Try.func51, Try.ntmps51
  go_upto_region 1 with fail
  generalize w.alloc (.cells #[.int .i64 q.f, .int .i64 q.e, .int .i64 q.x] 32) = w3 at *
  obtain ⟨c0, c1, c2, -, -, -⟩ := blk3 a1
  have c12 : w3.drew.cell? ⟨w.heap.size, 0, none⟩ = some (.int .i64 q.f) ∧ w3.drew.cell? ⟨w.heap.size, 1, none⟩ = some (.int .i64 q.e) ∧ w3.drew.cell? ⟨w.heap.size, 2, none⟩ = some (.int .i64 q.x) := ⟨c0, c1, c2⟩
  have HBd : Hid (∀ W, W = w3.drew → Calls Try.prog 50 #[.agg #[.int .i64 q.f, .int .i64 q.e, .int .i64 q.x]] W fun x w' => x = .returned (.agg #[.int .i64 (pt q.f), .int .i64 (pt q.e), .int .i64 (pt q.x)]) ∧ Below w.heap.size w w' ∧ w'.cell? ⟨w.heap.size, 0, none⟩ = some (.int .i64 q.f) ∧ w'.cell? ⟨w.heap.size, 1, none⟩ = some (.int .i64 q.e) ∧ w'.cell? ⟨w.heap.size, 2, none⟩ = some (.int .i64 q.x)) := by
    refine hide fun W hW => ?_
    subst hW
    refine (bounded_any w3.drew q).mono ?_
    rintro x w' ⟨rfl, hb⟩
    have hbd := HB1.out.drew
    have h1 := (hb.block w.heap.size (Array.getElem?_eq_some_iff.1 a1).1).trans a1
    obtain ⟨h2, h3, h4, -⟩ := blk3 h1
    exact ⟨rfl, hbd.trans (hb.mono hbd.size), h2, h3, h4⟩
  clear a1 HB1 c0 c1 c2
  generalize h1e : pt q.f = p1 at *
  generalize h2e : pt q.e = p2 at *
  generalize h3e : pt q.x = p3 at *
  by_cases h1 : p1 = q.f
  · by_cases h2 : p2 = q.e
    · by_cases h3 : p3 = q.x
      · subst h1 h2 h3
        have hd : bb = true := HD.out.2 (by simp [Qt.good, h1e, h2e, h3e])
        subst hd
        go_region_held (fun W => W.cell? ⟨w.heap.size, 0, none⟩ = some (.int .i64 q.f) ∧ W.cell? ⟨w.heap.size, 1, none⟩ = some (.int .i64 q.e) ∧ W.cell? ⟨w.heap.size, 2, none⟩ = some (.int .i64 q.x))
          (first | assumption | exact q1 | exact c12)
          (first | (go_at_call 50; refine (HBd.out _ rfl).mono ?_; rintro e1 w5 ⟨rfl, hb5, q1⟩
                    have HB5 := hide hb5
                    clear hb5))
        go_wp2
        go_ret
        exact ⟨rfl, HB5.out⟩
      · have hx : ¬ q.x = p3 := fun h => h3 h.symm
        have hxd : (q.x == p3) = false := by simp [hx]
        subst h1 h2
        have hd : bb = false := Bool.eq_false_iff.2 (fun hh => absurd (HD.out.1 hh) (by simp [Qt.good, h3e, h3]))
        subst hd
        go_region_held (fun W => W.cell? ⟨w.heap.size, 0, none⟩ = some (.int .i64 q.f) ∧ W.cell? ⟨w.heap.size, 1, none⟩ = some (.int .i64 q.e) ∧ W.cell? ⟨w.heap.size, 2, none⟩ = some (.int .i64 q.x))
          (first | assumption | exact q1 | exact c12)
          (first | (go_at_call 50; refine (HBd.out _ rfl).mono ?_; rintro e1 w5 ⟨rfl, hb5, q1⟩
                    have HB5 := hide hb5
                    clear hb5))
        go_wp2
        go_ret
        exact ⟨rfl, HB5.out⟩
    · have hx : ¬ q.e = p2 := fun h => h2 h.symm
      have hxd : (q.e == p2) = false := by simp [hx]
      subst h1
      have hd : bb = false := Bool.eq_false_iff.2 (fun hh => absurd (HD.out.1 hh) (by simp [Qt.good, h2e, h2]))
      subst hd
      go_region_held (fun W => W.cell? ⟨w.heap.size, 0, none⟩ = some (.int .i64 q.f) ∧ W.cell? ⟨w.heap.size, 1, none⟩ = some (.int .i64 q.e) ∧ W.cell? ⟨w.heap.size, 2, none⟩ = some (.int .i64 q.x))
        (first | assumption | exact q1 | exact c12)
        (first | (go_at_call 50; refine (HBd.out _ rfl).mono ?_; rintro e1 w5 ⟨rfl, hb5, q1⟩
                  have HB5 := hide hb5
                  clear hb5))
      go_wp2
      go_ret
      exact ⟨rfl, HB5.out⟩
  · have hx : ¬ q.f = p1 := fun h => h1 h.symm
    have hxd : (q.f == p1) = false := by simp [hx]
    have hd : bb = false := Bool.eq_false_iff.2 (fun hh => absurd (HD.out.1 hh) (by simp [Qt.good, h1e, h1]))
    subst hd
    go_region_held (fun W => W.cell? ⟨w.heap.size, 0, none⟩ = some (.int .i64 q.f) ∧ W.cell? ⟨w.heap.size, 1, none⟩ = some (.int .i64 q.e) ∧ W.cell? ⟨w.heap.size, 2, none⟩ = some (.int .i64 q.x))
      (first | assumption | exact q1 | exact c12)
      (first | (go_at_call 50; refine (HBd.out _ rfl).mono ?_; rintro e1 w5 ⟨rfl, hb5, q1⟩
                have HB5 := hide hb5
                clear hb5))
    go_wp2
    go_ret
    exact ⟨rfl, HB5.out⟩
end Go.Proofs.Ytoddadohmnaolab

namespace Go.Proofs.Ytoddadohmnaolab
open Go.RowKit

/-- an environment's record: what is told of it, and its quota book -/
structure Er where
  se : Int
  pa : Int
  st : Int
  co : Int
  bi : Int
  fz : Bool
  rg : Nat → Nat
  pc : Nat
  qu : Qt
  lf : Qt
  pd : Qt
  le : Qt
def Er.cells (e : Er) : List Value :=
  [.int .i64 e.se, .int .i64 e.pa, .int .i64 e.st, .int .i64 e.co, .int .i64 e.bi, .bool e.fz, .int .u32 (e.rg 0 : Nat), .int .u32 (e.rg 1 : Nat), .int .u32 (e.rg 2 : Nat), .int .u32 (e.rg 3 : Nat), .int .u32 (e.rg 4 : Nat), .int .u32 (e.rg 5 : Nat), .int .u32 (e.rg 6 : Nat), .int .u32 (e.rg 7 : Nat), .int .u32 (e.pc : Nat),
   .int .i64 e.qu.f, .int .i64 e.qu.e, .int .i64 e.qu.x, .int .i64 e.lf.f, .int .i64 e.lf.e, .int .i64 e.lf.x, .int .i64 e.pd.f, .int .i64 e.pd.e, .int .i64 e.pd.x, .int .i64 e.le.f, .int .i64 e.le.e, .int .i64 e.le.x]
def Qt.zero : Qt := ⟨0, 0, 0⟩
def Er.new (se pa : Int) (q : Qt) : Er := ⟨se, pa, 0, 0, 0, false, fun _ => 0, 0, q, Qt.zero, Qt.zero, q⟩
/-- a record at block b -/
structure Rb (w : World) (b : Nat) (e : Er) : Prop where
  out : w.heap[b]? = some (.cells e.cells.toArray 80 (0, 0))
theorem Rb.get {w : World} {b : Nat} {e : Er} (h : Rb w b e) {j : Nat} {v : Value} (hv : e.cells[j]? = some v) : w.cell? ⟨b, j, none⟩ = some v := by
  rw [cell_of_row _ _ _ _ _ _ h.out]; simpa using hv
theorem Rb.frz {w : World} {b : Nat} {e : Er} (h : Rb w b e) (j : Nat) : w.frozen? ⟨b, j, none⟩ = false := frozen_of_row _ _ _ _ _ h.out
theorem Rb.lt {w : World} {b : Nat} {e : Er} (h : Rb w b e) : b < w.heap.size := (Array.getElem?_eq_some_iff.1 h.out).1
theorem Rb.keep {w w' : World} {b : Nat} {e : Er} (h : Rb w b e) (hk : w'.heap[b]? = w.heap[b]?) : Rb w' b e := ⟨hk.trans h.out⟩
/-- a cell of a record is set -/
theorem Rb.set {w : World} {b : Nat} {e e' : Er} (h : Rb w b e) {j : Nat} {u : Value} (he : e.cells.set j u = e'.cells) : Rb (w.setCell ⟨b, j, none⟩ u) b e' := by
  refine ⟨?_⟩
  have h1 := heap_setCell_same _ b j _ _ u h.out
  rw [h1, ← he]
  congr 2
  simp
set_option maxHeartbeats 3200000 in
theorem newRecord_any (w : World) (se pa : Int) (q : Qt) : Calls Try.prog 49 #[.int .i64 se, .int .i64 pa, q.val] w fun e w' => ∃ b, e = .returned (.pointer (some ⟨b, 0, none⟩)) ∧ Rb w' b (Er.new se pa q) ∧ w.heap.size ≤ b ∧ Below w.heap.size w w' := by
  have hb1 := (Below.refl w.heap.size w).alloc (Nat.le_refl _) (.cells #[.int .i64 q.f, .int .i64 q.e, .int .i64 q.x] 32)
  have a1 := heap_alloc_new w (.cells #[.int .i64 q.f, .int .i64 q.e, .int .i64 q.x] 32)
  have HB1 := hide hb1
  clear hb1
  unfold Qt.val
  go_enter Try.func49, Try.ntmps49
  go_upto_region 1 with fail
  generalize w.alloc (.cells #[.int .i64 q.f, .int .i64 q.e, .int .i64 q.x] 32) = w1 at *
  obtain ⟨c0, c1, c2, -, -, -⟩ := blk3 a1
  clear a1
  go_wp2
  go_ret
  exact ⟨w1.heap.size, rfl, ⟨heap_alloc_new w1 _⟩, HB1.out.size, HB1.out.alloc HB1.out.size _⟩
end Go.Proofs.Ytoddadohmnaolab

namespace Go.Proofs.Ytoddadohmnaolab
open Go.RowKit

/-- a table of environments -/
structure EtAt (w : World) (F : Nat → Prop) (T S : Nat) (G : Nat → Prop) (m : List (Option Nat)) (rs : List (Option Er)) (last : Int) : Prop where
  top : w.heap[T]? = some (.cells #[.pointer (some ⟨S, 0, none⟩), .int .i64 last] 75 (0, 0))
  tab : Tab KL w G S m
  len : m.length = 16
  rlen : rs.length = 16
  free : ∀ i : Nat, m[i]? = some none → rs[i]? = some none
  held : ∀ (i b : Nat), m[i]? = some (some b) → ∃ e, rs[i]? = some (some e) ∧ Rb w b e
  fT : F T
  fG : ∀ b, G b → F b ∧ b ≠ T
  own : ∀ i b : Nat, m[i]? = some (some b) → F b ∧ b ≠ T ∧ ¬ G b
  dis : ∀ i j b : Nat, m[i]? = some (some b) → m[j]? = some (some b) → i = j
  lt : ∀ b, F b → b < w.heap.size
def Et (w : World) (F : Nat → Prop) (T : Nat) (rs : List (Option Er)) (last : Int) : Prop := ∃ S G m, EtAt w F T S G m rs last
section
variable {w : World} {F : Nat → Prop} {T S : Nat} {G : Nat → Prop} {m : List (Option Nat)} {rs : List (Option Er)} {last : Int}
theorem EtAt.keep (h : EtAt w F T S G m rs last) {w' : World} (hs : w.heap.size ≤ w'.heap.size) (hk : ∀ b, F b → w'.heap[b]? = w.heap[b]?) : EtAt w' F T S G m rs last :=
  ⟨by rw [hk T h.fT]; exact h.top, h.tab.keep hs (fun b hb => hk b (h.fG b hb).1), h.len, h.rlen, h.free,
   fun i b hi => by obtain ⟨e, h1, h2⟩ := h.held i b hi; exact ⟨e, h1, h2.keep (hk b (h.own i b hi).1)⟩,
   h.fT, h.fG, h.own, h.dis, fun b hb => Nat.lt_of_lt_of_le (h.lt b hb) hs⟩
theorem Et.keep (h : Et w F T rs last) {w' : World} (hs : w.heap.size ≤ w'.heap.size) (hk : ∀ b, F b → w'.heap[b]? = w.heap[b]?) : Et w' F T rs last := by
  obtain ⟨S, G, m, h⟩ := h; exact ⟨S, G, m, h.keep hs hk⟩
theorem Et.lt (h : Et w F T rs last) : ∀ b, F b → b < w.heap.size := by obtain ⟨S, G, m, h⟩ := h; exact h.lt
theorem Et.below (h : Et w F T rs last) {w' : World} (hb : Below w.heap.size w w') : Et w' F T rs last :=
  h.keep hb.size (fun b hf => hb.block b (h.lt b hf))
theorem EtAt.below (h : EtAt w F T S G m rs last) {w' : World} (hb : Below w.heap.size w w') : EtAt w' F T S G m rs last :=
  h.keep hb.size (fun b hf => hb.block b (h.lt b hf))
theorem EtAt.cell (h : EtAt w F T S G m rs last) : w.cell? ⟨T, 0, none⟩ = some (.pointer (some ⟨S, 0, none⟩)) ∧ w.cell? ⟨T, 1, none⟩ = some (.int .i64 last) ∧ w.frozen? ⟨T, 1, none⟩ = false :=
  ⟨by rw [cell_of_row _ _ _ _ _ _ h.top]; rfl, by rw [cell_of_row _ _ _ _ _ _ h.top]; rfl, frozen_of_row _ _ _ _ _ h.top⟩
/-- a number that lives, or not -/
theorem EtAt.cases (h : EtAt w F T S G m rs last) (e : Int) : (look m e = none ∧ look rs e = none) ∨
    ∃ (k b : Nat) (r : Er), e = k ∧ m[k]? = some (some b) ∧ rs[k]? = some (some r) ∧ look m e = some b ∧ look rs e = some r ∧ Rb w b r := by
  rcases look_cases m e with ⟨h1, e1⟩ | ⟨k, rfl, hk, hm, e1⟩ | ⟨k, x, rfl, hk, hm, e1⟩
  · exact .inl ⟨e1, look_out rs e (by rw [h.rlen, ← h.len]; exact h1)⟩
  · exact .inl ⟨e1, by rw [look_nat, h.free k hm]; rfl⟩
  · obtain ⟨r, h1, h2⟩ := h.held k x hm
    exact .inr ⟨k, x, r, rfl, hm, h1, e1, by rw [look_nat, h1]; rfl, h2⟩
/-- one record is written -/
theorem EtAt.upd (h : EtAt w F T S G m rs last) {i b : Nat} (hi : m[i]? = some (some b)) {w' : World} {r' : Er} (hs : w.heap.size ≤ w'.heap.size) (hk : ∀ c, c < w.heap.size → c ≠ b → w'.heap[c]? = w.heap[c]?) (hr : Rb w' b r') : EtAt w' F T S G m (rs.set i (some r')) last := by
  have hil : i < rs.length := by rw [h.rlen, ← h.len]; exact (List.getElem?_eq_some_iff.1 hi).1
  obtain ⟨o1, o2, o3⟩ := h.own i b hi
  refine ⟨(hk T (h.lt T h.fT) (fun e => o2 e.symm)).trans h.top, h.tab.keep hs (fun c hc => hk c (h.lt c (h.fG c hc).1) (fun e => o3 (by rw [← e]; exact hc))), h.len, by simpa using h.rlen, fun j hj => ?_, fun j c hj => ?_, h.fT, h.fG, h.own, h.dis, fun c hc => Nat.lt_of_lt_of_le (h.lt c hc) hs⟩
  · rw [List.getElem?_set]
    split
    · rename_i e; subst e; rw [hi] at hj; cases hj
    · exact h.free j hj
  · by_cases e : j = i
    · subst e
      rw [hi] at hj; cases hj
      exact ⟨r', by rw [List.getElem?_set_self hil], hr⟩
    · obtain ⟨r, h1, h2⟩ := h.held j c hj
      refine ⟨r, by rw [List.getElem?_set_ne (fun e' => e e'.symm)]; exact h1, h2.keep (hk c h2.lt (fun e' => ?_))⟩
      subst e'
      exact e (h.dis j i c hj hi)
/-- a new record is laid at a free number -/
theorem EtAt.opn (h : EtAt w F T S G m rs last) {i b : Nat} (hi : m[i]? = some none) {w1 w2 : World} {r : Er} {G' : Nat → Prop} (hb : Below w.heap.size w w1) (hbn : w.heap.size ≤ b) (hr : Rb w1 b r) (ht : Tab KL w2 G' S (m.set i (some b))) (hx : Ext G w1 G' w2) :
    EtAt w2 (fun x => F x ∨ x = b ∨ G' x) T S G' (m.set i (some b)) (rs.set i (some r)) last ∧ Ext F w (fun x => F x ∨ x = b ∨ G' x) w2 := by
  have hil : i < rs.length := by rw [h.rlen, ← h.len]; exact (List.getElem?_eq_some_iff.1 hi).1
  have hg' : ∀ x, G' x → G x ∨ w1.heap.size ≤ x := hx.new
  have old : ∀ c, c < w.heap.size → ¬ G c → w2.heap[c]? = w.heap[c]? := fun c hc hg => (hx.mod.block c (Nat.lt_of_lt_of_le hc hb.size) hg).trans (hb.block c hc)
  have hbG : ¬ G b := fun hg => by have := h.lt b (h.fG b hg).1; omega
  have hbG' : ¬ G' b := fun hg => by
    rcases hg' b hg with h1 | h1
    · exact hbG h1
    · have := hr.lt; omega
  have ms : ∀ (j c : Nat), (m.set i (some b))[j]? = some (some c) → (j = i ∧ c = b) ∨ (j ≠ i ∧ m[j]? = some (some c)) := by
    intro j c hj
    rw [List.getElem?_set] at hj
    split at hj
    · rename_i e
      subst e
      split at hj
      · cases hj; exact .inl ⟨rfl, rfl⟩
      · cases hj
    · rename_i e; exact .inr ⟨fun e' => e e'.symm, hj⟩
  refine ⟨⟨?_, ht, by simpa using h.len, by simpa using h.rlen, fun j hj => ?_, fun j c hj => ?_, .inl h.fT, fun c hc => ?_, fun j c hj => ?_, fun j k c hj hk => ?_, fun c hc => ?_⟩, ⟨⟨hx.mod.os.trans hb.os, hx.mod.tape.trans hb.tape, hx.mod.output.trans hb.output, Nat.le_trans hb.size hx.mod.size, fun c hc hf => old c hc (fun hg => hf (h.fG c hg).1)⟩, fun c hc => ?_⟩⟩
  · rw [old T (h.lt T h.fT) (fun hg => (h.fG T hg).2 rfl)]; exact h.top
  · rw [List.getElem?_set] at hj ⊢
    split at hj
    · split at hj <;> cases hj
    · rename_i e; rw [if_neg e]; exact h.free j hj
  · rcases ms j c hj with ⟨rfl, rfl⟩ | ⟨hne, hj'⟩
    · exact ⟨r, by rw [List.getElem?_set_self hil], hr.keep (hx.mod.block c hr.lt hbG)⟩
    · obtain ⟨r2, h1, h2⟩ := h.held j c hj'
      exact ⟨r2, by rw [List.getElem?_set_ne (fun e => hne e.symm)]; exact h1, h2.keep (old c h2.lt (h.own j c hj').2.2)⟩
  · refine ⟨.inr (.inr hc), fun e => ?_⟩
    subst e
    rcases hg' c hc with h1 | h1
    · exact (h.fG c h1).2 rfl
    · have := h.lt c h.fT; have := hb.size; omega
  · rcases ms j c hj with ⟨rfl, rfl⟩ | ⟨hne, hj'⟩
    · exact ⟨.inr (.inl rfl), fun e => by have := h.lt T h.fT; omega, hbG'⟩
    · obtain ⟨o1, o2, o3⟩ := h.own j c hj'
      refine ⟨.inl o1, o2, fun hg => ?_⟩
      rcases hg' c hg with h1 | h1
      · exact o3 h1
      · have := h.lt c o1; have := hb.size; omega
  · rcases ms j c hj with ⟨rfl, rfl⟩ | ⟨hne, hj'⟩ <;> rcases ms k _ hk with ⟨rfl, e2⟩ | ⟨hne2, hk'⟩
    · rfl
    · have := h.lt _ (h.own k _ hk').1; omega
    · subst e2; have := h.lt _ (h.own j _ hj').1; omega
    · exact h.dis j k c hj' hk'
  · rcases hc with hc | rfl | hc
    · exact Nat.lt_of_lt_of_le (h.lt c hc) (Nat.le_trans hb.size hx.mod.size)
    · exact Nat.lt_of_lt_of_le hr.lt hx.mod.size
    · exact ht.lt c hc
  · rcases hc with hc | rfl | hc
    · exact .inl hc
    · exact .inr hbn
    · rcases hg' c hc with h1 | h1
      · exact .inl (h.fG c h1).1
      · exact .inr (Nat.le_trans hb.size h1)
end
end Go.Proofs.Ytoddadohmnaolab
