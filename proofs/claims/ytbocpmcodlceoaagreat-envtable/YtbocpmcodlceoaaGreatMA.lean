import Derived.Test.YtbocpmcodlceoaaGreatRows
import Derived.WalkKit
import Derived.Handy
import Derived.WalkSpells
import Derived.WalkLawsBesides
import Derived.Deep.RegionLaw
import Derived.Deep.WholeRow
import Derived.Laws.OwnMore
import Derived.Laws.MakeOwn
import Derived.Laws.ResultCell
namespace Go.Proofs.YtbocpmcodlceoaaGreat
open Go.RowKit

theorem hide {p : Prop} (h : p) : Hid p := h

/-- the types of a table's struct, of its places' pointers, of its values; how a value lies in memory -/
structure Knd (α : Type) where
  S : TypeId
  P : TypeId
  E : TypeId
  enc : α → Array Value
def ptr : Option Nat → Value
  | none => .pointer none
  | some q => .pointer (some ⟨q, 0, none⟩)

/-- what a call on a table with the blocks F leaves of the rest -/
structure Mod (F : Nat → Prop) (w w' : World) : Prop where
  os : w'.os = w.os
  tape : w'.tape = w.tape
  output : w'.output = w.output
  size : w.heap.size ≤ w'.heap.size
  block : ∀ b, b < w.heap.size → ¬ F b → w'.heap[b]? = w.heap[b]?
/-- and the table's blocks behind it are F' -/
structure Ext (F : Nat → Prop) (w : World) (F' : Nat → Prop) (w' : World) : Prop where
  mod : Mod F w w'
  new : ∀ b, F' b → F b ∨ w.heap.size ≤ b

theorem Mod.refl (F : Nat → Prop) (w : World) : Mod F w w := ⟨rfl, rfl, rfl, Nat.le_refl _, fun _ _ _ => rfl⟩
theorem Mod.trans {F : Nat → Prop} {a b c : World} (h : Mod F a b) (k : Mod F b c) : Mod F a c :=
  ⟨k.os.trans h.os, k.tape.trans h.tape, k.output.trans h.output, Nat.le_trans h.size k.size, fun i hi hf => (k.block i (Nat.lt_of_lt_of_le hi h.size) hf).trans (h.block i hi hf)⟩
theorem Mod.alloc {F : Nat → Prop} {a w : World} (h : Mod F a w) (o : Obj) : Mod F a (w.alloc o) :=
  h.trans ⟨rfl, rfl, rfl, by simp, fun k hk _ => Below.heap_alloc _ _ _ (by omega)⟩
theorem Mod.setCell {F : Nat → Prop} {a w : World} (h : Mod F a w) {p : Addr} (hp : F p.block ∨ a.heap.size ≤ p.block) (u : Value) : Mod F a (w.setCell p u) :=
  ⟨h.os, h.tape, h.output, by simp [World.setCell]; exact h.size, fun k hk hf => by
    rw [Below.heap_setCell _ _ _ _ (fun e => by subst e; rcases hp with hp | hp; exact hf hp; omega)]; exact h.block k hk hf⟩
theorem Mod.drew {F : Nat → Prop} {a w : World} (h : Mod F a w) : Mod F a w.drew := ⟨h.os, h.tape, h.output, h.size, h.block⟩
theorem Mod.of_below {F : Nat → Prop} {a w : World} (h : Below a.heap.size a w) : Mod F a w := ⟨h.os, h.tape, h.output, h.size, fun k hk _ => h.block k hk⟩
theorem Mod.below {F : Nat → Prop} {a w : World} {B : Nat} (h : Mod F a w) (hF : ∀ b, F b → B ≤ b) (hB : B ≤ a.heap.size) : Below B a w :=
  ⟨h.os, h.tape, h.output, h.size, fun k hk => h.block k (by omega) (fun hf => by have := hF k hf; omega)⟩
theorem Ext.refl (F : Nat → Prop) (w : World) : Ext F w F w := ⟨Mod.refl _ _, fun _ h => .inl h⟩
theorem Ext.trans {F F' F'' : Nat → Prop} {a b c : World} (h : Ext F a F' b) (k : Ext F' b F'' c) : Ext F a F'' c :=
  ⟨⟨k.mod.os.trans h.mod.os, k.mod.tape.trans h.mod.tape, k.mod.output.trans h.mod.output, Nat.le_trans h.mod.size k.mod.size, fun i hi hf => by
      rw [k.mod.block i (Nat.lt_of_lt_of_le hi h.mod.size) (fun h' => by rcases h.new i h' with h1 | h1; exact hf h1; omega)]
      exact h.mod.block i hi hf⟩,
   fun i h' => by
      rcases k.new i h' with h1 | h1
      · exact h.new i h1
      · exact .inr (Nat.le_trans h.mod.size h1)⟩
theorem Ext.low {F F' : Nat → Prop} {a w : World} {B : Nat} (h : Ext F a F' w) (hF : ∀ b, F b → B ≤ b) (hB : B ≤ a.heap.size) : ∀ b, F' b → B ≤ b := by
  intro b hb; rcases h.new b hb with h1 | h1
  · exact hF b h1
  · omega

structure TabAt {α : Type} (K : Knd α) (w : World) (F : Nat → Prop) (B p : Nat) (ps : List (Option Nat)) (m : List (Option α)) : Prop where
  top : w.heap[B]? = some (.cells #[.slice (some ⟨p, 0, none⟩) m.length m.length, .int .i64 ((m.countP Option.isSome : Nat) : Int)] K.S (0, 0))
  row : w.heap[p]? = some (.cells (ps.map ptr).toArray K.P (0, 0))
  len : ps.length = m.length
  free : ∀ (i : Nat), m[i]? = some none → ps[i]? = some none
  held : ∀ (i : Nat) (x : α), m[i]? = some (some x) → ∃ q, ps[i]? = some (some q) ∧ w.heap[q]? = some (.cells (K.enc x) K.E (0, 0)) ∧ F q ∧ q ≠ B ∧ q ≠ p
  inj : ∀ (i j q : Nat), ps[i]? = some (some q) → ps[j]? = some (some q) → i = j
  fB : F B
  fp : F p
  ne : p ≠ B
  lt : ∀ b, F b → b < w.heap.size
  cap : m.length ≤ 4096
/-- a table at block B, its blocks among F, with m in its places -/
def Tab {α : Type} (K : Knd α) (w : World) (F : Nat → Prop) (B : Nat) (m : List (Option α)) : Prop := ∃ p ps, TabAt K w F B p ps m

section
variable {α : Type} {K : Knd α} {w : World} {F : Nat → Prop} {B p : Nat} {ps : List (Option Nat)} {m : List (Option α)}

theorem TabAt.keep (h : TabAt K w F B p ps m) {w' : World} (hs : w.heap.size ≤ w'.heap.size) (hk : ∀ b, F b → w'.heap[b]? = w.heap[b]?) : TabAt K w' F B p ps m :=
  ⟨by rw [hk B h.fB]; exact h.top, by rw [hk p h.fp]; exact h.row, h.len, h.free,
   fun i x hx => by obtain ⟨q, h1, h2, h3, h4⟩ := h.held i x hx; exact ⟨q, h1, by rw [hk q h3]; exact h2, h3, h4⟩,
   h.inj, h.fB, h.fp, h.ne, fun b hb => Nat.lt_of_lt_of_le (h.lt b hb) hs, h.cap⟩
theorem Tab.keep (h : Tab K w F B m) {w' : World} (hs : w.heap.size ≤ w'.heap.size) (hk : ∀ b, F b → w'.heap[b]? = w.heap[b]?) : Tab K w' F B m := by
  obtain ⟨p, ps, h⟩ := h; exact ⟨p, ps, h.keep hs hk⟩
theorem Tab.lt (h : Tab K w F B m) : ∀ b, F b → b < w.heap.size := by obtain ⟨p, ps, h⟩ := h; exact h.lt
theorem Tab.fB (h : Tab K w F B m) : F B := by obtain ⟨p, ps, h⟩ := h; exact h.fB
theorem Tab.cap (h : Tab K w F B m) : m.length ≤ 4096 := by obtain ⟨p, ps, h⟩ := h; exact h.cap
theorem Tab.below (h : Tab K w F B m) {w' : World} (hb : Below w.heap.size w w') : Tab K w' F B m :=
  h.keep hb.size (fun b hf => hb.block b (h.lt b hf))
/-- another table's calls leave this one -/
theorem Tab.apart (h : Tab K w F B m) {G G' : Nat → Prop} {w' : World} (hx : Ext G w G' w') (hd : ∀ b, F b → ¬ G b) : Tab K w' F B m :=
  h.keep hx.mod.size (fun b hf => hx.mod.block b (h.lt b hf) (hd b hf))

theorem add0 (g j : Nat) : (⟨g, 0, none⟩ : Addr).add j = ⟨g, j, none⟩ := by unfold Addr.add; split <;> simp_all

theorem TabAt.cells (h : TabAt K w F B p ps m) :
    w.cell? ⟨B, 0, none⟩ = some (.slice (some ⟨p, 0, none⟩) m.length m.length) ∧ w.cell? ⟨B, 1, none⟩ = some (.int .i64 ((m.countP Option.isSome : Nat) : Int)) ∧
    w.frozen? ⟨B, 0, none⟩ = false ∧ w.frozen? ⟨B, 1, none⟩ = false :=
  ⟨by rw [cell_of_row _ _ _ _ _ _ h.top]; rfl, by rw [cell_of_row _ _ _ _ _ _ h.top]; rfl, frozen_of_row w B 0 _ _ h.top, frozen_of_row w B 1 _ _ h.top⟩
theorem TabAt.place (h : TabAt K w F B p ps m) {i : Nat} {o : Option Nat} (ho : ps[i]? = some o) : w.cell? ⟨p, i, none⟩ = some (ptr o) ∧ w.frozen? ⟨p, i, none⟩ = false :=
  ⟨by rw [cell_of_row _ _ _ _ _ _ h.row]; simp [ho], frozen_of_row w p i _ _ h.row⟩
theorem TabAt.nil (h : TabAt K w F B p ps m) {i : Nat} (hi : m[i]? = some none) : w.cell? ⟨p, i, none⟩ = some (.pointer none) := (h.place (h.free i hi)).1
theorem TabAt.ptr (h : TabAt K w F B p ps m) {i : Nat} {x : α} (hi : m[i]? = some (some x)) : ∃ q, ps[i]? = some (some q) ∧ w.cell? ⟨p, i, none⟩ = some (.pointer (some ⟨q, 0, none⟩)) ∧ w.heap[q]? = some (.cells (K.enc x) K.E (0, 0)) ∧ F q := by
  obtain ⟨q, h1, h2, h3, _⟩ := h.held i x hi
  exact ⟨q, h1, (h.place h1).1, h2, h3⟩
theorem TabAt.frz (h : TabAt K w F B p ps m) (i : Nat) : w.frozen? ⟨p, i, none⟩ = false := frozen_of_row w p i _ _ h.row

theorem count_lay {i : Nat} (hi : m[i]? = some none) (x : α) : (m.set i (some x)).countP Option.isSome = m.countP Option.isSome + 1 := by
  obtain ⟨hl, e⟩ := List.getElem?_eq_some_iff.1 hi
  rw [List.countP_set hl, e]; simp
theorem count_drop {i : Nat} {x : α} (hi : m[i]? = some (some x)) : (m.set i none).countP Option.isSome + 1 = m.countP Option.isSome := by
  obtain ⟨hl, e⟩ := List.getElem?_eq_some_iff.1 hi
  have hp : 0 < m.countP Option.isSome := List.countP_pos_iff.2 ⟨m[i], List.getElem_mem hl, by rw [e]; rfl⟩
  rw [List.countP_set hl, e]; simp; omega
theorem count_le : m.countP Option.isSome ≤ m.length := List.countP_le_length

theorem set_ptr (ps : List (Option Nat)) (i : Nat) (o : Option Nat) : ((ps.map ptr).toArray).setIfInBounds i (ptr o) = ((ps.set i o).map ptr).toArray := by
  rw [List.map_set]; simp

/-- what lay leaves -/
theorem TabAt.lay (h : TabAt K w F B p ps m) {i : Nat} (hi : m[i]? = some none) (x : α) {c : Int} (hc : c = ((m.countP Option.isSome : Nat) : Int) + 1) :
    TabAt K (((w.alloc (.cells (K.enc x) K.E)).setCell ⟨p, i, none⟩ (.pointer (some ⟨w.heap.size, 0, none⟩))).setCell ⟨B, 1, none⟩ (.int .i64 c)) (fun b => F b ∨ b = w.heap.size) B p (ps.set i (some w.heap.size)) (m.set i (some x)) := by
  have hB := h.lt B h.fB
  have hp := h.lt p h.fp
  have hne := h.ne
  have t1 : (w.alloc (.cells (K.enc x) K.E)).heap[B]? = _ := (Below.heap_alloc w _ B hB).trans h.top
  have r1 : (w.alloc (.cells (K.enc x) K.E)).heap[p]? = _ := (Below.heap_alloc w _ p hp).trans h.row
  have hil : i < ps.length := by rw [h.len]; exact (List.getElem?_eq_some_iff.1 hi).1
  refine ⟨?_, ?_, by simp [h.len], ?_, ?_, ?_, .inl h.fB, .inl h.fp, h.ne, ?_, by simpa using h.cap⟩
  · have t2 : ((w.alloc (.cells (K.enc x) K.E)).setCell ⟨p, i, none⟩ (.pointer (some ⟨w.heap.size, 0, none⟩))).heap[B]? = _ := (heap_setCell_other _ _ B _ (fun e => hne e.symm)).trans t1
    rw [heap_setCell_same _ B 1 _ _ _ t2, hc, count_lay hi]
    simp
  · rw [heap_setCell_other _ _ p _ hne, heap_setCell_same _ p i _ _ _ r1]
    rw [show (Value.pointer (some ⟨w.heap.size, 0, none⟩)) = YtbocpmcodlceoaaGreat.ptr (some w.heap.size) from rfl, set_ptr]
  · intro j hj
    rw [List.getElem?_set] at hj ⊢
    split at hj
    · split at hj <;> simp at hj
    · rename_i e
      rw [if_neg e]
      exact h.free j hj
  · intro j y hj
    rw [List.getElem?_set] at hj
    split at hj
    · rename_i e
      subst e
      split at hj
      · cases hj
        refine ⟨w.heap.size, ?_, ?_, .inr rfl, by omega, by omega⟩
        · rw [List.getElem?_set]; simp [hil]
        · rw [heap_setCell_other _ _ _ _ (show w.heap.size ≠ B by omega), heap_setCell_other _ _ _ _ (show w.heap.size ≠ p by omega)]
          exact heap_alloc_new _ _
      · simp at hj
    · rename_i e
      obtain ⟨q, h1, h2, h3, h4, h5⟩ := h.held j y hj
      have hq := h.lt q h3
      refine ⟨q, ?_, ?_, .inl h3, h4, h5⟩
      · rw [List.getElem?_set]; simp [e, h1]
      · rw [heap_setCell_other _ _ _ _ h4, heap_setCell_other _ _ _ _ h5, Below.heap_alloc w _ q hq]; exact h2
  · intro j k q hj hk
    rw [List.getElem?_set] at hj hk
    have hold : ∀ l : Nat, ps[l]? = some (some w.heap.size) → False := by
      intro l hl
      have hlm : l < m.length := by rw [← h.len]; exact (List.getElem?_eq_some_iff.1 hl).1
      cases hm : m[l] with
      | none => have := h.free l (by rw [List.getElem?_eq_getElem hlm, hm]); rw [hl] at this; cases this
      | some y =>
        obtain ⟨q', h1, _, h3, _⟩ := h.held l y (by rw [List.getElem?_eq_getElem hlm, hm])
        rw [hl] at h1; cases h1
        have := h.lt _ h3; omega
    split at hj <;> split at hk
    · omega
    · cases hj; exact (hold _ hk).elim
    · cases hk; exact (hold _ hj).elim
    · exact h.inj j k q hj hk
  · intro b hb
    have hs : w.heap.size < (w.alloc (.cells (K.enc x) K.E)).heap.size := by simp
    simp [World.setCell] at *
    rcases hb with hb | hb
    · have := h.lt b hb; omega
    · omega

/-- what a dropping leaves -/
theorem TabAt.drop (h : TabAt K w F B p ps m) {i : Nat} {x : α} (hi : m[i]? = some (some x)) {c : Int} (hc : c = ((m.countP Option.isSome : Nat) : Int) - 1) :
    TabAt K ((w.setCell ⟨p, i, none⟩ (.pointer none)).setCell ⟨B, 1, none⟩ (.int .i64 c)) F B p (ps.set i none) (m.set i none) := by
  have hne := h.ne
  refine ⟨?_, ?_, by simp [h.len], ?_, ?_, ?_, h.fB, h.fp, h.ne, ?_, by simpa using h.cap⟩
  · have t2 : (w.setCell ⟨p, i, none⟩ (.pointer none)).heap[B]? = _ := (heap_setCell_other _ _ B _ (fun e => hne e.symm)).trans h.top
    have hcd := count_drop hi
    rw [heap_setCell_same _ B 1 _ _ _ t2, hc]
    have : ((m.countP Option.isSome : Nat) : Int) - 1 = (((m.set i none).countP Option.isSome : Nat) : Int) := by omega
    rw [this]; simp
  · rw [heap_setCell_other _ _ p _ hne, heap_setCell_same _ p i _ _ _ h.row]
    rw [show (Value.pointer none) = YtbocpmcodlceoaaGreat.ptr none from rfl, set_ptr]
  · intro j hj
    have hl : j < ps.length := by rw [h.len]; have := (List.getElem?_eq_some_iff.1 hj).1; simpa using this
    rw [List.getElem?_set] at hj ⊢
    split
    · simp_all
    · rename_i e
      rw [if_neg e] at hj
      exact h.free j hj
  · intro j y hj
    rw [List.getElem?_set] at hj
    split at hj
    · split at hj <;> cases hj
    · rename_i e
      obtain ⟨q, h1, h2, h3, h4, h5⟩ := h.held j y hj
      refine ⟨q, ?_, ?_, h3, h4, h5⟩
      · rw [List.getElem?_set]; simp [e, h1]
      · rw [heap_setCell_other _ _ _ _ h4, heap_setCell_other _ _ _ _ h5]; exact h2
  · intro j k q hj hk
    rw [List.getElem?_set] at hj hk
    split at hj
    · split at hj <;> cases hj
    split at hk
    · split at hk <;> cases hk
    exact h.inj j k q hj hk
  · intro b hb; have := h.lt b hb; simpa [World.setCell] using this

/-- a new table -/
theorem TabAt.fresh (K : Knd α) (w : World) (n : Nat) (hn : n ≤ 4096) :
    TabAt K ((w.alloc (.cells (madeCells #[.pointer none] n) K.P)).alloc (.cells #[.slice (some ⟨w.heap.size, 0, none⟩) n n, .int .i64 0] K.S)) (fun b => b = w.heap.size ∨ b = w.heap.size + 1) (w.heap.size + 1) w.heap.size (List.replicate n none) (List.replicate n none) := by
  refine ⟨?_, ?_, by simp, ?_, ?_, ?_, .inr rfl, .inl rfl, by omega, ?_, by simpa using hn⟩
  · have := heap_alloc2_new w (.cells (madeCells #[.pointer none] n) K.P) (.cells #[.slice (some ⟨w.heap.size, 0, none⟩) n n, .int .i64 0] K.S)
    rw [this]
    have e : (List.replicate n (none : Option α)).countP Option.isSome = 0 := List.countP_eq_zero.2 (fun a ha => by rw [(List.mem_replicate.1 ha).2]; simp)
    rw [e]; simp
  · rw [heap_alloc2_old]
    have : madeCells #[Value.pointer none] n = ((List.replicate n none).map YtbocpmcodlceoaaGreat.ptr).toArray := by
      rw [← Array.toArray_toList (xs := madeCells #[Value.pointer none] n), toList_madeCells_one]
      simp [YtbocpmcodlceoaaGreat.ptr]
    rw [this]
  · intro i hi; rw [List.getElem?_replicate] at hi ⊢; split <;> simp_all
  · intro i x hi; rw [List.getElem?_replicate] at hi; split at hi <;> simp at hi
  · intro i j q hi; rw [List.getElem?_replicate] at hi; split at hi <;> simp at hi
  · intro b hb
    simp
    omega
end

/-- tables of pointers to records -/
def KL : Knd Nat := ⟨101, 102, 66, fun b => #[.pointer (some ⟨b, 0, none⟩)]⟩
end Go.Proofs.YtbocpmcodlceoaaGreat

namespace Go.Proofs.YtbocpmcodlceoaaGreat
open Go.RowKit

/-- what lies at i -/
def look {α : Type} (m : List (Option α)) (i : Int) : Option α := if i < 0 then none else (m[i.toNat]?).join
theorem look_nat {α : Type} (m : List (Option α)) (k : Nat) : look m (k : Int) = (m[k]?).join := by
  unfold look; rw [if_neg (by omega)]; simp
theorem look_out {α : Type} (m : List (Option α)) (i : Int) (h : i < 0 ∨ (m.length : Int) ≤ i) : look m i = none := by
  unfold look; split
  · rfl
  · rw [List.getElem?_eq_none (by omega)]; rfl
theorem look_cases {α : Type} (m : List (Option α)) (i : Int) : ((i < 0 ∨ (m.length : Int) ≤ i) ∧ look m i = none) ∨ (∃ k : Nat, i = k ∧ k < m.length ∧ m[k]? = some none ∧ look m i = none) ∨ ∃ (k : Nat) (x : α), i = k ∧ k < m.length ∧ m[k]? = some (some x) ∧ look m i = some x := by
  by_cases h : i < 0 ∨ (m.length : Int) ≤ i
  · exact .inl ⟨h, look_out m i h⟩
  · obtain ⟨k, rfl⟩ : ∃ k : Nat, i = k := ⟨i.toNat, by omega⟩
    have hk : k < m.length := by omega
    rcases hm : m[k] with _ | x
    · exact .inr (.inl ⟨k, rfl, hk, by rw [List.getElem?_eq_getElem hk, hm], by rw [look_nat, List.getElem?_eq_getElem hk, hm]; rfl⟩)
    · exact .inr (.inr ⟨k, x, rfl, hk, by rw [List.getElem?_eq_getElem hk, hm], by rw [look_nat, List.getElem?_eq_getElem hk, hm]; rfl⟩)
theorem in_false {n k : Nat} (h : k < n) : decide ((k : Int) < 0 ∨ (n : Int) ≤ (k : Int)) = false := by simp; omega
/-- the lowest free place (the length, if there is none) -/
def ff {α : Type} (m : List (Option α)) : Nat := m.findIdx Option.isNone
theorem ff_le {α : Type} (m : List (Option α)) : ff m ≤ m.length := List.findIdx_le_length
theorem ff_free {α : Type} {m : List (Option α)} (h : ff m < m.length) : m[ff m]? = some none := by
  have := List.findIdx_getElem (w := h)
  rw [List.getElem?_eq_getElem h]
  refine congrArg some ?_
  unfold ff
  simpa using this
theorem ff_held {α : Type} {m : List (Option α)} {j : Nat} (h : j < ff m) : ∃ x, m[j]? = some (some x) := by
  have h1 := List.not_of_lt_findIdx h
  have h2 : j < m.length := Nat.lt_of_lt_of_le h (ff_le m)
  rw [List.getElem?_eq_getElem h2]
  cases hm : m[j] with
  | none => rw [hm] at h1; simp at h1
  | some x => exact ⟨x, rfl⟩
/-- k is the lowest taken place from s on -/
def IsNext {α : Type} (m : List (Option α)) (s k : Nat) : Prop := s ≤ k ∧ (∃ c, m[k]? = some (some c)) ∧ ∀ j : Nat, s ≤ j → j < k → look m (j : Int) = none
/-- there is none from s on -/
def NoNext {α : Type} (m : List (Option α)) (s : Nat) : Prop := ∀ j : Nat, s ≤ j → look m (j : Int) = none
theorem TabAt.setNew {α : Type} {K : Knd α} {w : World} {F : Nat → Prop} {B p : Nat} {ps : List (Option Nat)} {m : List (Option α)} (h : TabAt K w F B p ps m) {a : Addr} (ha : ¬ F a.block) (u : Value) : TabAt K (w.setCell a u) F B p ps m :=
  h.keep (by simp [World.setCell]) (fun b hb => Below.heap_setCell _ _ _ _ (fun e => by subst e; exact ha hb))
end Go.Proofs.YtbocpmcodlceoaaGreat

namespace Go.Proofs.YtbocpmcodlceoaaGreat
open Go.RowKit

theorem infoL : ∃ i, Tryz.prog.info? 102 = some i ∧ i.zero = some (.pointer none) ∧ i.size = 1 ∧ i.bytes = 8 := info_parts (by kernel_rfl)
theorem makeL (w : World) (n : Nat) (h : n ≤ 4096) : (Instr.makeSlice 99 (.int .i64 (n : Int)) (.int .i64 (n : Int))).run Tryz.prog w = .ok (.slice (some ⟨w.heap.size, 0, none⟩) n n) (w.alloc (.cells (madeCells #[.pointer none] n) 102)) := by
  obtain ⟨i, hi, hz, hs, hb⟩ := infoL
  simpa [hs, Value.cells] using run_make (P := Tryz.prog) w 99 102 i (.pointer none) Tryz.underlying99 hi hz .i64 .i64 n n (by omega) (Int.le_refl _) (by rw [hb]; omega) (by omega)
set_option maxHeartbeats 400000 in
theorem newL_any (w : World) :
    Calls Tryz.prog 48 #[.int .i64 16] w fun x w' => x = .returned (.pointer (some ⟨w.heap.size + 1, 0, none⟩)) ∧ Tab KL w' (fun b => b = w.heap.size ∨ b = w.heap.size + 1) (w.heap.size + 1) (List.replicate 16 none) ∧ Below w.heap.size w w' := by
  have H := hide (⟨_, _, TabAt.fresh KL w 16 (by omega)⟩ : Tab KL _ _ _ _)
  have hbel : ∀ a b, Below w.heap.size w ((w.alloc a).alloc b) := fun a b => ((Below.refl _ _).alloc (Nat.le_refl _) _).alloc (by simp) _
  have hm : (Instr.makeSlice 99 (.int .i64 16) (.int .i64 16)).run Tryz.prog w = _ := makeL w 16 (by omega)
  go_enter Tryz.func48, Tryz.ntmps48
  go_wp2
  go_ret
  exact ⟨rfl, H.out, hbel _ _⟩
set_option maxHeartbeats 400000 in
theorem outsideL_any (w : World) (F : Nat → Prop) (B : Nat) (m : List (Option Nat)) (h : Tab KL w F B m) (i : Int) :
    Calls Tryz.prog 97 #[.pointer (some ⟨B, 0, none⟩), .int .i64 i] w fun x w' => x = .returned (.bool (decide (i < 0 ∨ (m.length : Int) ≤ i))) ∧ w' = w := by
  obtain ⟨p, ps, h⟩ := h
  obtain ⟨c0, c1, f0, f1⟩ := h.cells
  clear h
  generalize m.length = c at *
  by_cases h0 : i < 0
  · have e : decide (i < 0 ∨ (c : Nat) ≤ i) = true := by simp [h0]
    rw [e]
    go_enter Tryz.func97, Tryz.ntmps97
    go_wp2
    go_ret
    exact ⟨rfl, rfl⟩
  · have e : decide (i < 0 ∨ (c : Nat) ≤ i) = decide ((c : Nat) ≤ i) := by simp [h0]
    rw [e]
    go_enter Tryz.func97, Tryz.ntmps97
    go_wp2
    go_ret
    exact ⟨rfl, rfl⟩
set_option maxHeartbeats 400000 in
theorem holdsL_any (w : World) (F : Nat → Prop) (B : Nat) (m : List (Option Nat)) (h : Tab KL w F B m) (i : Int) :
    Calls Tryz.prog 84 #[.pointer (some ⟨B, 0, none⟩), .int .i64 i] w fun x w' => x = .returned (.bool (look m i).isSome) ∧ w' = w := by
  have HO := hide (outsideL_any w F B m h i)
  obtain ⟨p, ps, h⟩ := h
  obtain ⟨c0, c1, f0, f1⟩ := h.cells
  rcases look_cases m i with ⟨h1, e⟩ | ⟨k, rfl, hk, hm, e⟩ | ⟨k, x, rfl, hk, hm, e⟩ <;> rw [e] <;> clear e
  · have hd : decide (i < 0 ∨ (m.length : Int) ≤ i) = true := by simpa using h1
    clear h h1
    rw [hd] at HO
    generalize m.length = n at *
    go_enter Tryz.func84, Tryz.ntmps84
    go_wp2_with fail
    refine HO.out.mono ?_
    rintro e w1 ⟨rfl, rfl⟩
    go_wp2
    go_ret
    exact ⟨rfl, rfl⟩
  · rw [in_false hk] at HO
    have c2 := h.nil hm
    clear h hm
    generalize m.length = n at *
    go_enter Tryz.func84, Tryz.ntmps84
    go_wp2_with fail
    refine HO.out.mono ?_
    rintro e w1 ⟨rfl, rfl⟩
    go_wp2
    go_ret
    exact ⟨rfl, rfl⟩
  · rw [in_false hk] at HO
    obtain ⟨q, hq1, c2, hq3, hq4⟩ := h.ptr hm
    clear h hm hq1 hq3 hq4
    generalize m.length = n at *
    go_enter Tryz.func84, Tryz.ntmps84
    go_wp2_with fail
    refine HO.out.mono ?_
    rintro e w1 ⟨rfl, rfl⟩
    go_wp2
    go_ret
    exact ⟨rfl, rfl⟩
set_option maxHeartbeats 400000 in
theorem layL_any (w : World) (F : Nat → Prop) (B : Nat) (m : List (Option Nat)) (h : Tab KL w F B m) (k : Nat) (hk : m[k]? = some none) (c : Nat) :
    Calls Tryz.prog 82 #[.pointer (some ⟨B, 0, none⟩), .int .i64 k, .pointer (some ⟨c, 0, none⟩)] w fun x w' => x = .returned (.tuple #[]) ∧ ∃ F', Tab KL w' F' B (m.set k (some c)) ∧ Ext F w F' w' := by
  obtain ⟨p, ps, h⟩ := h
  have HL := hide (fun t => h.lay hk c (c := t))
  have hks : k < m.length := (List.getElem?_eq_some_iff.1 hk).1
  have hcnt : m.countP Option.isSome ≤ 4096 := Nat.le_trans count_le h.cap
  have HM := hide (fun a b c => (((Mod.refl F w).alloc a).setCell (p := ⟨p, k, none⟩) (.inl h.fp) b).setCell (p := ⟨B, 1, none⟩) (.inl h.fB) c)
  have h' := fun o => h.keep (w' := w.alloc o) (by simp) (fun b hb => Below.heap_alloc _ _ _ (h.lt b hb))
  have c0 := fun o => (h' o).cells.1
  have c1 := fun o => (h' o).cells.2.1
  have f1 := fun o => (h' o).cells.2.2.2
  have f2 := fun o => (h' o).frz k
  have c2 := fun o => (h' o).nil hk
  have hne := h.ne
  clear h h' hk
  generalize m.countP Option.isSome = cnt at *
  generalize m.length = n at *
  go_enter Tryz.func82, Tryz.ntmps82
  go_wp2
  go_end0
  exact ⟨rfl, _, ⟨_, _, HL.out _ rfl⟩, HM.out _ _ _, fun b hb => hb.imp id (fun e => by omega)⟩
set_option maxHeartbeats 400000 in
theorem nextL_nat (w : World) (F : Nat → Prop) (B : Nat) (m : List (Option Nat)) (h : Tab KL w F B m) (i : Int) (s : Nat) (hs : (if i < 0 then 0 else i) = (s : Int)) :
    Calls Tryz.prog 96 #[.pointer (some ⟨B, 0, none⟩), .int .i64 i] w fun x w' => w' = w ∧ ((∃ k : Nat, x = .returned (.int .i64 k) ∧ IsNext m s k) ∨ (x = .returned (.int .i64 (-1)) ∧ NoNext m s)) := by
  have hcap := h.cap
  obtain ⟨p, ps, h⟩ := h
  obtain ⟨c0, c1, f0, f1⟩ := h.cells
  have HN := hide (fun (k : Nat) hk => h.nil (i := k) hk)
  have HP := hide (fun (k : Nat) (x : Nat) hk => (let ⟨q, _, hq, _⟩ := h.ptr (i := k) (x := x) hk; ⟨q, hq⟩ : ∃ q, w.cell? ⟨p, k, none⟩ = some (.pointer (some ⟨q, 0, none⟩))))
  have HQ := hide (fun k : Nat => look_cases m k)
  have HI := hide (fun k (e : IsNext m s k) => e)
  have HO := hide (fun (k : Nat) (e : m.length ≤ k) => look_out m (k : Int) (.inr (by omega)))
  clear h
  generalize hn : m.length = n at *
  clear hn
  go_enter Tryz.func96, Tryz.ntmps96
  go_wp2
  go_loopw [5] (fun i wr => ∃ k : Nat, s ≤ k ∧ i = .int .i64 k ∧ wr = w ∧ Hid (∀ j : Nat, s ≤ j → j < k → look m (j : Int) = none)) (fun i _ => n - (intOf i).toNat)
  case atStart => exact ⟨s, by omega, rfl, rfl, fun j h1 h2 => by omega⟩
  case round =>
    obtain ⟨k, hk, rfl, rfl, hH⟩ := hrel
    by_cases hlt : k < n
    · rcases HQ.out k with ⟨h1, e⟩ | ⟨k', h0, _, hm, e⟩ | ⟨k', x, h0, _, hm, e⟩
      · omega
      · obtain rfl : k = k' := by omega
        have c2 := HN.out k hm
        have HE := hide e
        clear hm e h0
        go_wp2
        go_roundw
        case rel => exact ⟨k + 1, by omega, by go_num, by first | rfl | trivial, fun j h1 h2 => by
            rcases Nat.lt_or_ge j k with h3 | h3
            · exact hH j h1 h3
            · obtain rfl : j = k := by omega
              exact HE.out⟩
        case measure => simp [intOf]; omega
      · obtain rfl : k = k' := by omega
        obtain ⟨q, c2⟩ := HP.out k x hm
        have HE := hide hm
        clear hm e h0
        go_wp2
        go_ret
        exact ⟨rfl, .inl ⟨k, rfl, hk, ⟨x, HE.out⟩, hH⟩⟩
    · go_wp2
      go_ret
      exact ⟨rfl, .inr ⟨rfl, fun j h1 => by
        rcases Nat.lt_or_ge j k with h3 | h3
        · exact hH j h1 h3
        · exact HO.out j (by omega)⟩⟩
theorem nextL_any (w : World) (F : Nat → Prop) (B : Nat) (m : List (Option Nat)) (h : Tab KL w F B m) (i : Int) :
    Calls Tryz.prog 96 #[.pointer (some ⟨B, 0, none⟩), .int .i64 i] w fun x w' => w' = w ∧ ((∃ k : Nat, x = .returned (.int .i64 k) ∧ IsNext m i.toNat k) ∨ (x = .returned (.int .i64 (-1)) ∧ NoNext m i.toNat)) :=
  nextL_nat w F B m h i i.toNat (by split <;> omega)
set_option maxHeartbeats 400000 in
theorem getL_any (w : World) (F : Nat → Prop) (B : Nat) (m : List (Option Nat)) (h : Tab KL w F B m) (i : Int) :
    Calls Tryz.prog 52 #[.pointer (some ⟨B, 0, none⟩), .int .i64 i] w fun x w' => x = .returned (.tuple #[ptr (look m i), .bool (look m i).isSome]) ∧ w' = w := by
  have HO := hide (holdsL_any _ F B m h i)
  obtain ⟨p, ps, h⟩ := h
  rcases look_cases m i with ⟨h1, e⟩ | ⟨k, rfl, hk, hm, e⟩ | ⟨k, x, rfl, hk, hm, e⟩ <;> rw [e] at HO ⊢ <;> clear e
  · clear h h1
    go_enter Tryz.func52, Tryz.ntmps52
    go_wp2_with fail
    refine HO.out.mono ?_
    rintro e w1 ⟨rfl, rfl⟩
    go_wp2
    go_returns
    exact ⟨rfl, rfl⟩
  · clear h hm
    go_enter Tryz.func52, Tryz.ntmps52
    go_wp2_with fail
    refine HO.out.mono ?_
    rintro e w1 ⟨rfl, rfl⟩
    go_wp2
    go_returns
    exact ⟨rfl, rfl⟩
  · have c0 := h.cells.1
    obtain ⟨q, hq1, c2, hq3, hq4⟩ := h.ptr hm
    have c3 := (cell_of_row _ q 0 _ _ _ hq3)
    simp [KL] at c3
    simp only [ptr, Option.isSome_some]
    clear h hm hq1 hq3 hq4
    generalize m.length = n at *
    go_enter Tryz.func52, Tryz.ntmps52
    go_wp2_with fail
    refine HO.out.mono ?_
    rintro e w1 ⟨rfl, rfl⟩
    go_wp2
    go_returns
    exact ⟨rfl, rfl⟩
end Go.Proofs.YtbocpmcodlceoaaGreat

namespace Go.Proofs.YtbocpmcodlceoaaGreat
open Go.RowKit

set_option maxHeartbeats 800000 in
theorem putL_any (w : World) (F : Nat → Prop) (B : Nat) (m : List (Option Nat)) (h : Tab KL w F B m) (c : Nat) :
    Calls Tryz.prog 49 #[.pointer (some ⟨B, 0, none⟩), .pointer (some ⟨c, 0, none⟩)] w fun x w' => (ff m < m.length → x = .returned (.tuple #[.int .i64 (ff m : Nat), .int .i64 0]) ∧ ∃ F', Tab KL w' F' B (m.set (ff m) (some c)) ∧ Ext F w F' w') ∧
      (ff m = m.length → x = .returned (.tuple #[.int .i64 (-1), .int .i64 2]) ∧ w' = w) := by
  have hf := ff_le m
  have hcap := h.cap
  have HL := hide (fun (hk : ff m < m.length) => layL_any _ F B m h (ff m) (ff_free hk) c)
  obtain ⟨p, ps, h⟩ := h
  have c0 := h.cells.1
  have HH := hide (fun (k : Nat) (hk : k < ff m) => by obtain ⟨x, hx⟩ := ff_held hk; exact (let ⟨q, _, hq, _⟩ := h.ptr hx; ⟨q, hq⟩ : ∃ q, w.cell? ⟨p, k, none⟩ = some (.pointer (some ⟨q, 0, none⟩))))
  have HN := hide (fun (hk : ff m < m.length) => h.nil (ff_free hk))
  clear h
  generalize ff m = f at *
  generalize m.length = n at *
  go_enter Tryz.func49, Tryz.ntmps49
  go_wp2
  go_loopw [13] (fun i wr => ∃ k : Nat, k ≤ f ∧ i = .int .i64 k ∧ wr = w) (fun i _ => n - (intOf i).toNat)
  case atStart => exact ⟨0, by omega, rfl, rfl⟩
  case round =>
    obtain ⟨k, hk, rfl, rfl⟩ := hrel
    by_cases hlt : k < f
    · obtain ⟨q, hq⟩ := HH.out k hlt
      have hkn : k < n := by omega
      go_wp2
      go_roundw
      case rel => exact ⟨k + 1, by omega, by go_num, by first | rfl | trivial⟩
      case measure => simp [intOf]; omega
    · obtain rfl : k = f := by omega
      by_cases hkn : k < n
      · have hq := HN.out hkn
        go_wp2_with fail
        refine (HL.out hkn).mono ?_
        rintro e w1 ⟨rfl, F', hT, hE⟩
        have HT1 := hide hT
        have HE1 := hide hE
        clear hT hE
        go_wp2
        go_ret2
        exact ⟨fun _ => ⟨rfl, F', HT1.out, HE1.out⟩, fun e => by omega⟩
      · go_wp2
        go_ret2
        exact ⟨fun e => by omega, fun _ => ⟨rfl, rfl⟩⟩
set_option maxHeartbeats 800000 in
theorem dropL_some (w : World) (F : Nat → Prop) (B : Nat) (m : List (Option Nat)) (h : Tab KL w F B m) (k x : Nat) (hm : m[k]? = some (some x)) :
    Calls Tryz.prog 66 #[.pointer (some ⟨B, 0, none⟩), .int .i64 k] w fun e w' => e = .returned (.tuple #[.pointer (some ⟨x, 0, none⟩), .bool true]) ∧ Tab KL w' F B (m.set k none) ∧ Ext F w F w' := by
  have HG := hide (getL_any _ F B m h k)
  have hi : look m (k : Int) = some x := by rw [look_nat, hm]; rfl
  rw [hi] at HG
  have hcnt : m.countP Option.isSome ≤ 4096 := Nat.le_trans count_le h.cap
  have hk : k < m.length := (List.getElem?_eq_some_iff.1 hm).1
  obtain ⟨p, ps, h1⟩ := h
  obtain ⟨d0, d1, g0, g1⟩ := h1.cells
  have g2 := h1.frz k
  obtain ⟨q, hq1, d2, hq3, hq4⟩ := h1.ptr hm
  have hne := h1.ne
  have HD := hide (fun t => h1.drop hm (c := t))
  have HM := hide (fun a b => ((Mod.refl F w).setCell (p := ⟨p, k, none⟩) (.inl h1.fp) a).setCell (p := ⟨B, 1, none⟩) (.inl h1.fB) b)
  have hpos : 0 < m.countP Option.isSome := List.countP_pos_iff.2 ⟨_, List.mem_of_getElem? hm, rfl⟩
  clear h1 hq1 hq3 hq4 hm hi
  generalize m.countP Option.isSome = cnt at *
  generalize m.length = n at *
  simp only [ptr, Option.isSome_some] at *
  go_enter Tryz.func66, Tryz.ntmps66
  go_wp2_with fail
  refine HG.out.mono ?_
  rintro e w1 ⟨rfl, rfl⟩
  go_wp2
  go_ret2
  exact ⟨rfl, ⟨_, _, HD.out _ rfl⟩, HM.out _ _, fun b hb => .inl hb⟩
end Go.Proofs.YtbocpmcodlceoaaGreat
