import Derived.Test.YtimfgjndgfjjgaaRows
import Derived.WalkKit
import Derived.Handy
import Derived.WalkSpells
import Derived.WalkLawsBesides
import Derived.Deep.RegionLaw
import Derived.Deep.WholeRow
import Derived.Laws.OwnMore
import Derived.Laws.MakeOwn
import Derived.Laws.ResultCell
import Derived.Deep.Cut
namespace Go.Proofs.Ytimfgjndgfjjgaa
open Go.RowKit

theorem hide {p : Prop} (h : p) : Hid p := h

/-- the types of a table's struct, of its places' pointers, of its values; how a value lies in memory -/
structure Knd (α : Type) where
  S : TypeId
  P : TypeId
  E : TypeId
  enc : α → Array Value
def ptr : Option Nat → Value
  | none => .pointer none
  | some q => .pointer (some ⟨q, 0, none⟩)

/-- what a call on a table with the blocks F leaves of the rest -/
structure Mod (F : Nat → Prop) (w w' : World) : Prop where
  os : w'.os = w.os
  tape : w'.tape = w.tape
  output : w'.output = w.output
  size : w.heap.size ≤ w'.heap.size
  block : ∀ b, b < w.heap.size → ¬ F b → w'.heap[b]? = w.heap[b]?
/-- and the table's blocks behind it are F' -/
structure Ext (F : Nat → Prop) (w : World) (F' : Nat → Prop) (w' : World) : Prop where
  mod : Mod F w w'
  new : ∀ b, F' b → F b ∨ w.heap.size ≤ b

theorem Mod.refl (F : Nat → Prop) (w : World) : Mod F w w := ⟨rfl, rfl, rfl, Nat.le_refl _, fun _ _ _ => rfl⟩
theorem Mod.trans {F : Nat → Prop} {a b c : World} (h : Mod F a b) (k : Mod F b c) : Mod F a c :=
  ⟨k.os.trans h.os, k.tape.trans h.tape, k.output.trans h.output, Nat.le_trans h.size k.size, fun i hi hf => (k.block i (Nat.lt_of_lt_of_le hi h.size) hf).trans (h.block i hi hf)⟩
theorem Mod.alloc {F : Nat → Prop} {a w : World} (h : Mod F a w) (o : Obj) : Mod F a (w.alloc o) :=
  h.trans ⟨rfl, rfl, rfl, by simp, fun k hk _ => Below.heap_alloc _ _ _ (by omega)⟩
theorem Mod.setCell {F : Nat → Prop} {a w : World} (h : Mod F a w) {p : Addr} (hp : F p.block ∨ a.heap.size ≤ p.block) (u : Value) : Mod F a (w.setCell p u) :=
  ⟨h.os, h.tape, h.output, by simp [World.setCell]; exact h.size, fun k hk hf => by
    rw [Below.heap_setCell _ _ _ _ (fun e => by subst e; rcases hp with hp | hp; exact hf hp; omega)]; exact h.block k hk hf⟩
theorem Mod.drew {F : Nat → Prop} {a w : World} (h : Mod F a w) : Mod F a w.drew := ⟨h.os, h.tape, h.output, h.size, h.block⟩
theorem Mod.of_below {F : Nat → Prop} {a w : World} (h : Below a.heap.size a w) : Mod F a w := ⟨h.os, h.tape, h.output, h.size, fun k hk _ => h.block k hk⟩
theorem Mod.below {F : Nat → Prop} {a w : World} {B : Nat} (h : Mod F a w) (hF : ∀ b, F b → B ≤ b) (hB : B ≤ a.heap.size) : Below B a w :=
  ⟨h.os, h.tape, h.output, h.size, fun k hk => h.block k (by omega) (fun hf => by have := hF k hf; omega)⟩
theorem Ext.refl (F : Nat → Prop) (w : World) : Ext F w F w := ⟨Mod.refl _ _, fun _ h => .inl h⟩
theorem Ext.trans {F F' F'' : Nat → Prop} {a b c : World} (h : Ext F a F' b) (k : Ext F' b F'' c) : Ext F a F'' c :=
  ⟨⟨k.mod.os.trans h.mod.os, k.mod.tape.trans h.mod.tape, k.mod.output.trans h.mod.output, Nat.le_trans h.mod.size k.mod.size, fun i hi hf => by
      rw [k.mod.block i (Nat.lt_of_lt_of_le hi h.mod.size) (fun h' => by rcases h.new i h' with h1 | h1; exact hf h1; omega)]
      exact h.mod.block i hi hf⟩,
   fun i h' => by
      rcases k.new i h' with h1 | h1
      · exact h.new i h1
      · exact .inr (Nat.le_trans h.mod.size h1)⟩
theorem Ext.low {F F' : Nat → Prop} {a w : World} {B : Nat} (h : Ext F a F' w) (hF : ∀ b, F b → B ≤ b) (hB : B ≤ a.heap.size) : ∀ b, F' b → B ≤ b := by
  intro b hb; rcases h.new b hb with h1 | h1
  · exact hF b h1
  · omega

structure TabAt {α : Type} (K : Knd α) (w : World) (F : Nat → Prop) (B p : Nat) (ps : List (Option Nat)) (m : List (Option α)) : Prop where
  top : w.heap[B]? = some (.cells #[.slice (some ⟨p, 0, none⟩) m.length m.length, .int .i64 ((m.countP Option.isSome : Nat) : Int)] K.S (0, 0))
  row : w.heap[p]? = some (.cells (ps.map ptr).toArray K.P (0, 0))
  len : ps.length = m.length
  free : ∀ (i : Nat), m[i]? = some none → ps[i]? = some none
  held : ∀ (i : Nat) (x : α), m[i]? = some (some x) → ∃ q, ps[i]? = some (some q) ∧ w.heap[q]? = some (.cells (K.enc x) K.E (0, 0)) ∧ F q ∧ q ≠ B ∧ q ≠ p
  inj : ∀ (i j q : Nat), ps[i]? = some (some q) → ps[j]? = some (some q) → i = j
  fB : F B
  fp : F p
  ne : p ≠ B
  lt : ∀ b, F b → b < w.heap.size
  cap : m.length ≤ 4096
/-- a table at block B, its blocks among F, with m in its places -/
def Tab {α : Type} (K : Knd α) (w : World) (F : Nat → Prop) (B : Nat) (m : List (Option α)) : Prop := ∃ p ps, TabAt K w F B p ps m

section
variable {α : Type} {K : Knd α} {w : World} {F : Nat → Prop} {B p : Nat} {ps : List (Option Nat)} {m : List (Option α)}

theorem TabAt.keep (h : TabAt K w F B p ps m) {w' : World} (hs : w.heap.size ≤ w'.heap.size) (hk : ∀ b, F b → w'.heap[b]? = w.heap[b]?) : TabAt K w' F B p ps m :=
  ⟨by rw [hk B h.fB]; exact h.top, by rw [hk p h.fp]; exact h.row, h.len, h.free,
   fun i x hx => by obtain ⟨q, h1, h2, h3, h4⟩ := h.held i x hx; exact ⟨q, h1, by rw [hk q h3]; exact h2, h3, h4⟩,
   h.inj, h.fB, h.fp, h.ne, fun b hb => Nat.lt_of_lt_of_le (h.lt b hb) hs, h.cap⟩
theorem Tab.keep (h : Tab K w F B m) {w' : World} (hs : w.heap.size ≤ w'.heap.size) (hk : ∀ b, F b → w'.heap[b]? = w.heap[b]?) : Tab K w' F B m := by
  obtain ⟨p, ps, h⟩ := h; exact ⟨p, ps, h.keep hs hk⟩
theorem Tab.lt (h : Tab K w F B m) : ∀ b, F b → b < w.heap.size := by obtain ⟨p, ps, h⟩ := h; exact h.lt
theorem Tab.fB (h : Tab K w F B m) : F B := by obtain ⟨p, ps, h⟩ := h; exact h.fB
theorem Tab.cap (h : Tab K w F B m) : m.length ≤ 4096 := by obtain ⟨p, ps, h⟩ := h; exact h.cap
theorem Tab.below (h : Tab K w F B m) {w' : World} (hb : Below w.heap.size w w') : Tab K w' F B m :=
  h.keep hb.size (fun b hf => hb.block b (h.lt b hf))
/-- another table's calls leave this one -/
theorem Tab.apart (h : Tab K w F B m) {G G' : Nat → Prop} {w' : World} (hx : Ext G w G' w') (hd : ∀ b, F b → ¬ G b) : Tab K w' F B m :=
  h.keep hx.mod.size (fun b hf => hx.mod.block b (h.lt b hf) (hd b hf))

theorem add0 (g j : Nat) : (⟨g, 0, none⟩ : Addr).add j = ⟨g, j, none⟩ := by unfold Addr.add; split <;> simp_all

theorem TabAt.cells (h : TabAt K w F B p ps m) :
    w.cell? ⟨B, 0, none⟩ = some (.slice (some ⟨p, 0, none⟩) m.length m.length) ∧ w.cell? ⟨B, 1, none⟩ = some (.int .i64 ((m.countP Option.isSome : Nat) : Int)) ∧
    w.frozen? ⟨B, 0, none⟩ = false ∧ w.frozen? ⟨B, 1, none⟩ = false :=
  ⟨by rw [cell_of_row _ _ _ _ _ _ h.top]; rfl, by rw [cell_of_row _ _ _ _ _ _ h.top]; rfl, frozen_of_row w B 0 _ _ h.top, frozen_of_row w B 1 _ _ h.top⟩
theorem TabAt.place (h : TabAt K w F B p ps m) {i : Nat} {o : Option Nat} (ho : ps[i]? = some o) : w.cell? ⟨p, i, none⟩ = some (ptr o) ∧ w.frozen? ⟨p, i, none⟩ = false :=
  ⟨by rw [cell_of_row _ _ _ _ _ _ h.row]; simp [ho], frozen_of_row w p i _ _ h.row⟩
theorem TabAt.nil (h : TabAt K w F B p ps m) {i : Nat} (hi : m[i]? = some none) : w.cell? ⟨p, i, none⟩ = some (.pointer none) := (h.place (h.free i hi)).1
theorem TabAt.ptr (h : TabAt K w F B p ps m) {i : Nat} {x : α} (hi : m[i]? = some (some x)) : ∃ q, ps[i]? = some (some q) ∧ w.cell? ⟨p, i, none⟩ = some (.pointer (some ⟨q, 0, none⟩)) ∧ w.heap[q]? = some (.cells (K.enc x) K.E (0, 0)) ∧ F q := by
  obtain ⟨q, h1, h2, h3, _⟩ := h.held i x hi
  exact ⟨q, h1, (h.place h1).1, h2, h3⟩
theorem TabAt.frz (h : TabAt K w F B p ps m) (i : Nat) : w.frozen? ⟨p, i, none⟩ = false := frozen_of_row w p i _ _ h.row

theorem count_lay {i : Nat} (hi : m[i]? = some none) (x : α) : (m.set i (some x)).countP Option.isSome = m.countP Option.isSome + 1 := by
  obtain ⟨hl, e⟩ := List.getElem?_eq_some_iff.1 hi
  rw [List.countP_set hl, e]; simp
theorem count_drop {i : Nat} {x : α} (hi : m[i]? = some (some x)) : (m.set i none).countP Option.isSome + 1 = m.countP Option.isSome := by
  obtain ⟨hl, e⟩ := List.getElem?_eq_some_iff.1 hi
  have hp : 0 < m.countP Option.isSome := List.countP_pos_iff.2 ⟨m[i], List.getElem_mem hl, by rw [e]; rfl⟩
  rw [List.countP_set hl, e]; simp; omega
theorem count_le : m.countP Option.isSome ≤ m.length := List.countP_le_length

theorem set_ptr (ps : List (Option Nat)) (i : Nat) (o : Option Nat) : ((ps.map ptr).toArray).setIfInBounds i (ptr o) = ((ps.set i o).map ptr).toArray := by
  rw [List.map_set]; simp

/-- what lay leaves -/
theorem TabAt.lay (h : TabAt K w F B p ps m) {i : Nat} (hi : m[i]? = some none) (x : α) {c : Int} (hc : c = ((m.countP Option.isSome : Nat) : Int) + 1) :
    TabAt K (((w.alloc (.cells (K.enc x) K.E)).setCell ⟨p, i, none⟩ (.pointer (some ⟨w.heap.size, 0, none⟩))).setCell ⟨B, 1, none⟩ (.int .i64 c)) (fun b => F b ∨ b = w.heap.size) B p (ps.set i (some w.heap.size)) (m.set i (some x)) := by
  have hB := h.lt B h.fB
  have hp := h.lt p h.fp
  have hne := h.ne
  have t1 : (w.alloc (.cells (K.enc x) K.E)).heap[B]? = _ := (Below.heap_alloc w _ B hB).trans h.top
  have r1 : (w.alloc (.cells (K.enc x) K.E)).heap[p]? = _ := (Below.heap_alloc w _ p hp).trans h.row
  have hil : i < ps.length := by rw [h.len]; exact (List.getElem?_eq_some_iff.1 hi).1
  refine ⟨?_, ?_, by simp [h.len], ?_, ?_, ?_, .inl h.fB, .inl h.fp, h.ne, ?_, by simpa using h.cap⟩
  · have t2 : ((w.alloc (.cells (K.enc x) K.E)).setCell ⟨p, i, none⟩ (.pointer (some ⟨w.heap.size, 0, none⟩))).heap[B]? = _ := (heap_setCell_other _ _ B _ (fun e => hne e.symm)).trans t1
    rw [heap_setCell_same _ B 1 _ _ _ t2, hc, count_lay hi]
    simp
  · rw [heap_setCell_other _ _ p _ hne, heap_setCell_same _ p i _ _ _ r1]
    rw [show (Value.pointer (some ⟨w.heap.size, 0, none⟩)) = Ytimfgjndgfjjgaa.ptr (some w.heap.size) from rfl, set_ptr]
  · intro j hj
    rw [List.getElem?_set] at hj ⊢
    split at hj
    · split at hj <;> simp at hj
    · rename_i e
      rw [if_neg e]
      exact h.free j hj
  · intro j y hj
    rw [List.getElem?_set] at hj
    split at hj
    · rename_i e
      subst e
      split at hj
      · cases hj
        refine ⟨w.heap.size, ?_, ?_, .inr rfl, by omega, by omega⟩
        · rw [List.getElem?_set]; simp [hil]
        · rw [heap_setCell_other _ _ _ _ (show w.heap.size ≠ B by omega), heap_setCell_other _ _ _ _ (show w.heap.size ≠ p by omega)]
          exact heap_alloc_new _ _
      · simp at hj
    · rename_i e
      obtain ⟨q, h1, h2, h3, h4, h5⟩ := h.held j y hj
      have hq := h.lt q h3
      refine ⟨q, ?_, ?_, .inl h3, h4, h5⟩
      · rw [List.getElem?_set]; simp [e, h1]
      · rw [heap_setCell_other _ _ _ _ h4, heap_setCell_other _ _ _ _ h5, Below.heap_alloc w _ q hq]; exact h2
  · intro j k q hj hk
    rw [List.getElem?_set] at hj hk
    have hold : ∀ l : Nat, ps[l]? = some (some w.heap.size) → False := by
      intro l hl
      have hlm : l < m.length := by rw [← h.len]; exact (List.getElem?_eq_some_iff.1 hl).1
      cases hm : m[l] with
      | none => have := h.free l (by rw [List.getElem?_eq_getElem hlm, hm]); rw [hl] at this; cases this
      | some y =>
        obtain ⟨q', h1, _, h3, _⟩ := h.held l y (by rw [List.getElem?_eq_getElem hlm, hm])
        rw [hl] at h1; cases h1
        have := h.lt _ h3; omega
    split at hj <;> split at hk
    · omega
    · cases hj; exact (hold _ hk).elim
    · cases hk; exact (hold _ hj).elim
    · exact h.inj j k q hj hk
  · intro b hb
    have hs : w.heap.size < (w.alloc (.cells (K.enc x) K.E)).heap.size := by simp
    simp [World.setCell] at *
    rcases hb with hb | hb
    · have := h.lt b hb; omega
    · omega

/-- what a dropping leaves -/
theorem TabAt.drop (h : TabAt K w F B p ps m) {i : Nat} {x : α} (hi : m[i]? = some (some x)) {c : Int} (hc : c = ((m.countP Option.isSome : Nat) : Int) - 1) :
    TabAt K ((w.setCell ⟨p, i, none⟩ (.pointer none)).setCell ⟨B, 1, none⟩ (.int .i64 c)) F B p (ps.set i none) (m.set i none) := by
  have hne := h.ne
  refine ⟨?_, ?_, by simp [h.len], ?_, ?_, ?_, h.fB, h.fp, h.ne, ?_, by simpa using h.cap⟩
  · have t2 : (w.setCell ⟨p, i, none⟩ (.pointer none)).heap[B]? = _ := (heap_setCell_other _ _ B _ (fun e => hne e.symm)).trans h.top
    have hcd := count_drop hi
    rw [heap_setCell_same _ B 1 _ _ _ t2, hc]
    have : ((m.countP Option.isSome : Nat) : Int) - 1 = (((m.set i none).countP Option.isSome : Nat) : Int) := by omega
    rw [this]; simp
  · rw [heap_setCell_other _ _ p _ hne, heap_setCell_same _ p i _ _ _ h.row]
    rw [show (Value.pointer none) = Ytimfgjndgfjjgaa.ptr none from rfl, set_ptr]
  · intro j hj
    have hl : j < ps.length := by rw [h.len]; have := (List.getElem?_eq_some_iff.1 hj).1; simpa using this
    rw [List.getElem?_set] at hj ⊢
    split
    · simp_all
    · rename_i e
      rw [if_neg e] at hj
      exact h.free j hj
  · intro j y hj
    rw [List.getElem?_set] at hj
    split at hj
    · split at hj <;> cases hj
    · rename_i e
      obtain ⟨q, h1, h2, h3, h4, h5⟩ := h.held j y hj
      refine ⟨q, ?_, ?_, h3, h4, h5⟩
      · rw [List.getElem?_set]; simp [e, h1]
      · rw [heap_setCell_other _ _ _ _ h4, heap_setCell_other _ _ _ _ h5]; exact h2
  · intro j k q hj hk
    rw [List.getElem?_set] at hj hk
    split at hj
    · split at hj <;> cases hj
    split at hk
    · split at hk <;> cases hk
    exact h.inj j k q hj hk
  · intro b hb; have := h.lt b hb; simpa [World.setCell] using this

/-- a new table -/
theorem TabAt.fresh (K : Knd α) (w : World) (n : Nat) (hn : n ≤ 4096) :
    TabAt K ((w.alloc (.cells (madeCells #[.pointer none] n) K.P)).alloc (.cells #[.slice (some ⟨w.heap.size, 0, none⟩) n n, .int .i64 0] K.S)) (fun b => b = w.heap.size ∨ b = w.heap.size + 1) (w.heap.size + 1) w.heap.size (List.replicate n none) (List.replicate n none) := by
  refine ⟨?_, ?_, by simp, ?_, ?_, ?_, .inr rfl, .inl rfl, by omega, ?_, by simpa using hn⟩
  · have := heap_alloc2_new w (.cells (madeCells #[.pointer none] n) K.P) (.cells #[.slice (some ⟨w.heap.size, 0, none⟩) n n, .int .i64 0] K.S)
    rw [this]
    have e : (List.replicate n (none : Option α)).countP Option.isSome = 0 := List.countP_eq_zero.2 (fun a ha => by rw [(List.mem_replicate.1 ha).2]; simp)
    rw [e]; simp
  · rw [heap_alloc2_old]
    have : madeCells #[Value.pointer none] n = ((List.replicate n none).map Ytimfgjndgfjjgaa.ptr).toArray := by
      rw [← Array.toArray_toList (xs := madeCells #[Value.pointer none] n), toList_madeCells_one]
      simp [Ytimfgjndgfjjgaa.ptr]
    rw [this]
  · intro i hi; rw [List.getElem?_replicate] at hi ⊢; split <;> simp_all
  · intro i x hi; rw [List.getElem?_replicate] at hi; split at hi <;> simp at hi
  · intro i j q hi; rw [List.getElem?_replicate] at hi; split at hi <;> simp at hi
  · intro b hb
    simp
    omega
end

/-- tables of lists' tables -/
def KL : Knd Nat := ⟨114, 111, 71, fun b => #[.pointer (some ⟨b, 0, none⟩)]⟩
/-- a record: Kind, Obj, Serial, Rights; its parent's place -/
structure Rc where
  k : Int
  o : Int
  s : Int
  r : Int
  e : Int
  t : Int
  deriving DecidableEq
def Rc.val (c : Rc) : Value := .agg #[.int .i64 c.k, .int .i64 c.o, .int .i64 c.s, .int .i64 c.r, .int .i64 c.e, .int .i64 c.t]
def KR : Knd Rc := ⟨126, 131, 78, fun c => #[.int .i64 c.k, .int .i64 c.o, .int .i64 c.s, .int .i64 c.r, .int .i64 c.e, .int .i64 c.t]⟩
end Go.Proofs.Ytimfgjndgfjjgaa

namespace Go.Proofs.Ytimfgjndgfjjgaa
open Go.RowKit

/-- what lies at i -/
def look {α : Type} (m : List (Option α)) (i : Int) : Option α := if i < 0 then none else (m[i.toNat]?).join
theorem look_nat {α : Type} (m : List (Option α)) (k : Nat) : look m (k : Int) = (m[k]?).join := by
  unfold look; rw [if_neg (by omega)]; simp
theorem look_out {α : Type} (m : List (Option α)) (i : Int) (h : i < 0 ∨ (m.length : Int) ≤ i) : look m i = none := by
  unfold look; split
  · rfl
  · rw [List.getElem?_eq_none (by omega)]; rfl
theorem look_cases {α : Type} (m : List (Option α)) (i : Int) : ((i < 0 ∨ (m.length : Int) ≤ i) ∧ look m i = none) ∨ (∃ k : Nat, i = k ∧ k < m.length ∧ m[k]? = some none ∧ look m i = none) ∨ ∃ (k : Nat) (x : α), i = k ∧ k < m.length ∧ m[k]? = some (some x) ∧ look m i = some x := by
  by_cases h : i < 0 ∨ (m.length : Int) ≤ i
  · exact .inl ⟨h, look_out m i h⟩
  · obtain ⟨k, rfl⟩ : ∃ k : Nat, i = k := ⟨i.toNat, by omega⟩
    have hk : k < m.length := by omega
    rcases hm : m[k] with _ | x
    · exact .inr (.inl ⟨k, rfl, hk, by rw [List.getElem?_eq_getElem hk, hm], by rw [look_nat, List.getElem?_eq_getElem hk, hm]; rfl⟩)
    · exact .inr (.inr ⟨k, x, rfl, hk, by rw [List.getElem?_eq_getElem hk, hm], by rw [look_nat, List.getElem?_eq_getElem hk, hm]; rfl⟩)
theorem in_false {n k : Nat} (h : k < n) : decide ((k : Int) < 0 ∨ (n : Int) ≤ (k : Int)) = false := by simp; omega
/-- the lowest free place (the length, if there is none) -/
def ff {α : Type} (m : List (Option α)) : Nat := m.findIdx Option.isNone
theorem ff_le {α : Type} (m : List (Option α)) : ff m ≤ m.length := List.findIdx_le_length
theorem ff_free {α : Type} {m : List (Option α)} (h : ff m < m.length) : m[ff m]? = some none := by
  have := List.findIdx_getElem (w := h)
  rw [List.getElem?_eq_getElem h]
  refine congrArg some ?_
  unfold ff
  simpa using this
theorem ff_held {α : Type} {m : List (Option α)} {j : Nat} (h : j < ff m) : ∃ x, m[j]? = some (some x) := by
  have h1 := List.not_of_lt_findIdx h
  have h2 : j < m.length := Nat.lt_of_lt_of_le h (ff_le m)
  rw [List.getElem?_eq_getElem h2]
  cases hm : m[j] with
  | none => rw [hm] at h1; simp at h1
  | some x => exact ⟨x, rfl⟩
/-- k is the lowest taken place from s on -/
def IsNext {α : Type} (m : List (Option α)) (s k : Nat) : Prop := s ≤ k ∧ (∃ c, m[k]? = some (some c)) ∧ ∀ j : Nat, s ≤ j → j < k → look m (j : Int) = none
/-- there is none from s on -/
def NoNext {α : Type} (m : List (Option α)) (s : Nat) : Prop := ∀ j : Nat, s ≤ j → look m (j : Int) = none
theorem TabAt.setNew {α : Type} {K : Knd α} {w : World} {F : Nat → Prop} {B p : Nat} {ps : List (Option Nat)} {m : List (Option α)} (h : TabAt K w F B p ps m) {a : Addr} (ha : ¬ F a.block) (u : Value) : TabAt K (w.setCell a u) F B p ps m :=
  h.keep (by simp [World.setCell]) (fun b hb => Below.heap_setCell _ _ _ _ (fun e => by subst e; exact ha hb))
end Go.Proofs.Ytimfgjndgfjjgaa

namespace Go.Proofs.Ytimfgjndgfjjgaa
open Go.RowKit

theorem infoR : ∃ i, Try.prog.info? 131 = some i ∧ i.zero = some (.pointer none) ∧ i.size = 1 ∧ i.bytes = 8 := info_parts (by kernel_rfl)
theorem makeR (w : World) (n : Nat) (h : n ≤ 4096) : (Instr.makeSlice 124 (.int .i64 (n : Int)) (.int .i64 (n : Int))).run Try.prog w = .ok (.slice (some ⟨w.heap.size, 0, none⟩) n n) (w.alloc (.cells (madeCells #[.pointer none] n) 131)) := by
  obtain ⟨i, hi, hz, hs, hb⟩ := infoR
  simpa [hs, Value.cells] using run_make (P := Try.prog) w 124 131 i (.pointer none) Try.underlying124 hi hz .i64 .i64 n n (by omega) (Int.le_refl _) (by rw [hb]; omega) (by omega)
set_option maxHeartbeats 400000 in
theorem newR_any (w : World) :
    Calls Try.prog 40 #[.int .i64 48] w fun x w' => x = .returned (.pointer (some ⟨w.heap.size + 1, 0, none⟩)) ∧ Tab KR w' (fun b => b = w.heap.size ∨ b = w.heap.size + 1) (w.heap.size + 1) (List.replicate 48 none) ∧ Below w.heap.size w w' := by
  have H := hide (⟨_, _, TabAt.fresh KR w 48 (by omega)⟩ : Tab KR _ _ _ _)
  have hbel : ∀ a b, Below w.heap.size w ((w.alloc a).alloc b) := fun a b => ((Below.refl _ _).alloc (Nat.le_refl _) _).alloc (by simp) _
  have hm : (Instr.makeSlice 124 (.int .i64 48) (.int .i64 48)).run Try.prog w = _ := makeR w 48 (by omega)
  go_enter Try.func40, Try.ntmps40
  go_wp2
  go_ret
  exact ⟨rfl, H.out, hbel _ _⟩
set_option maxHeartbeats 400000 in
theorem boundR_any (w : World) (F : Nat → Prop) (B : Nat) (m : List (Option Rc)) (h : Tab KR w F B m) :
    Calls Try.prog 42 #[.pointer (some ⟨B, 0, none⟩)] w fun x w' => x = .returned (.int .i64 (m.length : Nat)) ∧ w' = w := by
  obtain ⟨p, ps, h⟩ := h
  obtain ⟨c0, c1, f0, f1⟩ := h.cells
  clear h
  generalize m.length = c at *
  go_enter Try.func42, Try.ntmps42
  go_wp2
  go_ret
  exact ⟨rfl, rfl⟩
set_option maxHeartbeats 400000 in
theorem outsideR_any (w : World) (F : Nat → Prop) (B : Nat) (m : List (Option Rc)) (h : Tab KR w F B m) (i : Int) :
    Calls Try.prog 81 #[.pointer (some ⟨B, 0, none⟩), .int .i64 i] w fun x w' => x = .returned (.bool (decide (i < 0 ∨ (m.length : Int) ≤ i))) ∧ w' = w := by
  obtain ⟨p, ps, h⟩ := h
  obtain ⟨c0, c1, f0, f1⟩ := h.cells
  clear h
  generalize m.length = c at *
  by_cases h0 : i < 0
  · have e : decide (i < 0 ∨ (c : Int) ≤ i) = true := by simp [h0]
    rw [e]
    go_enter Try.func81, Try.ntmps81
    go_wp2
    go_ret
    exact ⟨rfl, rfl⟩
  · have e : decide (i < 0 ∨ (c : Int) ≤ i) = decide ((c : Int) ≤ i) := by simp [h0]
    rw [e]
    go_enter Try.func81, Try.ntmps81
    go_wp2
    go_ret
    exact ⟨rfl, rfl⟩
set_option maxHeartbeats 400000 in
theorem lenR_any (w : World) (F : Nat → Prop) (B : Nat) (m : List (Option Rc)) (h : Tab KR w F B m) :
    Calls Try.prog 43 #[.pointer (some ⟨B, 0, none⟩)] w fun x w' => x = .returned (.int .i64 ((m.countP Option.isSome : Nat) : Int)) ∧ w' = w := by
  obtain ⟨p, ps, h⟩ := h
  obtain ⟨c0, c1, f0, f1⟩ := h.cells
  clear h
  generalize m.countP Option.isSome = c at *
  go_enter Try.func43, Try.ntmps43
  go_wp2
  go_ret
  exact ⟨rfl, rfl⟩
set_option maxHeartbeats 400000 in
theorem holdsR_any (w : World) (F : Nat → Prop) (B : Nat) (m : List (Option Rc)) (h : Tab KR w F B m) (i : Int) :
    Calls Try.prog 79 #[.pointer (some ⟨B, 0, none⟩), .int .i64 i] w fun x w' => x = .returned (.bool (look m i).isSome) ∧ w' = w := by
  have HO := hide (outsideR_any w F B m h i)
  obtain ⟨p, ps, h⟩ := h
  obtain ⟨c0, c1, f0, f1⟩ := h.cells
  rcases look_cases m i with ⟨h1, e⟩ | ⟨k, rfl, hk, hm, e⟩ | ⟨k, x, rfl, hk, hm, e⟩ <;> rw [e] <;> clear e
  · have hd : decide (i < 0 ∨ (m.length : Int) ≤ i) = true := by simpa using h1
    clear h h1
    rw [hd] at HO
    generalize m.length = n at *
    go_enter Try.func79, Try.ntmps79
    go_wp2_with fail
    refine HO.out.mono ?_
    rintro e w1 ⟨rfl, rfl⟩
    go_wp2
    go_ret
    exact ⟨rfl, rfl⟩
  · rw [in_false hk] at HO
    have c2 := h.nil hm
    clear h hm
    generalize m.length = n at *
    go_enter Try.func79, Try.ntmps79
    go_wp2_with fail
    refine HO.out.mono ?_
    rintro e w1 ⟨rfl, rfl⟩
    go_wp2
    go_ret
    exact ⟨rfl, rfl⟩
  · rw [in_false hk] at HO
    obtain ⟨q, hq1, c2, hq3, hq4⟩ := h.ptr hm
    clear h hm hq1 hq3 hq4
    generalize m.length = n at *
    go_enter Try.func79, Try.ntmps79
    go_wp2_with fail
    refine HO.out.mono ?_
    rintro e w1 ⟨rfl, rfl⟩
    go_wp2
    go_ret
    exact ⟨rfl, rfl⟩
def Rc.zero : Rc := ⟨0, 0, 0, 0, 0, 0⟩
set_option maxHeartbeats 400000 in
theorem getR_any (w : World) (F : Nat → Prop) (B : Nat) (m : List (Option Rc)) (h : Tab KR w F B m) (i : Int) :
    Calls Try.prog 62 #[.pointer (some ⟨B, 0, none⟩), .int .i64 i] w fun x w' => x = .returned (.tuple #[((look m i).getD Rc.zero).val, .bool (look m i).isSome]) ∧ Below w.heap.size w w' := by
  have HO := hide (fun o => holdsR_any _ F B m (h.below ((Below.refl _ _).alloc (Nat.le_refl _) o)) i)
  obtain ⟨p, ps, h⟩ := h
  have hold : ∀ b, F b → b < w.heap.size := h.lt
  have hbel1 : ∀ a, Below w.heap.size w (w.alloc a) := fun a => (Below.refl _ _).alloc (Nat.le_refl _) _
  have hbel2 : ∀ a b, Below w.heap.size w ((w.alloc a).alloc b) := fun a b => ((Below.refl _ _).alloc (Nat.le_refl _) _).alloc (by simp) _
  rcases look_cases m i with ⟨h1, e⟩ | ⟨k, rfl, hk, hm, e⟩ | ⟨k, x, rfl, hk, hm, e⟩ <;> rw [e] at HO ⊢ <;> clear e
  · clear h h1 hold
    go_enter Try.func62, Try.ntmps62
    go_wp2_with fail
    refine (HO.out _).mono ?_
    rintro e w1 ⟨rfl, rfl⟩
    go_wp2
    go_returns
    exact ⟨rfl, hbel2 _ _⟩
  · clear h hm hold
    go_enter Try.func62, Try.ntmps62
    go_wp2_with fail
    refine (HO.out _).mono ?_
    rintro e w1 ⟨rfl, rfl⟩
    go_wp2
    go_returns
    exact ⟨rfl, hbel2 _ _⟩
  · have h' := fun o => h.keep (w' := w.alloc o) (by simp) (fun b hb => Below.heap_alloc _ _ _ (h.lt b hb))
    have c0 := fun o => (h' o).cells.1
    obtain ⟨q, hq1, c2, hq3, hq4⟩ := h.ptr hm
    have c1 := fun o => ((h' o).place hq1).1
    have hq := fun o => (Below.heap_alloc w o _ (h.lt q hq4)).trans hq3
    have c3 := fun o => (cell_of_row _ q 0 _ _ _ (hq o))
    have c4 := fun o => (cell_of_row _ q 1 _ _ _ (hq o))
    have c5 := fun o => (cell_of_row _ q 2 _ _ _ (hq o))
    have c6 := fun o => (cell_of_row _ q 3 _ _ _ (hq o))
    have c7 := fun o => (cell_of_row _ q 4 _ _ _ (hq o))
    have c8 := fun o => (cell_of_row _ q 5 _ _ _ (hq o))
    simp [KR] at c3 c4 c5 c6 c7 c8
    simp only [ptr] at c1
    have hlt := h.lt q hq4
    clear h hm hold hq hq1 hq3 hq4 h' c2
    generalize m.length = n at *
    go_enter Try.func62, Try.ntmps62
    go_wp2_with fail
    refine (HO.out _).mono ?_
    rintro e w1 ⟨rfl, rfl⟩
    go_wp2
    go_returns
    exact ⟨rfl, hbel1 _⟩
set_option maxHeartbeats 400000 in
theorem layR_any (w : World) (F : Nat → Prop) (B : Nat) (m : List (Option Rc)) (h : Tab KR w F B m) (k : Nat) (hk : m[k]? = some none) (c : Rc) :
    Calls Try.prog 80 #[.pointer (some ⟨B, 0, none⟩), .int .i64 k, c.val] w fun x w' => x = .returned (.tuple #[]) ∧ ∃ F', Tab KR w' F' B (m.set k (some c)) ∧ Ext F w F' w' := by
  obtain ⟨p, ps, h⟩ := h
  have HL := hide (fun t => h.lay hk c (c := t))
  have hks : k < m.length := (List.getElem?_eq_some_iff.1 hk).1
  have hcnt : m.countP Option.isSome ≤ 4096 := Nat.le_trans count_le h.cap
  have HM := hide (fun a b c => (((Mod.refl F w).alloc a).setCell (p := ⟨p, k, none⟩) (.inl h.fp) b).setCell (p := ⟨B, 1, none⟩) (.inl h.fB) c)
  have h' := fun o => h.keep (w' := w.alloc o) (by simp) (fun b hb => Below.heap_alloc _ _ _ (h.lt b hb))
  have c0 := fun o => (h' o).cells.1
  have c1 := fun o => (h' o).cells.2.1
  have f1 := fun o => (h' o).cells.2.2.2
  have f2 := fun o => (h' o).frz k
  have c2 := fun o => (h' o).nil hk
  have hne := h.ne
  clear h h' hk
  generalize m.countP Option.isSome = cnt at *
  generalize m.length = n at *
  simp only [Rc.val]
  go_enter Try.func80, Try.ntmps80
  go_wp2
  go_end0
  exact ⟨rfl, _, ⟨_, _, HL.out _ rfl⟩, HM.out _ _ _, fun b hb => hb.imp id (fun e => by omega)⟩
set_option maxHeartbeats 400000 in
theorem putR_any (w : World) (F : Nat → Prop) (B : Nat) (m : List (Option Rc)) (h : Tab KR w F B m) (c : Rc) :
    Calls Try.prog 63 #[.pointer (some ⟨B, 0, none⟩), c.val] w fun x w' => (ff m < m.length → x = .returned (.tuple #[.int .i64 (ff m : Nat), .int .i64 0]) ∧ ∃ F', Tab KR w' F' B (m.set (ff m) (some c)) ∧ Ext F w F' w') ∧
      (ff m = m.length → x = .returned (.tuple #[.int .i64 (-1), .int .i64 2]) ∧ Tab KR w' F B m ∧ Ext F w F w') := by
  have hf := ff_le m
  have hcap := h.cap
  have HT := hide (fun o => h.below ((Below.refl w.heap.size w).alloc (Nat.le_refl _) o))
  have HB := hide (fun o => (⟨(Mod.refl F w).alloc o, fun _ h => .inl h⟩ : Ext F w F (w.alloc o)))
  obtain ⟨p, ps, h⟩ := h
  have h' := fun o => h.keep (w' := w.alloc o) (by simp) (fun b hb => Below.heap_alloc _ _ _ (h.lt b hb))
  have c0 := fun o => (h' o).cells.1
  have HH := hide (fun (k : Nat) (hk : k < ff m) o => by obtain ⟨x, hx⟩ := ff_held hk; exact (let ⟨q, _, hq, _⟩ := (h' o).ptr hx; ⟨q, hq⟩ : ∃ q, (w.alloc o).cell? ⟨p, k, none⟩ = some (.pointer (some ⟨q, 0, none⟩))))
  have HN := hide (fun (hk : ff m < m.length) o => (h' o).nil (ff_free hk))
  have HL := hide (fun o (hk : ff m < m.length) => layR_any _ F B m (HT.out o) (ff m) (ff_free hk) c)
  clear h h'
  generalize ff m = f at *
  have hn : m.length = m.length := rfl
  generalize m.length = n at *
  simp only [Rc.val] at *
  go_enter Try.func63, Try.ntmps63
  go_wp2
  go_loopw [13] (fun i wr => ∃ k : Nat, k ≤ f ∧ i = .int .i64 k ∧ wr = w.alloc (.cells #[.int .i64 c.k, .int .i64 c.o, .int .i64 c.s, .int .i64 c.r, .int .i64 c.e, .int .i64 c.t] 78)) (fun i _ => n - (intOf i).toNat)
  case atStart => exact ⟨0, by omega, rfl, rfl⟩
  case round =>
    obtain ⟨k, hk, rfl, rfl⟩ := hrel
    by_cases hlt : k < f
    · obtain ⟨q, hq⟩ := HH.out k hlt (.cells #[.int .i64 c.k, .int .i64 c.o, .int .i64 c.s, .int .i64 c.r, .int .i64 c.e, .int .i64 c.t] 78)
      have hkn : k < n := by omega
      go_wp2
      go_roundw
      case rel => exact ⟨k + 1, by omega, by go_num, by first | rfl | trivial⟩
      case measure => simp [intOf]; omega
    · obtain rfl : k = f := by omega
      by_cases hkn : k < n
      · have hq := HN.out hkn (.cells #[.int .i64 c.k, .int .i64 c.o, .int .i64 c.s, .int .i64 c.r, .int .i64 c.e, .int .i64 c.t] 78)
        go_wp2_with fail
        refine (HL.out _ hkn).mono ?_
        rintro e w1 ⟨rfl, F', hT, hE⟩
        have HT1 := hide hT
        have HE1 := hide hE
        clear hT hE
        go_wp2
        go_ret2
        exact ⟨fun _ => ⟨rfl, F', HT1.out, (HB.out _).trans HE1.out⟩, fun e => by omega⟩
      · go_wp2
        go_ret2
        exact ⟨fun e => by omega, fun _ => ⟨rfl, HT.out _, HB.out _⟩⟩
set_option maxHeartbeats 400000 in
theorem nextR_nat (w : World) (F : Nat → Prop) (B : Nat) (m : List (Option Rc)) (h : Tab KR w F B m) (i : Int) (s : Nat) (hs : (if i < 0 then 0 else i) = (s : Int)) :
    Calls Try.prog 75 #[.pointer (some ⟨B, 0, none⟩), .int .i64 i] w fun x w' => w' = w ∧ ((∃ k : Nat, x = .returned (.int .i64 k) ∧ IsNext m s k) ∨ (x = .returned (.int .i64 (-1)) ∧ NoNext m s)) := by
  have hcap := h.cap
  obtain ⟨p, ps, h⟩ := h
  obtain ⟨c0, c1, f0, f1⟩ := h.cells
  have HN := hide (fun (k : Nat) hk => h.nil (i := k) hk)
  have HP := hide (fun (k : Nat) (x : Rc) hk => (let ⟨q, _, hq, _⟩ := h.ptr (i := k) (x := x) hk; ⟨q, hq⟩ : ∃ q, w.cell? ⟨p, k, none⟩ = some (.pointer (some ⟨q, 0, none⟩))))
  have HQ := hide (fun k : Nat => look_cases m k)
  have HI := hide (fun k (e : IsNext m s k) => e)
  have HO := hide (fun (k : Nat) (e : m.length ≤ k) => look_out m (k : Int) (.inr (by omega)))
  clear h
  generalize hn : m.length = n at *
  clear hn
  go_enter Try.func75, Try.ntmps75
  go_wp2
  go_loopw [5] (fun i wr => ∃ k : Nat, s ≤ k ∧ i = .int .i64 k ∧ wr = w ∧ Hid (∀ j : Nat, s ≤ j → j < k → look m (j : Int) = none)) (fun i _ => n - (intOf i).toNat)
  case atStart => exact ⟨s, by omega, rfl, rfl, fun j h1 h2 => by omega⟩
  case round =>
    obtain ⟨k, hk, rfl, rfl, hH⟩ := hrel
    by_cases hlt : k < n
    · rcases HQ.out k with ⟨h1, e⟩ | ⟨k', h0, _, hm, e⟩ | ⟨k', x, h0, _, hm, e⟩
      · omega
      · obtain rfl : k = k' := by omega
        have c2 := HN.out k hm
        have HE := hide e
        clear hm e h0
        go_wp2
        go_roundw
        case rel => exact ⟨k + 1, by omega, by go_num, by first | rfl | trivial, fun j h1 h2 => by
            rcases Nat.lt_or_ge j k with h3 | h3
            · exact hH j h1 h3
            · obtain rfl : j = k := by omega
              exact HE.out⟩
        case measure => simp [intOf]; omega
      · obtain rfl : k = k' := by omega
        obtain ⟨q, c2⟩ := HP.out k x hm
        have HE := hide hm
        clear hm e h0
        go_wp2
        go_ret
        exact ⟨rfl, .inl ⟨k, rfl, hk, ⟨x, HE.out⟩, hH⟩⟩
    · go_wp2
      go_ret
      exact ⟨rfl, .inr ⟨rfl, fun j h1 => by
        rcases Nat.lt_or_ge j k with h3 | h3
        · exact hH j h1 h3
        · exact HO.out j (by omega)⟩⟩
theorem nextR_any (w : World) (F : Nat → Prop) (B : Nat) (m : List (Option Rc)) (h : Tab KR w F B m) (i : Int) :
    Calls Try.prog 75 #[.pointer (some ⟨B, 0, none⟩), .int .i64 i] w fun x w' => w' = w ∧ ((∃ k : Nat, x = .returned (.int .i64 k) ∧ IsNext m i.toNat k) ∨ (x = .returned (.int .i64 (-1)) ∧ NoNext m i.toNat)) :=
  nextR_nat w F B m h i i.toNat (by split <;> omega)
end Go.Proofs.Ytimfgjndgfjjgaa

namespace Go.Proofs.Ytimfgjndgfjjgaa
open Go.RowKit

theorem infoL : ∃ i, Try.prog.info? 111 = some i ∧ i.zero = some (.pointer none) ∧ i.size = 1 ∧ i.bytes = 8 := info_parts (by kernel_rfl)
theorem makeL (w : World) (n : Nat) (h : n ≤ 4096) : (Instr.makeSlice 112 (.int .i64 (n : Int)) (.int .i64 (n : Int))).run Try.prog w = .ok (.slice (some ⟨w.heap.size, 0, none⟩) n n) (w.alloc (.cells (madeCells #[.pointer none] n) 111)) := by
  obtain ⟨i, hi, hz, hs, hb⟩ := infoL
  simpa [hs, Value.cells] using run_make (P := Try.prog) w 112 111 i (.pointer none) Try.underlying112 hi hz .i64 .i64 n n (by omega) (Int.le_refl _) (by rw [hb]; omega) (by omega)
set_option maxHeartbeats 400000 in
theorem newL_any (w : World) :
    Calls Try.prog 38 #[.int .i64 16] w fun x w' => x = .returned (.pointer (some ⟨w.heap.size + 1, 0, none⟩)) ∧ Tab KL w' (fun b => b = w.heap.size ∨ b = w.heap.size + 1) (w.heap.size + 1) (List.replicate 16 none) ∧ Below w.heap.size w w' := by
  have H := hide (⟨_, _, TabAt.fresh KL w 16 (by omega)⟩ : Tab KL _ _ _ _)
  have hbel : ∀ a b, Below w.heap.size w ((w.alloc a).alloc b) := fun a b => ((Below.refl _ _).alloc (Nat.le_refl _) _).alloc (by simp) _
  have hm : (Instr.makeSlice 112 (.int .i64 16) (.int .i64 16)).run Try.prog w = _ := makeL w 16 (by omega)
  go_enter Try.func38, Try.ntmps38
  go_wp2
  go_ret
  exact ⟨rfl, H.out, hbel _ _⟩
set_option maxHeartbeats 400000 in
theorem outsideL_any (w : World) (F : Nat → Prop) (B : Nat) (m : List (Option Nat)) (h : Tab KL w F B m) (i : Int) :
    Calls Try.prog 68 #[.pointer (some ⟨B, 0, none⟩), .int .i64 i] w fun x w' => x = .returned (.bool (decide (i < 0 ∨ (m.length : Int) ≤ i))) ∧ w' = w := by
  obtain ⟨p, ps, h⟩ := h
  obtain ⟨c0, c1, f0, f1⟩ := h.cells
  clear h
  generalize m.length = c at *
  by_cases h0 : i < 0
  · have e : decide (i < 0 ∨ (c : Nat) ≤ i) = true := by simp [h0]
    rw [e]
    go_enter Try.func68, Try.ntmps68
    go_wp2
    go_ret
    exact ⟨rfl, rfl⟩
  · have e : decide (i < 0 ∨ (c : Nat) ≤ i) = decide ((c : Nat) ≤ i) := by simp [h0]
    rw [e]
    go_enter Try.func68, Try.ntmps68
    go_wp2
    go_ret
    exact ⟨rfl, rfl⟩
set_option maxHeartbeats 400000 in
theorem holdsL_any (w : World) (F : Nat → Prop) (B : Nat) (m : List (Option Nat)) (h : Tab KL w F B m) (i : Int) :
    Calls Try.prog 61 #[.pointer (some ⟨B, 0, none⟩), .int .i64 i] w fun x w' => x = .returned (.bool (look m i).isSome) ∧ w' = w := by
  have HO := hide (outsideL_any w F B m h i)
  obtain ⟨p, ps, h⟩ := h
  obtain ⟨c0, c1, f0, f1⟩ := h.cells
  rcases look_cases m i with ⟨h1, e⟩ | ⟨k, rfl, hk, hm, e⟩ | ⟨k, x, rfl, hk, hm, e⟩ <;> rw [e] <;> clear e
  · have hd : decide (i < 0 ∨ (m.length : Int) ≤ i) = true := by simpa using h1
    clear h h1
    rw [hd] at HO
    generalize m.length = n at *
    go_enter Try.func61, Try.ntmps61
    go_wp2_with fail
    refine HO.out.mono ?_
    rintro e w1 ⟨rfl, rfl⟩
    go_wp2
    go_ret
    exact ⟨rfl, rfl⟩
  · rw [in_false hk] at HO
    have c2 := h.nil hm
    clear h hm
    generalize m.length = n at *
    go_enter Try.func61, Try.ntmps61
    go_wp2_with fail
    refine HO.out.mono ?_
    rintro e w1 ⟨rfl, rfl⟩
    go_wp2
    go_ret
    exact ⟨rfl, rfl⟩
  · rw [in_false hk] at HO
    obtain ⟨q, hq1, c2, hq3, hq4⟩ := h.ptr hm
    clear h hm hq1 hq3 hq4
    generalize m.length = n at *
    go_enter Try.func61, Try.ntmps61
    go_wp2_with fail
    refine HO.out.mono ?_
    rintro e w1 ⟨rfl, rfl⟩
    go_wp2
    go_ret
    exact ⟨rfl, rfl⟩
set_option maxHeartbeats 400000 in
theorem layL_any (w : World) (F : Nat → Prop) (B : Nat) (m : List (Option Nat)) (h : Tab KL w F B m) (k : Nat) (hk : m[k]? = some none) (c : Nat) :
    Calls Try.prog 69 #[.pointer (some ⟨B, 0, none⟩), .int .i64 k, .pointer (some ⟨c, 0, none⟩)] w fun x w' => x = .returned (.tuple #[]) ∧ ∃ F', Tab KL w' F' B (m.set k (some c)) ∧ Ext F w F' w' := by
  obtain ⟨p, ps, h⟩ := h
  have HL := hide (fun t => h.lay hk c (c := t))
  have hks : k < m.length := (List.getElem?_eq_some_iff.1 hk).1
  have hcnt : m.countP Option.isSome ≤ 4096 := Nat.le_trans count_le h.cap
  have HM := hide (fun a b c => (((Mod.refl F w).alloc a).setCell (p := ⟨p, k, none⟩) (.inl h.fp) b).setCell (p := ⟨B, 1, none⟩) (.inl h.fB) c)
  have h' := fun o => h.keep (w' := w.alloc o) (by simp) (fun b hb => Below.heap_alloc _ _ _ (h.lt b hb))
  have c0 := fun o => (h' o).cells.1
  have c1 := fun o => (h' o).cells.2.1
  have f1 := fun o => (h' o).cells.2.2.2
  have f2 := fun o => (h' o).frz k
  have c2 := fun o => (h' o).nil hk
  have hne := h.ne
  clear h h' hk
  generalize m.countP Option.isSome = cnt at *
  generalize m.length = n at *
  go_enter Try.func69, Try.ntmps69
  go_wp2
  go_end0
  exact ⟨rfl, _, ⟨_, _, HL.out _ rfl⟩, HM.out _ _ _, fun b hb => hb.imp id (fun e => by omega)⟩
set_option maxHeartbeats 400000 in
theorem nextL_nat (w : World) (F : Nat → Prop) (B : Nat) (m : List (Option Nat)) (h : Tab KL w F B m) (i : Int) (s : Nat) (hs : (if i < 0 then 0 else i) = (s : Int)) :
    Calls Try.prog 85 #[.pointer (some ⟨B, 0, none⟩), .int .i64 i] w fun x w' => w' = w ∧ ((∃ k : Nat, x = .returned (.int .i64 k) ∧ IsNext m s k) ∨ (x = .returned (.int .i64 (-1)) ∧ NoNext m s)) := by
  have hcap := h.cap
  obtain ⟨p, ps, h⟩ := h
  obtain ⟨c0, c1, f0, f1⟩ := h.cells
  have HN := hide (fun (k : Nat) hk => h.nil (i := k) hk)
  have HP := hide (fun (k : Nat) (x : Nat) hk => (let ⟨q, _, hq, _⟩ := h.ptr (i := k) (x := x) hk; ⟨q, hq⟩ : ∃ q, w.cell? ⟨p, k, none⟩ = some (.pointer (some ⟨q, 0, none⟩))))
  have HQ := hide (fun k : Nat => look_cases m k)
  have HI := hide (fun k (e : IsNext m s k) => e)
  have HO := hide (fun (k : Nat) (e : m.length ≤ k) => look_out m (k : Int) (.inr (by omega)))
  clear h
  generalize hn : m.length = n at *
  clear hn
  go_enter Try.func85, Try.ntmps85
  go_wp2
  go_loopw [5] (fun i wr => ∃ k : Nat, s ≤ k ∧ i = .int .i64 k ∧ wr = w ∧ Hid (∀ j : Nat, s ≤ j → j < k → look m (j : Int) = none)) (fun i _ => n - (intOf i).toNat)
  case atStart => exact ⟨s, by omega, rfl, rfl, fun j h1 h2 => by omega⟩
  case round =>
    obtain ⟨k, hk, rfl, rfl, hH⟩ := hrel
    by_cases hlt : k < n
    · rcases HQ.out k with ⟨h1, e⟩ | ⟨k', h0, _, hm, e⟩ | ⟨k', x, h0, _, hm, e⟩
      · omega
      · obtain rfl : k = k' := by omega
        have c2 := HN.out k hm
        have HE := hide e
        clear hm e h0
        go_wp2
        go_roundw
        case rel => exact ⟨k + 1, by omega, by go_num, by first | rfl | trivial, fun j h1 h2 => by
            rcases Nat.lt_or_ge j k with h3 | h3
            · exact hH j h1 h3
            · obtain rfl : j = k := by omega
              exact HE.out⟩
        case measure => simp [intOf]; omega
      · obtain rfl : k = k' := by omega
        obtain ⟨q, c2⟩ := HP.out k x hm
        have HE := hide hm
        clear hm e h0
        go_wp2
        go_ret
        exact ⟨rfl, .inl ⟨k, rfl, hk, ⟨x, HE.out⟩, hH⟩⟩
    · go_wp2
      go_ret
      exact ⟨rfl, .inr ⟨rfl, fun j h1 => by
        rcases Nat.lt_or_ge j k with h3 | h3
        · exact hH j h1 h3
        · exact HO.out j (by omega)⟩⟩
theorem nextL_any (w : World) (F : Nat → Prop) (B : Nat) (m : List (Option Nat)) (h : Tab KL w F B m) (i : Int) :
    Calls Try.prog 85 #[.pointer (some ⟨B, 0, none⟩), .int .i64 i] w fun x w' => w' = w ∧ ((∃ k : Nat, x = .returned (.int .i64 k) ∧ IsNext m i.toNat k) ∨ (x = .returned (.int .i64 (-1)) ∧ NoNext m i.toNat)) :=
  nextL_nat w F B m h i i.toNat (by split <;> omega)
set_option maxHeartbeats 400000 in
theorem getL_any (w : World) (F : Nat → Prop) (B : Nat) (m : List (Option Nat)) (h : Tab KL w F B m) (i : Int) :
    Calls Try.prog 29 #[.pointer (some ⟨B, 0, none⟩), .int .i64 i] w fun x w' => x = .returned (.tuple #[ptr (look m i), .bool (look m i).isSome]) ∧ w' = w := by
  have HO := hide (holdsL_any _ F B m h i)
  obtain ⟨p, ps, h⟩ := h
  rcases look_cases m i with ⟨h1, e⟩ | ⟨k, rfl, hk, hm, e⟩ | ⟨k, x, rfl, hk, hm, e⟩ <;> rw [e] at HO ⊢ <;> clear e
  · clear h h1
    go_enter Try.func29, Try.ntmps29
    go_wp2_with fail
    refine HO.out.mono ?_
    rintro e w1 ⟨rfl, rfl⟩
    go_wp2
    go_returns
    exact ⟨rfl, rfl⟩
  · clear h hm
    go_enter Try.func29, Try.ntmps29
    go_wp2_with fail
    refine HO.out.mono ?_
    rintro e w1 ⟨rfl, rfl⟩
    go_wp2
    go_returns
    exact ⟨rfl, rfl⟩
  · have c0 := h.cells.1
    obtain ⟨q, hq1, c2, hq3, hq4⟩ := h.ptr hm
    have c3 := (cell_of_row _ q 0 _ _ _ hq3)
    simp [KL] at c3
    simp only [ptr, Option.isSome_some]
    clear h hm hq1 hq3 hq4
    generalize m.length = n at *
    go_enter Try.func29, Try.ntmps29
    go_wp2_with fail
    refine HO.out.mono ?_
    rintro e w1 ⟨rfl, rfl⟩
    go_wp2
    go_returns
    exact ⟨rfl, rfl⟩
end Go.Proofs.Ytimfgjndgfjjgaa

namespace Go.Proofs.Ytimfgjndgfjjgaa
open Go.RowKit

theorem blk6 {w1 : World} {b : Nat} {x0 x1 x2 x3 x4 x5 : Value} {t : TypeId} (h : w1.heap[b]? = some (.cells #[x0, x1, x2, x3, x4, x5] t (0, 0))) :
    w1.cell? ⟨b, 0, none⟩ = some x0 ∧ w1.cell? ⟨b, 1, none⟩ = some x1 ∧ w1.cell? ⟨b, 2, none⟩ = some x2 ∧ w1.cell? ⟨b, 3, none⟩ = some x3 ∧ w1.cell? ⟨b, 4, none⟩ = some x4 ∧ w1.cell? ⟨b, 5, none⟩ = some x5 ∧
    w1.frozen? ⟨b, 0, none⟩ = false ∧ w1.frozen? ⟨b, 1, none⟩ = false ∧ w1.frozen? ⟨b, 2, none⟩ = false ∧ w1.frozen? ⟨b, 3, none⟩ = false ∧ w1.frozen? ⟨b, 4, none⟩ = false ∧ w1.frozen? ⟨b, 5, none⟩ = false :=
  ⟨by rw [cell_of_row _ _ _ _ _ _ h]; rfl, by rw [cell_of_row _ _ _ _ _ _ h]; rfl, by rw [cell_of_row _ _ _ _ _ _ h]; rfl, by rw [cell_of_row _ _ _ _ _ _ h]; rfl, by rw [cell_of_row _ _ _ _ _ _ h]; rfl, by rw [cell_of_row _ _ _ _ _ _ h]; rfl, frozen_of_row _ _ _ _ _ h, frozen_of_row _ _ _ _ _ h, frozen_of_row _ _ _ _ _ h, frozen_of_row _ _ _ _ _ h, frozen_of_row _ _ _ _ _ h, frozen_of_row _ _ _ _ _ h⟩
theorem set6 {w : World} {b : Nat} {x0 x1 x2 x3 x4 x5 : Value} {t : TypeId} (h : w.heap[b]? = some (.cells #[x0, x1, x2, x3, x4, x5] t (0, 0))) (y0 y1 y2 y3 y4 y5 : Value) :
    ((((((w.setCell ⟨b, 0, none⟩ y0).setCell ⟨b, 1, none⟩ y1).setCell ⟨b, 2, none⟩ y2).setCell ⟨b, 3, none⟩ y3).setCell ⟨b, 4, none⟩ y4).setCell ⟨b, 5, none⟩ y5).heap[b]? = some (.cells #[y0, y1, y2, y3, y4, y5] t (0, 0)) := by
  have h1 := heap_setCell_same _ b 0 _ _ y0 h
  have h2 := heap_setCell_same _ b 1 _ _ y1 h1
  have h3 := heap_setCell_same _ b 2 _ _ y2 h2
  have h4 := heap_setCell_same _ b 3 _ _ y3 h3
  have h5 := heap_setCell_same _ b 4 _ _ y4 h4
  have h6 := heap_setCell_same _ b 5 _ _ y5 h5
  rw [h6]; rfl
theorem set6_other {w : World} {b : Nat} (y0 y1 y2 y3 y4 y5 : Value) {c : Nat} (h : c ≠ b) :
    ((((((w.setCell ⟨b, 0, none⟩ y0).setCell ⟨b, 1, none⟩ y1).setCell ⟨b, 2, none⟩ y2).setCell ⟨b, 3, none⟩ y3).setCell ⟨b, 4, none⟩ y4).setCell ⟨b, 5, none⟩ y5).heap[c]? = w.heap[c]? := by
  rw [heap_setCell_other _ _ c _ h, heap_setCell_other _ _ c _ h, heap_setCell_other _ _ c _ h, heap_setCell_other _ _ c _ h, heap_setCell_other _ _ c _ h, heap_setCell_other _ _ c _ h]
theorem results_row2 {P : Program} {fn : Func} {p u : Tmp} {ty : TypeId} (h : fn.results = #[.cell p ty, .tmp u]) (tmps : Array Value) (w : World) (g : Nat) (t : TypeId) (cs : Array Value) (fr : Nat × Nat) (d : TypeDesc)
    (hp : tmps.getD p undef = .pointer (some ⟨g, 0, none⟩)) (hg : w.heap[g]? = some (.cells cs t fr))
    (hu : P.underlying ty = some d) (hd : (match d with | .struct _ | .array _ _ => true | _ => false) = true) (hi : (P.info? ty).map (·.size) = some cs.size) :
    (results fn tmps).run P w = .ok (.tuple #[.agg cs, tmps.getD u undef]) w := by
  rw [results_cell_tmp h, hp]
  simp [asAddr, run_loadVar_row w g t ty cs fr d hg hu hd hi]
/-- what a changing of a taken place leaves -/
theorem TabAt.chg {α : Type} {K : Knd α} {w : World} {F : Nat → Prop} {B p : Nat} {ps : List (Option Nat)} {m : List (Option α)} (h : TabAt K w F B p ps m) {i q : Nat} {x : α} (hi : m[i]? = some (some x)) (hq : ps[i]? = some (some q)) (y : α) {w' : World} (hs : w.heap.size ≤ w'.heap.size)
    (hy : w'.heap[q]? = some (.cells (K.enc y) K.E (0, 0))) (ho : ∀ b, b < w.heap.size → b ≠ q → w'.heap[b]? = w.heap[b]?) : TabAt K w' F B p ps (m.set i (some y)) := by
  obtain ⟨q', e1, e2, e3, e4, e5⟩ := h.held i x hi
  rw [hq] at e1; cases e1
  have hc : (m.set i (some y)).countP Option.isSome = m.countP Option.isSome := by
    obtain ⟨hl, e⟩ := List.getElem?_eq_some_iff.1 hi
    have hp : 0 < m.countP Option.isSome := List.countP_pos_iff.2 ⟨m[i], List.getElem_mem hl, by rw [e]; rfl⟩
    rw [List.countP_set hl, e]; simp; omega
  refine ⟨?_, ?_, by simp [h.len], ?_, ?_, h.inj, h.fB, h.fp, h.ne, fun b hb => Nat.lt_of_lt_of_le (h.lt b hb) hs, by simpa using h.cap⟩
  · rw [hc, List.length_set, ho B (h.lt B h.fB) (fun e => e4 e.symm)]; exact h.top
  · rw [ho p (h.lt p h.fp) (fun e => e5 e.symm)]; exact h.row
  · intro j hj
    rw [List.getElem?_set] at hj
    split at hj
    · split at hj <;> cases hj
    · exact h.free j hj
  · intro j z hj
    rw [List.getElem?_set] at hj
    split at hj
    · rename_i e
      subst e
      split at hj
      · cases hj; exact ⟨q, hq, hy, e3, e4, e5⟩
      · cases hj
    · rename_i e
      obtain ⟨q2, h1, h2, h3, h4, h5⟩ := h.held j z hj
      refine ⟨q2, h1, ?_, h3, h4, h5⟩
      rw [ho q2 (h.lt q2 h3) (fun e' => by subst e'; exact e (h.inj i j _ hq h1))]; exact h2
set_option maxHeartbeats 400000 in
/-- PutAt, at each kind of place -/
theorem putAtR_any (w : World) (F : Nat → Prop) (B : Nat) (m : List (Option Rc)) (h : Tab KR w F B m) (i : Int) (c : Rc) :
    Calls Try.prog 64 #[.pointer (some ⟨B, 0, none⟩), .int .i64 i, c.val] w fun x w' => ∃ (v : Int) (m' : List (Option Rc)) (F' : Nat → Prop), x = .returned (.int .i64 v) ∧ Tab KR w' F' B m' ∧ Ext F w F' w' ∧
      (((i < 0 ∨ (m.length : Int) ≤ i) ∧ v = 30 ∧ m' = m) ∨ (∃ (k : Nat) (x : Rc), i = k ∧ m[k]? = some (some x) ∧ v = 31 ∧ m' = m) ∨ ∃ k : Nat, i = k ∧ m[k]? = some none ∧ v = 0 ∧ m' = m.set k (some c)) := by
  have HT := hide (fun o => h.below ((Below.refl w.heap.size w).alloc (Nat.le_refl _) o))
  have HB := hide (fun o => (⟨(Mod.refl F w).alloc o, fun _ h => .inl h⟩ : Ext F w F (w.alloc o)))
  have HO := hide (fun o => outsideR_any _ F B m (HT.out o) i)
  obtain ⟨p, ps, h⟩ := h
  have h' := fun o => h.keep (w' := w.alloc o) (by simp) (fun b hb => Below.heap_alloc _ _ _ (h.lt b hb))
  have c0 := fun o => (h' o).cells.1
  simp only [Rc.val]
  rcases look_cases m i with ⟨h1, e⟩ | ⟨k, rfl, hk, hm, e⟩ | ⟨k, x, rfl, hk, hm, e⟩ <;> clear e
  · have hd : decide (i < 0 ∨ (m.length : Int) ≤ i) = true := by simpa using h1
    rw [hd] at HO
    have H1 := hide h1
    clear h h1 h' hd
    generalize hn : m.length = n at *
    clear hn
    go_enter Try.func64, Try.ntmps64
    go_wp2_with fail
    refine (HO.out _).mono ?_
    rintro e w1 ⟨rfl, rfl⟩
    go_wp2
    go_ret
    exact ⟨30, m, F, rfl, HT.out _, HB.out _, .inl ⟨H1.out, rfl, rfl⟩⟩
  · rw [in_false hk] at HO
    have c2 := fun o => (h' o).nil hm
    have HL := hide (fun o => layR_any _ F B m (HT.out o) k hm c)
    have HM := hide hm
    clear h h' hm
    generalize hn : m.length = n at *
    clear hn
    simp only [Rc.val] at HL
    go_enter Try.func64, Try.ntmps64
    go_wp2_with fail
    refine (HO.out _).mono ?_
    rintro e w1 ⟨rfl, rfl⟩
    go_wp2_with fail
    refine (HL.out _).mono ?_
    rintro e w2 ⟨rfl, F', hT, hE⟩
    have HT1 := hide hT
    have HE1 := hide hE
    clear hT hE
    go_wp2
    go_ret
    exact ⟨0, _, F', rfl, HT1.out, (HB.out _).trans HE1.out, .inr (.inr ⟨k, rfl, HM.out, rfl, rfl⟩)⟩
  · rw [in_false hk] at HO
    obtain ⟨q, hq1, _, _, _⟩ := h.ptr hm
    have c2 := fun o => ((h' o).place hq1).1
    have HM := hide hm
    clear h h' hm hq1
    simp only [ptr] at c2
    generalize hn : m.length = n at *
    clear hn
    go_enter Try.func64, Try.ntmps64
    go_wp2_with fail
    refine (HO.out _).mono ?_
    rintro e w1 ⟨rfl, rfl⟩
    go_wp2
    go_ret
    exact ⟨31, m, F, rfl, HT.out _, HB.out _, .inr (.inl ⟨k, x, rfl, HM.out, rfl, rfl⟩)⟩
set_option maxHeartbeats 1600000 in
theorem setR_some (w : World) (F : Nat → Prop) (B : Nat) (m : List (Option Rc)) (h : Tab KR w F B m) (k : Nat) (x y : Rc) (hm : m[k]? = some (some x)) :
    Calls Try.prog 67 #[.pointer (some ⟨B, 0, none⟩), .int .i64 k, y.val] w fun e w' => e = .returned (.bool true) ∧ Tab KR w' F B (m.set k (some y)) ∧ Ext F w F w' := by
  have HT := hide (fun o => h.below ((Below.refl w.heap.size w).alloc (Nat.le_refl _) o))
  have HO := hide (fun o => holdsR_any _ F B m (HT.out o) k)
  have hl : look m (k : Int) = some x := by rw [look_nat, hm]; rfl
  rw [hl] at HO
  obtain ⟨p, ps, h⟩ := h
  have h' := fun o => h.keep (w' := w.alloc o) (by simp) (fun b hb => Below.heap_alloc _ _ _ (h.lt b hb))
  have hk : k < m.length := (List.getElem?_eq_some_iff.1 hm).1
  have c0 := fun o => (h' o).cells.1
  obtain ⟨q, hq1, c2, hq3, hq4⟩ := h.ptr hm
  have hqs := h.lt q hq4
  have c1 := fun o => ((h' o).place hq1).1
  simp only [ptr] at c1
  have hq := hq3
  simp only [KR] at hq
  obtain ⟨d0, d1, d2, d3, d4, d5, f0, f1, f2, f3, f4, f5⟩ := blk6 hq
  have HC := hide (h.chg hm hq1 y (w' := (((((w.setCell ⟨q, 0, none⟩ (.int .i64 y.k)).setCell ⟨q, 1, none⟩ (.int .i64 y.o)).setCell ⟨q, 2, none⟩ (.int .i64 y.s)).setCell ⟨q, 3, none⟩ (.int .i64 y.r)).setCell ⟨q, 4, none⟩ (.int .i64 y.e)).setCell ⟨q, 5, none⟩ (.int .i64 y.t)) (by simp [World.setCell]) (set6 hq _ _ _ _ _ _) (fun b _ hb => set6_other _ _ _ _ _ _ hb))
  have HM := hide (fun a0 a1 a2 a3 a4 a5 => ((((((Mod.refl F w).setCell (p := ⟨q, 0, none⟩) (.inl hq4) a0).setCell (p := ⟨q, 1, none⟩) (.inl hq4) a1).setCell (p := ⟨q, 2, none⟩) (.inl hq4) a2).setCell (p := ⟨q, 3, none⟩) (.inl hq4) a3).setCell (p := ⟨q, 4, none⟩) (.inl hq4) a4).setCell (p := ⟨q, 5, none⟩) (.inl hq4) a5)
  have hne : q ≠ w.heap.size := by omega
  clear h hm hq hq1 hq3 hq4 h' c2 hl
  generalize m.length = n at *
  simp only [Rc.val, Option.isSome_some] at *
  go_enter Try.func67, Try.ntmps67
  go_wp2_with fail
  refine (HO.out _).mono ?_
  rintro e w1 ⟨rfl, rfl⟩
  go_wp2_with fail
  go_region
  go_wp2
  go_ret
  exact ⟨rfl, Tab.below ⟨_, _, HC.out⟩ ((Below.refl _ _).alloc (Nat.le_refl _) _).drew, ((HM.out _ _ _ _ _ _).alloc _).drew, fun b hb => .inl hb⟩
end Go.Proofs.Ytimfgjndgfjjgaa

namespace Go.Proofs.Ytimfgjndgfjjgaa
open Go.RowKit

set_option maxHeartbeats 1600000 in
theorem dropR_some (w : World) (F : Nat → Prop) (B : Nat) (m : List (Option Rc)) (h : Tab KR w F B m) (k : Nat) (x : Rc) (hm : m[k]? = some (some x)) :
    Calls Try.prog 82 #[.pointer (some ⟨B, 0, none⟩), .int .i64 k] w fun e w' => e = .returned (.tuple #[x.val, .bool true]) ∧ Tab KR w' F B (m.set k none) ∧ Ext F w F w' := by
  have HT := hide (fun o => h.below ((Below.refl w.heap.size w).alloc (Nat.le_refl _) o))
  have HB := hide (fun o => (⟨(Mod.refl F w).alloc o, fun _ h => .inl h⟩ : Ext F w F (w.alloc o)))
  have HG := hide (fun o => getR_any _ F B m (HT.out o) k)
  have hi : look m (k : Int) = some x := by rw [look_nat, hm]; rfl
  rw [hi] at HG
  have HF := hide (show ¬ F w.heap.size from fun e => by have := h.lt _ e; omega)
  have HL := hide (fun b hb => Nat.ne_of_lt (h.lt b hb))
  have hcnt : m.countP Option.isSome ≤ 4096 := Nat.le_trans count_le h.cap
  have hk : k < m.length := (List.getElem?_eq_some_iff.1 hm).1
  clear h hi
  simp only [Rc.val, Option.getD_some, Option.isSome_some] at *
  go_enter Try.func82, Try.ntmps82
  go_wp2_with fail
  refine (HG.out _).mono ?_
  rintro e w1 ⟨rfl, hb1⟩
  have hlt : w.heap.size < w1.heap.size := by have := hb1.size; simp at this; omega
  obtain ⟨p, ps, h1⟩ := (HT.out _).below hb1
  have HM1 := hide (((HB.out _).mod).trans (Mod.of_below hb1))
  have hR := (hb1.block w.heap.size (by simp)).trans (heap_alloc_new w _)
  obtain ⟨c0, c1, c2, c3, c4, c5, f0, f1, f2, f3, f4, f5⟩ := blk6 hR
  have n1 : B ≠ w.heap.size := HL.out _ h1.fB
  have n2 : p ≠ w.heap.size := HL.out _ h1.fp
  have hR' : ∀ u v, ((w1.setCell ⟨p, k, none⟩ u).setCell ⟨B, 1, none⟩ v).heap[w.heap.size]? = _ := fun u v => (heap_setCell_other _ _ _ _ (fun e => n1 e.symm)).trans ((heap_setCell_other _ _ _ _ (fun e => n2 e.symm)).trans hR)
  have HRR := hide (fun u v => (hR' u v))
  clear hb1 HG HT HB hR hR'
  obtain ⟨d0, d1, g0, g1⟩ := h1.cells
  have g2 := h1.frz k
  obtain ⟨q, hq1, d2, hq3, hq4⟩ := h1.ptr hm
  have hne := h1.ne
  have HD := hide (fun t => h1.drop hm (c := t))
  have n3 := h1.lt _ h1.fB
  have n4 := h1.lt _ h1.fp
  have FB := hide h1.fB
  have FP := hide h1.fp
  have hpos : 0 < m.countP Option.isSome := List.countP_pos_iff.2 ⟨_, List.mem_of_getElem? hm, rfl⟩
  clear h1 hq1 hq3 hq4 hm
  generalize m.countP Option.isSome = cnt at *
  generalize m.length = n at *
  go_upto_region 5 with fail
  have hX : (((w1.setCell ⟨p, k, none⟩ (.pointer none)).setCell ⟨B, 1, none⟩ (.int .i64 ((cnt : Int) - 1))).alloc (Obj.cells #[.int .i64 x.k, .int .i64 x.o, .int .i64 x.s, .int .i64 x.r, .int .i64 x.e, .int .i64 x.t] 78)).heap[w1.heap.size]? = some (Obj.cells #[.int .i64 x.k, .int .i64 x.o, .int .i64 x.s, .int .i64 x.r, .int .i64 x.e, .int .i64 x.t] 78 (0, 0)) := by
    have := heap_alloc_new ((w1.setCell ⟨p, k, none⟩ (.pointer none)).setCell ⟨B, 1, none⟩ (.int .i64 ((cnt : Int) - 1))) (Obj.cells #[.int .i64 x.k, .int .i64 x.o, .int .i64 x.s, .int .i64 x.r, .int .i64 x.e, .int .i64 x.t] 78)
    simpa [World.setCell] using this
  have hY := (Below.heap_alloc ((w1.setCell ⟨p, k, none⟩ (.pointer none)).setCell ⟨B, 1, none⟩ (.int .i64 ((cnt : Int) - 1))) (Obj.cells #[.int .i64 x.k, .int .i64 x.o, .int .i64 x.s, .int .i64 x.r, .int .i64 x.e, .int .i64 x.t] 78) w.heap.size (by simp [World.setCell]; omega)).trans (HRR.out _ _)
  have HT2 : Hid (Tab KR (((w1.setCell ⟨p, k, none⟩ (.pointer none)).setCell ⟨B, 1, none⟩ (.int .i64 ((cnt : Int) - 1))).alloc (Obj.cells #[.int .i64 x.k, .int .i64 x.o, .int .i64 x.s, .int .i64 x.r, .int .i64 x.e, .int .i64 x.t] 78)) F B (m.set k none)) := Tab.below ⟨p, _, HD.out _ rfl⟩ ((Below.refl _ _).alloc (Nat.le_refl _) _)
  have HM2 := hide (((HM1.out.setCell (p := ⟨p, k, none⟩) (.inl FP.out) (.pointer none)).setCell (p := ⟨B, 1, none⟩) (.inl FB.out) (.int .i64 ((cnt : Int) - 1))).alloc (Obj.cells #[.int .i64 x.k, .int .i64 x.o, .int .i64 x.s, .int .i64 x.r, .int .i64 x.e, .int .i64 x.t] 78))
  generalize ((w1.setCell ⟨p, k, none⟩ (.pointer none)).setCell ⟨B, 1, none⟩ (.int .i64 ((cnt : Int) - 1))).alloc (Obj.cells #[.int .i64 x.k, .int .i64 x.o, .int .i64 x.s, .int .i64 x.r, .int .i64 x.e, .int .i64 x.t] 78) = W at *
  clear c0 c1 c2 c3 c4 c5 f0 f1 f2 f3 f4 f5 d0 d1 d2 g0 g1 g2 HD HM1
  obtain ⟨c0, c1, c2, c3, c4, c5, f0, f1, f2, f3, f4, f5⟩ := blk6 hY
  obtain ⟨d0, d1, d2, d3, d4, d5, _, _, _, _, _, _⟩ := blk6 hX
  have HR := hide (fun a b c d e f => set6 hY a b c d e f)
  clear hX hY
  go_wp2
  refine bodyPost_ret (results_row2 rfl _ _ w.heap.size 78 #[.int .i64 x.k, .int .i64 x.o, .int .i64 x.s, .int .i64 x.r, .int .i64 x.e, .int .i64 x.t] (0, 0) _ rfl (HR.out _ _ _ _ _ _) Try.underlying78 rfl (by kernel_rfl)) rfl ?_
  refine ⟨rfl, ?_, ?_, fun _ h => .inl h⟩
  · obtain ⟨p2, ps2, h2⟩ := HT2.out
    exact ⟨p2, ps2, ((((((h2.setNew (a := ⟨w.heap.size, 0, none⟩) HF.out (.int .i64 x.k)).setNew (a := ⟨w.heap.size, 1, none⟩) HF.out (.int .i64 x.o)).setNew (a := ⟨w.heap.size, 2, none⟩) HF.out (.int .i64 x.s)).setNew (a := ⟨w.heap.size, 3, none⟩) HF.out (.int .i64 x.r)).setNew (a := ⟨w.heap.size, 4, none⟩) HF.out (.int .i64 x.e)).setNew (a := ⟨w.heap.size, 5, none⟩) HF.out (.int .i64 x.t))⟩
  · exact (((((HM2.out.setCell (p := ⟨w.heap.size, 0, none⟩) (.inr (Nat.le_refl _)) _).setCell (p := ⟨w.heap.size, 1, none⟩) (.inr (Nat.le_refl _)) _).setCell (p := ⟨w.heap.size, 2, none⟩) (.inr (Nat.le_refl _)) _).setCell (p := ⟨w.heap.size, 3, none⟩) (.inr (Nat.le_refl _)) _).setCell (p := ⟨w.heap.size, 4, none⟩) (.inr (Nat.le_refl _)) _).setCell (p := ⟨w.heap.size, 5, none⟩) (.inr (Nat.le_refl _)) _
end Go.Proofs.Ytimfgjndgfjjgaa

namespace Go.Proofs.Ytimfgjndgfjjgaa
open Go.RowKit

set_option maxHeartbeats 400000 in
/-- PutAt, at each kind of place -/
theorem putAtL_any (w : World) (F : Nat → Prop) (B : Nat) (m : List (Option Nat)) (h : Tab KL w F B m) (i : Int) (c : Nat) :
    Calls Try.prog 39 #[.pointer (some ⟨B, 0, none⟩), .int .i64 i, .pointer (some ⟨c, 0, none⟩)] w fun x w' => ∃ (v : Int) (m' : List (Option Nat)) (F' : Nat → Prop), x = .returned (.int .i64 v) ∧ Tab KL w' F' B m' ∧ Ext F w F' w' ∧
      (((i < 0 ∨ (m.length : Int) ≤ i) ∧ v = 30 ∧ m' = m) ∨ (∃ (k : Nat) (x : Nat), i = k ∧ m[k]? = some (some x) ∧ v = 31 ∧ m' = m) ∨ ∃ k : Nat, i = k ∧ m[k]? = some none ∧ v = 0 ∧ m' = m.set k (some c)) := by
  have HT := hide (h)
  have HO := hide (outsideL_any _ F B m HT.out i)
  obtain ⟨p, ps, h⟩ := h
  have c0 := h.cells.1
  rcases look_cases m i with ⟨h1, e⟩ | ⟨k, rfl, hk, hm, e⟩ | ⟨k, x, rfl, hk, hm, e⟩ <;> clear e
  · have hd : decide (i < 0 ∨ (m.length : Int) ≤ i) = true := by simpa using h1
    rw [hd] at HO
    have H1 := hide h1
    clear h h1 hd
    generalize hn : m.length = n at *
    clear hn
    go_enter Try.func39, Try.ntmps39
    go_wp2_with fail
    refine HO.out.mono ?_
    rintro e w1 ⟨rfl, rfl⟩
    go_wp2
    go_ret
    exact ⟨30, m, F, rfl, HT.out, Ext.refl _ _, .inl ⟨H1.out, rfl, rfl⟩⟩
  · rw [in_false hk] at HO
    have c2 := h.nil hm
    have HL := hide (layL_any _ F B m HT.out k hm c)
    have HM := hide hm
    clear h hm
    generalize hn : m.length = n at *
    clear hn
    go_enter Try.func39, Try.ntmps39
    go_wp2_with fail
    refine HO.out.mono ?_
    rintro e w1 ⟨rfl, rfl⟩
    go_wp2_with fail
    refine HL.out.mono ?_
    rintro e w2 ⟨rfl, F', hT, hE⟩
    have HT1 := hide hT
    have HE1 := hide hE
    clear hT hE
    go_wp2
    go_ret
    exact ⟨0, _, F', rfl, HT1.out, HE1.out, .inr (.inr ⟨k, rfl, HM.out, rfl, rfl⟩)⟩
  · rw [in_false hk] at HO
    obtain ⟨q, hq1, _, _, _⟩ := h.ptr hm
    have c2 := (h.place hq1).1
    have HM := hide hm
    clear h hm hq1
    simp only [ptr] at c2
    generalize hn : m.length = n at *
    clear hn
    go_enter Try.func39, Try.ntmps39
    go_wp2_with fail
    refine HO.out.mono ?_
    rintro e w1 ⟨rfl, rfl⟩
    go_wp2
    go_ret
    exact ⟨31, m, F, rfl, HT.out, Ext.refl _ _, .inr (.inl ⟨k, x, rfl, HM.out, rfl, rfl⟩)⟩
set_option maxHeartbeats 800000 in
theorem dropL_some (w : World) (F : Nat → Prop) (B : Nat) (m : List (Option Nat)) (h : Tab KL w F B m) (k x : Nat) (hm : m[k]? = some (some x)) :
    Calls Try.prog 73 #[.pointer (some ⟨B, 0, none⟩), .int .i64 k] w fun e w' => e = .returned (.tuple #[.pointer (some ⟨x, 0, none⟩), .bool true]) ∧ Tab KL w' F B (m.set k none) ∧ Ext F w F w' := by
  have HG := hide (getL_any _ F B m h k)
  have hi : look m (k : Int) = some x := by rw [look_nat, hm]; rfl
  rw [hi] at HG
  have hcnt : m.countP Option.isSome ≤ 4096 := Nat.le_trans count_le h.cap
  have hk : k < m.length := (List.getElem?_eq_some_iff.1 hm).1
  obtain ⟨p, ps, h1⟩ := h
  obtain ⟨d0, d1, g0, g1⟩ := h1.cells
  have g2 := h1.frz k
  obtain ⟨q, hq1, d2, hq3, hq4⟩ := h1.ptr hm
  have hne := h1.ne
  have HD := hide (fun t => h1.drop hm (c := t))
  have HM := hide (fun a b => ((Mod.refl F w).setCell (p := ⟨p, k, none⟩) (.inl h1.fp) a).setCell (p := ⟨B, 1, none⟩) (.inl h1.fB) b)
  have hpos : 0 < m.countP Option.isSome := List.countP_pos_iff.2 ⟨_, List.mem_of_getElem? hm, rfl⟩
  clear h1 hq1 hq3 hq4 hm hi
  generalize m.countP Option.isSome = cnt at *
  generalize m.length = n at *
  simp only [ptr, Option.isSome_some] at *
  go_enter Try.func73, Try.ntmps73
  go_wp2_with fail
  refine HG.out.mono ?_
  rintro e w1 ⟨rfl, rfl⟩
  go_wp2
  go_ret2
  exact ⟨rfl, ⟨_, _, HD.out _ rfl⟩, HM.out _ _, fun b hb => .inl hb⟩
end Go.Proofs.Ytimfgjndgfjjgaa

namespace Go.Proofs.Ytimfgjndgfjjgaa
open Go.RowKit

abbrev Lst := List (Option Rc)
structure BookAt (w : World) (F : Nat → Prop) (B T : Nat) (G : Nat → Prop) (m : List (Option Nat)) (fs : Nat → Nat → Prop) (bk : List (Option Lst)) : Prop where
  top : w.heap[B]? = some (.cells #[.pointer (some ⟨T, 0, none⟩)] 75 (0, 0))
  tab : Tab KL w G T m
  len : m.length = 16
  blen : bk.length = 16
  free : ∀ i : Nat, m[i]? = some none → bk[i]? = some none
  held : ∀ (i b : Nat), m[i]? = some (some b) → ∃ l, bk[i]? = some (some l) ∧ l.length = 48 ∧ Tab KR w (fs i) b l
  fB : F B
  fG : ∀ b, G b → F b ∧ b ≠ B
  own : ∀ i c b, m[i]? = some (some c) → fs i b → F b ∧ b ≠ B ∧ ¬ G b
  dis : ∀ i j c d b, m[i]? = some (some c) → m[j]? = some (some d) → fs i b → fs j b → i = j
  lt : ∀ b, F b → b < w.heap.size
/-- a book at block B, its blocks among F, with these lists -/
def Book (w : World) (F : Nat → Prop) (B : Nat) (bk : List (Option Lst)) : Prop := ∃ T G m fs, BookAt w F B T G m fs bk

section
variable {w : World} {F : Nat → Prop} {B T : Nat} {G : Nat → Prop} {m : List (Option Nat)} {fs : Nat → Nat → Prop} {bk : List (Option Lst)}
theorem BookAt.keep (h : BookAt w F B T G m fs bk) {w' : World} (hs : w.heap.size ≤ w'.heap.size) (hk : ∀ b, F b → w'.heap[b]? = w.heap[b]?) : BookAt w' F B T G m fs bk :=
  ⟨by rw [hk B h.fB]; exact h.top, h.tab.keep hs (fun b hb => hk b (h.fG b hb).1), h.len, h.blen, h.free,
   fun i b hi => by obtain ⟨l, h1, h2, h3⟩ := h.held i b hi; exact ⟨l, h1, h2, h3.keep hs (fun c hc => hk c (h.own i b c hi hc).1)⟩,
   h.fB, h.fG, h.own, h.dis, fun b hb => Nat.lt_of_lt_of_le (h.lt b hb) hs⟩
theorem Book.keep (h : Book w F B bk) {w' : World} (hs : w.heap.size ≤ w'.heap.size) (hk : ∀ b, F b → w'.heap[b]? = w.heap[b]?) : Book w' F B bk := by
  obtain ⟨T, G, m, fs, h⟩ := h; exact ⟨T, G, m, fs, h.keep hs hk⟩
theorem Book.lt (h : Book w F B bk) : ∀ b, F b → b < w.heap.size := by obtain ⟨T, G, m, fs, h⟩ := h; exact h.lt
theorem Book.blen (h : Book w F B bk) : bk.length = 16 := by obtain ⟨T, G, m, fs, h⟩ := h; exact h.blen
theorem Book.below (h : Book w F B bk) {w' : World} (hb : Below w.heap.size w w') : Book w' F B bk :=
  h.keep hb.size (fun b hf => hb.block b (h.lt b hf))
theorem BookAt.cell (h : BookAt w F B T G m fs bk) : w.cell? ⟨B, 0, none⟩ = some (.pointer (some ⟨T, 0, none⟩)) := by
  rw [cell_of_row _ _ _ _ _ _ h.top]; rfl
/-- lists are of 48 places -/
theorem BookAt.l48 (h : BookAt w F B T G m fs bk) {i : Nat} {l : Lst} (hi : bk[i]? = some (some l)) : l.length = 48 := by
  have hl : i < m.length := by rw [h.len, ← h.blen]; exact (List.getElem?_eq_some_iff.1 hi).1
  cases hm : m[i] with
  | none => have := h.free i (by rw [List.getElem?_eq_getElem hl, hm]); rw [hi] at this; cases this
  | some b => obtain ⟨l', h1, h2, _⟩ := h.held i b (by rw [List.getElem?_eq_getElem hl, hm]); rw [hi] at h1; cases h1; exact h2
theorem Book.l48 (h : Book w F B bk) {i : Nat} {l : Lst} (hi : bk[i]? = some (some l)) : l.length = 48 := by
  obtain ⟨T, G, m, fs, h⟩ := h; exact h.l48 hi
/-- a list that is open, or not -/
theorem BookAt.cases (h : BookAt w F B T G m fs bk) (e : Int) : (look m e = none ∧ look bk e = none) ∨
    ∃ (k b : Nat) (l : Lst), e = k ∧ m[k]? = some (some b) ∧ bk[k]? = some (some l) ∧ look m e = some b ∧ look bk e = some l ∧ l.length = 48 ∧ Tab KR w (fs k) b l := by
  rcases look_cases m e with ⟨h1, e1⟩ | ⟨k, rfl, hk, hm, e1⟩ | ⟨k, x, rfl, hk, hm, e1⟩
  · exact .inl ⟨e1, look_out bk e (by rw [h.blen, ← h.len]; exact h1)⟩
  · exact .inl ⟨e1, by rw [look_nat, h.free k hm]; rfl⟩
  · obtain ⟨l, h1, h2, h3⟩ := h.held k x hm
    exact .inr ⟨k, x, l, rfl, hm, h1, e1, by rw [look_nat, h1]; rfl, h2, h3⟩
/-- a call on one list -/
theorem BookAt.upd (h : BookAt w F B T G m fs bk) {i b : Nat} (hi : m[i]? = some (some b)) {l' : Lst} (hl : l'.length = 48) {F' : Nat → Prop} {w' : World} (ht : Tab KR w' F' b l') (hx : Ext (fs i) w F' w') :
    BookAt w' (fun x => F x ∨ F' x) B T G m (fun j => if j = i then F' else fs j) (bk.set i (some l')) ∧ Ext F w (fun x => F x ∨ F' x) w' := by
  have hbi : i < bk.length := by rw [h.blen, ← h.len]; exact (List.getElem?_eq_some_iff.1 hi).1
  have hnB : ¬ fs i B := fun hc => (h.own i b B hi hc).2.1 rfl
  have hf' : ∀ x, F' x → fs i x ∨ w.heap.size ≤ x := hx.new
  refine ⟨⟨?_, ?_, h.len, by simpa using h.blen, ?_, ?_, .inl h.fB, fun c hc => ⟨.inl (h.fG c hc).1, (h.fG c hc).2⟩, ?_, ?_, ?_⟩, ⟨?_, ?_⟩⟩
  · rw [hx.mod.block B (h.lt B h.fB) hnB]; exact h.top
  · exact h.tab.keep hx.mod.size (fun c hc => hx.mod.block c (h.tab.lt c hc) (fun hc' => (h.own i b c hi hc').2.2 hc))
  · intro j hj
    rw [List.getElem?_set]
    split
    · rename_i e; subst e; rw [hi] at hj; cases hj
    · exact h.free j hj
  · intro j c hj
    by_cases e : j = i
    · subst e
      rw [hi] at hj; cases hj
      exact ⟨l', by rw [List.getElem?_set]; simp [hbi], hl, by simpa using ht⟩
    · obtain ⟨l, h1, h2, h3⟩ := h.held j c hj
      refine ⟨l, by rw [List.getElem?_set]; rw [if_neg (fun e' => e e'.symm)]; exact h1, h2, ?_⟩
      simp only [if_neg e]
      exact h3.keep hx.mod.size (fun d hd => hx.mod.block d (h3.lt d hd) (fun hd' => e (h.dis j i c b d hj hi hd hd')))
  · intro j c d hj hd
    by_cases e : j = i
    · subst e
      simp only [if_true] at hd
      rcases hf' d hd with h1 | h1
      · exact ⟨.inl (h.own j b d hi h1).1, (h.own j b d hi h1).2⟩
      · exact ⟨.inr hd, fun e' => by subst e'; have := h.lt d h.fB; omega, fun hg => by have := h.tab.lt d hg; omega⟩
    · simp only [if_neg e] at hd
      exact ⟨.inl (h.own j c d hj hd).1, (h.own j c d hj hd).2⟩
  · intro j k c d x hj hk h1 h2
    have aux : ∀ j' c', m[j']? = some (some c') → j' ≠ i → fs j' x → F' x → False := by
      intro j' c' hj' hne h3 h4
      rcases hf' x h4 with h5 | h5
      · exact hne (h.dis j' i c' b x hj' hi h3 h5)
      · have := h.lt x (h.own j' c' x hj' h3).1; omega
    by_cases e1 : j = i <;> by_cases e2 : k = i
    · omega
    · subst e1; simp only [if_true] at h1; simp only [if_neg e2] at h2
      exact (aux k d hk e2 h2 h1).elim
    · subst e2; simp only [if_true] at h2; simp only [if_neg e1] at h1
      exact (aux j c hj e1 h1 h2).elim
    · simp only [if_neg e1] at h1; simp only [if_neg e2] at h2
      exact h.dis j k c d x hj hk h1 h2
  · intro c hc
    rcases hc with hc | hc
    · exact Nat.lt_of_lt_of_le (h.lt c hc) hx.mod.size
    · exact ht.lt c hc
  · exact ⟨hx.mod.os, hx.mod.tape, hx.mod.output, hx.mod.size, fun c hc hf => hx.mod.block c hc (fun h' => hf (h.own i b c hi h').1)⟩
  · intro c hc
    rcases hc with hc | hc
    · exact .inl hc
    · rcases hf' c hc with h1 | h1
      · exact .inl (h.own i b c hi h1).1
      · exact .inr h1
/-- a list is opened -/
theorem BookAt.opn (h : BookAt w F B T G m fs bk) {i b : Nat} (hi : m[i]? = some none) {N : Nat → Prop} {w1 w2 : World} {G' : Nat → Prop} (hN : ∀ x, N x → w.heap.size ≤ x) (hb : Below w.heap.size w w1) (ht : Tab KR w1 N b (List.replicate 48 none)) (hL : Tab KL w2 G' T (m.set i (some b))) (hx : Ext G w1 G' w2) :
    BookAt w2 (fun x => F x ∨ N x ∨ G' x) B T G' (m.set i (some b)) (fun j => if j = i then N else fs j) (bk.set i (some (List.replicate 48 none))) ∧ Ext F w (fun x => F x ∨ N x ∨ G' x) w2 := by
  have hbi : i < bk.length := by rw [h.blen, ← h.len]; exact (List.getElem?_eq_some_iff.1 hi).1
  have hmi : i < m.length := (List.getElem?_eq_some_iff.1 hi).1
  have hg' : ∀ x, G' x → G x ∨ w1.heap.size ≤ x := hx.new
  have old : ∀ c, c < w.heap.size → ¬ G c → w2.heap[c]? = w.heap[c]? := fun c hc hg => (hx.mod.block c (Nat.lt_of_lt_of_le hc hb.size) hg).trans (hb.block c hc)
  refine ⟨⟨?_, hL, by simpa using h.len, by simpa using h.blen, ?_, ?_, .inl h.fB, ?_, ?_, ?_, ?_⟩, ⟨?_, ?_⟩⟩
  · rw [old B (h.lt B h.fB) (fun hg => (h.fG B hg).2 rfl)]; exact h.top
  · intro j hj
    rw [List.getElem?_set] at hj ⊢
    split at hj
    · cases hj
    · rename_i e; rw [if_neg e]; exact h.free j hj
  · intro j c hj
    rw [List.getElem?_set] at hj
    split at hj
    · rename_i e
      subst e
      cases hj
      refine ⟨List.replicate 48 none, by rw [List.getElem?_set, if_pos rfl, if_pos hbi], List.length_replicate, ?_⟩
      simp only [if_true]
      exact ht.keep hx.mod.size (fun d hd => hx.mod.block d (ht.lt d hd) (fun hg => by have := hN d hd; have := h.tab.lt d hg; omega))
    · rename_i e
      obtain ⟨l, h1, h2, h3⟩ := h.held j c hj
      refine ⟨l, by rw [List.getElem?_set, if_neg e]; exact h1, h2, ?_⟩
      simp only [if_neg (fun e' : j = i => e e'.symm)]
      exact h3.keep (Nat.le_trans hb.size hx.mod.size) (fun d hd => old d (h3.lt d hd) (h.own j c d hj hd).2.2)
  · intro c hc
    refine ⟨.inr (.inr hc), fun e => ?_⟩
    subst e
    rcases hg' c hc with h1 | h1
    · exact (h.fG c h1).2 rfl
    · have := h.lt c h.fB; have := hb.size; omega
  · intro j c d hj hd
    rw [List.getElem?_set] at hj
    split at hj
    · rename_i e
      subst e
      simp only [if_true] at hd
      have h1 := hN d hd
      have h2 := ht.lt d hd
      refine ⟨.inr (.inl hd), fun e => by subst e; have := h.lt d h.fB; omega, fun hg => ?_⟩
      rcases hg' d hg with h3 | h3
      · have := h.tab.lt d h3; omega
      · omega
    · rename_i e
      simp only [if_neg (fun e' : j = i => e e'.symm)] at hd
      have h1 := h.own j c d hj hd
      refine ⟨.inl h1.1, h1.2.1, fun hg => ?_⟩
      rcases hg' d hg with h3 | h3
      · exact h1.2.2 h3
      · have := h.lt d h1.1; have := hb.size; omega
  · intro j k c d x hj hk h1 h2
    have aux : ∀ j' c', (m.set i (some b))[j']? = some (some c') → j' ≠ i → fs j' x → N x → False := by
      intro j' c' hj' hne h3 h4
      rw [List.getElem?_set, if_neg (fun e => hne e.symm)] at hj'
      have := hN x h4; have := h.lt x (h.own j' c' x hj' h3).1; omega
    by_cases e1 : j = i <;> by_cases e2 : k = i
    · omega
    · subst e1; simp only [if_true] at h1; simp only [if_neg e2] at h2
      exact (aux k d hk e2 h2 h1).elim
    · subst e2; simp only [if_true] at h2; simp only [if_neg e1] at h1
      exact (aux j c hj e1 h1 h2).elim
    · simp only [if_neg e1] at h1; simp only [if_neg e2] at h2
      rw [List.getElem?_set, if_neg (fun e => e1 e.symm)] at hj
      rw [List.getElem?_set, if_neg (fun e => e2 e.symm)] at hk
      exact h.dis j k c d x hj hk h1 h2
  · intro c hc
    rcases hc with hc | hc | hc
    · exact Nat.lt_of_lt_of_le (h.lt c hc) (Nat.le_trans hb.size hx.mod.size)
    · exact Nat.lt_of_lt_of_le (ht.lt c hc) hx.mod.size
    · exact hL.lt c hc
  · exact ⟨hx.mod.os.trans hb.os, hx.mod.tape.trans hb.tape, hx.mod.output.trans hb.output, Nat.le_trans hb.size hx.mod.size, fun c hc hf => old c hc (fun hg => hf (h.fG c hg).1)⟩
  · intro c hc
    rcases hc with hc | hc | hc
    · exact .inl hc
    · exact .inr (hN c hc)
    · rcases hg' c hc with h1 | h1
      · exact .inl (h.fG c h1).1
      · exact .inr (Nat.le_trans hb.size h1)
/-- a list is closed -/
theorem BookAt.sht (h : BookAt w F B T G m fs bk) {i : Nat} (hi : i < m.length) {w' : World} (hL : Tab KL w' G T (m.set i none)) (hx : Ext G w G w') :
    BookAt w' F B T G (m.set i none) fs (bk.set i none) ∧ Ext F w F w' := by
  have hbi : i < bk.length := by rw [h.blen, ← h.len]; exact hi
  have old : ∀ c, c < w.heap.size → ¬ G c → w'.heap[c]? = w.heap[c]? := fun c hc hg => hx.mod.block c hc hg
  have hs : ∀ (j : Nat) (c : Nat), (m.set i none)[j]? = some (some c) → m[j]? = some (some c) ∧ j ≠ i := by
    intro j c hj
    rw [List.getElem?_set] at hj
    split at hj
    · cases hj
    · rename_i e; exact ⟨hj, fun e' => e e'.symm⟩
  refine ⟨⟨?_, hL, by simpa using h.len, by simpa using h.blen, ?_, ?_, h.fB, h.fG, fun j c d hj hd => h.own j c d (hs j c hj).1 hd, fun j k c d x hj hk => h.dis j k c d x (hs j c hj).1 (hs k d hk).1, fun c hc => Nat.lt_of_lt_of_le (h.lt c hc) hx.mod.size⟩, ⟨?_, fun c hc => .inl hc⟩⟩
  · rw [old B (h.lt B h.fB) (fun hg => (h.fG B hg).2 rfl)]; exact h.top
  · intro j hj
    rw [List.getElem?_set] at hj ⊢
    split
    · rfl
    · rename_i e; rw [if_neg e] at hj; exact h.free j hj
  · intro j c hj
    obtain ⟨h1, h2⟩ := hs j c hj
    obtain ⟨l, h3, h4, h5⟩ := h.held j c h1
    exact ⟨l, by rw [List.getElem?_set, if_neg (fun e => h2 e.symm)]; exact h3, h4, h5.keep hx.mod.size (fun d hd => old d (h5.lt d hd) (h.own j c d h1 hd).2.2)⟩
  · exact ⟨hx.mod.os, hx.mod.tape, hx.mod.output, hx.mod.size, fun c hc hf => old c hc (fun hg => hf (h.fG c hg).1)⟩
end
end Go.Proofs.Ytimfgjndgfjjgaa

namespace Go.Proofs.Ytimfgjndgfjjgaa
open Go.RowKit

set_option maxHeartbeats 400000 in
theorem nowhere_any (w : World) : Calls Try.prog 36 #[] w fun e w' => e = .returned (.agg #[.int .i64 (-1), .int .i64 (-1)]) ∧ Below w.heap.size w w' := by
  have hb := fun o => (Below.refl w.heap.size w).alloc (Nat.le_refl _) o
  go_enter Try.func36, Try.ntmps36
  go_wp2
  go_returns
  exact ⟨rfl, hb _⟩
set_option maxHeartbeats 400000 in
theorem parent_any (w : World) (r : Rc) : Calls Try.prog 37 #[r.val] w fun e w' => e = .returned (.agg #[.int .i64 r.e, .int .i64 r.t]) ∧ Below w.heap.size w w' := by
  have hb := fun o o' => ((Below.refl w.heap.size w).alloc (Nat.le_refl _) o).alloc (by simp) o'
  simp only [Rc.val]
  go_enter Try.func37, Try.ntmps37
  go_wp2
  go_returns
  exact ⟨rfl, hb _ _⟩
set_option maxHeartbeats 400000 in
theorem object_any (w : World) (r : Rc) : Calls Try.prog 46 #[r.val] w fun e w' => e = .returned (.agg #[.int .i64 r.k, .int .i64 r.o]) ∧ Below w.heap.size w w' := by
  have hb := fun o o' => ((Below.refl w.heap.size w).alloc (Nat.le_refl _) o).alloc (by simp) o'
  simp only [Rc.val]
  go_enter Try.func46, Try.ntmps46
  go_wp2
  go_returns
  exact ⟨rfl, hb _ _⟩
set_option maxHeartbeats 400000 in
theorem has_any (w : World) (r : Rc) (x : Int) : Calls Try.prog 33 #[r.val, .int .i64 x] w fun e w' => e = .returned (.bool (bits .andNot .i64 x r.r == 0)) ∧ Below w.heap.size w w' := by
  have hb := fun o => (Below.refl w.heap.size w).alloc (Nat.le_refl _) o
  simp only [Rc.val]
  go_enter Try.func33, Try.ntmps33
  go_wp2
  go_ret
  exact ⟨rfl, hb _⟩
set_option maxHeartbeats 400000 in
theorem isAim_any (w : World) (x : Int) : Calls Try.prog 31 #[.int .i64 x] w fun e w' => e = .returned (.bool (decide (-1 ≤ x ∧ x < 48))) ∧ w' = w := by
  by_cases h1 : -1 ≤ x
  · have e : decide (-1 ≤ x ∧ x < 48) = decide (x < 48) := by simp [h1]
    rw [e]
    go_enter Try.func31, Try.ntmps31
    go_wp2
    go_ret
    exact ⟨rfl, rfl⟩
  · have e : decide (-1 ≤ x ∧ x < 48) = false := by simp [h1]
    rw [e]
    go_enter Try.func31, Try.ntmps31
    go_wp2
    go_ret
    exact ⟨rfl, rfl⟩
set_option maxHeartbeats 400000 in
theorem areRights_any (w : World) (x : Int) : Calls Try.prog 32 #[.int .i64 x] w fun e w' => e = .returned (.bool (decide (0 ≤ x ∧ x ≤ 15))) ∧ w' = w := by
  by_cases h1 : 0 ≤ x
  · have e : decide (0 ≤ x ∧ x ≤ 15) = decide (x ≤ 15) := by simp [h1]
    rw [e]
    go_enter Try.func32, Try.ntmps32
    go_wp2
    go_ret
    exact ⟨rfl, rfl⟩
  · have e : decide (0 ≤ x ∧ x ≤ 15) = false := by simp [h1]
    rw [e]
    go_enter Try.func32, Try.ntmps32
    go_wp2
    go_ret
    exact ⟨rfl, rfl⟩
/-- what lies at a slot of a list -/
def atB (bk : List (Option Lst)) (e s : Int) : Option Rc := (look bk e).bind (fun l => look l s)
/-- the code of a looking up -/
def lcode (bk : List (Option Lst)) (e s : Int) : Int := if (look bk e).isNone then 83 else if (atB bk e s).isNone then 80 else 0
theorem lcode_closed {bk : List (Option Lst)} {e s : Int} (h : look bk e = none) : lcode bk e s = 83 ∧ atB bk e s = none := by simp [lcode, atB, h]
theorem lcode_free {bk : List (Option Lst)} {e s : Int} {l : Lst} (h : look bk e = some l) (h2 : look l s = none) : lcode bk e s = 80 ∧ atB bk e s = none := by simp [lcode, atB, h, h2]
theorem lcode_held {bk : List (Option Lst)} {e s : Int} {l : Lst} {r : Rc} (h : look bk e = some l) (h2 : look l s = some r) : lcode bk e s = 0 ∧ atB bk e s = some r := by simp [lcode, atB, h, h2]
theorem below_six {B : Nat} {a w : World} (h : Below B a w) {b : Nat} (hb : B ≤ b) (y0 y1 y2 y3 y4 y5 : Value) :
    Below B a ((((((w.setCell ⟨b, 0, none⟩ y0).setCell ⟨b, 1, none⟩ y1).setCell ⟨b, 2, none⟩ y2).setCell ⟨b, 3, none⟩ y3).setCell ⟨b, 4, none⟩ y4).setCell ⟨b, 5, none⟩ y5) :=
  (((((h.setCell (p := ⟨b, 0, none⟩) hb _).setCell (p := ⟨b, 1, none⟩) hb _).setCell (p := ⟨b, 2, none⟩) hb _).setCell (p := ⟨b, 3, none⟩) hb _).setCell (p := ⟨b, 4, none⟩) hb _).setCell (p := ⟨b, 5, none⟩) hb _
set_option maxHeartbeats 1600000 in
theorem look_any (w : World) (F : Nat → Prop) (B : Nat) (bk : List (Option Lst)) (h : Book w F B bk) (e s : Int) :
    Calls Try.prog 30 #[.pointer (some ⟨B, 0, none⟩), .int .i64 e, .int .i64 s] w fun x w' => x = .returned (.tuple #[((atB bk e s).getD Rc.zero).val, .int .i64 (lcode bk e s)]) ∧ Below w.heap.size w w' := by
  have HA := hide (fun o => h.below ((Below.refl w.heap.size w).alloc (Nat.le_refl _) o))
  have hbel1 : ∀ a, Below w.heap.size w (w.alloc a) := fun a => (Below.refl _ _).alloc (Nat.le_refl _) _
  obtain ⟨T, G, m, fs, h⟩ := h
  have hA := fun o => h.keep (w' := w.alloc o) (by simp) (fun b hb => Below.heap_alloc _ _ _ (h.lt b hb))
  have c0 := fun o => (hA o).cell
  have HG := hide (fun o => getL_any _ G T m (hA o).tab e)
  rcases h.cases e with ⟨h1, h2⟩ | ⟨k, b, l, rfl, h1, h2, h3, h4, h5, h6⟩
  · obtain ⟨e1, e2⟩ := lcode_closed (s := s) h2
    rw [e1, e2]
    rw [h1] at HG
    simp only [ptr, Option.isSome_none] at HG
    clear h hA h1 h2 e1 e2 HA
    simp only [Rc.val, Rc.zero, Option.getD_none]
    go_enter Try.func30, Try.ntmps30
    go_wp2_with fail
    refine (HG.out _).mono ?_
    rintro e w1 ⟨rfl, rfl⟩
    go_wp2
    go_returns
    exact ⟨rfl, hbel1 _⟩
  · rw [h3] at HG
    simp only [ptr, Option.isSome_some] at HG
    have HR := hide (fun o => getR_any _ (fs k) b l (h6.below ((Below.refl w.heap.size w).alloc (Nat.le_refl _) o)) s)
    cases hl : look l s with
    | none =>
      obtain ⟨e1, e2⟩ := lcode_free h4 hl
      rw [e1, e2]
      rw [hl] at HR
      clear h hA h1 h2 e1 e2 HA h3 h4 h5 h6 hl
      simp only [Rc.val, Rc.zero, Option.getD_none, Option.isSome_none] at *
      go_enter Try.func30, Try.ntmps30
      go_wp2_with fail
      refine (HG.out _).mono ?_
      rintro e w1 ⟨rfl, rfl⟩
      go_wp2_with fail
      refine (HR.out _).mono ?_
      rintro e w2 ⟨rfl, hb2⟩
      have hR := (hb2.block w.heap.size (by simp)).trans (heap_alloc_new w _)
      have HB2 := hide ((hbel1 _).trans (hb2.mono (by simp)))
      have hlt : w.heap.size < w2.heap.size := (Array.getElem?_eq_some_iff.1 hR).1
      clear hb2 HR HG
      go_upto_region 6 with fail
      have hX : (w2.alloc (Obj.cells #[.int .i64 0, .int .i64 0, .int .i64 0, .int .i64 0, .int .i64 0, .int .i64 0] 78)).heap[w2.heap.size]? = some (Obj.cells #[.int .i64 0, .int .i64 0, .int .i64 0, .int .i64 0, .int .i64 0, .int .i64 0] 78 (0, 0)) := heap_alloc_new _ _
      have hY := (Below.heap_alloc w2 (Obj.cells #[.int .i64 0, .int .i64 0, .int .i64 0, .int .i64 0, .int .i64 0, .int .i64 0] 78) w.heap.size hlt).trans hR
      have HB3 := hide (HB2.out.alloc (Nat.le_of_lt hlt) (Obj.cells #[.int .i64 0, .int .i64 0, .int .i64 0, .int .i64 0, .int .i64 0, .int .i64 0] 78))
      generalize w2.alloc (Obj.cells #[.int .i64 0, .int .i64 0, .int .i64 0, .int .i64 0, .int .i64 0, .int .i64 0] 78) = W at *
      clear hR HB2
      obtain ⟨d0, d1, d2, d3, d4, d5, f0, f1, f2, f3, f4, f5⟩ := blk6 hY
      obtain ⟨x0, x1, x2, x3, x4, x5, _, _, _, _, _, _⟩ := blk6 hX
      have HS := hide (fun a b c d e f => set6 hY a b c d e f)
      clear hX hY
      go_wp2
      refine bodyPost_ret (results_row2 rfl _ _ w.heap.size 78 #[.int .i64 0, .int .i64 0, .int .i64 0, .int .i64 0, .int .i64 0, .int .i64 0] (0, 0) _ rfl (HS.out _ _ _ _ _ _) Try.underlying78 rfl (by kernel_rfl)) rfl ?_
      exact ⟨rfl, below_six HB3.out (Nat.le_refl _) _ _ _ _ _ _⟩
    | some r =>
      obtain ⟨e1, e2⟩ := lcode_held h4 hl
      rw [e1, e2]
      rw [hl] at HR
      clear h hA h1 h2 e1 e2 HA h3 h4 h5 h6 hl
      simp only [Rc.val, Rc.zero, Option.getD_some, Option.isSome_some] at *
      go_enter Try.func30, Try.ntmps30
      go_wp2_with fail
      refine (HG.out _).mono ?_
      rintro e w1 ⟨rfl, rfl⟩
      go_wp2_with fail
      refine (HR.out _).mono ?_
      rintro e w2 ⟨rfl, hb2⟩
      have hR := (hb2.block w.heap.size (by simp)).trans (heap_alloc_new w _)
      have HB2 := hide ((hbel1 _).trans (hb2.mono (by simp)))
      have hlt : w.heap.size < w2.heap.size := (Array.getElem?_eq_some_iff.1 hR).1
      clear hb2 HR HG
      go_upto_region 7 with fail
      have hX : (w2.alloc (Obj.cells #[.int .i64 r.k, .int .i64 r.o, .int .i64 r.s, .int .i64 r.r, .int .i64 r.e, .int .i64 r.t] 78)).heap[w2.heap.size]? = some (Obj.cells #[.int .i64 r.k, .int .i64 r.o, .int .i64 r.s, .int .i64 r.r, .int .i64 r.e, .int .i64 r.t] 78 (0, 0)) := heap_alloc_new _ _
      have hY := (Below.heap_alloc w2 (Obj.cells #[.int .i64 r.k, .int .i64 r.o, .int .i64 r.s, .int .i64 r.r, .int .i64 r.e, .int .i64 r.t] 78) w.heap.size hlt).trans hR
      have HB3 := hide (HB2.out.alloc (Nat.le_of_lt hlt) (Obj.cells #[.int .i64 r.k, .int .i64 r.o, .int .i64 r.s, .int .i64 r.r, .int .i64 r.e, .int .i64 r.t] 78))
      generalize w2.alloc (Obj.cells #[.int .i64 r.k, .int .i64 r.o, .int .i64 r.s, .int .i64 r.r, .int .i64 r.e, .int .i64 r.t] 78) = W at *
      clear hR HB2
      obtain ⟨d0, d1, d2, d3, d4, d5, f0, f1, f2, f3, f4, f5⟩ := blk6 hY
      obtain ⟨x0, x1, x2, x3, x4, x5, _, _, _, _, _, _⟩ := blk6 hX
      have HS := hide (fun a b c d e f => set6 hY a b c d e f)
      clear hX hY
      go_wp2
      refine bodyPost_ret (results_row2 rfl _ _ w.heap.size 78 #[.int .i64 r.k, .int .i64 r.o, .int .i64 r.s, .int .i64 r.r, .int .i64 r.e, .int .i64 r.t] (0, 0) _ rfl (HS.out _ _ _ _ _ _) Try.underlying78 rfl (by kernel_rfl)) rfl ?_
      exact ⟨rfl, below_six HB3.out (Nat.le_refl _) _ _ _ _ _ _⟩
end Go.Proofs.Ytimfgjndgfjjgaa

namespace Go.Proofs.Ytimfgjndgfjjgaa
open Go.RowKit

/-- numbers that may be a capability's -/
def mb (k o s r : Int) : Prop := 1 ≤ k ∧ k ≤ 3 ∧ 0 ≤ o ∧ o ≤ 4611686018427387903 ∧ 1 ≤ s ∧ s ≤ 4611686018427387903 ∧ 0 ≤ r ∧ r ≤ 15
instance (k o s r : Int) : Decidable (mb k o s r) := by unfold mb; infer_instance
set_option maxHeartbeats 1600000 in
theorem mayBe_any (w : World) (k o s r : Int) : Calls Try.prog 41 #[.agg #[.int .i64 k, .int .i64 o, .int .i64 s, .int .i64 r]] w fun e w' => e = .returned (.bool (decide (mb k o s r))) ∧ Below w.heap.size w w' := by
  have hb := fun o => (Below.refl w.heap.size w).alloc (Nat.le_refl _) o
  have HR := hide (fun W => areRights_any W r)
  by_cases h1 : 1 ≤ k
  · by_cases h2 : k ≤ 3
    · by_cases h3 : 0 ≤ o
      · by_cases h4 : o ≤ 4611686018427387903
        · by_cases h5 : 1 ≤ s
          · by_cases h6 : s ≤ 4611686018427387903
            · have e : decide (mb k o s r) = (decide (0 ≤ r) && decide (r ≤ 15)) := by unfold mb; simp [h1, h2, h3, h4, h5, h6]
              rw [e]
              go_enter Try.func41, Try.ntmps41
              go_wp2_with fail
              refine (HR.out _).mono ?_
              rintro e w1 ⟨rfl, rfl⟩
              go_wp2
              go_ret
              exact ⟨rfl, hb _⟩
            · have e : decide (mb k o s r) = false := by unfold mb; simp [h6]
              rw [e]
              go_enter Try.func41, Try.ntmps41
              go_wp2
              go_ret
              exact ⟨rfl, hb _⟩
          · have e : decide (mb k o s r) = false := by unfold mb; simp [h5]
            rw [e]
            go_enter Try.func41, Try.ntmps41
            go_wp2
            go_ret
            exact ⟨rfl, hb _⟩
        · have e : decide (mb k o s r) = false := by unfold mb; simp [h4]
          rw [e]
          go_enter Try.func41, Try.ntmps41
          go_wp2
          go_ret
          exact ⟨rfl, hb _⟩
      · have e : decide (mb k o s r) = false := by unfold mb; simp [h3]
        rw [e]
        go_enter Try.func41, Try.ntmps41
        go_wp2
        go_ret
        exact ⟨rfl, hb _⟩
    · have e : decide (mb k o s r) = false := by unfold mb; simp [h2]
      rw [e]
      go_enter Try.func41, Try.ntmps41
      go_wp2
      go_ret
      exact ⟨rfl, hb _⟩
  · have e : decide (mb k o s r) = false := by unfold mb; simp [h1]
    rw [e]
    go_enter Try.func41, Try.ntmps41
    go_wp2
    go_ret
    exact ⟨rfl, hb _⟩

/-- what lay does -/
def LayR (l : Lst) (a : Int) (r : Rc) (v c : Int) (l' : Lst) : Prop :=
  (∃ k : Nat, k < l.length ∧ l[k]? = some none ∧ v = k ∧ c = 0 ∧ l' = l.set k (some r) ∧ ((a < 0 ∧ k = ff l) ∨ a = k)) ∨
  (v = -1 ∧ l' = l ∧ ((a < 0 ∧ ff l = l.length ∧ c = 2) ∨ (0 ≤ a ∧ (l.length : Int) ≤ a ∧ c = 30) ∨ (0 ≤ a ∧ (∃ x, look l a = some x) ∧ c = 31)))
theorem LayR.len {l : Lst} {a : Int} {r : Rc} {v c : Int} {l' : Lst} (h : LayR l a r v c l') : l'.length = l.length := by
  rcases h with ⟨k, _, _, _, _, rfl, _⟩ | ⟨_, rfl, _⟩
  · simp
  · rfl
set_option maxHeartbeats 1600000 in
theorem lay_any (w : World) (F : Nat → Prop) (B : Nat) (l : Lst) (h : Tab KR w F B l) (a : Int) (r : Rc) :
    Calls Try.prog 34 #[.pointer (some ⟨B, 0, none⟩), .int .i64 a, r.val] w fun x w' => ∃ (v c : Int) (l' : Lst) (F' : Nat → Prop), x = .returned (.tuple #[.int .i64 v, .int .i64 c]) ∧ Tab KR w' F' B l' ∧ Ext F w F' w' ∧ LayR l a r v c l' := by
  have hb := fun o => (Below.refl w.heap.size w).alloc (Nat.le_refl _) o
  have HB := hide (fun o => (⟨(Mod.refl F w).alloc o, fun _ h => .inl h⟩ : Ext F w F (w.alloc o)))
  by_cases ha : a < 0
  · have HP := hide (fun o => putR_any _ F B l (h.below (hb o)) r)
    have hf := ff_le l
    simp only [Rc.val] at HP ⊢
    go_enter Try.func34, Try.ntmps34
    go_wp2_with fail
    refine (HP.out _).mono ?_
    rintro e w1 ⟨h1, h2⟩
    rcases Nat.lt_or_eq_of_le hf with hf' | hf'
    · obtain ⟨rfl, F', hT, hE⟩ := h1 hf'
      have K1 := hide hT
      have K2 := hide ((HB.out _).trans hE)
      have K3 := hide hf'
      clear h h1 h2 hT hE hf hf' HP HB hb
      go_wp2
      go_ret2
      exact ⟨_, _, _, _, rfl, K1.out, K2.out, .inl ⟨ff l, K3.out, ff_free K3.out, rfl, rfl, rfl, .inl ⟨ha, rfl⟩⟩⟩
    · obtain ⟨rfl, hT, hE⟩ := h2 hf'
      have K1 := hide hT
      have K2 := hide ((HB.out _).trans hE)
      have K3 := hide hf'
      clear h h1 h2 hT hE hf hf' HP HB hb
      go_wp2
      go_ret2
      exact ⟨_, _, _, _, rfl, K1.out, K2.out, .inr ⟨rfl, rfl, .inl ⟨ha, K3.out, rfl⟩⟩⟩
  · have HP := hide (fun o => putAtR_any _ F B l (h.below (hb o)) a r)
    simp only [Rc.val] at HP ⊢
    go_enter Try.func34, Try.ntmps34
    go_wp2_with fail
    refine (HP.out _).mono ?_
    rintro e w1 ⟨v, m', F', rfl, hT, hE, h3⟩
    have K1 := hide hT
    have K2 := hide ((HB.out _).trans hE)
    clear h hT hE HP HB hb
    rcases h3 with ⟨h3, rfl, rfl⟩ | ⟨k, x, rfl, h4, rfl, rfl⟩ | ⟨k, rfl, h4, rfl, rfl⟩
    · have K3 := hide h3
      clear h3
      go_wp2
      go_ret2
      exact ⟨_, _, _, _, rfl, K1.out, K2.out, .inr ⟨rfl, rfl, .inr (.inl ⟨by omega, by have := K3.out; omega, rfl⟩)⟩⟩
    · have K3 := hide h4
      clear h4
      go_wp2
      go_ret2
      exact ⟨_, _, _, _, rfl, K1.out, K2.out, .inr ⟨rfl, rfl, .inr (.inr ⟨by omega, ⟨x, by rw [look_nat, K3.out]; rfl⟩, rfl⟩)⟩⟩
    · have K3 := hide h4
      clear h4
      go_wp2
      go_ret2
      exact ⟨_, _, _, _, rfl, K1.out, K2.out, .inl ⟨k, (List.getElem?_eq_some_iff.1 K3.out).1, K3.out, rfl, rfl, rfl, .inr rfl⟩⟩
set_option maxHeartbeats 1600000 in
theorem new_any (w : World) : Calls Try.prog 14 #[] w fun e w' => ∃ B F, e = .returned (.pointer (some ⟨B, 0, none⟩)) ∧ Book w' F B (List.replicate 16 none) ∧ (∀ b, F b → w.heap.size ≤ b) ∧ Below w.heap.size w w' := by
  go_enter Try.func14, Try.ntmps14
  go_wp2_with fail
  refine (newL_any _).mono ?_
  rintro e w1 ⟨rfl, hT, hb⟩
  have H1 := hide hT
  have H2 := hide hb
  clear hT hb
  go_wp2
  go_ret
  refine ⟨_, fun b => b = w.heap.size ∨ b = w.heap.size + 1 ∨ b = w1.heap.size, rfl, ⟨w.heap.size + 1, fun b => b = w.heap.size ∨ b = w.heap.size + 1, List.replicate 16 none, fun _ _ => False, ?_⟩, fun b hb => ?_, H2.out.alloc H2.out.size _⟩
  · have hlt := H1.out.lt (w.heap.size + 1) (.inr rfl)
    have hfr : ∀ i : Nat, (List.replicate 16 (none : Option Nat))[i]? = some none → (List.replicate 16 (none : Option Lst))[i]? = some none := by
      intro i hi; rw [List.getElem?_replicate] at hi ⊢; split <;> simp_all
    have hno : ∀ (i b : Nat), (List.replicate 16 (none : Option Nat))[i]? ≠ some (some b) := by
      intro i b hi; rw [List.getElem?_replicate] at hi; split at hi <;> cases hi
    refine ⟨heap_alloc_new _ _, H1.out.below ((Below.refl _ _).alloc (Nat.le_refl _) _), List.length_replicate, List.length_replicate, hfr, fun i b hi => (hno i b hi).elim, .inr (.inr rfl), fun b hb => ?_, fun i c b hi => (hno i c hi).elim, fun i j c d b hi => (hno i c hi).elim, fun b hb => ?_⟩
    · rcases hb with rfl | rfl
      · exact ⟨.inl rfl, by omega⟩
      · exact ⟨.inr (.inl rfl), by omega⟩
    · simp; rcases hb with rfl | rfl | rfl <;> omega
  · have := H2.out.size; rcases hb with rfl | rfl | rfl <;> omega
end Go.Proofs.Ytimfgjndgfjjgaa
