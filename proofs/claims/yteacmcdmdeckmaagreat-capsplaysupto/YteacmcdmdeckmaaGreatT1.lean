import Derived.Test.YteacmcdmdeckmaaGreatRows
import Derived.WalkKit
import Derived.Handy
import Derived.WalkSpells
import Derived.WalkLawsBesides
import Derived.Deep.RegionLaw
import Derived.Deep.WholeRow
import Derived.Laws.OwnMore
namespace Go.Proofs.YteacmcdmdeckmaaGreat
open Go.RowKit

theorem hide {p : Prop} (h : p) : Hid p := h

/-- the types of a table's struct, of its places' pointers, of its values; how a value lies in memory -/
structure Knd (α : Type) where
  S : TypeId
  P : TypeId
  E : TypeId
  enc : α → Array Value
def ptr : Option Nat → Value
  | none => .pointer none
  | some q => .pointer (some ⟨q, 0, none⟩)

/-- what a call on a table with the blocks F leaves of the rest -/
structure Mod (F : Nat → Prop) (w w' : World) : Prop where
  os : w'.os = w.os
  tape : w'.tape = w.tape
  output : w'.output = w.output
  size : w.heap.size ≤ w'.heap.size
  block : ∀ b, b < w.heap.size → ¬ F b → w'.heap[b]? = w.heap[b]?
/-- and the table's blocks behind it are F' -/
structure Ext (F : Nat → Prop) (w : World) (F' : Nat → Prop) (w' : World) : Prop where
  mod : Mod F w w'
  new : ∀ b, F' b → F b ∨ w.heap.size ≤ b

theorem Mod.refl (F : Nat → Prop) (w : World) : Mod F w w := ⟨rfl, rfl, rfl, Nat.le_refl _, fun _ _ _ => rfl⟩
theorem Mod.trans {F : Nat → Prop} {a b c : World} (h : Mod F a b) (k : Mod F b c) : Mod F a c :=
  ⟨k.os.trans h.os, k.tape.trans h.tape, k.output.trans h.output, Nat.le_trans h.size k.size, fun i hi hf => (k.block i (Nat.lt_of_lt_of_le hi h.size) hf).trans (h.block i hi hf)⟩
theorem Mod.alloc {F : Nat → Prop} {a w : World} (h : Mod F a w) (o : Obj) : Mod F a (w.alloc o) :=
  h.trans ⟨rfl, rfl, rfl, by simp, fun k hk _ => Below.heap_alloc _ _ _ (by omega)⟩
theorem Mod.setCell {F : Nat → Prop} {a w : World} (h : Mod F a w) {p : Addr} (hp : F p.block ∨ a.heap.size ≤ p.block) (u : Value) : Mod F a (w.setCell p u) :=
  ⟨h.os, h.tape, h.output, by simp [World.setCell]; exact h.size, fun k hk hf => by
    rw [Below.heap_setCell _ _ _ _ (fun e => by subst e; rcases hp with hp | hp; exact hf hp; omega)]; exact h.block k hk hf⟩
theorem Mod.drew {F : Nat → Prop} {a w : World} (h : Mod F a w) : Mod F a w.drew := ⟨h.os, h.tape, h.output, h.size, h.block⟩
theorem Mod.of_below {F : Nat → Prop} {a w : World} (h : Below a.heap.size a w) : Mod F a w := ⟨h.os, h.tape, h.output, h.size, fun k hk _ => h.block k hk⟩
theorem Mod.below {F : Nat → Prop} {a w : World} {B : Nat} (h : Mod F a w) (hF : ∀ b, F b → B ≤ b) (hB : B ≤ a.heap.size) : Below B a w :=
  ⟨h.os, h.tape, h.output, h.size, fun k hk => h.block k (by omega) (fun hf => by have := hF k hf; omega)⟩
theorem Ext.refl (F : Nat → Prop) (w : World) : Ext F w F w := ⟨Mod.refl _ _, fun _ h => .inl h⟩
theorem Ext.trans {F F' F'' : Nat → Prop} {a b c : World} (h : Ext F a F' b) (k : Ext F' b F'' c) : Ext F a F'' c :=
  ⟨⟨k.mod.os.trans h.mod.os, k.mod.tape.trans h.mod.tape, k.mod.output.trans h.mod.output, Nat.le_trans h.mod.size k.mod.size, fun i hi hf => by
      rw [k.mod.block i (Nat.lt_of_lt_of_le hi h.mod.size) (fun h' => by rcases h.new i h' with h1 | h1; exact hf h1; omega)]
      exact h.mod.block i hi hf⟩,
   fun i h' => by
      rcases k.new i h' with h1 | h1
      · exact h.new i h1
      · exact .inr (Nat.le_trans h.mod.size h1)⟩
theorem Ext.low {F F' : Nat → Prop} {a w : World} {B : Nat} (h : Ext F a F' w) (hF : ∀ b, F b → B ≤ b) (hB : B ≤ a.heap.size) : ∀ b, F' b → B ≤ b := by
  intro b hb; rcases h.new b hb with h1 | h1
  · exact hF b h1
  · omega

structure TabAt {α : Type} (K : Knd α) (w : World) (F : Nat → Prop) (B p : Nat) (ps : List (Option Nat)) (m : List (Option α)) : Prop where
  top : w.heap[B]? = some (.cells #[.slice (some ⟨p, 0, none⟩) m.length m.length, .int .i64 ((m.countP Option.isSome : Nat) : Int)] K.S (0, 0))
  row : w.heap[p]? = some (.cells (ps.map ptr).toArray K.P (0, 0))
  len : ps.length = m.length
  free : ∀ (i : Nat), m[i]? = some none → ps[i]? = some none
  held : ∀ (i : Nat) (x : α), m[i]? = some (some x) → ∃ q, ps[i]? = some (some q) ∧ w.heap[q]? = some (.cells (K.enc x) K.E (0, 0)) ∧ F q ∧ q ≠ B ∧ q ≠ p
  inj : ∀ (i j q : Nat), ps[i]? = some (some q) → ps[j]? = some (some q) → i = j
  fB : F B
  fp : F p
  ne : p ≠ B
  lt : ∀ b, F b → b < w.heap.size
  cap : m.length ≤ 4096
/-- a table at block B, its blocks among F, with m in its places -/
def Tab {α : Type} (K : Knd α) (w : World) (F : Nat → Prop) (B : Nat) (m : List (Option α)) : Prop := ∃ p ps, TabAt K w F B p ps m

section
variable {α : Type} {K : Knd α} {w : World} {F : Nat → Prop} {B p : Nat} {ps : List (Option Nat)} {m : List (Option α)}

theorem TabAt.keep (h : TabAt K w F B p ps m) {w' : World} (hs : w.heap.size ≤ w'.heap.size) (hk : ∀ b, F b → w'.heap[b]? = w.heap[b]?) : TabAt K w' F B p ps m :=
  ⟨by rw [hk B h.fB]; exact h.top, by rw [hk p h.fp]; exact h.row, h.len, h.free,
   fun i x hx => by obtain ⟨q, h1, h2, h3, h4⟩ := h.held i x hx; exact ⟨q, h1, by rw [hk q h3]; exact h2, h3, h4⟩,
   h.inj, h.fB, h.fp, h.ne, fun b hb => Nat.lt_of_lt_of_le (h.lt b hb) hs, h.cap⟩
theorem Tab.keep (h : Tab K w F B m) {w' : World} (hs : w.heap.size ≤ w'.heap.size) (hk : ∀ b, F b → w'.heap[b]? = w.heap[b]?) : Tab K w' F B m := by
  obtain ⟨p, ps, h⟩ := h; exact ⟨p, ps, h.keep hs hk⟩
theorem Tab.lt (h : Tab K w F B m) : ∀ b, F b → b < w.heap.size := by obtain ⟨p, ps, h⟩ := h; exact h.lt
theorem Tab.fB (h : Tab K w F B m) : F B := by obtain ⟨p, ps, h⟩ := h; exact h.fB
theorem Tab.cap (h : Tab K w F B m) : m.length ≤ 4096 := by obtain ⟨p, ps, h⟩ := h; exact h.cap
theorem Tab.below (h : Tab K w F B m) {w' : World} (hb : Below w.heap.size w w') : Tab K w' F B m :=
  h.keep hb.size (fun b hf => hb.block b (h.lt b hf))
/-- another table's calls leave this one -/
theorem Tab.apart (h : Tab K w F B m) {G G' : Nat → Prop} {w' : World} (hx : Ext G w G' w') (hd : ∀ b, F b → ¬ G b) : Tab K w' F B m :=
  h.keep hx.mod.size (fun b hf => hx.mod.block b (h.lt b hf) (hd b hf))

theorem add0 (g j : Nat) : (⟨g, 0, none⟩ : Addr).add j = ⟨g, j, none⟩ := by unfold Addr.add; split <;> simp_all

theorem TabAt.cells (h : TabAt K w F B p ps m) :
    w.cell? ⟨B, 0, none⟩ = some (.slice (some ⟨p, 0, none⟩) m.length m.length) ∧ w.cell? ⟨B, 1, none⟩ = some (.int .i64 ((m.countP Option.isSome : Nat) : Int)) ∧
    w.frozen? ⟨B, 0, none⟩ = false ∧ w.frozen? ⟨B, 1, none⟩ = false :=
  ⟨by rw [cell_of_row _ _ _ _ _ _ h.top]; rfl, by rw [cell_of_row _ _ _ _ _ _ h.top]; rfl, frozen_of_row w B 0 _ _ h.top, frozen_of_row w B 1 _ _ h.top⟩
theorem TabAt.place (h : TabAt K w F B p ps m) {i : Nat} {o : Option Nat} (ho : ps[i]? = some o) : w.cell? ⟨p, i, none⟩ = some (ptr o) ∧ w.frozen? ⟨p, i, none⟩ = false :=
  ⟨by rw [cell_of_row _ _ _ _ _ _ h.row]; simp [ho], frozen_of_row w p i _ _ h.row⟩
theorem TabAt.nil (h : TabAt K w F B p ps m) {i : Nat} (hi : m[i]? = some none) : w.cell? ⟨p, i, none⟩ = some (.pointer none) := (h.place (h.free i hi)).1
theorem TabAt.ptr (h : TabAt K w F B p ps m) {i : Nat} {x : α} (hi : m[i]? = some (some x)) : ∃ q, ps[i]? = some (some q) ∧ w.cell? ⟨p, i, none⟩ = some (.pointer (some ⟨q, 0, none⟩)) ∧ w.heap[q]? = some (.cells (K.enc x) K.E (0, 0)) ∧ F q := by
  obtain ⟨q, h1, h2, h3, _⟩ := h.held i x hi
  exact ⟨q, h1, (h.place h1).1, h2, h3⟩
theorem TabAt.frz (h : TabAt K w F B p ps m) (i : Nat) : w.frozen? ⟨p, i, none⟩ = false := frozen_of_row w p i _ _ h.row

theorem count_lay {i : Nat} (hi : m[i]? = some none) (x : α) : (m.set i (some x)).countP Option.isSome = m.countP Option.isSome + 1 := by
  obtain ⟨hl, e⟩ := List.getElem?_eq_some_iff.1 hi
  rw [List.countP_set hl, e]; simp
theorem count_drop {i : Nat} {x : α} (hi : m[i]? = some (some x)) : (m.set i none).countP Option.isSome + 1 = m.countP Option.isSome := by
  obtain ⟨hl, e⟩ := List.getElem?_eq_some_iff.1 hi
  have hp : 0 < m.countP Option.isSome := List.countP_pos_iff.2 ⟨m[i], List.getElem_mem hl, by rw [e]; rfl⟩
  rw [List.countP_set hl, e]; simp; omega
theorem count_le : m.countP Option.isSome ≤ m.length := List.countP_le_length

theorem set_ptr (ps : List (Option Nat)) (i : Nat) (o : Option Nat) : ((ps.map ptr).toArray).setIfInBounds i (ptr o) = ((ps.set i o).map ptr).toArray := by
  rw [List.map_set]; simp

/-- what lay leaves -/
theorem TabAt.lay (h : TabAt K w F B p ps m) {i : Nat} (hi : m[i]? = some none) (x : α) {c : Int} (hc : c = ((m.countP Option.isSome : Nat) : Int) + 1) :
    TabAt K (((w.alloc (.cells (K.enc x) K.E)).setCell ⟨p, i, none⟩ (.pointer (some ⟨w.heap.size, 0, none⟩))).setCell ⟨B, 1, none⟩ (.int .i64 c)) (fun b => F b ∨ b = w.heap.size) B p (ps.set i (some w.heap.size)) (m.set i (some x)) := by
  have hB := h.lt B h.fB
  have hp := h.lt p h.fp
  have hne := h.ne
  have t1 : (w.alloc (.cells (K.enc x) K.E)).heap[B]? = _ := (Below.heap_alloc w _ B hB).trans h.top
  have r1 : (w.alloc (.cells (K.enc x) K.E)).heap[p]? = _ := (Below.heap_alloc w _ p hp).trans h.row
  have hil : i < ps.length := by rw [h.len]; exact (List.getElem?_eq_some_iff.1 hi).1
  refine ⟨?_, ?_, by simp [h.len], ?_, ?_, ?_, .inl h.fB, .inl h.fp, h.ne, ?_, by simpa using h.cap⟩
  · have t2 : ((w.alloc (.cells (K.enc x) K.E)).setCell ⟨p, i, none⟩ (.pointer (some ⟨w.heap.size, 0, none⟩))).heap[B]? = _ := (heap_setCell_other _ _ B _ (fun e => hne e.symm)).trans t1
    rw [heap_setCell_same _ B 1 _ _ _ t2, hc, count_lay hi]
    simp
  · rw [heap_setCell_other _ _ p _ hne, heap_setCell_same _ p i _ _ _ r1]
    rw [show (Value.pointer (some ⟨w.heap.size, 0, none⟩)) = YteacmcdmdeckmaaGreat.ptr (some w.heap.size) from rfl, set_ptr]
  · intro j hj
    rw [List.getElem?_set] at hj ⊢
    split at hj
    · split at hj <;> simp at hj
    · rename_i e
      rw [if_neg e]
      exact h.free j hj
  · intro j y hj
    rw [List.getElem?_set] at hj
    split at hj
    · rename_i e
      subst e
      split at hj
      · cases hj
        refine ⟨w.heap.size, ?_, ?_, .inr rfl, by omega, by omega⟩
        · rw [List.getElem?_set]; simp [hil]
        · rw [heap_setCell_other _ _ _ _ (show w.heap.size ≠ B by omega), heap_setCell_other _ _ _ _ (show w.heap.size ≠ p by omega)]
          exact heap_alloc_new _ _
      · simp at hj
    · rename_i e
      obtain ⟨q, h1, h2, h3, h4, h5⟩ := h.held j y hj
      have hq := h.lt q h3
      refine ⟨q, ?_, ?_, .inl h3, h4, h5⟩
      · rw [List.getElem?_set]; simp [e, h1]
      · rw [heap_setCell_other _ _ _ _ h4, heap_setCell_other _ _ _ _ h5, Below.heap_alloc w _ q hq]; exact h2
  · intro j k q hj hk
    rw [List.getElem?_set] at hj hk
    have hold : ∀ l : Nat, ps[l]? = some (some w.heap.size) → False := by
      intro l hl
      have hlm : l < m.length := by rw [← h.len]; exact (List.getElem?_eq_some_iff.1 hl).1
      cases hm : m[l] with
      | none => have := h.free l (by rw [List.getElem?_eq_getElem hlm, hm]); rw [hl] at this; cases this
      | some y =>
        obtain ⟨q', h1, _, h3, _⟩ := h.held l y (by rw [List.getElem?_eq_getElem hlm, hm])
        rw [hl] at h1; cases h1
        have := h.lt _ h3; omega
    split at hj <;> split at hk
    · omega
    · cases hj; exact (hold _ hk).elim
    · cases hk; exact (hold _ hj).elim
    · exact h.inj j k q hj hk
  · intro b hb
    have hs : w.heap.size < (w.alloc (.cells (K.enc x) K.E)).heap.size := by simp
    simp [World.setCell] at *
    rcases hb with hb | hb
    · have := h.lt b hb; omega
    · omega

/-- what a dropping leaves -/
theorem TabAt.drop (h : TabAt K w F B p ps m) {i : Nat} {x : α} (hi : m[i]? = some (some x)) {c : Int} (hc : c = ((m.countP Option.isSome : Nat) : Int) - 1) :
    TabAt K ((w.setCell ⟨p, i, none⟩ (.pointer none)).setCell ⟨B, 1, none⟩ (.int .i64 c)) F B p (ps.set i none) (m.set i none) := by
  have hne := h.ne
  refine ⟨?_, ?_, by simp [h.len], ?_, ?_, ?_, h.fB, h.fp, h.ne, ?_, by simpa using h.cap⟩
  · have t2 : (w.setCell ⟨p, i, none⟩ (.pointer none)).heap[B]? = _ := (heap_setCell_other _ _ B _ (fun e => hne e.symm)).trans h.top
    have hcd := count_drop hi
    rw [heap_setCell_same _ B 1 _ _ _ t2, hc]
    have : ((m.countP Option.isSome : Nat) : Int) - 1 = (((m.set i none).countP Option.isSome : Nat) : Int) := by omega
    rw [this]; simp
  · rw [heap_setCell_other _ _ p _ hne, heap_setCell_same _ p i _ _ _ h.row]
    rw [show (Value.pointer none) = YteacmcdmdeckmaaGreat.ptr none from rfl, set_ptr]
  · intro j hj
    have hl : j < ps.length := by rw [h.len]; have := (List.getElem?_eq_some_iff.1 hj).1; simpa using this
    rw [List.getElem?_set] at hj ⊢
    split
    · simp_all
    · rename_i e
      rw [if_neg e] at hj
      exact h.free j hj
  · intro j y hj
    rw [List.getElem?_set] at hj
    split at hj
    · split at hj <;> cases hj
    · rename_i e
      obtain ⟨q, h1, h2, h3, h4, h5⟩ := h.held j y hj
      refine ⟨q, ?_, ?_, h3, h4, h5⟩
      · rw [List.getElem?_set]; simp [e, h1]
      · rw [heap_setCell_other _ _ _ _ h4, heap_setCell_other _ _ _ _ h5]; exact h2
  · intro j k q hj hk
    rw [List.getElem?_set] at hj hk
    split at hj
    · split at hj <;> cases hj
    split at hk
    · split at hk <;> cases hk
    exact h.inj j k q hj hk
  · intro b hb; have := h.lt b hb; simpa [World.setCell] using this

/-- a new table -/
theorem TabAt.fresh (K : Knd α) (w : World) (n : Nat) (hn : n ≤ 4096) :
    TabAt K ((w.alloc (.cells (madeCells #[.pointer none] n) K.P)).alloc (.cells #[.slice (some ⟨w.heap.size, 0, none⟩) n n, .int .i64 0] K.S)) (fun b => b = w.heap.size ∨ b = w.heap.size + 1) (w.heap.size + 1) w.heap.size (List.replicate n none) (List.replicate n none) := by
  refine ⟨?_, ?_, by simp, ?_, ?_, ?_, .inr rfl, .inl rfl, by omega, ?_, by simpa using hn⟩
  · have := heap_alloc2_new w (.cells (madeCells #[.pointer none] n) K.P) (.cells #[.slice (some ⟨w.heap.size, 0, none⟩) n n, .int .i64 0] K.S)
    rw [this]
    have e : (List.replicate n (none : Option α)).countP Option.isSome = 0 := List.countP_eq_zero.2 (fun a ha => by rw [(List.mem_replicate.1 ha).2]; simp)
    rw [e]; simp
  · rw [heap_alloc2_old]
    have : madeCells #[Value.pointer none] n = ((List.replicate n none).map YteacmcdmdeckmaaGreat.ptr).toArray := by
      rw [← Array.toArray_toList (xs := madeCells #[Value.pointer none] n), toList_madeCells_one]
      simp [YteacmcdmdeckmaaGreat.ptr]
    rw [this]
  · intro i hi; rw [List.getElem?_replicate] at hi ⊢; split <;> simp_all
  · intro i x hi; rw [List.getElem?_replicate] at hi; split at hi <;> simp at hi
  · intro i j q hi; rw [List.getElem?_replicate] at hi; split at hi <;> simp at hi
  · intro b hb
    simp
    omega
end

/-- tables of lists' tables -/
def KL : Knd Nat := ⟨63, 102, 37, fun b => #[.pointer (some ⟨b, 0, none⟩)]⟩
/-- a record: Kind, Obj, Serial, Rights; its parent's place -/
structure Rc where
  k : Int
  o : Int
  s : Int
  r : Int
  e : Int
  t : Int
def Rc.val (c : Rc) : Value := .agg #[.int .i64 c.k, .int .i64 c.o, .int .i64 c.s, .int .i64 c.r, .int .i64 c.e, .int .i64 c.t]
def KR : Knd Rc := ⟨107, 104, 65, fun c => #[.int .i64 c.k, .int .i64 c.o, .int .i64 c.s, .int .i64 c.r, .int .i64 c.e, .int .i64 c.t]⟩
end Go.Proofs.YteacmcdmdeckmaaGreat
