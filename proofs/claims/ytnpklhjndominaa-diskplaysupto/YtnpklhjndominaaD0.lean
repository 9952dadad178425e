import Derived.Test.YtnpklhjndominaaRows
import Derived.WalkKit
import Derived.Handy
import Derived.WalkSpells
import Derived.WalkLawsBesides
import Derived.Deep.RegionLaw
import Derived.Deep.WholeRow
import Derived.Deep.MidRow
import Derived.Laws.OwnMore
import Derived.Laws.AppendOwnNone
import Derived.Laws.CopyOwn
import Derived.Laws.BytesArg
import Derived.Maps.AppendAt
import Derived.Below
namespace Go.Proofs.Ytnpklhjndominaa
open Go.RowKit

theorem hide {p : Prop} (h : p) : Hid p := h

/-- what a call on an object with the blocks F leaves of the rest -/
structure Mod (F : Nat → Prop) (w w' : World) : Prop where
  os : w'.os = w.os
  tape : w'.tape = w.tape
  output : w'.output = w.output
  size : w.heap.size ≤ w'.heap.size
  block : ∀ b, b < w.heap.size → ¬ F b → w'.heap[b]? = w.heap[b]?
/-- and the object's blocks behind it are F' -/
structure Ext (F : Nat → Prop) (w : World) (F' : Nat → Prop) (w' : World) : Prop where
  mod : Mod F w w'
  new : ∀ b, F' b → F b ∨ w.heap.size ≤ b

theorem Mod.refl (F : Nat → Prop) (w : World) : Mod F w w := ⟨rfl, rfl, rfl, Nat.le_refl _, fun _ _ _ => rfl⟩
theorem Mod.trans {F : Nat → Prop} {a b c : World} (h : Mod F a b) (k : Mod F b c) : Mod F a c :=
  ⟨k.os.trans h.os, k.tape.trans h.tape, k.output.trans h.output, Nat.le_trans h.size k.size, fun i hi hf => (k.block i (Nat.lt_of_lt_of_le hi h.size) hf).trans (h.block i hi hf)⟩
theorem Mod.alloc {F : Nat → Prop} {a w : World} (h : Mod F a w) (o : Obj) : Mod F a (w.alloc o) :=
  h.trans ⟨rfl, rfl, rfl, by simp, fun k hk _ => Below.heap_alloc _ _ _ (by omega)⟩
theorem Mod.setCell {F : Nat → Prop} {a w : World} (h : Mod F a w) {p : Addr} (hp : F p.block ∨ a.heap.size ≤ p.block) (u : Value) : Mod F a (w.setCell p u) :=
  ⟨h.os, h.tape, h.output, by simp [World.setCell]; exact h.size, fun k hk hf => by
    rw [Below.heap_setCell _ _ _ _ (fun e => by subst e; rcases hp with hp | hp; exact hf hp; omega)]; exact h.block k hk hf⟩
theorem Mod.drew {F : Nat → Prop} {a w : World} (h : Mod F a w) : Mod F a w.drew := ⟨h.os, h.tape, h.output, h.size, h.block⟩
theorem Mod.of_below {F : Nat → Prop} {a w : World} (h : Below a.heap.size a w) : Mod F a w := ⟨h.os, h.tape, h.output, h.size, fun k hk _ => h.block k hk⟩
theorem Mod.below {F : Nat → Prop} {a w : World} {B : Nat} (h : Mod F a w) (hF : ∀ b, F b → B ≤ b) (hB : B ≤ a.heap.size) : Below B a w :=
  ⟨h.os, h.tape, h.output, h.size, fun k hk => h.block k (by omega) (fun hf => by have := hF k hf; omega)⟩
theorem Mod.setRow {F : Nat → Prop} {a w : World} (h : Mod F a w) {g : Nat} (hp : F g ∨ a.heap.size ≤ g) (cs : Array Value) : Mod F a (w.setRow g cs) :=
  ⟨h.os, h.tape, h.output, by simp [World.setRow]; exact h.size, fun k hk hf => by
    rw [setRow_other w g k cs (fun e => by subst e; rcases hp with hp | hp; exact hf hp; omega)]; exact h.block k hk hf⟩
theorem Ext.refl (F : Nat → Prop) (w : World) : Ext F w F w := ⟨Mod.refl _ _, fun _ h => .inl h⟩
theorem Ext.of_below {F : Nat → Prop} {a w : World} (h : Below a.heap.size a w) : Ext F a F w := ⟨Mod.of_below h, fun _ h => .inl h⟩
theorem Ext.trans {F F' F'' : Nat → Prop} {a b c : World} (h : Ext F a F' b) (k : Ext F' b F'' c) : Ext F a F'' c :=
  ⟨⟨k.mod.os.trans h.mod.os, k.mod.tape.trans h.mod.tape, k.mod.output.trans h.mod.output, Nat.le_trans h.mod.size k.mod.size, fun i hi hf => by
      rw [k.mod.block i (Nat.lt_of_lt_of_le hi h.mod.size) (fun h' => by rcases h.new i h' with h1 | h1; exact hf h1; omega)]
      exact h.mod.block i hi hf⟩,
   fun i h' => by
      rcases k.new i h' with h1 | h1
      · exact h.new i h1
      · exact .inr (Nat.le_trans h.mod.size h1)⟩
theorem Ext.low {F F' : Nat → Prop} {a w : World} {B : Nat} (h : Ext F a F' w) (hF : ∀ b, F b → B ≤ b) (hB : B ≤ a.heap.size) : ∀ b, F' b → B ≤ b := by
  intro b hb; rcases h.new b hb with h1 | h1
  · exact hF b h1
  · omega
theorem add0 (g j : Nat) : (⟨g, 0, none⟩ : Addr).add j = ⟨g, j, none⟩ := by unfold Addr.add; split <;> simp_all

/-- what is said of a world, standing on the blocks H -/
abbrev Asn := World → (Nat → Prop) → Prop
structure Good (A : Asn) : Prop where
  lt : ∀ {W : World} {H : Nat → Prop}, A W H → ∀ b, H b → b < W.heap.size
  keep : ∀ {W W' : World} {H : Nat → Prop}, A W H → W.heap.size ≤ W'.heap.size → (∀ b, H b → W'.heap[b]? = W.heap[b]?) → A W' H
/-- the one and, apart from it, the other -/
def star (A B : Asn) : Asn := fun W H => ∃ H1 H2 : Nat → Prop, A W H1 ∧ B W H2 ∧ (∀ b, H b ↔ H1 b ∨ H2 b) ∧ ∀ b, H1 b → ¬ H2 b
def emp : Asn := fun _ H => ∀ b, ¬ H b
theorem good_emp : Good emp := ⟨fun h b hb => absurd hb (h b), fun h _ _ => h⟩
theorem Good.star {A B : Asn} (hA : Good A) (hB : Good B) : Good (star A B) := by
  refine ⟨?_, ?_⟩
  · rintro W H ⟨H1, H2, h1, h2, h3, h4⟩ b hb
    rcases (h3 b).1 hb with h | h
    · exact hA.lt h1 b h
    · exact hB.lt h2 b h
  · rintro W W' H ⟨H1, H2, h1, h2, h3, h4⟩ hs hk
    exact ⟨H1, H2, hA.keep h1 hs (fun b hb => hk b ((h3 b).2 (.inl hb))), hB.keep h2 hs (fun b hb => hk b ((h3 b).2 (.inr hb))), h3, h4⟩
theorem star_swap {A B C : Asn} {W : World} {H : Nat → Prop} (h : star A (star B C) W H) : star B (star A C) W H := by
  obtain ⟨H1, H23, h1, ⟨H2, H3, h2, h3, e23, d23⟩, e, d⟩ := h
  refine ⟨H2, fun b => H1 b ∨ H3 b, h2, ⟨H1, H3, h1, h3, fun _ => Iff.rfl, fun b hb hb3 => d b hb ((e23 b).2 (.inr hb3))⟩, fun b => ?_, fun b hb => ?_⟩
  · rw [e b, e23 b]
    constructor
    · rintro (h | h | h)
      · exact .inr (.inl h)
      · exact .inl h
      · exact .inr (.inr h)
    · rintro (h | h | h)
      · exact .inr (.inl h)
      · exact .inl h
      · exact .inr (.inr h)
  · rintro (h | h)
    · exact d b h ((e23 b).2 (.inl hb))
    · exact d23 b hb h
theorem star_mono {A B C : Asn} (h : ∀ W H, B W H → C W H) {W : World} {H : Nat → Prop} (hh : star A B W H) : star A C W H := by
  obtain ⟨H1, H2, h1, h2, h3, h4⟩ := hh
  exact ⟨H1, H2, h1, h _ _ h2, h3, h4⟩
/-- all that the law has in its hands: the first n blocks are as they were -/
def Sys (w wr : World) (A : Asn) : Prop := ∃ H : Nat → Prop, A wr H ∧ (∀ b, H b → w.heap.size ≤ b) ∧ Below w.heap.size w wr
section
variable {w wr w' : World} {A A' R : Asn}
theorem Sys.mono (h : Sys w wr A) (hm : ∀ W H, A W H → A' W H) : Sys w wr A' := by
  obtain ⟨H, h1, h2, h3⟩ := h; exact ⟨H, hm _ _ h1, h2, h3⟩
theorem Sys.bel (h : Sys w wr A) : Below w.heap.size w wr := by obtain ⟨H, h1, h2, h3⟩ := h; exact h3
theorem Sys.below (h : Sys w wr A) (hA : Good A) (hb : Below wr.heap.size wr w') : Sys w w' A := by
  obtain ⟨H, h1, h2, h3⟩ := h
  exact ⟨H, hA.keep h1 hb.size (fun b hb' => hb.block b (hA.lt h1 b hb')), h2, h3.trans (hb.mono h3.size)⟩
theorem Sys.alloc (h : Sys w wr A) (hA : Good A) (o : Obj) : Sys w (wr.alloc o) A := h.below hA ((Below.refl _ _).alloc (Nat.le_refl _) o)
/-- the first part's call: what it is handed, what it leaves -/
theorem Sys.call {X : Asn} (h : Sys w wr (star X R)) (hR : Good R) :
    ∃ F : Nat → Prop, X wr F ∧ (∀ b, F b → w.heap.size ≤ b) ∧ ∀ (w' : World) (F' : Nat → Prop) (X' : Asn), X' w' F' → Ext F wr F' w' → Sys w w' (star X' R) := by
  obtain ⟨H, ⟨H1, H2, h1, h2, h3, h4⟩, hl, hb⟩ := h
  refine ⟨H1, h1, fun b hb1 => hl b ((h3 b).2 (.inl hb1)), fun w' F' X' hT hE => ?_⟩
  have hn : ∀ b, H2 b → b < wr.heap.size ∧ ¬ H1 b := fun b hb2 => ⟨hR.lt h2 b hb2, fun hb1 => h4 b hb1 hb2⟩
  refine ⟨fun b => F' b ∨ H2 b, ⟨F', H2, hT, hR.keep h2 hE.mod.size (fun b hb2 => hE.mod.block b (hn b hb2).1 (hn b hb2).2), fun _ => Iff.rfl, ?_⟩, ?_, ?_⟩
  · intro b hb hb2
    rcases hE.new b hb with h5 | h5
    · exact (hn b hb2).2 h5
    · have := (hn b hb2).1; omega
  · rintro b (hb' | hb')
    · rcases hE.new b hb' with h5 | h5
      · exact hl b ((h3 b).2 (.inl h5))
      · have := hb.size; omega
    · exact hl b ((h3 b).2 (.inr hb'))
  · exact hb.trans (hE.mod.below (fun b hb' => hl b ((h3 b).2 (.inl hb'))) hb.size)
theorem Sys.new (h : Sys w wr R) (hR : Good R) {Fc : Nat → Prop} {X : Asn} (hT : X w' Fc) (hl : ∀ b, Fc b → wr.heap.size ≤ b) (hb : Below wr.heap.size wr w') : Sys w w' (star X R) := by
  obtain ⟨H, h1, h2, h3⟩ := h
  have hlt := hR.lt h1
  exact ⟨fun b => Fc b ∨ H b, ⟨Fc, H, hT, hR.keep h1 hb.size (fun b hb' => hb.block b (hlt b hb')), fun _ => Iff.rfl, fun b h4 h5 => by have := hl b h4; have := hlt b h5; omega⟩,
    fun b h4 => by rcases h4 with h4 | h4; have := hl b h4; have := h3.size; omega; exact h2 b h4, h3.trans (hb.mono h3.size)⟩
end
end Go.Proofs.Ytnpklhjndominaa
