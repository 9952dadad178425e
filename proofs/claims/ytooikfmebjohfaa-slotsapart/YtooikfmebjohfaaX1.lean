import Derived.Test.YtooikfmebjohfaaY1
import Derived.Maps.AppendAt
namespace Go.Proofs.Ytooikfmebjohfaa
open Go.RowKit

/-- what is said of a world, standing on the blocks H -/
abbrev Asn := World → (Nat → Prop) → Prop
structure Good (A : Asn) : Prop where
  lt : ∀ {W : World} {H : Nat → Prop}, A W H → ∀ b, H b → b < W.heap.size
  keep : ∀ {W W' : World} {H : Nat → Prop}, A W H → W.heap.size ≤ W'.heap.size → (∀ b, H b → W'.heap[b]? = W.heap[b]?) → A W' H
/-- the one and, apart from it, the other -/
def star (A B : Asn) : Asn := fun W H => ∃ H1 H2 : Nat → Prop, A W H1 ∧ B W H2 ∧ (∀ b, H b ↔ H1 b ∨ H2 b) ∧ ∀ b, H1 b → ¬ H2 b
def emp : Asn := fun _ H => ∀ b, ¬ H b
theorem good_emp : Good emp := ⟨fun h b hb => absurd hb (h b), fun h _ _ => h⟩
theorem Good.star {A B : Asn} (hA : Good A) (hB : Good B) : Good (star A B) := by
  refine ⟨?_, ?_⟩
  · rintro W H ⟨H1, H2, h1, h2, h3, h4⟩ b hb
    rcases (h3 b).1 hb with h | h
    · exact hA.lt h1 b h
    · exact hB.lt h2 b h
  · rintro W W' H ⟨H1, H2, h1, h2, h3, h4⟩ hs hk
    exact ⟨H1, H2, hA.keep h1 hs (fun b hb => hk b ((h3 b).2 (.inl hb))), hB.keep h2 hs (fun b hb => hk b ((h3 b).2 (.inr hb))), h3, h4⟩
theorem star_swap {A B C : Asn} {W : World} {H : Nat → Prop} (h : star A (star B C) W H) : star B (star A C) W H := by
  obtain ⟨H1, H23, h1, ⟨H2, H3, h2, h3, e23, d23⟩, e, d⟩ := h
  refine ⟨H2, fun b => H1 b ∨ H3 b, h2, ⟨H1, H3, h1, h3, fun _ => Iff.rfl, fun b hb hb3 => d b hb ((e23 b).2 (.inr hb3))⟩, fun b => ?_, fun b hb => ?_⟩
  · rw [e b, e23 b]
    constructor
    · rintro (h | h | h)
      · exact .inr (.inl h)
      · exact .inl h
      · exact .inr (.inr h)
    · rintro (h | h | h)
      · exact .inr (.inl h)
      · exact .inl h
      · exact .inr (.inr h)
  · rintro (h | h)
    · exact d b h ((e23 b).2 (.inl hb))
    · exact d23 b hb h
theorem star_mono {A B C : Asn} (h : ∀ W H, B W H → C W H) {W : World} {H : Nat → Prop} (hh : star A B W H) : star A C W H := by
  obtain ⟨H1, H2, h1, h2, h3, h4⟩ := hh
  exact ⟨H1, H2, h1, h _ _ h2, h3, h4⟩
def TabA (B : Nat) (m : List (Option Int)) : Asn := fun W H => Tab KI W H B m
theorem good_tab (B : Nat) (m : List (Option Int)) : Good (TabA B m) := ⟨fun h => h.lt, fun h hs hk => h.keep hs hk⟩
def ints (zs : List Int) : List Value := zs.map (Value.int .i64)
def RowA (v : Value) (zs : List Int) : Asn := fun W H => W.ownsRow 0 3 1 v zs.length (ints zs) ∧ ∀ b, H b ↔ v.ownBlock = some b
theorem good_row (v : Value) (zs : List Int) : Good (RowA v zs) := by
  refine ⟨?_, ?_⟩
  · rintro W H ⟨⟨_, ⟨rfl, _⟩ | ⟨g, cap, cur, rfl, _, hg, _⟩⟩, he⟩ b hb
    · have := (he b).1 hb; cases this
    · have := (he b).1 hb
      simp [Value.ownBlock] at this
      subst this
      exact (Array.getElem?_eq_some_iff.1 hg).1
  · rintro W W' H ⟨⟨hl, ⟨rfl, h0⟩ | ⟨g, cap, cur, rfl, hb, hg, r⟩⟩, he⟩ _ hk
    · exact ⟨⟨hl, .inl ⟨rfl, h0⟩⟩, he⟩
    · exact ⟨⟨hl, .inr ⟨g, cap, cur, rfl, hb, by rw [hk g ((he g).2 rfl)]; exact hg, r⟩⟩, he⟩
/-- all that the law has in its hands -/
def Sys (w wr : World) (A : Asn) : Prop := ∃ H : Nat → Prop, A wr H ∧ (∀ b, H b → w.heap.size ≤ b) ∧ Below w.heap.size w wr
section
variable {w wr w' : World} {A A' R : Asn} {B : Nat} {m : List (Option Int)}
theorem Sys.mono (h : Sys w wr A) (hm : ∀ W H, A W H → A' W H) : Sys w wr A' := by
  obtain ⟨H, h1, h2, h3⟩ := h; exact ⟨H, hm _ _ h1, h2, h3⟩
theorem Sys.bel (h : Sys w wr A) : Below w.heap.size w wr := by obtain ⟨H, h1, h2, h3⟩ := h; exact h3
theorem Sys.below (h : Sys w wr A) (hA : Good A) (hb : Below wr.heap.size wr w') : Sys w w' A := by
  obtain ⟨H, h1, h2, h3⟩ := h
  exact ⟨H, hA.keep h1 hb.size (fun b hb' => hb.block b (hA.lt h1 b hb')), h2, h3.trans (hb.mono h3.size)⟩
theorem Sys.alloc (h : Sys w wr A) (hA : Good A) (o : Obj) : Sys w (wr.alloc o) A := h.below hA ((Below.refl _ _).alloc (Nat.le_refl _) o)
theorem Sys.tab (h : Sys w wr (star (TabA B m) R)) (hR : Good R) :
    ∃ F : Nat → Prop, Tab KI wr F B m ∧ ∀ (w' : World) (F' : Nat → Prop) (m' : List (Option Int)), Tab KI w' F' B m' → Ext F wr F' w' → Sys w w' (star (TabA B m') R) := by
  obtain ⟨H, ⟨H1, H2, h1, h2, h3, h4⟩, hl, hb⟩ := h
  refine ⟨H1, h1, fun w' F' m' hT hE => ?_⟩
  have hn : ∀ b, H2 b → b < wr.heap.size ∧ ¬ H1 b := fun b hb2 => ⟨hR.lt h2 b hb2, fun hb1 => h4 b hb1 hb2⟩
  refine ⟨fun b => F' b ∨ H2 b, ⟨F', H2, hT, hR.keep h2 hE.mod.size (fun b hb2 => hE.mod.block b (hn b hb2).1 (hn b hb2).2), fun _ => Iff.rfl, ?_⟩, ?_, ?_⟩
  · intro b hb hb2
    rcases hE.new b hb with h5 | h5
    · exact (hn b hb2).2 h5
    · have := (hn b hb2).1; omega
  · rintro b (hb' | hb')
    · rcases hE.new b hb' with h5 | h5
      · exact hl b ((h3 b).2 (.inl h5))
      · have := hb.size; omega
    · exact hl b ((h3 b).2 (.inr hb'))
  · exact hb.trans (hE.mod.below (fun b hb' => hl b ((h3 b).2 (.inl hb'))) hb.size)
theorem Sys.new (h : Sys w wr R) (hR : Good R) {C : Nat} {Fc : Nat → Prop} {m : List (Option Int)} (hT : Tab KI w' Fc C m) (hl : ∀ b, Fc b → wr.heap.size ≤ b) (hb : Below wr.heap.size wr w') : Sys w w' (star (TabA C m) R) := by
  obtain ⟨H, h1, h2, h3⟩ := h
  have hlt := hR.lt h1
  exact ⟨fun b => Fc b ∨ H b, ⟨Fc, H, hT, hR.keep h1 hb.size (fun b hb' => hb.block b (hlt b hb')), fun _ => Iff.rfl, fun b h4 h5 => by have := hl b h4; have := hlt b h5; omega⟩,
    fun b h4 => by rcases h4 with h4 | h4; have := hl b h4; have := h3.size; omega; exact h2 b h4, h3.trans (hb.mono h3.size)⟩
/-- an empty row -/
theorem Sys.nil (h : Sys w wr R) : Sys w wr (star (RowA (.slice none 0 0) []) R) := by
  obtain ⟨H, h1, h2, h3⟩ := h
  exact ⟨H, ⟨fun _ => False, H, ⟨World.ownsRow_nil _ _ _ _, fun b => by simp [Value.ownBlock]⟩, h1, fun b => by simp, fun b h => h.elim⟩, h2, h3⟩
theorem Sys.row {v : Value} {zs : List Int} (h : Sys w wr (star (RowA v zs) R)) : wr.ownsRow 0 3 1 v zs.length (ints zs) := by
  obtain ⟨H, ⟨H1, H2, h1, _⟩, _⟩ := h; exact h1.1
/-- what an append leaves -/
theorem Sys.app {v v' : Value} {zs : List Int} {x : Int} (h : Sys w wr (star (RowA v zs) R)) (hR : Good R) (hown : w'.ownsRow 0 3 1 v' (zs.length + 1) (ints zs ++ [.int .i64 x])) (hg : wr.grownBy w' v.ownBlock)
    (hloc : v'.ownBlock = v.ownBlock ∨ v'.ownBlock = some wr.heap.size) : Sys w w' (star (RowA v' (zs ++ [x])) R) := by
  obtain ⟨H, ⟨H1, H2, h1, h2, h3, h4⟩, hl, hb⟩ := h
  have hn : ∀ b, H2 b → b < wr.heap.size ∧ some b ≠ v.ownBlock := fun b hb2 => ⟨hR.lt h2 b hb2, fun e => h4 b ((h1.2 b).2 e.symm) hb2⟩
  refine ⟨fun b => v'.ownBlock = some b ∨ H2 b, ⟨fun b => v'.ownBlock = some b, H2, ⟨by simpa [ints] using hown, fun _ => Iff.rfl⟩, hR.keep h2 hg.size (fun b hb2 => hg.block b (hn b hb2).1 (hn b hb2).2), fun _ => Iff.rfl, ?_⟩, ?_, ?_⟩
  · intro b e hb2
    rcases hloc with h5 | h5
    · exact (hn b hb2).2 (by rw [← h5, e])
    · rw [e] at h5; have := (hn b hb2).1; simp at h5; omega
  · rintro b (e | hb2)
    · rcases hloc with h5 | h5
      · exact hl b ((h3 b).2 (.inl ((h1.2 b).2 (by rw [← h5, e]))))
      · rw [e] at h5; simp at h5; have := hb.size; omega
    · exact hl b ((h3 b).2 (.inr hb2))
  · exact hb.grown hg hb.size (fun k e => hl k ((h3 k).2 (.inl ((h1.2 k).2 e))))
end
/-- an own row, read -/
theorem row_read {W : World} {v : Value} {zs : List Int} (h : W.ownsRow 0 3 1 v zs.length (ints zs)) : ∃ (ao : Option Addr) (cap : Nat), v = .slice ao zs.length cap ∧ ∀ k, k < zs.length → ∃ g : Nat, ao = some ⟨g, 0, none⟩ ∧ W.cell? ⟨g, k, none⟩ = some (.int .i64 (zs.getD k 0)) := by
  have h' := h
  obtain ⟨hl, ⟨rfl, h0⟩ | ⟨g, cap, cur, rfl, hb, hg, hn, hm, hs, ht⟩⟩ := h
  · exact ⟨none, 0, by rw [h0], fun k hk => by omega⟩
  · refine ⟨_, cap, rfl, fun k hk => ⟨g, rfl, ?_⟩⟩
    have := World.ownsRow.cells h' rfl k (.int .i64 (zs.getD k 0)) (by simp [ints, List.getD, List.getElem?_eq_getElem hk])
    rw [add0] at this; exact this
end Go.Proofs.Ytooikfmebjohfaa
