import Derived.Test.YtnpklhjndominaaQE
namespace Go.Proofs.Ytnpklhjndominaa
open Go.RowKit

section
variable {w wr : World} {X R : Asn}
/-- what lies beside what is called -/
theorem Sys.beside {Y : Asn} (h : Sys w wr (star X (star Y R))) (hY : Good Y) (hR : Good R) :
    ∃ F HY : Nat → Prop, X wr F ∧ (∀ b, F b → w.heap.size ≤ b) ∧ Y wr HY ∧ (∀ b, HY b → ¬ F b) ∧ ∀ (w' : World) (F' : Nat → Prop) (X' : Asn), X' w' F' → Ext F wr F' w' → Sys w w' (star X' (star Y R)) := by
  obtain ⟨H, ⟨H1, H2, a1, ⟨H3, H4, b1, b2, b3, b4⟩, a3, a4⟩, h2, h3⟩ := h
  have hgood : Good (star Y R) := hY.star hR
  refine ⟨H1, H3, a1, fun b hb => h2 b ((a3 b).2 (.inl hb)), b1, fun b hb hf => a4 b hf ((b3 b).2 (.inl hb)), fun w' F' X' hX hE => ?_⟩
  refine ⟨fun b => F' b ∨ H2 b, ⟨F', H2, hX, ?_, fun b => Iff.rfl, fun b hb hc => ?_⟩, fun b hb => ?_, ?_⟩
  · exact hgood.keep ⟨H3, H4, b1, b2, b3, b4⟩ hE.mod.size (fun b hb => hE.mod.block b (hgood.lt ⟨H3, H4, b1, b2, b3, b4⟩ b hb) (fun hf => a4 b hf hb))
  · rcases hE.new b hb with h | h
    · exact a4 b h hc
    · have := hgood.lt ⟨H3, H4, b1, b2, b3, b4⟩ b hc; omega
  · rcases hb with hb | hb
    · rcases hE.new b hb with h | h
      · exact h2 b ((a3 b).2 (.inl h))
      · have := h3.size; omega
    · exact h2 b ((a3 b).2 (.inr hb))
  · refine h3.trans ?_
    refine ⟨hE.mod.os, hE.mod.tape, hE.mod.output, hE.mod.size, fun b hb => hE.mod.block b (Nat.lt_of_lt_of_le hb h3.size) (fun hf => ?_)⟩
    have := h2 b ((a3 b).2 (.inl hf)); omega
/-- one cell of the first part is set -/
theorem Sys.cellSet {X' : Asn} {g j : Nat} {u : Value} (h : Sys w wr (star X R)) (hR : Good R) (hX : ∀ H, X wr H → H g ∧ X' (wr.setCell ⟨g, j, none⟩ u) H) : Sys w (wr.setCell ⟨g, j, none⟩ u) (star X' R) := by
  obtain ⟨F, h1, h2, h3⟩ := h.call hR
  exact h3 _ F X' (hX F h1).2 ⟨(Mod.refl _ _).setCell (.inl (hX F h1).1) _, fun _ h => .inl h⟩
theorem Sys.cells2 {G : Nat} {o : Opr} {Y : Asn} (h : Sys w wr (star X (star Y (star (BoxA G o) R)))) : Cells7 wr G o := h.drop.drop.cells
theorem Sys.cells3 {G : Nat} {o : Opr} {Y Z : Asn} (h : Sys w wr (star X (star Y (star Z (star (BoxA G o) R))))) : Cells7 wr G o := h.drop.drop.drop.cells
end
/-- a row of bytes, whatever they are -/
def AnyR (v : Value) (L : Nat) : Asn := fun W H => (∀ b, H b ↔ v.ownBlock = some b) ∧ (∀ b, H b → b < W.heap.size) ∧ ∀ j, j < L → ∃ g cap cur z, v = .slice (some ⟨g, 0, none⟩) L cap ∧ W.heap[g]? = some (.cells cur 5 (0, 0)) ∧ cur[j]? = some (.int .u8 z)
theorem good_anyR (v : Value) (L : Nat) : Good (AnyR v L) := by
  refine ⟨?_, ?_⟩
  · rintro W H ⟨h1, h2, h3⟩ b hb; exact h2 b hb
  · rintro W W' H ⟨h1, h2, h3⟩ hs hk
    refine ⟨h1, fun b hb => Nat.lt_of_lt_of_le (h2 b hb) hs, fun j hj => ?_⟩
    obtain ⟨g, cap, cur, z, q1, q2, q3⟩ := h3 j hj
    exact ⟨g, cap, cur, z, q1, by rw [hk g ((h1 g).2 (by rw [q1]; rfl))]; exact q2, q3⟩
theorem anyR_of {v : Value} {zs : List Nat} {W : World} {H : Nat → Prop} (h : OwA v zs W H) : AnyR v zs.length W H := by
  obtain ⟨h1, h2⟩ := h
  refine ⟨h2, fun b hb => ownsRow_lt h1 ((h2 b).1 hb), fun j hj => ?_⟩
  obtain ⟨hl, ⟨h0, h00⟩ | ⟨g, cap, cur, hv, hb, hg, hn, hm, hs, ht⟩⟩ := h1
  · omega
  · refine ⟨g, cap, cur, ((zs[j]'hj : Nat) : Int), hv, hg, ?_⟩
    have h5 : (zs.map By)[j]? = some (By (zs[j]'hj)) := by rw [List.getElem?_map, List.getElem?_eq_getElem hj]; rfl
    rw [← ht, List.getElem?_take_of_lt (by omega)] at h5
    simpa [By] using h5
theorem AnyR.cell {v : Value} {L : Nat} {W : World} {H : Nat → Prop} (h : AnyR v L W H) {j : Nat} (hj : j < L) : ∃ g cap z, v = .slice (some ⟨g, 0, none⟩) L cap ∧ W.cell? ⟨g, j, none⟩ = some (.int .u8 z) ∧ W.frozen? ⟨g, j, none⟩ = false := by
  obtain ⟨g, cap, cur, z, q1, q2, q3⟩ := h.2.2 j hj
  exact ⟨g, cap, z, q1, by rw [cell_of_row _ _ _ _ _ _ q2]; exact q3, frozen_of_row _ _ _ _ _ q2⟩
theorem AnyR.set {g cap L j : Nat} {z : Int} {W : World} {H : Nat → Prop} (h : AnyR (.slice (some ⟨g, 0, none⟩) L cap) L W H) : H g ∧ AnyR (.slice (some ⟨g, 0, none⟩) L cap) L (W.setCell ⟨g, j, none⟩ (.int .u8 z)) H := by
  obtain ⟨h1, h2, h3⟩ := h
  refine ⟨(h1 g).2 rfl, h1, fun b hb => by simp [World.setCell]; exact h2 b hb, fun i hi => ?_⟩
  obtain ⟨g', cap', cur, z', q1, q2, q3⟩ := h3 i hi
  cases q1
  by_cases e : i = j
  · subst e
    exact ⟨g, cap, cur.setIfInBounds i (.int .u8 z), z, rfl, heap_setCell_same _ _ _ _ _ _ q2, by rw [Array.getElem?_setIfInBounds_self_of_lt (Array.getElem?_eq_some_iff.1 q3).1]⟩
  · exact ⟨g, cap, cur.setIfInBounds j (.int .u8 z), z', rfl, heap_setCell_same _ _ _ _ _ _ q2, by rw [Array.getElem?_setIfInBounds_ne (fun h => e h.symm)]; exact q3⟩
/-- a row of flags -/
def BlA (v : Value) (T : List Bool) : Asn := fun W H => W.ownsRow 0 4 1 v T.length (T.map Value.bool) ∧ ∀ b, H b ↔ v.ownBlock = some b
theorem good_bl (v : Value) (T : List Bool) : Good (BlA v T) := by
  refine ⟨?_, ?_⟩
  · rintro W H ⟨h1, h2⟩ b hb; exact ownsRow_lt h1 ((h2 b).1 hb)
  · rintro W W' H ⟨h1, h2⟩ hs hk
    exact ⟨ownsRow_keep h1 (fun b hb => hk b ((h2 b).2 hb)), h2⟩
theorem BlA.cell {v : Value} {T : List Bool} {W : World} {H : Nat → Prop} (h : BlA v T W H) {j : Nat} {t : Bool} (hj : T[j]? = some t) : ∃ g cap, v = .slice (some ⟨g, 0, none⟩) T.length cap ∧ T.length ≤ cap ∧ W.cell? ⟨g, j, none⟩ = some (.bool t) ∧ W.frozen? ⟨g, j, none⟩ = false := by
  have hlt := (List.getElem?_eq_some_iff.1 hj).1
  obtain ⟨h1, h2⟩ := h
  have hrow := h1
  obtain ⟨hl, ⟨h0, h00⟩ | ⟨g, cap, cur, hv, hb, hg, hn, hm, hs, ht⟩⟩ := h1
  · omega
  · refine ⟨g, cap, hv, hn, ?_, frozen_of_row _ _ _ _ _ hg⟩
    have := World.ownsRow.cells (hv ▸ hrow) rfl j (.bool t) (by simp [hj])
    rw [add0] at this; exact this
theorem BlA.set {g cap j n : Nat} {t : Bool} {T : List Bool} {W : World} {H : Nat → Prop} (h : BlA (.slice (some ⟨g, 0, none⟩) n cap) T W H) : H g ∧ BlA (.slice (some ⟨g, 0, none⟩) n cap) (T.set j t) (W.setCell ⟨g, j, none⟩ (.bool t)) H := by
  obtain ⟨h1, h2⟩ := h
  refine ⟨(h2 g).2 rfl, ?_, h2⟩
  obtain ⟨hl, ⟨h0, _⟩ | ⟨g', cap', cur, hv', hb', hg', hn', hm', hs', ht'⟩⟩ := h1
  · cases h0
  · cases hv'
    refine ⟨by simp, .inr ⟨g, cap, cur.setIfInBounds j (.bool t), by simp, hb', heap_setCell_same _ _ _ _ _ _ hg', by simpa using hn', hm', by simpa using hs', ?_⟩⟩
    rw [List.length_set, Array.toList_setIfInBounds, List.take_set, ht', List.map_set]
/-- the first of it as what may be read -/
theorem BlA.cut {g cap n : Nat} {T ks : List Bool} {W : World} {H : Nat → Prop} (h : BlA (.slice (some ⟨g, 0, none⟩) n cap) T W H) (hk : ∀ (j : Nat) (t : Bool), ks[j]? = some t → T[j]? = some t) : RdB W (.slice (some ⟨g, 0, none⟩) ks.length cap) ks := by
  refine .inr ⟨⟨g, 0, none⟩, cap, rfl, fun i u hu => ?_⟩
  rw [List.getElem?_map] at hu
  cases hi : ks[i]? with
  | none => rw [hi] at hu; cases hu
  | some t =>
    rw [hi] at hu; cases hu
    obtain ⟨g', cap', e, _, h1, _⟩ := h.cell (hk i t hi)
    cases e; rw [add0]; exact h1
theorem PrA.more {B R n : Nat} {W : World} {H : Nat → Prop} (h : PrA B R n W H) : PrA B R (n + 1) W H := by
  obtain ⟨D, N, h1, h2, h3⟩ := h
  exact ⟨D, N, h1, by omega, by omega⟩
/-- how a step of the law ends -/
theorem Sys.fin {w wr : World} {B Q n N N' G : Nat} {D D' : Dsk} {o : Opr} {R : Asn} (h : Sys w wr (star (DkA B D') (star (RkA Q D' N') (star (BoxA G o) R)))) (hn : D.near D') (h1 : N + D.c.length ≤ n + 1024) (h2 : D.acts ≤ n) (h3 : N' + D'.c.length ≤ N + D.c.length + 1) : Sys w wr (star (PrA B Q (n + 1)) R) :=
  (h.shut (n := n + 1) (by omega) (by have := hn.1; omega)).swap.drop
end Go.Proofs.Ytnpklhjndominaa
