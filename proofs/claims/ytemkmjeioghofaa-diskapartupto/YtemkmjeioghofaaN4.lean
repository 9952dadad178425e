import Derived.Test.YtemkmjeioghofaaN0
import Derived.Test.YtemkmjeioghofaaM1
import Derived.Test.YtemkmjeioghofaaN2
import Derived.ArgAppend
namespace Go.Proofs.Ytemkmjeioghofaa
open Go.RowKit

theorem Sys.under {w w0 w1 : World} {K : Asn} {z : Int} {b : Nat} (h : Sys w0 w1 K) (h0 : w0.heap[w.heap.size]? = some (.cells #[.int .i64 z, .int .u8 (b : Int)] 35 (0, 0))) (hb : Below w.heap.size w w0) : Sys w w1 (star K (PutA w.heap.size z b)) := by
  obtain ⟨H, h1, h2, h3⟩ := h
  have hlt := (Array.getElem?_eq_some_iff.1 h0).1
  refine ⟨fun b => H b ∨ b = w.heap.size, ⟨H, fun b => b = w.heap.size, h1, ⟨by rw [h3.block _ hlt]; exact h0, fun _ => Iff.rfl⟩, fun _ => Iff.rfl, fun b hb' e => by have := h2 b hb'; omega⟩, ?_, hb.trans (h3.mono hb.size)⟩
  rintro b (h4 | h4)
  · exact Nat.le_trans hb.size (h2 b h4)
  · omega
/-- append to an own row, in its system -/
theorem Sys.appRow {w wr w' : World} {R : Asn} {v v' : Value} {zs ys : List Nat} {n m : Nat} {o : Obj} (h : Sys w wr (star (OwA v zs) R)) (hR : Good R) (hn : n = zs.length) (hm : m = ys.length)
    (ho : w'.ownsRow 0 5 1 v' (n + m) (zs.map By ++ ys.map By)) (hg : (wr.alloc o).grownBy w' v.ownBlock) (hl : v'.ownBlock = v.ownBlock ∨ v'.ownBlock = some (wr.heap.size + 1)) : Sys w w' (star (OwA v' (zs ++ ys)) R) := by
  obtain ⟨F, hX, hlo, hnx⟩ := h.call hR
  refine hnx w' (fun b => v'.ownBlock = some b) _ ⟨?_, fun _ => Iff.rfl⟩ ⟨?_, ?_⟩
  · unfold Ow
    rw [List.length_append, ← hn, ← hm, List.map_append]; exact ho
  · have hb : Below wr.heap.size wr (wr.alloc o) := (Below.refl _ _).alloc (Nat.le_refl _) o
    refine ⟨hg.os.trans hb.os, hg.tape.trans hb.tape, hg.output.trans hb.output, Nat.le_trans hb.size hg.size, fun k hk hf => ?_⟩
    rw [hg.block k (Nat.lt_of_lt_of_le hk hb.size) (fun e => hf ((hX.2 k).2 e.symm)), hb.block k hk]
  · intro b hb'
    rcases hl with e | e
    · exact .inl ((hX.2 b).2 (by rw [← e, hb']))
    · rw [hb'] at e; simp at e; right; omega
theorem Sys.drop {w wr : World} {X R : Asn} (h : Sys w wr (star X R)) : Sys w wr R := by
  obtain ⟨H, ⟨H1, H2, h1, h2, h3, h4⟩, hl, hb⟩ := h
  exact ⟨H2, h2, fun b hb' => hl b ((h3 b).2 (.inr hb')), hb⟩
/-- a row of 129 bytes of whatever value -/
def AnyIn (g : Nat) : Asn := fun W H => (∃ cur, W.heap[g]? = some (.cells cur 5 (0, 0)) ∧ ∀ j, j < 129 → ∃ z, cur[j]? = some (.int .u8 z)) ∧ ∀ b, H b ↔ b = g
theorem AnyIn.of {g l cap : Nat} {zs : List Nat} {W : World} {H : Nat → Prop} (h : OwA (.slice (some ⟨g, 0, none⟩) l cap) zs W H) (hz : zs.length = 129) : AnyIn g W H := by
  obtain ⟨h1, h2⟩ := h
  have h1' := h1
  obtain ⟨hl, ⟨h0, _⟩ | ⟨g', cap', cur, hv, hb, hg, hn, hm, hs, ht⟩⟩ := h1
  · cases h0
  · cases hv
    refine ⟨⟨cur, hg, fun j hj => ?_⟩, fun b => by rw [h2]; simp [Value.ownBlock, eq_comm]⟩
    have hc := h1'.cell (j := j) (by omega)
    rw [cell_of_row _ _ _ _ _ _ hg] at hc
    exact ⟨_, hc⟩
theorem AnyIn.set {g j : Nat} {z : Int} {W : World} {H : Nat → Prop} (h : AnyIn g W H) : AnyIn g (W.setCell ⟨g, j, none⟩ (.int .u8 z)) H := by
  obtain ⟨⟨cur, h1, h2⟩, h3⟩ := h
  refine ⟨⟨cur.setIfInBounds j (.int .u8 z), heap_setCell_same _ _ _ _ _ _ h1, fun i hi => ?_⟩, h3⟩
  by_cases e : j = i
  · subst e
    obtain ⟨y, hy⟩ := h2 j hi
    have hlt : j < cur.size := (Array.getElem?_eq_some_iff.1 hy).1
    exact ⟨z, by simp [hlt]⟩
  · obtain ⟨y, hy⟩ := h2 i hi
    exact ⟨y, by rw [Array.getElem?_setIfInBounds_ne e]; exact hy⟩
theorem AnyIn.cell {g j : Nat} {W : World} {H : Nat → Prop} (h : AnyIn g W H) (hj : j < 129) : (∃ z, W.cell? ⟨g, j, none⟩ = some (.int .u8 z)) ∧ W.frozen? ⟨g, j, none⟩ = false := by
  obtain ⟨⟨cur, h1, h2⟩, _⟩ := h
  obtain ⟨z, hz⟩ := h2 j hj
  exact ⟨⟨z, by rw [cell_of_row _ _ _ _ _ _ h1]; exact hz⟩, frozen_of_row W g j _ _ h1⟩
theorem Sys.setAny {w wr : World} {R : Asn} {g j : Nat} {z : Int} (h : Sys w wr (star (AnyIn g) R)) (hR : Good R) : Sys w (wr.setCell ⟨g, j, none⟩ (.int .u8 z)) (star (AnyIn g) R) := by
  obtain ⟨F, hX, _, hn⟩ := h.call hR
  exact hn _ F _ hX.set ⟨(Mod.refl _ _).setCell (.inl ((hX.2 g).2 rfl)) _, fun _ h => .inl h⟩
theorem tab_nil {W : World} {G : Nat} (h : W.heap[G]? = some (.cells #[.slice none 0 0, .slice none 0 0, .slice none 0 0, .slice none 0 0] 29 (0, 0))) : TabA G [] W (fun b => b = G) :=
  ⟨fun _ => 0, fun _ => 0, by simp, h, fun i zs hz => by simp at hz, fun i j hi => by simp at hi, rfl, fun b hb => by rw [hb]; exact (Array.getElem?_eq_some_iff.1 h).1⟩
theorem star_k3 {A B K P : Asn} {W : World} {H : Nat → Prop} (h : star A (star B (star K P)) W H) : star K (star A (star B P)) W H := star_swap (star_mono (fun _ _ h => star_swap h) h)
theorem in_rd {gi ci : Nat} {RP : List Nat} {W : World} {H : Nat → Prop} (h : OwA (.slice (some ⟨gi, 0, none⟩) 129 ci) (RP ++ [119]) W H) (hl : RP.length = 128) : Rd W (.slice (some ⟨gi, 0, none⟩) 128 ci) RP := by
  have h1 := (h.1.cut 128 (by simp; omega)).rd
  have e : (RP ++ [119]).take 128 = RP := by rw [← hl]; simp
  rw [e] at h1; exact h1
theorem in_cell {gi ci : Nat} {RP : List Nat} {W : World} {H : Nat → Prop} (h : OwA (.slice (some ⟨gi, 0, none⟩) 129 ci) (RP ++ [119]) W H) (hl : RP.length = 128) : W.cell? ⟨gi, 128, none⟩ = some (.int .u8 119) := by
  have h1 := h.1.cell (j := 128) (by simp; omega)
  rw [h1]
  have e : (RP ++ [119]).getD 128 0 = 119 := by rw [List.getD, List.getElem?_append_right (by omega), hl]; rfl
  rw [e]; rfl
end Go.Proofs.Ytemkmjeioghofaa
