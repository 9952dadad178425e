import Derived.Test.YtnpklhjndominaaM1
import Derived.Test.YtnpklhjndominaaV2
namespace Go.Proofs.Ytnpklhjndominaa
open Go.RowKit

/-- append to an own row, in its system -/
theorem Sys.appRow {w wr w' : World} {R : Asn} {v v' : Value} {zs ys : List Nat} {n m : Nat} {o : Obj} (h : Sys w wr (star (OwA v zs) R)) (hR : Good R) (hn : n = zs.length) (hm : m = ys.length)
    (ho : w'.ownsRow 0 5 1 v' (n + m) (zs.map By ++ ys.map By)) (hg : (wr.alloc o).grownBy w' v.ownBlock) (hl : v'.ownBlock = v.ownBlock ∨ v'.ownBlock = some (wr.heap.size + 1)) : Sys w w' (star (OwA v' (zs ++ ys)) R) := by
  obtain ⟨F, hX, hlo, hnx⟩ := h.call hR
  refine hnx w' (fun b => v'.ownBlock = some b) _ ⟨?_, fun _ => Iff.rfl⟩ ⟨?_, ?_⟩
  · unfold Ow
    rw [List.length_append, ← hn, ← hm, List.map_append]; exact ho
  · have hb : Below wr.heap.size wr (wr.alloc o) := (Below.refl _ _).alloc (Nat.le_refl _) o
    refine ⟨hg.os.trans hb.os, hg.tape.trans hb.tape, hg.output.trans hb.output, Nat.le_trans hb.size hg.size, fun k hk hf => ?_⟩
    rw [hg.block k (Nat.lt_of_lt_of_le hk hb.size) (fun e => hf ((hX.2 k).2 e.symm)), hb.block k hk]
  · intro b hb'
    rcases hl with e | e
    · exact .inl ((hX.2 b).2 (by rw [← e, hb']))
    · rw [hb'] at e; simp at e; right; omega
theorem Sys.drop {w wr : World} {X R : Asn} (h : Sys w wr (star X R)) : Sys w wr R := by
  obtain ⟨H, ⟨H1, H2, h1, h2, h3, h4⟩, hl, hb⟩ := h
  exact ⟨H2, h2, fun b hb' => hl b ((h3 b).2 (.inr hb')), hb⟩
end Go.Proofs.Ytnpklhjndominaa
