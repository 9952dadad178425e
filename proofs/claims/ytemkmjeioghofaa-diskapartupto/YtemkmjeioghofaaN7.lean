import Derived.Test.YtemkmjeioghofaaN5
namespace Go.Proofs.Ytemkmjeioghofaa
open Go.RowKit

theorem Sys.putRow {w wr w' : World} {R : Asn} {G gr cr : Nat} {L : List (List Nat)} {zs : List Nat} (h : Sys w wr (star (TabA G L) R)) (hR : Good R) (hk : L.length < 4)
    (ho : Ow w' wr.heap.size (.slice (some ⟨gr, 0, none⟩) zs.length cr) zs) (hb : Below wr.heap.size wr w') : Sys w (w'.setCell ⟨G, L.length, none⟩ (.slice (some ⟨gr, 0, none⟩) zs.length cr)) (star (TabA G (L ++ [zs])) R) := by
  obtain ⟨F, ⟨g, cap, hT⟩, hlo, hnx⟩ := h.call hR
  have hT' := hT.keep hb.size (fun b hb' => hb.block b (hT.lt b hb'))
  have hgr : wr.heap.size ≤ gr := (World.ownsRow.lt ho gr rfl).1
  have hn : ¬ F gr := fun hf => by have := hT.lt gr hf; omega
  refine hnx _ _ _ ⟨_, _, hT'.put hk (ho.mono (Nat.zero_le _)) hn⟩ ⟨?_, ?_⟩
  · exact Mod.setCell ⟨hb.os, hb.tape, hb.output, hb.size, fun k hk _ => hb.block k hk⟩ (.inl hT.hG) _
  · rintro b (hb' | rfl)
    · exact .inl hb'
    · exact .inr hgr
theorem Sys.tabCell {w wr : World} {R : Asn} {G i : Nat} {L : List (List Nat)} (h : Sys w wr (star (TabA G L) R)) (hi : i < 4) : (∃ v, wr.cell? ⟨G, i, none⟩ = some v) ∧ wr.frozen? ⟨G, i, none⟩ = false := by
  obtain ⟨_, _, ⟨g, cap, hT⟩, _⟩ := h.two
  exact ⟨⟨_, (hT.cell hi).1⟩, (hT.cell hi).2⟩
theorem Sys.tabRow {w wr : World} {R : Asn} {G i : Nat} {L : List (List Nat)} {zs : List Nat} (h : Sys w wr (star (TabA G L) R)) (hz : L[i]? = some zs) :
    ∃ g c, wr.cell? ⟨G, i, none⟩ = some (.slice (some ⟨g, 0, none⟩) zs.length c) ∧ Rd wr (.slice (some ⟨g, 0, none⟩) zs.length c) zs := by
  obtain ⟨_, _, ⟨g, cap, hT⟩, _⟩ := h.two
  have hi : i < 4 := Nat.lt_of_lt_of_le (List.getElem?_eq_some_iff.1 hz).1 hT.len
  have hc := (hT.cell hi).1
  rw [hz] at hc
  exact ⟨_, _, hc, (hT.row i zs hz).1.rd⟩
theorem Sys.tabByte {w wr : World} {R : Asn} {G i j : Nat} {L : List (List Nat)} {zs : List Nat} (h : Sys w wr (star (TabA G L) R)) (hR : Good R) (hz : L[i]? = some zs) (hj : j < zs.length) :
    ∃ g c, wr.cell? ⟨G, i, none⟩ = some (.slice (some ⟨g, 0, none⟩) zs.length c) ∧ wr.cell? ⟨g, j, none⟩ = some (By (zs.getD j 0)) ∧ wr.frozen? ⟨g, j, none⟩ = false ∧ ∀ z, Sys w (wr.setCell ⟨g, j, none⟩ (By z)) (star (TabA G (L.set i (zs.set j z))) R) := by
  obtain ⟨F, ⟨g, cap, hT⟩, hlo, hnx⟩ := h.call hR
  have hi : i < 4 := Nat.lt_of_lt_of_le (List.getElem?_eq_some_iff.1 hz).1 hT.len
  have hc := (hT.cell hi).1
  rw [hz] at hc
  refine ⟨_, _, hc, (hT.row i zs hz).1.cell hj, (hT.row i zs hz).1.frz j, fun z => ?_⟩
  exact hnx _ F _ ⟨_, _, hT.setByte hz⟩ ⟨(Mod.refl _ _).setCell (.inl (hT.row i zs hz).2) _, fun _ h => .inl h⟩
theorem Sys.tabApp {w wr : World} {R : Asn} {G i : Nat} {L : List (List Nat)} {zs : List Nat} (h : Sys w wr (star (TabA G L) R)) (hR : Good R) (hz : L[i]? = some zs) (hp : 0 < zs.length) :
    ∃ g c, wr.cell? ⟨G, i, none⟩ = some (.slice (some ⟨g, 0, none⟩) zs.length c) ∧ wr.ownsRow 0 5 1 (.slice (some ⟨g, 0, none⟩) zs.length c) zs.length (zs.map By) ∧
      ∀ (v' : Value) (w' : World) (ys : List Nat) (o : Obj), w'.ownsRow 0 5 1 v' (zs.length + ys.length) (zs.map By ++ ys.map By) → (wr.alloc o).grownBy w' (some g) → (v'.ownBlock = some g ∨ v'.ownBlock = some (wr.heap.size + 1)) →
        (∃ u, w'.cell? ⟨G, i, none⟩ = some u) ∧ w'.frozen? ⟨G, i, none⟩ = false ∧ Sys w (w'.setCell ⟨G, i, none⟩ v') (star (TabA G (L.set i (zs ++ ys))) R) := by
  obtain ⟨F, ⟨g, cap, hT⟩, hlo, hnx⟩ := h.call hR
  have hi : i < 4 := Nat.lt_of_lt_of_le (List.getElem?_eq_some_iff.1 hz).1 hT.len
  have hc := (hT.cell hi).1
  rw [hz] at hc
  refine ⟨_, _, hc, (hT.row i zs hz).1, fun v' w' ys o ho hg hl => ?_⟩
  have hb : Below wr.heap.size wr (wr.alloc o) := (Below.refl _ _).alloc (Nat.le_refl _) o
  have hT' := hT.keep hb.size (fun b hb' => hb.block b (hT.lt b hb'))
  have hsz : (wr.alloc o).heap.size = wr.heap.size + 1 := by simp
  have hblk : w'.heap[G]? = some (.cells (cells4 L g cap).toArray 29 (0, 0)) := by rw [hg.block G (hT'.lt G hT'.hG) (fun e => hT.ne hz (by simpa using e.symm))]; exact hT'.blk
  obtain ⟨g', c', rfl⟩ : ∃ g' c', v' = .slice (some ⟨g', 0, none⟩) (zs ++ ys).length c' := by
    obtain ⟨hlen, ⟨h0, h1⟩ | ⟨g', cc, cur, hv, _⟩⟩ := ho
    · exfalso
      simp only [List.length_append, List.length_map] at hlen
      omega
    · exact ⟨g', cc, by rw [hv, List.length_append]⟩
  have ho' : Ow w' 0 (.slice (some ⟨g', 0, none⟩) (zs ++ ys).length c') (zs ++ ys) := by
    unfold Ow; rw [List.length_append, List.map_append]; rw [List.length_append] at ho; exact ho
  have hl' : g' = g i ∨ g' = (wr.alloc o).heap.size := by
    rw [hsz]
    rcases hl with e | e
    · left; simpa [Value.ownBlock] using e
    · right; simpa [Value.ownBlock] using e
  refine ⟨⟨_, by rw [cell_of_row _ _ _ _ _ _ hblk]; simpa using cells4_get L g cap i hi⟩, frozen_of_row w' G i _ _ hblk, ?_⟩
  refine hnx _ _ _ ⟨_, _, hT'.replace hz hg ho' hl'⟩ ⟨?_, ?_⟩
  · refine Mod.setCell ⟨hg.os.trans hb.os, hg.tape.trans hb.tape, hg.output.trans hb.output, Nat.le_trans hb.size hg.size, fun k hk hf => ?_⟩ (.inl hT.hG) _
    have hne : some k ≠ some (g i) := fun e => hf (by rw [Option.some.inj e]; exact (hT.row i zs hz).2)
    rw [hg.block k (Nat.lt_of_lt_of_le hk hb.size) hne, hb.block k hk]
  · rintro b (hb' | rfl)
    · exact .inl hb'
    · rcases hl' with e | e
      · left; rw [e]; exact (hT.row i zs hz).2
      · right; rw [e]; exact hb.size
end Go.Proofs.Ytemkmjeioghofaa
