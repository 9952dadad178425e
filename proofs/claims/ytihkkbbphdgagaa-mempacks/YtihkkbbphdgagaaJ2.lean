import Derived.Test.YtihkkbbphdgagaaH7
import Derived.ArgAppend
namespace Go.Proofs.Ytihkkbbphdgagaa
open Go.RowKit

section
variable {w wr w' : World} {base g cap l : Nat} {zs : List Nat} {v : Value}
theorem OwI.some_of (h : OwI w base v zs) (hp : 0 < zs.length) : ∃ g cap, v = .slice (some ⟨g, 0, none⟩) zs.length cap ∧ base ≤ g ∧ zs.length ≤ cap ∧ g < w.heap.size := by
  obtain ⟨hl, ⟨_, h0⟩ | ⟨g, cap, cur, hv, hb, hg, hn, hm, hs, ht⟩⟩ := h
  · omega
  · exact ⟨g, cap, hv, hb, hn, (Array.getElem?_eq_some_iff.1 hg).1⟩
theorem OwI.cell (h : OwI w base (.slice (some ⟨g, 0, none⟩) l cap) zs) {j : Nat} (hj : j < zs.length) : w.cell? ⟨g, j, none⟩ = some (.int .i64 (zs.getD j 0 : Nat)) := by
  have hc := World.ownsRow.cells h rfl j (In (zs.getD j 0)) (by simp [List.getD, List.getElem?_eq_getElem hj])
  rw [add0] at hc; exact hc
theorem OwI.frz (h : OwI w base (.slice (some ⟨g, 0, none⟩) l cap) zs) (j : Nat) : w.frozen? ⟨g, j, none⟩ = false := by
  obtain ⟨hl, ⟨h0, _⟩ | ⟨g', cap', cur, hv, hb, hg, hn, hm, hs, ht⟩⟩ := h
  · cases h0
  · cases hv; exact frozen_of_row _ _ _ _ _ hg
theorem OwI.set (h : OwI w base (.slice (some ⟨g, 0, none⟩) l cap) zs) {k : Nat} (z : Nat) : OwI (w.setCell ⟨g, k, none⟩ (.int .i64 (z : Int))) base (.slice (some ⟨g, 0, none⟩) l cap) (zs.set k z) := by
  obtain ⟨hl, ⟨h0, _⟩ | ⟨g', cap', cur, hv, hb, hg, hn, hm, hs, ht⟩⟩ := h
  · cases h0
  · cases hv
    refine ⟨by simp, .inr ⟨g, cap, cur.setIfInBounds k (.int .i64 (z : Int)), by simp, hb, heap_setCell_same w g k cur 3 _ hg, by simpa using hn, hm, by simpa using hs, ?_⟩⟩
    rw [List.length_set, List.map_set, ← ht]
    simp [List.take_set, In]
theorem OwI.keep (h : OwI w base v zs) (hk : ∀ b, v.ownBlock = some b → w'.heap[b]? = w.heap[b]?) : OwI w' base v zs := by
  obtain ⟨hl, ⟨rfl, h0⟩ | ⟨g, cap, cur, rfl, hb, hg, r⟩⟩ := h
  · exact ⟨hl, .inl ⟨rfl, h0⟩⟩
  · exact ⟨hl, .inr ⟨g, cap, cur, rfl, hb, by rw [hk g rfl]; exact hg, r⟩⟩
theorem OwI.lt (h : OwI w base v zs) {b : Nat} (hb : v.ownBlock = some b) : base ≤ b ∧ b < w.heap.size := World.ownsRow.lt h b hb
theorem OwI.up (h : OwI w base v zs) (hb : Below w.heap.size w w') : OwI w' base v zs := h.keep (fun b e => hb.block b (h.lt e).2)
end
theorem getD_in {zs : List Nat} {j : Nat} {u : Value} (hu : (zs.map In)[j]? = some u) : j < zs.length ∧ u = .int .i64 (zs.getD j 0 : Nat) := by
  have hj : j < zs.length := by have := (List.getElem?_eq_some_iff.1 hu).1; simpa using this
  refine ⟨hj, ?_⟩
  rw [List.getElem?_map, List.getElem?_eq_getElem hj] at hu
  simp [In] at hu
  rw [← hu]; simp [List.getD, List.getElem?_eq_getElem hj]
/-- a number appended to a row of numbers: what was there stays there -/
theorem append_keep {ops : Array Oper} {rest : List Oper} {o : Oper} {a : Act} {w : World} {Q : Exit → Act → World → Prop} (hg : o.guard = none) (s x : Operand) (hop : o.op = Op.call { callee := Callee.builtin Builtin.append, args := #[s, x], argTypes := #[35, 35] })
    (base g L cap : Nat) (zs : List Nat) (z N : Nat) (hL : zs.length = L) (hp : 0 < L) (h64 : L ≤ 1000) (hs : a.eval s = .slice (some ⟨g, 0, none⟩) L cap) (hO : OwI w base (.slice (some ⟨g, 0, none⟩) L cap) zs)
    (hx : a.eval x = .slice (some ⟨N, 0, none⟩) 1 1) (hN : w.cell? ⟨N, 0, none⟩ = some (.int .i64 (z : Int)))
    (h : ∀ g2 c2 w', w'.cell? ⟨g2, L, none⟩ = some (.int .i64 (z : Int)) → (∀ j, j < L → w'.cell? ⟨g, j, none⟩ = some (.int .i64 (zs.getD j 0 : Nat))) → Mod (fun b => b = g) w w' → L + 1 ≤ c2 → (g2 = g ∨ w.heap.size ≤ g2) → wpList Try.prog ops Q rest (a.put o.dst (.slice (some ⟨g2, 0, none⟩) (L + 1) c2)) w') :
    wpList Try.prog ops Q (o :: rest) a w := by
  obtain ⟨i3, hi, hz, hs3, hb3⟩ := info3'
  have hg2 : g < w.heap.size := (hO.lt rfl).2
  have hO' := hO
  obtain ⟨hl, ⟨h0, _⟩ | ⟨g', cap', cur, hv, hb, hgc, hn, hm, hcs, ht⟩⟩ := hO
  · cases h0
  simp at hv
  obtain ⟨rfl, _, rfl⟩ := hv
  refine wpList_append_arg w hg s x 35 hop 3 i3 (.int .i64 0) 1 8 Try.underlying35 hi hz hs3 hb3 rfl (by decide) g 0 L cap (zs.map In) hs (by simp [hL]) ?_ ⟨N, 0, none⟩ 1 1 [.int .i64 (z : Int)] hx rfl ?_ ?_ ?_ (by unfold maxLen; omega) (by omega) ?_ ?_
  · intro j u hu
    obtain ⟨hj, rfl⟩ := getD_in hu
    rw [Nat.zero_add]; exact hO'.cell hj
  · intro j u hu
    match j, hu with
    | 0, hu => rw [add0, hN]; simpa using hu
  · intro u hu; simp at hu; subst hu; rfl
  · intro hr j hj
    simp at hj
    subst hj
    refine ⟨?_, frozen_of_row _ _ _ _ _ hgc⟩
    rw [cell_of_row _ _ _ _ _ _ hgc]
    simp; omega
  · intro hr
    have hc2 : w.setCells g (0 + L * 1) [.int .i64 (z : Int)] = w.setCell ⟨g, L, none⟩ (.int .i64 (z : Int)) := by simp [World.setCells]
    rw [hc2]
    refine h g cap _ ?_ ?_ ((Mod.refl (fun b => b = g) w).setCell (.inl rfl) _) hr (.inl rfl)
    · rw [cell_of_row _ _ _ _ _ _ (heap_setCell_same w g L cur 3 _ hgc)]
      exact Array.getElem?_setIfInBounds_self_of_lt (by omega)
    · intro j hj
      rw [World.cell?_setCell_other _ _ _ _ (by intro e; cases e; omega)]
      exact hO'.cell (by omega)
  · intro hr v' w' how hgr
    have how' : OwI w' w.heap.size v' (zs ++ [z]) := by unfold OwI; simp [hL] at how ⊢; exact how
    obtain ⟨g2, c2, rfl, h3, h4, h5⟩ := how'.some_of (by simp)
    have hcell := how'.cell (j := L) (by simp [hL])
    rw [show (zs ++ [z]).length = L + 1 by simp [hL]] at h4 ⊢
    refine h g2 c2 w' ?_ ?_ ⟨hgr.os, hgr.tape, hgr.output, hgr.size, fun b hb _ => hgr.block b hb (by simp)⟩ h4 (.inr h3)
    · rw [hcell]; simp [List.getD, ← hL]
    · intro j hj
      rw [cell_of_row _ _ _ _ _ _ (show w'.heap[g]? = _ by rw [hgr.block g hg2 (by simp)]; exact hgc), ← cell_of_row w _ _ _ _ _ hgc]
      exact hO'.cell (by omega)
end Go.Proofs.Ytihkkbbphdgagaa
