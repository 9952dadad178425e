import Derived.Test.YtmdcmpkjhflgpaaRF
namespace Go.Proofs.Ytmdcmpkjhflgpaa
open Go.RowKit

theorem cells_new (w : World) (t : TypeId) (l : List Value) (j : Nat) (u : Value) (h : l[j]? = some u) : (w.alloc (.cells l.toArray t)).cell? ((⟨w.heap.size, 0, none⟩ : Addr).add j) = some u := by
  rw [add0, cell_of_row _ _ _ _ _ _ (heap_alloc_last w _)]
  simpa using h
theorem infoCell : ∃ i, Try.prog.info? 42 = some i ∧ i.zero = some (.agg Fr.nil.rc.toArray) ∧ i.size = 36 ∧ i.bytes = 160 := info_parts (by kernel_rfl)
theorem own_keep {w w' : World} {base : Nat} {e : TypeId} {size : Nat} {v : Value} {n : Nat} {xs : List Value} (h : w.ownsRow base e size v n xs) (hk : ∀ b, v.ownBlock = some b → w'.heap[b]? = w.heap[b]?) : w'.ownsRow base e size v n xs := by
  obtain ⟨h1, h2 | ⟨g, cap, cur, h2, h3, h4, h5⟩⟩ := h
  · exact ⟨h1, .inl h2⟩
  · exact ⟨h1, .inr ⟨g, cap, cur, h2, h3, (hk g (by rw [h2]; rfl)).trans h4, h5⟩⟩
theorem own_shape {w : World} {base : Nat} {e : TypeId} {size : Nat} {v : Value} {n : Nat} {xs : List Value} (h : w.ownsRow base e size v n xs) : ∃ a c, v = .slice a n c := by
  obtain ⟨h1, ⟨h2, h3⟩ | ⟨g, cap, cur, h2, _⟩⟩ := h
  · exact ⟨none, 0, by rw [h2, h3]⟩
  · exact ⟨_, _, h2⟩
/-- so many cells of nothing -/
def nils : Nat → List Value
  | 0 => []
  | j + 1 => nils j ++ Fr.nil.rc
theorem nils_len : ∀ j, (nils j).length = j * 36
  | 0 => rfl
  | j + 1 => by simp only [nils, List.length_append, nils_len j, rc_len]; omega
theorem nils_get : ∀ (j f x : Nat) (v : Value), f < j → Fr.nil.rc[x]? = some v → (nils j)[f * 36 + x]? = some v
  | 0, f, x, v, h, _ => by omega
  | j + 1, f, x, v, h, hv => by
    have hx : x < 36 := by have := (List.getElem?_eq_some_iff.1 hv).1; rwa [rc_len] at this
    unfold nils
    by_cases e : f < j
    · rw [List.getElem?_append_left (by rw [nils_len]; omega)]; exact nils_get j f x v e hv
    · rw [List.getElem?_append_right (by rw [nils_len]; omega), nils_len, show f * 36 + x - j * 36 = x by omega]; exact hv
/-- where New stands -/
structure Mk (w wr : World) (v : Value) (j : Nat) : Prop where
  top : wr.heap[w.heap.size]? = some (.cells #[v] 40 (0, 0))
  own : wr.ownsRow (w.heap.size + 1) 42 36 v j (nils j)
  bel : Below w.heap.size w wr
theorem Mk.more {w wr w2 : World} {v v2 : Value} {j : Nat} (h : Mk w wr v j) (o : Obj) (ho : w2.ownsRow (w.heap.size + 1) 42 36 v2 (j + 1) (nils j ++ Fr.nil.rc)) (hg : (wr.alloc o).grownBy w2 v.ownBlock) :
    w2.heap[w.heap.size]? = some (.cells #[v] 40 (0, 0)) ∧ Mk w (w2.setCell ⟨w.heap.size, 0, none⟩ v2) v2 (j + 1) := by
  have hlt : w.heap.size < wr.heap.size := (Array.getElem?_eq_some_iff.1 h.top).1
  have hlow : ∀ k, v.ownBlock = some k → w.heap.size + 1 ≤ k := fun k e => (h.own.lt k e).1
  have h0 : w2.heap[w.heap.size]? = some (.cells #[v] 40 (0, 0)) := by
    rw [hg.block _ (by simp; omega) (fun e => by have := hlow _ e.symm; omega), heap_alloc_old _ _ hlt]; exact h.top
  refine ⟨h0, ⟨by rw [heap_setCell_same _ _ _ _ _ _ h0]; rfl, own_keep ho (fun b hb => heap_setCell_other _ _ _ _ (by have := (ho.lt b hb).1; show b ≠ w.heap.size; omega)), ?_⟩⟩
  refine Below.setCell (B := w.heap.size) (p := ⟨w.heap.size, 0, none⟩) ?_ (Nat.le_refl _) _
  have hs := hg.size
  simp at hs
  exact h.bel.trans ⟨hg.os, hg.tape, hg.output, by omega, fun k hk => (hg.block k (by simp; omega) (fun e => by have := hlow k e.symm; omega)).trans (heap_alloc_old _ _ (by omega))⟩
theorem Mk.done {w wr : World} {v : Value} {n : Nat} (h : Mk w wr v n) : ∃ G c a, RfAt wr w.heap.size G n c a (fun _ => Fr.nil) ∧ w.heap.size ≤ G := by
  have hlt : w.heap.size < wr.heap.size := (Array.getElem?_eq_some_iff.1 h.top).1
  have ht := h.top
  obtain ⟨h1, ⟨h2, h3⟩ | ⟨g, cap, cur, h2, h3, h4, h5, h6, h7, h8⟩⟩ := h.own
  · subst h2; subst h3
    exact ⟨w.heap.size, 0, none, ⟨ht, fun h => by omega, fun h => by omega, fun h => by omega, hlt⟩, Nat.le_refl _⟩
  · subst h2
    refine ⟨g, cap, _, ⟨ht, fun _ => rfl, fun _ => ⟨cur, h4, by rw [h7]; exact Nat.mul_le_mul_right _ h5, fun f hf j u hu => ?_⟩, fun _ => by omega, (Array.getElem?_eq_some_iff.1 h4).1⟩, by omega⟩
    have := nils_get n f j u hf hu
    rw [← h8] at this
    rw [← Array.getElem?_toList]
    have hj : j < 36 := by have := (List.getElem?_eq_some_iff.1 hu).1; rwa [rc_len] at this
    rwa [List.getElem?_take_of_lt (by omega)] at this
/-- what New leaves -/
def RNew (w w' : World) (n : Nat) : Prop := ∃ G c a, RfAt w' w.heap.size G n c a (fun _ => Fr.nil) ∧ w.heap.size ≤ G ∧ Below w.heap.size w w'
set_option maxHeartbeats 1000000 in
theorem rnew_any (w : World) (f : Int) (n : Nat) (hf : (n : Int) = min (max f 0) 64) :
    Calls Try.prog 5 #[.int .i64 f] w fun e w' => e = .returned (.pointer (some ⟨w.heap.size, 0, none⟩)) ∧ RNew w w' n := by
  obtain ⟨i3, hi, hz, hs, hb⟩ := infoCell
  go_enter Try.func5, Try.ntmps5
  go_wp2
  go_loopw [4] (fun i wr => ∃ j : Nat, j ≤ n ∧ i = .int .i64 (j : Int) ∧ ∃ v, Mk w wr v j) (fun i _ => 64 - (intOf i).toNat)
  case atStart => exact ⟨0, by omega, rfl, .slice none 0 0, ⟨heap_alloc_last w _, World.ownsRow_nil _ _ _ _, (Below.refl _ _).alloc (Nat.le_refl _) _⟩⟩
  case round =>
    obtain ⟨j, hj, rfl, v, hM⟩ := hrel
    have c0 : wr.cell? ⟨w.heap.size, 0, none⟩ = some v := cell_of_row _ _ 0 _ _ _ hM.top
    obtain ⟨a, c, rfl⟩ := own_shape hM.own
    have HM := hide hM
    have hsz := hM.bel.size
    have hsl : w.heap.size < wr.heap.size := (Array.getElem?_eq_some_iff.1 hM.top).1
    clear hM
    by_cases hlt : (j : Int) < f ∧ j < 64
    · have d1 : decide ((j : Int) < f) = true := by simp; exact hlt.1
      have d2 : decide ((j : Int) < 64) = true := by simp; omega
      have hj2 : j + 1 ≤ n := by omega
      have hlf := hlt.1
      have hl6 : (j : Int) < 64 := by omega
      clear hlt
      go_upto_region 4 with (at_builtin; refine wpList_append_own_at _ rfl _ _ 38 rfl (w.heap.size + 1) 42 i3 (.agg Fr.nil.rc.toArray) 36 160 Try.underlying38 hi hz hs hb rfl (by decide) (.slice a j c) j (nils j) rfl (HM.out.own.alloc _) ⟨wr.heap.size, 0, none⟩ 1 1 Fr.nil.rc rfl rfl (cells_new _ _ _) (rc_one _) (by unfold maxLen; omega) (by omega) (by simp; omega) ?_; intro v2 w2 ho2 hg2 _ hv2; obtain ⟨gg, cp, rfl⟩ := own_shape ho2; obtain ⟨g1, g2⟩ := HM.out.more _ ho2 hg2; have k0 : w2.cell? ⟨w.heap.size, 0, none⟩ = some (.slice a j c) := cell_of_row _ _ 0 _ _ _ g1; have k1 := frozen_of_row _ _ 0 _ _ g1; have H2 := hide g2; clear g1 g2)
      clear ho2 hg2 hv2 HM c0
      go_wp2
      go_roundw
      case rel => exact ⟨j + 1, by omega, by go_num, _, H2.out⟩
      case measure => simp [intOf]; omega
    · obtain rfl : j = n := by omega
      by_cases h1 : (j : Int) < f
      · have d1 : decide ((j : Int) < f) = true := by simp; exact h1
        have d2 : decide ((j : Int) < 64) = false := by simp; omega
        clear hlt
        go_wp2
        go_ret
        obtain ⟨G, c', a', h3, h4⟩ := HM.out.done
        exact ⟨rfl, G, c', a', h3, h4, HM.out.bel⟩
      · have d1 : decide ((j : Int) < f) = false := by simp; omega
        clear hlt
        go_wp2
        go_ret
        obtain ⟨G, c', a', h3, h4⟩ := HM.out.done
        exact ⟨rfl, G, c', a', h3, h4, HM.out.bel⟩
end Go.Proofs.Ytmdcmpkjhflgpaa
