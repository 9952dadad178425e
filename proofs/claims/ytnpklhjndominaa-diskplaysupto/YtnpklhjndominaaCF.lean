import Derived.Test.YtnpklhjndominaaCE
namespace Go.Proofs.Ytnpklhjndominaa
open Go.RowKit

theorem own_type {W : World} {b1 b2 e1 e2 s1 s2 n1 n2 : Nat} {v1 v2 : Value} {x1 x2 : List Value} (h1 : W.ownsRow b1 e1 s1 v1 n1 x1) (h2 : W.ownsRow b2 e2 s2 v2 n2 x2) (hne : e1 ≠ e2) {b : Nat} (hb : v1.ownBlock = some b) : v2.ownBlock ≠ some b := by
  intro hb2
  obtain ⟨_, ⟨rfl, _⟩ | ⟨g, cap, cur, rfl, _, hg, _⟩⟩ := h1
  · simp [Value.ownBlock] at hb
  · obtain ⟨_, ⟨rfl, _⟩ | ⟨g', cap', cur', rfl, _, hg', _⟩⟩ := h2
    · simp [Value.ownBlock] at hb2
    · simp [Value.ownBlock] at hb hb2
      subst hb; subst hb2
      rw [hg] at hg'
      simp at hg'
      exact hne hg'.2
/-- a list of own rows of bytes, itself own -/
def RowsAt (v : Value) (L : List (List Nat)) (rs : List Value) : Asn := fun W H => rs.length = L.length ∧ W.ownsRow 0 27 1 v rs.length rs ∧ (∀ (i : Nat) (zs : List Nat), L[i]? = some zs → ∃ r, rs[i]? = some r ∧ Ow W 0 r zs ∧ ∀ b, r.ownBlock = some b → H b) ∧
  (∀ b, v.ownBlock = some b → H b) ∧ ∀ b, H b → b < W.heap.size
def RowsA (v : Value) (L : List (List Nat)) : Asn := fun W H => ∃ rs : List Value, RowsAt v L rs W H
theorem good_rows (v : Value) (L : List (List Nat)) : Good (RowsA v L) := by
  refine ⟨?_, ?_⟩
  · rintro W H ⟨rs, _, _, _, _, h⟩; exact h
  · rintro W W' H ⟨rs, h1, h2, h3, h4, h5⟩ hs hk
    refine ⟨rs, h1, ownsRow_keep h2 (fun b hb => hk b (h4 b hb)), fun i zs hz => ?_, h4, fun b hb => Nat.lt_of_lt_of_le (h5 b hb) hs⟩
    obtain ⟨r, hr, ho, hH⟩ := h3 i zs hz
    exact ⟨r, hr, ownsRow_keep ho (fun b hb => hk b (hH b hb)), hH⟩
theorem rows_nil (W : World) : RowsA (.slice none 0 0) [] W (fun _ => False) :=
  ⟨[], rfl, World.ownsRow_nil _ _ _ _, fun i zs h => by simp at h, fun b h => by simp [Value.ownBlock] at h, fun b h => h.elim⟩
theorem rows_app {v v' r : Value} {L : List (List Nat)} {zs : List Nat} {rs : List Value} {W W2 w' : World} {H : Nat → Prop} {n : Nat} (h : RowsAt v L rs W H) (hb : Below W.heap.size W W2) (hr : Ow W2 0 r zs)
    (ho : w'.ownsRow 0 27 1 v' (n + 1) (rs ++ [r])) (hn : n = L.length) (hg : W2.grownBy w' v.ownBlock) :
    RowsA v' (L ++ [zs]) w' (fun b => H b ∨ r.ownBlock = some b ∨ v'.ownBlock = some b) := by
  obtain ⟨h1, h2, h3, h4, h5⟩ := h
  have h2' : W2.ownsRow 0 27 1 v rs.length rs := ownsRow_keep h2 (fun b hb' => hb.block b (h5 b (h4 b hb')))
  have keep : ∀ {q : Value} {ys : List Nat}, Ow W2 0 q ys → Ow w' 0 q ys := fun {q ys} hq => ownsRow_keep hq (fun b hb' => hg.block b (ownsRow_lt hq hb') (fun e => own_type hq h2' (by decide) hb' e.symm))
  refine ⟨rs ++ [r], by simp [h1], by rw [List.length_append, h1, ← hn]; exact ho, fun i ys hy => ?_, fun b hb' => .inr (.inr hb'), fun b hb' => ?_⟩
  · by_cases hi : i < L.length
    · rw [List.getElem?_append_left hi] at hy
      obtain ⟨q, hq, hq2, hq3⟩ := h3 i ys hy
      refine ⟨q, by rw [List.getElem?_append_left (by omega)]; exact hq, keep (ownsRow_keep hq2 (fun b hb' => hb.block b (h5 b (hq3 b hb')))), fun b hb' => .inl (hq3 b hb')⟩
    · have hil : i < (L ++ [zs]).length := (List.getElem?_eq_some_iff.1 hy).1
      simp at hil
      obtain rfl : i = L.length := by omega
      simp at hy
      subst hy
      exact ⟨r, by rw [← h1]; simp, keep hr, fun b hb' => .inr (.inl hb')⟩
  · rcases hb' with h6 | h6 | h6
    · exact Nat.lt_of_lt_of_le (h5 b h6) (Nat.le_trans hb.size hg.size)
    · exact ownsRow_lt (keep hr) h6
    · exact ownsRow_lt ho h6
/-- the list, read -/
theorem rows_read {v : Value} {L : List (List Nat)} {W : World} {H : Nat → Prop} (h : RowsA v L W H) : ∃ (ao : Option Addr) (cap : Nat), v = .slice ao L.length cap ∧ ∀ (k : Nat) (zs : List Nat), L[k]? = some zs → ∃ g r, ao = some ⟨g, 0, none⟩ ∧ W.cell? ⟨g, k, none⟩ = some r ∧ Rd W r zs := by
  obtain ⟨rs, h1, h2, h3, _⟩ := h
  have h2' := h2
  obtain ⟨hl, ⟨rfl, h0⟩ | ⟨g, cap, cur, rfl, hb, hg, hn, hm, hs, ht⟩⟩ := h2
  · refine ⟨none, 0, by rw [← h1, h0], fun k zs hk => ?_⟩
    have := (List.getElem?_eq_some_iff.1 hk).1; omega
  · refine ⟨_, cap, by rw [h1], fun k zs hk => ?_⟩
    obtain ⟨r, hr, ho, _⟩ := h3 k zs hk
    refine ⟨g, r, rfl, ?_, ho.rd⟩
    have := World.ownsRow.cells h2' rfl k r hr
    rw [add0] at this; exact this
theorem info29' : ∃ i, Try.prog.info? 27 = some i ∧ i.zero = some (.slice none 0 0) ∧ i.size = 1 ∧ i.bytes = 24 := info_parts (by kernel_rfl)
/-- what the medium holds in the sectors of the first k writes -/
def rawsOf (M : Nat → List Nat) (Z : Nat → Int × Nat) (k : Nat) : List (List Nat) := (List.range k).map (fun j => M (pl (Z j).1))
theorem rawsOf_succ (M : Nat → List Nat) (Z : Nat → Int × Nat) (k : Nat) : rawsOf M Z (k + 1) = rawsOf M Z k ++ [M (pl (Z k).1)] := by simp [rawsOf, List.range_succ]
theorem rawsOf_len (M : Nat → List Nat) (Z : Nat → Int × Nat) (k : Nat) : (rawsOf M Z k).length = k := by simp [rawsOf]
theorem rawsOf_get (M : Nat → List Nat) (Z : Nat → Int × Nat) {k n : Nat} (h : k < n) : (rawsOf M Z n)[k]? = some (M (pl (Z k).1)) := by simp [rawsOf, h]
end Go.Proofs.Ytnpklhjndominaa
