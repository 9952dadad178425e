import Derived.Test.YtogcgccfalfbaaaW2
import Derived.Laws.AppendOwnNone
namespace Go.Proofs.Ytogcgccfalfbaaa
open Go.RowKit

theorem run_append_zero {P : Program} {w : World} (base : Nat) (t ty e : TypeId) (i : TypeInfo) (size c : Nat) (ht : P.underlying t = some (.slice e)) (hi : P.info? e = some i)
    (v : Value) (n : Nat) (xs : List Value) (hown : w.ownsRow base e size v n xs) : (Builtin.append_ #[t, t] ty #[v, .slice none 0 c]).run P w = .ok v w := by
  rcases hown.2 with ⟨rfl, rfl⟩ | ⟨g, cap, cur, rfl, _, _, hnc, _⟩
  · simp [Builtin.append_, run_underlying ht, sizeOf, typeInfo, hi, Builtin.lenOf, Builtin.firstCells]
  · simp [Builtin.append_, run_underlying ht, sizeOf, typeInfo, hi, Builtin.lenOf, Builtin.firstCells, hnc, storeCells]
theorem wpList_append_zero {P : Program} {w : World} {ops : Array Oper} {rest : List Oper} {o : Oper} {a : Act} {Q : Exit → Act → World → Prop} (hgd : o.guard = none) (s x : Operand) (t : TypeId)
    (ho : o.op = .call { callee := .builtin .append, args := #[s, x], argTypes := #[t, t] })
    (base : Nat) (e : TypeId) (i : TypeInfo) (size c : Nat) (ht : P.underlying t = some (.slice e)) (hi : P.info? e = some i)
    (v : Value) (n : Nat) (xs : List Value) (hs : a.eval s = v) (hown : w.ownsRow base e size v n xs) (hx : a.eval x = .slice none 0 c)
    (h : wpList P ops Q rest (a.put o.dst v) w) : wpList P ops Q (o :: rest) a w := by
  refine wpList_plain hgd fun K hK => ?_
  have hrun := run_append_zero (P := P) (w := w) base t o.type e i size c ht hi v n xs hown
  unfold Oper.wp
  simp [execOp, ho, resolve, invoke, builtin, hs, hx, hrun, Result.andThen]
  exact hK _ _ h
/-- a put's two cells -/
def pr2 (z : Int × Nat) : List Value := [.int .i64 z.1, By z.2]
theorem pr2_len (L : List (Int × Nat)) : (L.flatMap pr2).length = L.length * 2 := by
  induction L with
  | nil => rfl
  | cons a t ih => simp only [List.flatMap_cons, List.length_append, List.length_cons, ih]; simp [pr2]; omega
theorem pr2_get (L : List (Int × Nat)) (k : Nat) (z : Int × Nat) (hk : L[k]? = some z) : (L.flatMap pr2)[k * 2]? = some (.int .i64 z.1) ∧ (L.flatMap pr2)[k * 2 + 1]? = some (By z.2) := by
  induction L generalizing k with
  | nil => simp at hk
  | cons y r ih =>
    have hf : (y :: r).flatMap pr2 = [.int .i64 y.1, By y.2] ++ r.flatMap pr2 := rfl
    rw [hf]
    cases k with
    | zero => simp at hk; subst hk; simp
    | succ k =>
      obtain ⟨h1, h2⟩ := ih k (by simpa using hk)
      rw [List.getElem?_append_right (by simp; omega), List.getElem?_append_right (by simp; omega)]
      refine ⟨?_, ?_⟩
      · rw [← h1]; congr 1; simp; omega
      · rw [← h2]; congr 1; simp; omega
theorem pr2_one (L : List (Int × Nat)) : ∀ u ∈ L.flatMap pr2, u.oneCell' = true := by
  intro u hu
  obtain ⟨z, _, hz⟩ := List.mem_flatMap.1 hu
  simp [pr2] at hz
  rcases hz with rfl | rfl <;> rfl
/-- an own list of puts -/
def PutsA (v : Value) (L : List (Int × Nat)) : Asn := fun W H => W.ownsRow 0 30 2 v L.length (L.flatMap pr2) ∧ ∀ b, H b ↔ v.ownBlock = some b
theorem good_puts (v : Value) (L : List (Int × Nat)) : Good (PutsA v L) := by
  refine ⟨?_, ?_⟩
  · rintro W H ⟨h, he⟩ b hb
    exact ownsRow_lt h ((he b).1 hb)
  · rintro W W' H ⟨h, he⟩ _ hk
    exact ⟨ownsRow_keep h (fun b hb => hk b ((he b).2 hb)), he⟩
def Fair (L : List (Int × Nat)) : Prop := ∀ z ∈ L, z.2 < 256 ∧ -9223372036854775808 ≤ z.1 ∧ z.1 ≤ 9223372036854775807
theorem PutsA.puts {v : Value} {L : List (Int × Nat)} {W : World} {H : Nat → Prop} (h : PutsA v L W H) (hl : Fair L) : ∃ ao cap, v = .slice ao L.length cap ∧ IsPuts W ao L.length (fun k => L.getD k (0, 0)) := by
  have h' := h.1
  obtain ⟨hn, ⟨hv, h0⟩ | ⟨g, cap, cur, hv, hb, hg, r⟩⟩ := h.1
  · exact ⟨none, 0, by rw [hv, h0], fun k hk => by omega⟩
  · refine ⟨_, cap, hv, fun k hk => ⟨_, rfl, ?_⟩⟩
    have hg' : L[k]? = some (L.getD k (0, 0)) := by rw [List.getD, List.getElem?_eq_getElem hk]; rfl
    obtain ⟨h1, h2⟩ := pr2_get L k _ hg'
    have hm := hl _ (List.mem_of_getElem? hg')
    exact ⟨World.ownsRow.cells h' (by rw [hv]; rfl) _ _ h1, World.ownsRow.cells h' (by rw [hv]; rfl) _ _ h2, hm.1, hm.2.1, hm.2.2⟩
theorem isPuts_cells {w : World} {a : Option Addr} {len : Nat} {Z : Nat → Int × Nat} (h : IsPuts w a len Z) {ad : Addr} (ha : a = some ad) : ∀ j u, (((List.range len).map Z).flatMap pr2)[j]? = some u → w.cell? (ad.add j) = some u := by
  intro j u hu
  have hj : j < len * 2 := by have := (List.getElem?_eq_some_iff.1 hu).1; rw [pr2_len] at this; simpa using this
  have hk : j / 2 < len := by omega
  obtain ⟨x, hx, c0, c1, _⟩ := h (j / 2) hk
  obtain rfl : ad = x := by rw [ha] at hx; cases hx; rfl
  obtain ⟨g0, g1⟩ := pr2_get ((List.range len).map Z) (j / 2) (Z (j / 2)) (by simp [hk])
  rcases Nat.mod_two_eq_zero_or_one j with e | e
  · rw [show j / 2 * 2 = j by omega] at c0 g0
    rw [hu] at g0; cases g0; exact c0
  · rw [show j / 2 * 2 + 1 = j by omega] at c1 g1
    rw [hu] at g1; cases g1; exact c1
theorem isPuts_none {w : World} {a : Option Addr} {len : Nat} {Z : Nat → Int × Nat} (h : IsPuts w a len Z) (ha : a = none) : len = 0 := by
  rcases Nat.eq_zero_or_pos len with e | e
  · exact e
  · obtain ⟨x, hx, _⟩ := h 0 e; rw [ha] at hx; cases hx
theorem fair_puts {w : World} {a : Option Addr} {len : Nat} {Z : Nat → Int × Nat} (h : IsPuts w a len Z) : Fair ((List.range len).map Z) := by
  intro z hz
  obtain ⟨k, hk, rfl⟩ := List.mem_map.1 hz
  obtain ⟨_, _, _, _, h1, h2, h3⟩ := h k (List.mem_range.1 hk)
  exact ⟨h1, h2, h3⟩
/-- append of puts to an own list of puts, whatever the source is -/
theorem wpList_append_puts {ops : Array Oper} {rest : List Oper} {o : Oper} {a : Act} {w : World} {Q : Exit → Act → World → Prop} (hgd : o.guard = none) (s x : Operand)
    (ho : o.op = .call { callee := .builtin .append, args := #[s, x], argTypes := #[23, 23] })
    (v : Value) (n : Nat) (xs : List Value) (hs : a.eval s = v) (hown : w.ownsRow 0 30 2 v n xs)
    (xo : Option Addr) (m c : Nat) (L : List (Int × Nat)) (hx : a.eval x = .slice xo m c) (hm : L.length = m) (hne : xo = none → m = 0) (hc : ∀ ad, xo = some ad → ∀ j u, (L.flatMap pr2)[j]? = some u → w.cell? (ad.add j) = some u) (hnm : n + m ≤ 8388608)
    (h : ∀ v' w', w'.ownsRow 0 30 2 v' (n + m) (xs ++ L.flatMap pr2) → w.grownBy w' v.ownBlock → (v'.ownBlock = v.ownBlock ∨ v'.ownBlock = some w.heap.size) → wpList Try.prog ops Q rest (a.put o.dst v') w') : wpList Try.prog ops Q (o :: rest) a w := by
  obtain ⟨i5, hi, hz, hsz, hb⟩ := info35'
  cases xo with
  | none =>
    have h0 := hne rfl
    subst h0
    obtain rfl : L = [] := List.length_eq_zero_iff.1 hm
    refine wpList_append_zero hgd s x 23 ho 0 30 i5 2 c Try.underlying23 hi v n xs hs hown hx ?_
    exact h v w (by simpa using hown) ⟨rfl, rfl, rfl, Nat.le_refl _, fun _ _ _ => rfl⟩ (.inl rfl)
  | some ad =>
    refine wpList_append_own_at w hgd s x 23 ho 0 30 i5 (.agg #[.int .i64 0, .int .u8 0]) 2 16 Try.underlying23 hi hz hsz hb rfl (by decide) v n xs hs hown ad m c (L.flatMap pr2) hx (by rw [pr2_len, hm]) (hc ad rfl) (pr2_one L) (by unfold maxLen; omega) (by omega) (Nat.zero_le _) ?_
    intro v' w' h1 h2 _ h4
    exact h v' w' h1 h2 h4
/-- a list of puts of the call's own comes in -/
theorem Sys.puts {w wr w' : World} {R : Asn} (h : Sys w wr R) (hR : Good R) {v : Value} {L : List (Int × Nat)} (ho : w'.ownsRow 0 30 2 v L.length (L.flatMap pr2)) (hl : ∀ b, v.ownBlock = some b → wr.heap.size ≤ b) (hb : Below wr.heap.size wr w') : Sys w w' (star (PutsA v L) R) :=
  h.new hR (X := PutsA v L) (Fc := fun b => v.ownBlock = some b) ⟨ho, fun _ => Iff.rfl⟩ hl hb
/-- bytes of the call's own, as they lie -/
def BigA (v : Value) (cur : List Value) : Asn := fun W H => W.ownsRow 0 5 1 v cur.length cur ∧ ∀ b, H b ↔ v.ownBlock = some b
theorem good_big (v : Value) (cur : List Value) : Good (BigA v cur) := by
  refine ⟨?_, ?_⟩
  · rintro W H ⟨h, he⟩ b hb
    exact ownsRow_lt h ((he b).1 hb)
  · rintro W W' H ⟨h, he⟩ _ hk
    exact ⟨ownsRow_keep h (fun b hb => hk b ((he b).2 hb)), he⟩
/-- bytes of whatever value -/
def AnyB (g : Nat) : Asn := fun W H => (∃ cur, W.heap[g]? = some (.cells cur 5 (0, 0)) ∧ ∀ j, j < 131074 → ∃ z, cur[j]? = some (.int .u8 z)) ∧ ∀ b, H b ↔ b = g
theorem good_anyB (g : Nat) : Good (AnyB g) := by
  refine ⟨?_, ?_⟩
  · rintro W H ⟨⟨cur, h, _⟩, he⟩ b hb
    rw [(he b).1 hb]; exact (Array.getElem?_eq_some_iff.1 h).1
  · rintro W W' H ⟨⟨cur, h, h2⟩, he⟩ _ hk
    exact ⟨⟨cur, by rw [hk g ((he g).2 rfl)]; exact h, h2⟩, he⟩
theorem AnyB.set {g j : Nat} {z : Int} {W : World} {H : Nat → Prop} (h : AnyB g W H) : AnyB g (W.setCell ⟨g, j, none⟩ (.int .u8 z)) H := by
  obtain ⟨⟨cur, h1, h2⟩, he⟩ := h
  refine ⟨⟨_, heap_setCell_same W g j _ _ _ h1, fun i hi => ?_⟩, he⟩
  by_cases e : i = j
  · subst e
    obtain ⟨z', hz'⟩ := h2 i hi
    exact ⟨z, by rw [Array.getElem?_setIfInBounds_self_of_lt (Array.getElem?_eq_some_iff.1 hz').1]⟩
  · obtain ⟨z', hz'⟩ := h2 i hi
    exact ⟨z', by rw [Array.getElem?_setIfInBounds_ne (fun h => e h.symm)]; exact hz'⟩
theorem AnyB.cell {g j : Nat} {W : World} {H : Nat → Prop} (h : AnyB g W H) (hj : j < 131074) : (∃ z, W.cell? ⟨g, j, none⟩ = some (.int .u8 z)) ∧ W.frozen? ⟨g, j, none⟩ = false := by
  obtain ⟨⟨cur, h1, h2⟩, _⟩ := h
  obtain ⟨z, hz⟩ := h2 j hj
  exact ⟨⟨z, by rw [cell_of_row _ _ _ _ _ _ h1]; exact hz⟩, frozen_of_row _ _ _ _ _ h1⟩
theorem Sys.setAnyB {w wr : World} {R : Asn} {g j : Nat} {z : Int} (h : Sys w wr (star (AnyB g) R)) (hR : Good R) : Sys w (wr.setCell ⟨g, j, none⟩ (.int .u8 z)) (star (AnyB g) R) := by
  obtain ⟨F, hX, hlo, hnx⟩ := h.call hR
  exact hnx _ F _ hX.set ⟨(Mod.refl _ _).setCell (.inl ((hX.2 g).2 rfl)) _, fun _ h => .inl h⟩
theorem BigA.any {g cap : Nat} {cur : List Value} {W : World} {H : Nat → Prop} (h : BigA (.slice (some ⟨g, 0, none⟩) cur.length cap) cur W H) (hl : cur.length = 131074) (hb : ∀ j, j < 131074 → ∃ z, cur[j]? = some (.int .u8 z)) : AnyB g W H := by
  have h1 := h.1
  rcases h.1.2 with ⟨e, _⟩ | ⟨g', cap', cr, e, _, hg, hn, _, hs, ht⟩
  · cases e
  · cases e
    refine ⟨⟨cr, hg, fun j hj => ?_⟩, fun b => by rw [h.2 b]; simp [Value.ownBlock]; exact eq_comm⟩
    obtain ⟨z, hz⟩ := hb j hj
    refine ⟨z, ?_⟩
    rw [← ht, List.getElem?_take_of_lt (by omega)] at hz
    simpa using hz
end Go.Proofs.Ytogcgccfalfbaaa
