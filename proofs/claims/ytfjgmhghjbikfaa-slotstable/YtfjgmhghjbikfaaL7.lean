import Derived.Test.YtfjgmhghjbikfaaL6
import Derived.Laws.AppendOwn
namespace Go.Proofs.Ytfjgmhghjbikfaa
open Go.RowKit

/-- a triple of tables, by their blocks, and what lies in them -/
structure Tr where
  A : Nat
  B : Nat
  R : Nat
  m : List (Option Int)
def encT (ts : List Tr) : List Value := ts.flatMap fun t => [.pointer (some ⟨t.A, 0, none⟩), .pointer (some ⟨t.B, 0, none⟩), .pointer (some ⟨t.R, 0, none⟩)]
theorem encT_len (ts : List Tr) : (encT ts).length = ts.length * 3 := by
  induction ts with
  | nil => rfl
  | cons t r ih => simp only [encT, List.flatMap_cons, List.length_append, List.length_cons, List.length_nil] at *; omega
theorem encT_at : ∀ (ts : List Tr) (k : Nat) (t : Tr), ts[k]? = some t → (encT ts)[k * 3]? = some (.pointer (some ⟨t.A, 0, none⟩)) ∧ (encT ts)[k * 3 + 1]? = some (.pointer (some ⟨t.B, 0, none⟩)) ∧ (encT ts)[k * 3 + 2]? = some (.pointer (some ⟨t.R, 0, none⟩))
  | [], k, t, h => by simp at h
  | u :: r, 0, t, h => by simp at h; subst h; simp [encT]
  | u :: r, k + 1, t, h => by
    obtain ⟨h1, h2, h3⟩ := encT_at r k t (by simpa using h)
    simp only [encT, List.flatMap_cons] at *
    refine ⟨?_, ?_, ?_⟩
    · rw [List.getElem?_append_right (by simp; omega), ← h1]; congr 1; simp; omega
    · rw [List.getElem?_append_right (by simp; omega), ← h2]; congr 1; simp; omega
    · rw [List.getElem?_append_right (by simp; omega), ← h3]; congr 1; simp; omega
theorem encT_snoc (ts : List Tr) (t : Tr) : encT (ts ++ [t]) = encT ts ++ [.pointer (some ⟨t.A, 0, none⟩), .pointer (some ⟨t.B, 0, none⟩), .pointer (some ⟨t.R, 0, none⟩)] := by simp [encT]
theorem encT_set : ∀ (ts : List Tr) (k : Nat) (t : Tr) (m : List (Option Int)), ts[k]? = some t → encT (ts.set k ⟨t.A, t.B, t.R, m⟩) = encT ts
  | [], k, t, m, h => by simp at h
  | u :: r, 0, t, m, h => by simp at h; subst h; simp [encT]
  | u :: r, k + 1, t, m, h => by
    have := encT_set r k t m (by simpa using h)
    simp only [encT, List.set_cons_succ, List.flatMap_cons] at *
    rw [this]
theorem ownsRow_lt {w : World} {base e size n : Nat} {v : Value} {xs : List Value} (h : w.ownsRow base e size v n xs) {b : Nat} (hb : v.ownBlock = some b) : b < w.heap.size := (World.ownsRow.lt h b hb).2
theorem ownsRow_keep {w w' : World} {base e size n : Nat} {v : Value} {xs : List Value} (h : w.ownsRow base e size v n xs) (hk : ∀ b, v.ownBlock = some b → w'.heap[b]? = w.heap[b]?) : w'.ownsRow base e size v n xs := by
  obtain ⟨hl, ⟨rfl, h0⟩ | ⟨g, cap, cur, rfl, hb, hg, r⟩⟩ := h
  · exact ⟨hl, .inl ⟨rfl, h0⟩⟩
  · exact ⟨hl, .inr ⟨g, cap, cur, rfl, hb, by rw [hk g rfl]; exact hg, r⟩⟩
/-- the law's state: the triples, and the row that holds the first n of them -/
structure SyAt (w W : World) (v : Value) (n : Nat) (ts : List Tr) (G : Nat → Nat → Prop) : Prop where
  tri : ∀ (i : Nat) (t : Tr), ts[i]? = some t → Tri W (G i) t.A t.B t.R t.m
  dis : ∀ i j, i ≠ j → i < ts.length → j < ts.length → ∀ x, G i x → ¬ G j x
  row : W.ownsRow 0 28 3 v n (encT (ts.take n))
  nrow : ∀ i x, i < ts.length → G i x → v.ownBlock ≠ some x
  lo : ∀ i x, i < ts.length → G i x → w.heap.size ≤ x
  rlo : ∀ x, v.ownBlock = some x → w.heap.size ≤ x
  bel : Below w.heap.size w W
def Sy (w W : World) (v : Value) (n : Nat) (ts : List Tr) : Prop := ∃ G, SyAt w W v n ts G
section
variable {w W W' : World} {v v' : Value} {n : Nat} {ts : List Tr} {t : Tr}
theorem Sy.bel (h : Sy w W v n ts) : Below w.heap.size w W := by obtain ⟨G, h⟩ := h; exact h.bel
theorem SyAt.lt {G : Nat → Nat → Prop} (h : SyAt w W v n ts G) {i x : Nat} (hi : i < ts.length) (hx : G i x) : x < W.heap.size := (h.tri i _ (List.getElem?_eq_getElem hi)).lt x hx
theorem Sy.below (h : Sy w W v n ts) (hb : Below W.heap.size W W') : Sy w W' v n ts := by
  obtain ⟨G, h⟩ := h
  refine ⟨G, fun i t ht => (h.tri i t ht).keep hb.size (fun x hx => hb.block x (h.lt (List.getElem?_eq_some_iff.1 ht).1 hx)), h.dis, ownsRow_keep h.row (fun b e => hb.block b (ownsRow_lt h.row e)), h.nrow, h.lo, h.rlo, h.bel.trans (hb.mono h.bel.size)⟩
theorem Sy.alloc (h : Sy w W v n ts) (o : Obj) : Sy w (W.alloc o) v n ts := h.below ((Below.refl _ _).alloc (Nat.le_refl _) o)
/-- one of the triples, and what a call on it leaves -/
theorem Sy.one (h : Sy w W v n ts) {k : Nat} (hk : ts[k]? = some t) : ∃ G, Tri W G t.A t.B t.R t.m ∧ ∀ W' m' G', Tri W' G' t.A t.B t.R m' → Ext G W G' W' → Sy w W' v n (ts.set k ⟨t.A, t.B, t.R, m'⟩) := by
  obtain ⟨G, h⟩ := h
  have hkl := (List.getElem?_eq_some_iff.1 hk).1
  refine ⟨G k, h.tri k t hk, fun W' m' G' hT hx => ⟨fun i => if i = k then G' else G i, ?_, ?_, ?_, ?_, ?_, h.rlo, ?_⟩⟩
  · intro i u hu
    rw [List.getElem?_set] at hu
    split at hu
    · rename_i e; subst e
      simp only [if_true] at hu ⊢
      simp at hu; subst hu; exact hT
    · rename_i e
      rw [if_neg (fun e' => e e'.symm)]
      have hil := (List.getElem?_eq_some_iff.1 hu).1
      exact (h.tri i u hu).keep hx.mod.size (fun x hx' => hx.mod.block x (h.lt hil hx') (fun h2 => h.dis i k (fun e' => e e'.symm) hil hkl x hx' h2))
  · intro i j hij hi hj x
    rw [List.length_set] at hi hj
    have key : ∀ i, i ≠ k → i < ts.length → ∀ x, G i x → ¬ G' x := fun i hi hil x h1 h2 => by
      rcases hx.new x h2 with h3 | h3
      · exact h.dis i k hi hil hkl x h1 h3
      · have := h.lt hil h1; omega
    split
    · rename_i e
      rw [if_neg (fun e' => hij (by omega))]
      exact fun h1 h2 => key j (by omega) hj x h2 h1
    · split
      · exact fun h1 h2 => key i (by omega) hi x h1 h2
      · exact h.dis i j hij hi hj x
  · rw [List.take_set]
    rcases Nat.lt_or_ge k n with hn | hn
    · rw [encT_set _ _ t _ (by rw [List.getElem?_take_of_lt hn]; exact hk)]
      exact ownsRow_keep h.row (fun b e => hx.mod.block b (ownsRow_lt h.row e) (fun h2 => h.nrow k b hkl h2 e))
    · rw [List.set_eq_of_length_le (by simp; omega)]
      exact ownsRow_keep h.row (fun b e => hx.mod.block b (ownsRow_lt h.row e) (fun h2 => h.nrow k b hkl h2 e))
  · intro i x hi h1 e
    rw [List.length_set] at hi
    split at h1
    · rcases hx.new x h1 with h3 | h3
      · exact h.nrow k x hkl h3 e
      · have := ownsRow_lt h.row e; omega
    · exact h.nrow i x hi h1 e
  · intro i x hi h1
    rw [List.length_set] at hi
    split at h1
    · rcases hx.new x h1 with h3 | h3
      · exact h.lo k x hkl h3
      · have := h.bel.size; omega
    · exact h.lo i x hi h1
  · exact h.bel.trans (hx.mod.below (fun b hb => h.lo k b hkl hb) h.bel.size)
theorem Sy.add (h : Sy w W v n ts) (hn : n ≤ ts.length) {G1 : Nat → Prop} (hT : Tri W' G1 t.A t.B t.R t.m) (hlo : ∀ x, G1 x → W.heap.size ≤ x) (hb : Below W.heap.size W W') : Sy w W' v n (ts ++ [t]) := by
  obtain ⟨G, h⟩ := h
  refine ⟨fun i => if i = ts.length then G1 else G i, ?_, ?_, ?_, ?_, ?_, h.rlo, h.bel.trans (hb.mono h.bel.size)⟩
  · intro i u hu
    rcases Nat.lt_or_ge i ts.length with hi | hi
    · rw [List.getElem?_append_left hi] at hu
      rw [if_neg (by omega)]
      exact (h.tri i u hu).keep hb.size (fun x hx => hb.block x (h.lt hi hx))
    · have hil := (List.getElem?_eq_some_iff.1 hu).1
      simp at hil
      obtain rfl : i = ts.length := by omega
      simp at hu; subst hu
      rw [if_pos rfl]; exact hT
  · intro i j hij hi hj x
    simp at hi hj
    split
    · rw [if_neg (by omega)]
      exact fun h1 h2 => by have := hlo x h1; have := h.lt (i := j) (by omega) h2; omega
    · split
      · exact fun h1 h2 => by have := hlo x h2; have := h.lt (i := i) (by omega) h1; omega
      · exact h.dis i j hij (by omega) (by omega) x
  · rw [List.take_append_of_le_length hn]; exact ownsRow_keep h.row (fun b e => hb.block b (ownsRow_lt h.row e))
  · intro i x hi h1 e
    simp at hi
    split at h1
    · have := hlo x h1; have := ownsRow_lt h.row e; omega
    · exact h.nrow i x (by omega) h1 e
  · intro i x hi h1
    simp at hi
    split at h1
    · have := hlo x h1; have := h.bel.size; omega
    · exact h.lo i x (by omega) h1
theorem Sy.app (h : Sy w W v n (ts ++ [t])) (hn : n = ts.length) (hown : W'.ownsRow 0 28 3 v' (n + 1) (encT ts ++ [.pointer (some ⟨t.A, 0, none⟩), .pointer (some ⟨t.B, 0, none⟩), .pointer (some ⟨t.R, 0, none⟩)])) (hg : W.grownBy W' v.ownBlock)
    (hloc : v'.ownBlock = v.ownBlock ∨ v'.ownBlock = some W.heap.size) : Sy w W' v' (n + 1) (ts ++ [t]) := by
  obtain ⟨G, h⟩ := h
  refine ⟨G, fun i u hu => (h.tri i u hu).keep hg.size (fun x hx => hg.block x (h.lt (List.getElem?_eq_some_iff.1 hu).1 hx) (fun e => h.nrow i x (List.getElem?_eq_some_iff.1 hu).1 hx e.symm)), h.dis, ?_, ?_, h.lo, ?_, ?_⟩
  · rw [List.take_of_length_le (by simp [hn]), encT_snoc]; exact hown
  · intro i x hi h1 e
    rcases hloc with h5 | h5
    · exact h.nrow i x hi h1 (by rw [← h5, e])
    · rw [e] at h5; simp at h5; have := h.lt hi h1; omega
  · intro x e
    rcases hloc with h5 | h5
    · exact h.rlo x (by rw [← h5, e])
    · rw [e] at h5; simp at h5; have := h.bel.size; omega
  · exact h.bel.grown hg h.bel.size (fun k e => h.rlo k e)
theorem Sy.row (h : Sy w W v n ts) (hn : n = ts.length) : W.ownsRow 0 28 3 v n (encT ts) := by
  obtain ⟨G, h⟩ := h
  have := h.row
  rwa [List.take_of_length_le (by omega)] at this
theorem Sy.cells (h : Sy w W v n ts) (hn : n = ts.length) (h0 : 0 < n) : ∃ g cap, v = .slice (some ⟨g, 0, none⟩) n cap ∧ ∀ (k : Nat) (t : Tr), ts[k]? = some t → W.cell? ⟨g, k * 3, none⟩ = some (.pointer (some ⟨t.A, 0, none⟩)) ∧ W.cell? ⟨g, k * 3 + 1, none⟩ = some (.pointer (some ⟨t.B, 0, none⟩)) ∧ W.cell? ⟨g, k * 3 + 2, none⟩ = some (.pointer (some ⟨t.R, 0, none⟩)) := by
  have h' := h.row hn
  have h1 := h'
  obtain ⟨hl, ⟨rfl, h2⟩ | ⟨g, cap, cur, rfl, hb, hg, hn, hm, hs, ht⟩⟩ := h1
  · omega
  · refine ⟨g, cap, rfl, fun k t hk => ?_⟩
    obtain ⟨e1, e2, e3⟩ := encT_at ts k t hk
    have q := World.ownsRow.cells h' rfl
    have q1 := q _ _ e1
    have q2 := q _ _ e2
    have q3 := q _ _ e3
    rw [add0] at q1 q2 q3
    exact ⟨q1, q2, q3⟩
end
theorem Sy.start {w w1 w2 : World} {A B R A' B' R' : Nat} {m m' : List (Option Int)} {G G' : Nat → Prop} (hb : Below w.heap.size w w1) {w0 : World} (hb0 : Below w.heap.size w w0) (h1 : Tri w1 G A B R m) (hb1 : Below w0.heap.size w0 w1) (l1 : ∀ x, G x → w0.heap.size ≤ x) (h2 : Tri w2 G' A' B' R' m') (l2 : ∀ x, G' x → w1.heap.size ≤ x) (hb2 : Below w1.heap.size w1 w2) :
    Sy w (w2.alloc (.cells #[.pointer (some ⟨A, 0, none⟩), .pointer (some ⟨B, 0, none⟩), .pointer (some ⟨R, 0, none⟩), .pointer (some ⟨A', 0, none⟩), .pointer (some ⟨B', 0, none⟩), .pointer (some ⟨R', 0, none⟩)] 28)) (.slice (some ⟨w2.heap.size, 0, none⟩) 2 2) 2 [⟨A, B, R, m⟩, ⟨A', B', R', m'⟩] := by
  have s0 := hb0.size
  have s1 := hb1.size
  have s2 := hb2.size
  have k1 : Tri w2 G A B R m := h1.keep s2 (fun x hx => hb2.block x (h1.lt x hx))
  have al := (Below.refl w2.heap.size w2).alloc (Nat.le_refl _) (.cells #[.pointer (some ⟨A, 0, none⟩), .pointer (some ⟨B, 0, none⟩), .pointer (some ⟨R, 0, none⟩), .pointer (some ⟨A', 0, none⟩), .pointer (some ⟨B', 0, none⟩), .pointer (some ⟨R', 0, none⟩)] 28)
  refine ⟨fun i => if i = 0 then G else G', ?_, ?_, ?_, ?_, ?_, ?_, ?_⟩
  · intro i t ht
    match i, ht with
    | 0, ht => simp at ht; subst ht; exact k1.keep al.size (fun x hx => al.block x (k1.lt x hx))
    | 1, ht => simp at ht; subst ht; exact h2.keep al.size (fun x hx => al.block x (h2.lt x hx))
    | i + 2, ht => simp at ht
  · intro i j hij hi hj x
    simp at hi hj
    have key : ∀ x, G x → ¬ G' x := fun x h3 h4 => by have := h1.lt x h3; have := l2 x h4; omega
    split
    · rw [if_neg (by omega)]; exact key x
    · rw [if_pos (by omega)]; exact fun h3 h4 => key x h4 h3
  · refine ⟨by simp [encT], .inr ⟨w2.heap.size, 2, _, rfl, Nat.zero_le _, heap_alloc_new w2 _, Nat.le_refl _, by unfold maxLen; omega, by simp, by simp [encT]⟩⟩
  · intro i x hi h3 e
    simp [Value.ownBlock] at e
    split at h3
    · have := k1.lt x h3; omega
    · have := h2.lt x h3; omega
  · intro i x hi h3
    split at h3
    · have := l1 x h3; omega
    · have := l2 x h3; omega
  · intro x e; simp [Value.ownBlock] at e; omega
  · exact (hb.trans (hb2.mono hb.size)).trans (al.mono (by omega))
end Go.Proofs.Ytfjgmhghjbikfaa
