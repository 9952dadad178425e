import Derived.Test.YtdeilmllgbajbaaBI
namespace Go.Proofs.Ytdeilmllgbajbaa
open Go.RowKit

/-- a knot, by its blocks, and its pairs -/
structure Kn where
  tn : Bool
  X : Nat
  R : Nat
  m : List (Int × Int)
def kcs (t : Kn) : List Value := match t.tn with
  | false => [.bool false, .pointer (some ⟨t.X, 0, none⟩), .pointer none, .pointer (some ⟨t.R, 0, none⟩)]
  | true => [.bool true, .pointer none, .pointer (some ⟨t.X, 0, none⟩), .pointer (some ⟨t.R, 0, none⟩)]
theorem kcs_len (t : Kn) : (kcs t).length = 4 := by unfold kcs; split <;> rfl
def encK (ts : List Kn) : List Value := ts.flatMap kcs
theorem encK_at : ∀ (ts : List Kn) (k : Nat) (t : Kn) (j : Nat) (u : Value), ts[k]? = some t → (kcs t)[j]? = some u → (encK ts)[k * 4 + j]? = some u
  | [], k, t, j, u, h, _ => by simp at h
  | x :: r, 0, t, j, u, h, hu => by
    simp at h; subst h
    have hj := (List.getElem?_eq_some_iff.1 hu).1
    simp only [encK, List.flatMap_cons, Nat.zero_mul, Nat.zero_add]
    rw [List.getElem?_append_left hj, hu]
  | x :: r, k + 1, t, j, u, h, hu => by
    have h1 := encK_at r k t j u (by simpa using h) hu
    simp only [encK, List.flatMap_cons] at *
    rw [List.getElem?_append_right (by rw [kcs_len]; omega), ← h1]; congr 1; rw [kcs_len]; omega
theorem encK_snoc (ts : List Kn) (t : Kn) : encK (ts ++ [t]) = encK ts ++ kcs t := by simp [encK]
theorem encK_set : ∀ (ts : List Kn) (k : Nat) (t : Kn) (m : List (Int × Int)), ts[k]? = some t → encK (ts.set k ⟨t.tn, t.X, t.R, m⟩) = encK ts
  | [], k, t, m, h => by simp at h
  | u :: r, 0, t, m, h => by simp at h; subst h; simp only [encK, List.set_cons_zero, List.flatMap_cons]; rfl
  | u :: r, k + 1, t, m, h => by
    have := encK_set r k t m (by simpa using h)
    simp only [encK, List.set_cons_succ, List.flatMap_cons] at *
    rw [this]
/-- the law's state: the triples, and the row that holds the first n of them -/
structure SyAt (w W : World) (v : Value) (n : Nat) (ts : List Kn) (G : Nat → Nat → Prop) : Prop where
  tri : ∀ (i : Nat) (t : Kn), ts[i]? = some t → Kt W (G i) t.tn t.X t.R t.m
  dis : ∀ i j, i ≠ j → i < ts.length → j < ts.length → ∀ x, G i x → ¬ G j x
  row : W.ownsRow 0 47 4 v n (encK (ts.take n))
  nrow : ∀ i x, i < ts.length → G i x → v.ownBlock ≠ some x
  lo : ∀ i x, i < ts.length → G i x → w.heap.size ≤ x
  rlo : ∀ x, v.ownBlock = some x → w.heap.size ≤ x
  bel : Below w.heap.size w W
def Sy (w W : World) (v : Value) (n : Nat) (ts : List Kn) : Prop := ∃ G, SyAt w W v n ts G
section
variable {w W W' : World} {v v' : Value} {n : Nat} {ts : List Kn} {t : Kn}
theorem Sy.bel (h : Sy w W v n ts) : Below w.heap.size w W := by obtain ⟨G, h⟩ := h; exact h.bel
theorem SyAt.lt {G : Nat → Nat → Prop} (h : SyAt w W v n ts G) {i x : Nat} (hi : i < ts.length) (hx : G i x) : x < W.heap.size := (h.tri i _ (List.getElem?_eq_getElem hi)).lt x hx
theorem Sy.below (h : Sy w W v n ts) (hb : Below W.heap.size W W') : Sy w W' v n ts := by
  obtain ⟨G, h⟩ := h
  refine ⟨G, fun i t ht => (h.tri i t ht).keep hb.size (fun x hx => hb.block x (h.lt (List.getElem?_eq_some_iff.1 ht).1 hx)), h.dis, ownsRow_keep h.row (fun b e => hb.block b (ownsRow_lt h.row e)), h.nrow, h.lo, h.rlo, h.bel.trans (hb.mono h.bel.size)⟩
theorem Sy.alloc (h : Sy w W v n ts) (o : Obj) : Sy w (W.alloc o) v n ts := h.below ((Below.refl _ _).alloc (Nat.le_refl _) o)
/-- one of the triples, and what a call on it leaves -/
theorem Sy.one (h : Sy w W v n ts) {k : Nat} (hk : ts[k]? = some t) : ∃ G, Kt W G t.tn t.X t.R t.m ∧ ∀ W' m' G', Kt W' G' t.tn t.X t.R m' → Ext G W G' W' → Sy w W' v n (ts.set k ⟨t.tn, t.X, t.R, m'⟩) := by
  obtain ⟨G, h⟩ := h
  have hkl := (List.getElem?_eq_some_iff.1 hk).1
  refine ⟨G k, h.tri k t hk, fun W' m' G' hT hx => ⟨fun i => if i = k then G' else G i, ?_, ?_, ?_, ?_, ?_, h.rlo, ?_⟩⟩
  · intro i u hu
    rw [List.getElem?_set] at hu
    split at hu
    · rename_i e; subst e
      simp only [if_true] at hu ⊢
      simp at hu; subst hu; exact hT
    · rename_i e
      rw [if_neg (fun e' => e e'.symm)]
      have hil := (List.getElem?_eq_some_iff.1 hu).1
      exact (h.tri i u hu).keep hx.mod.size (fun x hx' => hx.mod.block x (h.lt hil hx') (fun h2 => h.dis i k (fun e' => e e'.symm) hil hkl x hx' h2))
  · intro i j hij hi hj x
    rw [List.length_set] at hi hj
    have key : ∀ i, i ≠ k → i < ts.length → ∀ x, G i x → ¬ G' x := fun i hi hil x h1 h2 => by
      rcases hx.new x h2 with h3 | h3
      · exact h.dis i k hi hil hkl x h1 h3
      · have := h.lt hil h1; omega
    split
    · rename_i e
      rw [if_neg (fun e' => hij (by omega))]
      exact fun h1 h2 => key j (by omega) hj x h2 h1
    · split
      · exact fun h1 h2 => key i (by omega) hi x h1 h2
      · exact h.dis i j hij hi hj x
  · rw [List.take_set]
    rcases Nat.lt_or_ge k n with hn | hn
    · rw [encK_set _ _ t _ (by rw [List.getElem?_take_of_lt hn]; exact hk)]
      exact ownsRow_keep h.row (fun b e => hx.mod.block b (ownsRow_lt h.row e) (fun h2 => h.nrow k b hkl h2 e))
    · rw [List.set_eq_of_length_le (by simp; omega)]
      exact ownsRow_keep h.row (fun b e => hx.mod.block b (ownsRow_lt h.row e) (fun h2 => h.nrow k b hkl h2 e))
  · intro i x hi h1 e
    rw [List.length_set] at hi
    split at h1
    · rcases hx.new x h1 with h3 | h3
      · exact h.nrow k x hkl h3 e
      · have := ownsRow_lt h.row e; omega
    · exact h.nrow i x hi h1 e
  · intro i x hi h1
    rw [List.length_set] at hi
    split at h1
    · rcases hx.new x h1 with h3 | h3
      · exact h.lo k x hkl h3
      · have := h.bel.size; omega
    · exact h.lo i x hi h1
  · exact h.bel.trans (hx.mod.below (fun b hb => h.lo k b hkl hb) h.bel.size)
theorem Sy.add (h : Sy w W v n ts) (hn : n ≤ ts.length) {G1 : Nat → Prop} (hT : Kt W' G1 t.tn t.X t.R t.m) (hlo : ∀ x, G1 x → W.heap.size ≤ x) (hb : Below W.heap.size W W') : Sy w W' v n (ts ++ [t]) := by
  obtain ⟨G, h⟩ := h
  refine ⟨fun i => if i = ts.length then G1 else G i, ?_, ?_, ?_, ?_, ?_, h.rlo, h.bel.trans (hb.mono h.bel.size)⟩
  · intro i u hu
    rcases Nat.lt_or_ge i ts.length with hi | hi
    · rw [List.getElem?_append_left hi] at hu
      rw [if_neg (by omega)]
      exact (h.tri i u hu).keep hb.size (fun x hx => hb.block x (h.lt hi hx))
    · have hil := (List.getElem?_eq_some_iff.1 hu).1
      simp at hil
      obtain rfl : i = ts.length := by omega
      simp at hu; subst hu
      rw [if_pos rfl]; exact hT
  · intro i j hij hi hj x
    simp at hi hj
    split
    · rw [if_neg (by omega)]
      exact fun h1 h2 => by have := hlo x h1; have := h.lt (i := j) (by omega) h2; omega
    · split
      · exact fun h1 h2 => by have := hlo x h2; have := h.lt (i := i) (by omega) h1; omega
      · exact h.dis i j hij (by omega) (by omega) x
  · rw [List.take_append_of_le_length hn]; exact ownsRow_keep h.row (fun b e => hb.block b (ownsRow_lt h.row e))
  · intro i x hi h1 e
    simp at hi
    split at h1
    · have := hlo x h1; have := ownsRow_lt h.row e; omega
    · exact h.nrow i x (by omega) h1 e
  · intro i x hi h1
    simp at hi
    split at h1
    · have := hlo x h1; have := h.bel.size; omega
    · exact h.lo i x (by omega) h1
theorem Sy.app (h : Sy w W v n (ts ++ [t])) (hn : n = ts.length) (hown : W'.ownsRow 0 47 4 v' (n + 1) (encK ts ++ kcs t)) (hg : W.grownBy W' v.ownBlock)
    (hloc : v'.ownBlock = v.ownBlock ∨ v'.ownBlock = some W.heap.size) : Sy w W' v' (n + 1) (ts ++ [t]) := by
  obtain ⟨G, h⟩ := h
  refine ⟨G, fun i u hu => (h.tri i u hu).keep hg.size (fun x hx => hg.block x (h.lt (List.getElem?_eq_some_iff.1 hu).1 hx) (fun e => h.nrow i x (List.getElem?_eq_some_iff.1 hu).1 hx e.symm)), h.dis, ?_, ?_, h.lo, ?_, ?_⟩
  · rw [List.take_of_length_le (by simp [hn]), encK_snoc]; exact hown
  · intro i x hi h1 e
    rcases hloc with h5 | h5
    · exact h.nrow i x hi h1 (by rw [← h5, e])
    · rw [e] at h5; simp at h5; have := h.lt hi h1; omega
  · intro x e
    rcases hloc with h5 | h5
    · exact h.rlo x (by rw [← h5, e])
    · rw [e] at h5; simp at h5; have := h.bel.size; omega
  · exact h.bel.grown hg h.bel.size (fun k e => h.rlo k e)
theorem Sy.row (h : Sy w W v n ts) (hn : n = ts.length) : W.ownsRow 0 47 4 v n (encK ts) := by
  obtain ⟨G, h⟩ := h
  have := h.row
  rwa [List.take_of_length_le (by omega)] at this
theorem Sy.cells (h : Sy w W v n ts) (hn : n = ts.length) (h0 : 0 < n) : ∃ g cap, v = .slice (some ⟨g, 0, none⟩) n cap ∧ ∀ (k : Nat) (t : Kn), ts[k]? = some t → ∀ (j : Nat) (u : Value), (kcs t)[j]? = some u → W.cell? ⟨g, k * 4 + j, none⟩ = some u := by
  have h' := h.row hn
  have h1 := h'
  obtain ⟨hl, ⟨rfl, h2⟩ | ⟨g, cap, cur, rfl, hb, hg, hn, hm, hs, ht⟩⟩ := h1
  · omega
  · refine ⟨g, cap, rfl, fun k t hk j u hu => ?_⟩
    have q1 := World.ownsRow.cells h' rfl _ _ (encK_at ts k t j u hk hu)
    rw [add0] at q1
    exact q1
theorem Sy.rowS (h : Sy w W v n (ts ++ [t])) (hn : n = ts.length) : W.ownsRow 0 47 4 v n (encK ts) := by
  obtain ⟨G, h⟩ := h
  have := h.row
  rwa [List.take_append_of_le_length (by omega), List.take_of_length_le (by omega)] at this
end
theorem Sy.start {w w1 w2 : World} {X R X' R' : Nat} {G G' : Nat → Prop} (hb : Below w.heap.size w w1) (h1 : Kt w1 G false X R []) (l1 : ∀ x, G x → w.heap.size ≤ x) (h2 : Kt w2 G' true X' R' []) (l2 : ∀ x, G' x → w1.heap.size ≤ x) (hb2 : Below w1.heap.size w1 w2) :
    Sy w (w2.alloc (.cells #[.bool false, .pointer (some ⟨X, 0, none⟩), .pointer none, .pointer (some ⟨R, 0, none⟩), .bool true, .pointer none, .pointer (some ⟨X', 0, none⟩), .pointer (some ⟨R', 0, none⟩)] 47)) (.slice (some ⟨w2.heap.size, 0, none⟩) 2 2) 2 [⟨false, X, R, []⟩, ⟨true, X', R', []⟩] := by
  have s1 := hb.size
  have s2 := hb2.size
  have k1 : Kt w2 G false X R [] := h1.keep s2 (fun x hx => hb2.block x (h1.lt x hx))
  have al := (Below.refl w2.heap.size w2).alloc (Nat.le_refl _) (.cells #[.bool false, .pointer (some ⟨X, 0, none⟩), .pointer none, .pointer (some ⟨R, 0, none⟩), .bool true, .pointer none, .pointer (some ⟨X', 0, none⟩), .pointer (some ⟨R', 0, none⟩)] 47)
  refine ⟨fun i => if i = 0 then G else G', ?_, ?_, ?_, ?_, ?_, ?_, ?_⟩
  · intro i t ht
    match i, ht with
    | 0, ht => simp at ht; subst ht; exact k1.keep al.size (fun x hx => al.block x (k1.lt x hx))
    | 1, ht => simp at ht; subst ht; exact h2.keep al.size (fun x hx => al.block x (h2.lt x hx))
    | i + 2, ht => simp at ht
  · intro i j hij hi hj x
    simp at hi hj
    have key : ∀ x, G x → ¬ G' x := fun x h3 h4 => by have := h1.lt x h3; have := l2 x h4; omega
    split
    · rw [if_neg (by omega)]; exact key x
    · rw [if_pos (by omega)]; exact fun h3 h4 => key x h4 h3
  · refine ⟨by simp [encK, kcs], .inr ⟨w2.heap.size, 2, _, rfl, Nat.zero_le _, heap_alloc_new w2 _, Nat.le_refl _, by unfold maxLen; omega, by simp, by simp [encK, kcs]⟩⟩
  · intro i x hi h3 e
    simp [Value.ownBlock] at e
    split at h3
    · have := k1.lt x h3; omega
    · have := h2.lt x h3; omega
  · intro i x hi h3
    split at h3
    · exact l1 x h3
    · have := l2 x h3; omega
  · intro x e; simp [Value.ownBlock] at e; omega
  · exact (hb.trans (hb2.mono hb.size)).trans (al.mono (by omega))
theorem rest_any (w : World) (x : Int) (n : Nat) (hn : 0 < n) (hl : n ≤ 6) : Calls Try.prog 19 #[.int .i64 x, .int .i64 n] w fun e w' => ∃ k : Nat, k < n ∧ e = .returned (.int .i64 k) ∧ w' = w := by
  have h1 : -(n : Int) < x.tmod n ∧ x.tmod n < n := by
    have := Int.lt_tmod_of_pos x (b := (n : Int)) (by omega)
    have := Int.tmod_lt_of_pos x (b := (n : Int)) (by omega)
    omega
  have hn0 : ¬ (n : Int) = 0 := by omega
  obtain ⟨y, hy⟩ : ∃ y, x.tmod n = y := ⟨_, rfl⟩
  rw [hy] at h1
  rcases Int.lt_or_le y 0 with h | h
  · have hd : decide (y < 0) = true := by simp; omega
    go_enter Try.func19, Try.ntmps19
    go_wp2
    go_ret
    exact ⟨(y + n).toNat, by omega, by show Ending.returned (.int .i64 _) = _; congr 2; omega, rfl⟩
  · have hd : decide (y < 0) = false := by simp; omega
    go_enter Try.func19, Try.ntmps19
    go_wp2
    go_ret
    exact ⟨y.toNat, by omega, by show Ending.returned (.int .i64 _) = _; congr 2; omega, rfl⟩
theorem infoK : ∃ i, Try.prog.info? 47 = some i ∧ i.zero = some (.agg #[.bool false, .pointer none, .pointer none, .pointer none]) ∧ i.size = 4 ∧ i.bytes = 32 := info_parts (by kernel_rfl)
theorem cell_four_new (w : World) (a b c d : Value) (t : TypeId) : ∀ j u, [a, b, c, d][j]? = some u → (w.alloc (.cells #[a, b, c, d] t)).cell? ((⟨w.heap.size, 0, none⟩ : Addr).add j) = some u := by
  intro j u hj
  obtain ⟨c0, c1, c2, c3⟩ := row4 (heap_alloc_new w (.cells #[a, b, c, d] t))
  rw [add0]
  match j, hj with
  | 0, hj => simp at hj; subst hj; exact c0
  | 1, hj => simp at hj; subst hj; exact c1
  | 2, hj => simp at hj; subst hj; exact c2
  | 3, hj => simp at hj; subst hj; exact c3
  | j + 4, hj => simp at hj
end Go.Proofs.Ytdeilmllgbajbaa
