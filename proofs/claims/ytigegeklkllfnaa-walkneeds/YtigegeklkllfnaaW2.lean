import Derived.Test.YtigegeklkllfnaaW1
namespace Go.Proofs.Ytigegeklkllfnaa
open Go.ChangeShapes Go.WideShapes Go.ChangeAt Go.RowKit Go.Deep

def nl : Value := .slice none 0 0
def envL (f e x : Int) : List Value := [.int .i64 0, .int .i64 0, .int .i64 0, .int .i64 0, .bool false, .int .u32 0, .int .u32 0, .int .u32 0, .int .u32 0, .int .u32 0, .int .u32 0, .int .u32 0, .int .u32 0, .int .u32 0, .int .i64 f, .int .i64 e, .int .i64 x]
def pgL : List Value := [.int .u32 0, .int .u32 0, .int .u32 0, .int .u32 0, .int .u32 0, .int .u32 0, .int .u32 0, .int .u32 0, .int .u32 0, .int .u32 0, .int .u32 0, .int .u32 0, .int .u32 0, .int .u32 0, .int .u32 0, .int .u32 0, .int .u32 0, .int .u32 0, .int .u32 0, .int .u32 0, .int .u32 0, .int .u32 0, .int .u32 0, .int .u32 0, .int .u32 0, .int .u32 0, .int .u32 0, .int .u32 0, .int .u32 0, .int .u32 0, .int .u32 0, .int .u32 0]
theorem cells_new (w : World) (t : TypeId) (l : List Value) (j : Nat) (u : Value) (h : l[j]? = some u) : (w.alloc (.cells l.toArray t)).cell? ((⟨w.heap.size, 0, none⟩ : Addr).add j) = some u := by
  have e : (⟨w.heap.size, 0, none⟩ : Addr).add j = ⟨w.heap.size, j, none⟩ := by
    unfold Addr.add
    by_cases hj : j = 0 <;> simp_all
  rw [e, cell_of_row _ _ _ _ _ _ (heap_alloc_new w _)]
  simpa using h
theorem infoEnv : ∃ i z, Try.prog.info? 36 = some i ∧ i.zero = some z ∧ i.size = 17 ∧ i.bytes = 96 ∧ z.cells.size = 17 := ⟨_, _, rfl, rfl, rfl, rfl, rfl⟩
theorem infoPg : ∃ i z, Try.prog.info? 38 = some i ∧ i.zero = some z ∧ i.size = 32 ∧ i.bytes = 128 ∧ z.cells.size = 32 := ⟨_, _, rfl, rfl, rfl, rfl, rfl⟩
/-- where the law stands -/
structure St (w : World) (N : Nat) (q : Qt) (n m : Nat) (f : Int) (v0 v3 : Value) (wr : World) : Prop where
  qb : wr.heap[N]? = some (.cells #[.int .i64 f, .int .i64 q.e, .int .i64 q.x] 23 (0, 0))
  fb : wr.heap[N + 1]? = some (.cells #[v0, nl, nl, v3, nl] 30 (0, 0))
  es : ∃ xs, wr.ownsRow (N + 2) 36 17 v0 n xs ∧ (0 < n → xs[14]? = some (.int .i64 q.f) ∧ xs[15]? = some (.int .i64 q.e) ∧ xs[16]? = some (.int .i64 q.x))
  ps : ∃ ys, wr.ownsRow (N + 2) 38 32 v3 m ys
  ap : ∀ b, v0.ownBlock = some b → v3.ownBlock ≠ some b
  bel : Below N w wr
  fst : n = 0 → f = q.f
section
variable {w : World} {N : Nat} {q : Qt} {n m : Nat} {f : Int} {v0 v3 : Value} {wr w2 : World}
theorem St.sz (h : St w N q n m f v0 v3 wr) : N + 2 ≤ wr.heap.size := (Array.getElem?_eq_some_iff.1 h.fb).1
theorem own_keep {w w' : World} {base : Nat} {e : TypeId} {size : Nat} {v : Value} {n : Nat} {xs : List Value} (h : w.ownsRow base e size v n xs) (hk : ∀ b, v.ownBlock = some b → w'.heap[b]? = w.heap[b]?) : w'.ownsRow base e size v n xs := by
  obtain ⟨h1, h2 | ⟨g, cap, cur, h2, h3, h4, h5⟩⟩ := h
  · exact ⟨h1, .inl h2⟩
  · exact ⟨h1, .inr ⟨g, cap, cur, h2, h3, (hk g (by rw [h2]; rfl)).trans h4, h5⟩⟩
theorem own_shape {w : World} {base : Nat} {e : TypeId} {size : Nat} {v : Value} {n : Nat} {xs : List Value} (h : w.ownsRow base e size v n xs) : ∃ a c, v = .slice a n c := by
  obtain ⟨h1, ⟨h2, h3⟩ | ⟨g, cap, cur, h2, _⟩⟩ := h
  · exact ⟨none, 0, by rw [h2, h3]⟩
  · exact ⟨_, _, h2⟩
/-- behind an append to one of the two rows: what stands else -/
theorem St.grow (h : St w N q n m f v0 v3 wr) (o : Obj) {r : Option Nat} (hr : r = v0.ownBlock ∨ r = v3.ownBlock) (hg : (wr.alloc o).grownBy w2 r) :
    w2.heap[N]? = some (.cells #[.int .i64 f, .int .i64 q.e, .int .i64 q.x] 23 (0, 0)) ∧ w2.heap[N + 1]? = some (.cells #[v0, nl, nl, v3, nl] 30 (0, 0)) ∧ Below N w w2 ∧ (∀ k, k < wr.heap.size → some k ≠ r → w2.heap[k]? = wr.heap[k]?) := by
  have hs := h.sz
  obtain ⟨xs, h1, _⟩ := h.es
  obtain ⟨ys, h2⟩ := h.ps
  have hlow : ∀ k, r = some k → N + 2 ≤ k := fun k hk => by
    rcases hr with e | e
    · exact (h1.lt k (by rw [← e]; exact hk)).1
    · exact (h2.lt k (by rw [← e]; exact hk)).1
  have hold : ∀ k, k < wr.heap.size → some k ≠ r → w2.heap[k]? = wr.heap[k]? := fun k hk hn => (hg.block k (by simp; omega) hn).trans (heap_alloc_old _ _ hk)
  refine ⟨(hold N (by omega) (fun e => by have := hlow N e.symm; omega)).trans h.qb, (hold (N + 1) (by omega) (fun e => by have := hlow (N + 1) e.symm; omega)).trans h.fb, ?_, hold⟩
  refine h.bel.trans ⟨hg.os, hg.tape, hg.output, ?_, fun k hk => hold k (by omega) (fun e => by have := hlow k e.symm; omega)⟩
  have := hg.size
  simp at this
  omega
/-- one more environment, and the quota's half -/
theorem St.env (h : St w N q n m f v0 v3 wr) (o : Obj) {xs : List Value} (hx : 0 < n → xs[14]? = some (.int .i64 q.f) ∧ xs[15]? = some (.int .i64 q.e) ∧ xs[16]? = some (.int .i64 q.x)) (hl : xs.length = n * 17) {v2 : Value} (ho : w2.ownsRow (N + 2) 36 17 v2 (n + 1) (xs ++ envL f q.e q.x)) (hg : (wr.alloc o).grownBy w2 v0.ownBlock) (hv : v2.ownBlock = v0.ownBlock ∨ v2.ownBlock = some (wr.alloc o).heap.size) (f2 : Int) :
    St w N q (n + 1) m f2 v2 v3 ((w2.setCell ⟨N + 1, 0, none⟩ v2).setCell ⟨N, 0, none⟩ (.int .i64 f2)) := by
  obtain ⟨h1, h2, h3, h4⟩ := h.grow o (.inl rfl) hg
  obtain ⟨ys, hy⟩ := h.ps
  have hk : ∀ b, N + 2 ≤ b → ((w2.setCell ⟨N + 1, 0, none⟩ v2).setCell ⟨N, 0, none⟩ (.int .i64 f2)).heap[b]? = w2.heap[b]? := fun b hb => by
    rw [heap_setCell_other _ _ _ _ (by show b ≠ N; omega), heap_setCell_other _ _ _ _ (by show b ≠ N + 1; omega)]
  refine ⟨?_, ?_, ⟨xs ++ envL f q.e q.x, own_keep ho (fun b hb => hk b (ho.lt b hb).1), fun _ => ?_⟩, ⟨ys, ?_⟩, ?_, ?_, fun e => by omega⟩
  · have h9 : (w2.setCell ⟨N + 1, 0, none⟩ v2).heap[N]? = some (.cells #[.int .i64 f, .int .i64 q.e, .int .i64 q.x] 23 (0, 0)) := by
      rw [heap_setCell_other _ _ _ _ (by show N ≠ N + 1; omega)]
      exact h1
    exact heap_setCell_same _ N 0 _ _ _ h9
  · rw [heap_setCell_other _ _ _ _ (by show N + 1 ≠ N; omega)]
    exact heap_setCell_same _ (N + 1) 0 _ _ _ h2
  · by_cases hn : n = 0
    · subst hn
      have e0 : xs = [] := List.eq_nil_of_length_eq_zero (by omega)
      rw [e0, h.fst rfl]
      exact ⟨rfl, rfl, rfl⟩
    · obtain ⟨g1, g2, g3⟩ := hx (by omega)
      have hlt : 17 ≤ xs.length := by omega
      refine ⟨?_, ?_, ?_⟩ <;> rw [List.getElem?_append_left (by omega)] <;> assumption
  · have hb2 : ∀ b, v3.ownBlock = some b → w2.heap[b]? = wr.heap[b]? := fun b hb => h4 b (hy.lt b hb).2 (fun e => h.ap b e.symm hb)
    exact own_keep (own_keep hy hb2) (fun b hb => hk b (hy.lt b hb).1)
  · intro b hb hb3
    rcases hv with e | e
    · exact h.ap b (e ▸ hb) hb3
    · rw [e] at hb
      cases hb
      have := (hy.lt _ hb3).2
      simp at this
      omega
  · exact (h3.setCell (p := ⟨N + 1, 0, none⟩) (by simp) _).setCell (p := ⟨N, 0, none⟩) (by simp) _
/-- one more page -/
theorem St.pg (h : St w N q n m f v0 v3 wr) (o : Obj) {ys : List Value} {v2 : Value} (ho : w2.ownsRow (N + 2) 38 32 v2 (m + 1) ys) (hg : (wr.alloc o).grownBy w2 v3.ownBlock) (hv : v2.ownBlock = v3.ownBlock ∨ v2.ownBlock = some (wr.alloc o).heap.size) :
    St w N q n (m + 1) f v0 v2 (w2.setCell ⟨N + 1, 3, none⟩ v2) := by
  obtain ⟨h1, h2, h3, h4⟩ := h.grow o (.inr rfl) hg
  obtain ⟨xs, hx, hq⟩ := h.es
  have hk : ∀ b, N + 2 ≤ b → (w2.setCell ⟨N + 1, 3, none⟩ v2).heap[b]? = w2.heap[b]? := fun b hb => by
    rw [heap_setCell_other _ _ _ _ (by show b ≠ N + 1; omega)]
  refine ⟨?_, ?_, ⟨xs, ?_, hq⟩, ⟨ys, own_keep ho (fun b hb => hk b (ho.lt b hb).1)⟩, ?_, ?_, h.fst⟩
  · rw [heap_setCell_other _ _ _ _ (by show N ≠ N + 1; omega)]
    exact h1
  · exact heap_setCell_same _ (N + 1) 3 _ _ _ h2
  · have hb2 : ∀ b, v0.ownBlock = some b → w2.heap[b]? = wr.heap[b]? := fun b hb => h4 b (hx.lt b hb).2 (fun e => h.ap b hb e.symm)
    exact own_keep (own_keep hx hb2) (fun b hb => hk b (hx.lt b hb).1)
  · intro b hb hb3
    rcases hv with e | e
    · exact h.ap b hb (e ▸ hb3)
    · rw [e] at hb3
      cases hb3
      have := (hx.lt _ hb).2
      simp at this
      omega
  · exact h3.setCell (p := ⟨N + 1, 3, none⟩) (by simp) _
theorem St.fq (h : St w N q n m f v0 v3 wr) {a : Option Addr} {c : Nat} (hv : v0 = .slice a n c) : Fq wr a n q := fun hn => by
  obtain ⟨xs, hx, hq⟩ := h.es
  obtain ⟨g1, g2, g3⟩ := hq hn
  subst hv
  have hx' := hx
  obtain ⟨e1, ⟨e2, e3⟩ | ⟨g, cap, cur, e2, _⟩⟩ := hx
  · omega
  · cases e2
    exact ⟨g, rfl, by rw [hx'.cellAt 14 (by omega)]; exact g1, by rw [hx'.cellAt 15 (by omega)]; exact g2, by rw [hx'.cellAt 16 (by omega)]; exact g3⟩
theorem St.fcell (h : St w N q n m f v0 v3 wr) : wr.cell? ⟨N + 1, 0, none⟩ = some v0 ∧ wr.cell? ⟨N + 1, 1, none⟩ = some nl ∧ wr.cell? ⟨N + 1, 2, none⟩ = some nl ∧ wr.cell? ⟨N + 1, 3, none⟩ = some v3 ∧ wr.cell? ⟨N + 1, 4, none⟩ = some nl :=
  ⟨by rw [cell_of_row _ _ _ _ _ _ h.fb]; rfl, by rw [cell_of_row _ _ _ _ _ _ h.fb]; rfl, by rw [cell_of_row _ _ _ _ _ _ h.fb]; rfl, by rw [cell_of_row _ _ _ _ _ _ h.fb]; rfl, by rw [cell_of_row _ _ _ _ _ _ h.fb]; rfl⟩
end
end Go.Proofs.Ytigegeklkllfnaa
