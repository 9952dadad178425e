import Derived.Test.YtclbgmkodjiapaaA4
import Derived.Laws.AppendOwn
import Derived.Laws.AppendOwnNone
import Derived.Maps.AppendAt
import Derived.Deep.Cut
namespace Go.Proofs.Ytclbgmkodjiapaa
open Go.RowKit

/-! the document's walk: T j the table ahead of round j, lv j: does the body leave in round j -/
def rnd (Z : Nat → Int × Int × Int × Int) (len : Nat) (m : List (Option Int)) : Nat → List (Option Int)
  | 0 => m
  | j + 1 => actsTo Z (j : Nat) (rnd Z len m j) len
theorem rnd_len (Z : Nat → Int × Int × Int × Int) (len : Nat) (m : List (Option Int)) : ∀ j, (rnd Z len m j).length = m.length
  | 0 => rfl
  | j + 1 => by unfold rnd; rw [actsTo_len]; exact rnd_len Z len m j
def lp (pre : List (Nat × Int)) : Nat := match pre.getLast? with
  | none => 0
  | some x => x.1 + 1
theorem lp_nil : lp [] = 0 := rfl
theorem lp_snoc (pre : List (Nat × Int)) (x : Nat × Int) : lp (pre ++ [x]) = x.1 + 1 := by simp [lp]
def Nx (m : List (Option Int)) (s : Nat) (x : Nat × Int) : Prop := IsNext m s x.1 ∧ m[x.1]? = some (some x.2)
theorem Nx.uniq {m : List (Option Int)} {s : Nat} {x y : Nat × Int} (h : Nx m s x) (k : Nx m s y) : x = y := by
  have h1 : x.1 = y.1 := by
    rcases Nat.lt_trichotomy x.1 y.1 with h2 | h2 | h2
    · have := k.1.2.2 x.1 h.1.1 h2
      rw [look_nat, h.2] at this; simp at this
    · exact h2
    · have := h.1.2.2 y.1 k.1.1 h2
      rw [look_nat, k.2] at this; simp at this
  have h2 := h.2
  rw [h1, k.2] at h2
  simp at h2
  exact Prod.ext h1 h2.symm
theorem Nx.no {m : List (Option Int)} {s : Nat} {x : Nat × Int} (h : Nx m s x) (k : NoNext m s) : False := by
  have := k x.1 h.1.1
  rw [look_nat, h.2] at this; simp at this
structure Good (T : Nat → List (Option Int)) (L : List (Nat × Int)) : Prop where
  nx : ∀ j x, L[j]? = some x → Nx (T j) (lp (L.take j)) x
theorem Good.nil (T : Nat → List (Option Int)) : Good T [] := ⟨fun j x h => by simp at h⟩
theorem Good.snoc {T : Nat → List (Option Int)} {L : List (Nat × Int)} {x : Nat × Int} (h : Good T L) (hx : Nx (T L.length) (lp L) x) : Good T (L ++ [x]) := ⟨fun j y hy => by
  rcases Nat.lt_or_ge j L.length with h1 | h1
  · rw [List.getElem?_append_left h1] at hy
    rw [List.take_append_of_le_length (Nat.le_of_lt h1)]
    exact h.nx j y hy
  · have h2 := (List.getElem?_eq_some_iff.1 hy).1
    simp at h2
    obtain rfl : j = L.length := by omega
    simp at hy; subst hy
    simpa using hx⟩
structure Runs (T : Nat → List (Option Int)) (lv : Nat → Bool) (L : List (Nat × Int)) : Prop where
  good : Good T L
  stay : ∀ j, j + 1 < L.length → lv j = false
  full : (∃ j, L.length = j + 1 ∧ lv j = true) ∨ NoNext (T L.length) (lp L)
/-- a walk that has come so far goes on as the document's does -/
theorem Runs.next {T : Nat → List (Option Int)} {lv : Nat → Bool} {L : List (Nat × Int)} (h : Runs T lv L) {n : Nat} {x : Nat × Int} (hn : n ≤ L.length) (hs : ∀ j, j < n → lv j = false) (hx : Nx (T n) (lp (L.take n)) x) : L[n]? = some x := by
  rcases Nat.lt_or_ge n L.length with h1 | h1
  · have h2 := List.getElem?_eq_getElem h1
    rw [h2, (h.good.nx n _ h2).uniq hx]
  · exfalso
    obtain rfl : n = L.length := by omega
    rw [List.take_length] at hx
    rcases h.full with ⟨j, h2, h3⟩ | h2
    · have := hs j (by omega); rw [h3] at this; cases this
    · exact hx.no h2
theorem Runs.ends {T : Nat → List (Option Int)} {lv : Nat → Bool} {L : List (Nat × Int)} (h : Runs T lv L) {n : Nat} (hn : n ≤ L.length) (hx : NoNext (T n) (lp (L.take n))) : n = L.length := by
  rcases Nat.lt_or_ge n L.length with h1 | h1
  · exfalso
    exact (h.good.nx n _ (List.getElem?_eq_getElem h1)).no hx
  · omega
theorem Runs.left {T : Nat → List (Option Int)} {lv : Nat → Bool} {L : List (Nat × Int)} (h : Runs T lv L) {n : Nat} (hn : n + 1 ≤ L.length) (hx : lv n = true) : n + 1 = L.length := by
  rcases Nat.lt_or_ge (n + 1) L.length with h1 | h1
  · have := h.stay n h1; rw [hx] at this; cases this
  · omega

/-! what it lays down: a row of pairs -/
def encG (L : List (Nat × Int)) : List Value := L.flatMap fun x => [.int .i64 (x.1 : Nat), .int .i64 x.2]
theorem encG_snoc (L : List (Nat × Int)) (x : Nat × Int) : encG (L ++ [x]) = encG L ++ [.int .i64 (x.1 : Nat), .int .i64 x.2] := by simp [encG]
theorem encG_at : ∀ (L : List (Nat × Int)) (k : Nat) (x : Nat × Int), L[k]? = some x → (encG L)[k * 2]? = some (.int .i64 (x.1 : Nat)) ∧ (encG L)[k * 2 + 1]? = some (.int .i64 x.2)
  | [], k, x, h => by simp at h
  | y :: r, 0, x, h => by simp at h; subst h; simp [encG]
  | y :: r, k + 1, x, h => by
    have h1 := encG_at r k x (by simpa using h)
    simp only [encG, List.flatMap_cons] at *
    constructor
    · rw [List.getElem?_append_right (by simp; omega), ← h1.1]; congr 1; simp; omega
    · rw [List.getElem?_append_right (by simp; omega), ← h1.2]; congr 1; simp; omega
theorem ownsRow_lt {w : World} {base e size n : Nat} {v : Value} {xs : List Value} (h : w.ownsRow base e size v n xs) {b : Nat} (hb : v.ownBlock = some b) : b < w.heap.size := (World.ownsRow.lt h b hb).2
theorem ownsRow_keep {w w' : World} {base e size n : Nat} {v : Value} {xs : List Value} (h : w.ownsRow base e size v n xs) (hk : ∀ b, v.ownBlock = some b → w'.heap[b]? = w.heap[b]?) : w'.ownsRow base e size v n xs := by
  obtain ⟨hl, ⟨rfl, h0⟩ | ⟨g, cap, cur, rfl, hb, hg, r⟩⟩ := h
  · exact ⟨hl, .inl ⟨rfl, h0⟩⟩
  · exact ⟨hl, .inr ⟨g, cap, cur, rfl, hb, by rw [hk g rfl]; exact hg, r⟩⟩
theorem own_shape {w : World} {base e size n : Nat} {v : Value} {xs : List Value} (h : w.ownsRow base e size v n xs) : ∃ a cap, v = .slice a n cap := by
  obtain ⟨_, ⟨rfl, rfl⟩ | ⟨g, cap, cur, rfl, _⟩⟩ := h
  · exact ⟨none, 0, rfl⟩
  · exact ⟨_, cap, rfl⟩
theorem ownsRow_succ' {W : World} {base : Nat} {e : TypeId} {size : Nat} {v : Value} {k : Nat} {xs : List Value} (h : W.ownsRow base e size v (k + 1) xs) : ∃ g cap, v = .slice (some ⟨g, 0, none⟩) (k + 1) cap := by
  obtain ⟨_, ⟨_, h0⟩ | ⟨g, cap, cur, rfl, _⟩⟩ := h
  · omega
  · exact ⟨g, cap, rfl⟩
theorem blk2 {w1 : World} {b : Nat} {x0 x1 : Value} {t : TypeId} (h : w1.heap[b]? = some (.cells #[x0, x1] t (0, 0))) : w1.cell? ⟨b, 0, none⟩ = some x0 ∧ w1.cell? ⟨b, 1, none⟩ = some x1 :=
  ⟨by rw [cell_of_row _ _ _ _ _ _ h]; rfl, by rw [cell_of_row _ _ _ _ _ _ h]; rfl⟩
theorem cell_two_new (w : World) (a b : Value) (t : TypeId) : ∀ j u, [a, b][j]? = some u → (w.alloc (.cells #[a, b] t)).cell? ((⟨w.heap.size, 0, none⟩ : Addr).add j) = some u := by
  intro j u hj
  obtain ⟨c0, c1⟩ := blk2 (heap_alloc_new w (.cells #[a, b] t))
  rw [add0]
  match j, hj with
  | 0, hj => simp at hj; subst hj; exact c0
  | 1, hj => simp at hj; subst hj; exact c1
  | j + 2, hj => simp at hj
structure Rg (w W : World) (G : Nat → Prop) (R : Nat) (m : List (Option Int)) (v : Value) (n : Nat) (pre : List (Nat × Int)) : Prop where
  ref : Ref W G R m
  old : ∀ b, G b → b < w.heap.size
  row : W.ownsRow 0 36 2 v n (encG pre)
  lo : ∀ x, v.ownBlock = some x → w.heap.size ≤ x
  mod : Mod G w W
section
variable {w W W' : World} {G : Nat → Prop} {R : Nat} {m m' : List (Option Int)} {v v' : Value} {n : Nat} {pre : List (Nat × Int)} {x : Nat × Int}
theorem Rg.act (h : Rg w W G R m v n pre) (hR : Ref W' G R m') (hx : Ext G W G W') : Rg w W' G R m' v n pre :=
  ⟨hR, h.old, ownsRow_keep h.row (fun b e => hx.mod.block b (ownsRow_lt h.row e) (fun h2 => by have := h.old b h2; have := h.lo b e; omega)), h.lo, h.mod.trans hx.mod⟩
theorem Rg.alloc (h : Rg w W G R m v n pre) (o : Obj) : Rg w (W.alloc o) G R m v n pre :=
  ⟨h.ref.below ((Below.refl _ _).alloc (Nat.le_refl _) o), h.old, h.row.alloc o, h.lo, h.mod.alloc o⟩
theorem Rg.app (h : Rg w W G R m v n pre) (hown : W'.ownsRow 0 36 2 v' (n + 1) (encG pre ++ [.int .i64 (x.1 : Nat), .int .i64 x.2])) (hg : W.grownBy W' v.ownBlock)
    (hloc : v'.ownBlock = v.ownBlock ∨ v'.ownBlock = some W.heap.size) : Rg w W' G R m v' (n + 1) (pre ++ [x]) := by
  refine ⟨h.ref.keep hg.size (fun b hb => hg.block b (h.ref.lt b hb) (fun e => ?_)), h.old, by rw [encG_snoc]; exact hown, ?_, ?_⟩
  · have := h.old b hb; have := h.lo b e.symm; omega
  · intro b e
    rcases hloc with h5 | h5
    · exact h.lo b (by rw [← h5, e])
    · rw [e] at h5; simp at h5; have := h.mod.size; omega
  · exact ⟨hg.os.trans h.mod.os, hg.tape.trans h.mod.tape, hg.output.trans h.mod.output, Nat.le_trans h.mod.size hg.size, fun k hk hG => (hg.block k (Nat.lt_of_lt_of_le hk h.mod.size) (fun e => by have := h.lo k e.symm; omega)).trans (h.mod.block k hk hG)⟩
end
end Go.Proofs.Ytclbgmkodjiapaa
