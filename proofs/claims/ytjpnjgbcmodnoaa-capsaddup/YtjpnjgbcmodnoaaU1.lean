import Derived.Test.YtjpnjgbcmodnoaaR6
import Derived.Deep.DeepCutAuto
namespace Go.Proofs.Ytjpnjgbcmodnoaa
open Go.RowKit

/-- a number that falls from child to parent; each parent is there -/
def Rk (bk : List (Option Lst)) (f : Int → Int → Nat) : Prop := ∀ e s r, atB bk e s = some r → (r.e = -1 ∧ r.t = -1) ∨ ((∃ r', atB bk r.e r.t = some r') ∧ f r.e r.t < f e s)
/-- going up from a place to the nearest one in the lists of ins -/
def Ups (bk : List (Option Lst)) (ins : Int → Bool) : Int → Int → Int → Int → Prop := fun z0 z1 z2 z3 => ∀ M : Int → Int → Int → Int → Prop, (M (-1) (-1) (-1) (-1)) → (∀ (e s : Int) (r : Rc), atB bk e s = some r → ins e = true → M e s e s) → (∀ (e s x y : Int) (r : Rc), atB bk e s = some r → ins e = false → M r.e r.t x y → M e s x y) → M z0 z1 z2 z3
theorem Ups.none {bk : List (Option Lst)} {ins : Int → Bool} : Ups bk ins (-1) (-1) (-1) (-1) := fun _ c0 _ _ => c0
theorem Ups.here {bk : List (Option Lst)} {ins : Int → Bool} (e s : Int) (r : Rc) (h0 : atB bk e s = some r) (h1 : ins e = true) : Ups bk ins e s e s := fun _ _ c1 _ => c1 e s r h0 h1
theorem Ups.up {bk : List (Option Lst)} {ins : Int → Bool} (e s x y : Int) (r : Rc) (h0 : atB bk e s = some r) (h1 : ins e = false) (h2 : Ups bk ins r.e r.t x y) : Ups bk ins e s x y := fun M c0 c1 c2 => c2 e s x y r h0 h1 (h2 M c0 c1 c2)
theorem Ups.ind {bk : List (Option Lst)} {ins : Int → Bool} {motive : ∀ (z0 : Int) (z1 : Int) (z2 : Int) (z3 : Int), Ups bk ins z0 z1 z2 z3 → Prop} (none : motive (-1) (-1) (-1) (-1) Ups.none) (here : ∀ (e s : Int) (r : Rc) (h0 : atB bk e s = some r) (h1 : ins e = true), motive e s e s (Ups.here e s r h0 h1)) (up : ∀ (e s x y : Int) (r : Rc) (h0 : atB bk e s = some r) (h1 : ins e = false) (h2 : Ups bk ins r.e r.t x y) (_ : motive r.e r.t x y h2), motive e s x y (Ups.up e s x y r h0 h1 h2)) {z0 : Int} {z1 : Int} {z2 : Int} {z3 : Int} (h : Ups bk ins z0 z1 z2 z3) : motive z0 z1 z2 z3 h := by
  refine Exists.elim (h (fun z0 z1 z2 z3 => ∃ h : Ups bk ins z0 z1 z2 z3, motive z0 z1 z2 z3 h) ?_ ?_ ?_) (fun _ p => p)
  · exact ⟨Ups.none, none⟩
  · rintro e s r h0 h1; exact ⟨Ups.here e s r h0 h1, here e s r h0 h1⟩
  · rintro e s x y r h0 h1 ⟨h2, ih2⟩; exact ⟨Ups.up e s x y r h0 h1 h2, up e s x y r h0 h1 h2 ih2⟩
/-- a slice of numbers that came in -/
def IsInts' (w : World) (a : Option Addr) (len : Nat) (Z : Nat → Int) : Prop := ∀ k, k < len → ∃ x, a = some x ∧ w.cell? (x.add k) = some (.int .i64 (Z k))
theorem cell_lt2 {w : World} {a : Addr} {v : Value} (h : w.cell? a = some v) : a.block < w.heap.size := by
  unfold World.cell? at h
  cases hb : w.heap[a.block]? with
  | none => rw [hb] at h; simp at h
  | some o => exact (Array.getElem?_eq_some_iff.1 hb).1
theorem IsInts'.at {w : World} {a : Option Addr} {len : Nat} {Z : Nat → Int} (h : IsInts' w a len Z) {k : Nat} (hk : k < len) : ∃ x, a = some x ∧ ∀ W, Below w.heap.size w W → W.cell? (x.add k) = some (.int .i64 (Z k)) := by
  obtain ⟨x, h1, h2⟩ := h k hk
  exact ⟨x, h1, fun W hW => (hW.cell (cell_lt2 h2)).trans h2⟩
/-- which lists stand among the first k -/
def insB (Z : Nat → Int) (k : Nat) : List Bool := (List.range 16).map (fun i : Nat => (List.range k).any (fun j => decide (Z j = (i : Int))))
theorem insB_len (Z : Nat → Int) (k : Nat) : (insB Z k).length = 16 := by simp [insB]
theorem insB_zero (Z : Nat → Int) : insB Z 0 = List.replicate 16 false := by simp [insB]; decide
theorem insB_get (Z : Nat → Int) (k i : Nat) (hi : i < 16) : (insB Z k)[i]? = some ((List.range k).any (fun j => decide (Z j = (i : Int)))) := by simp [insB, hi]
theorem insB_in (Z : Nat → Int) (k i : Nat) (hz : Z k = (i : Int)) : insB Z (k + 1) = (insB Z k).set i true := by
  apply List.ext_getElem?
  intro q
  rcases Nat.lt_or_ge q 16 with hq | hq
  · rw [insB_get _ _ _ hq, List.getElem?_set]
    by_cases e : i = q
    · subst e
      rw [if_pos rfl, if_pos (by rw [insB_len]; exact hq)]
      simp [List.range_succ, hz]
    · rw [if_neg e, insB_get _ _ _ hq]
      have : ¬ Z k = (q : Int) := by omega
      simp [List.range_succ, this]
  · rw [List.getElem?_eq_none (by rw [insB_len]; exact hq), List.getElem?_eq_none (by rw [List.length_set, insB_len]; exact hq)]
theorem insB_out (Z : Nat → Int) (k : Nat) (hz : ¬ (0 ≤ Z k ∧ Z k < 16)) : insB Z (k + 1) = insB Z k := by
  apply List.ext_getElem?
  intro q
  rcases Nat.lt_or_ge q 16 with hq | hq
  · rw [insB_get _ _ _ hq, insB_get _ _ _ hq]
    have : ¬ Z k = (q : Int) := by omega
    simp [List.range_succ, this]
  · rw [List.getElem?_eq_none (by rw [insB_len]; exact hq), List.getElem?_eq_none (by rw [insB_len]; exact hq)]
def insF (Z : Nat → Int) (len : Nat) (e : Int) : Bool := ((insB Z len)[e.toNat]?).getD false
theorem atB_lt {w : World} {F : Nat → Prop} {B : Nat} {bk : List (Option Lst)} (h : Book w F B bk) {e s : Int} {r : Rc} (hr : atB bk e s = some r) : ∃ i j : Nat, e = i ∧ s = j ∧ i < 16 ∧ j < 48 := by
  obtain ⟨i, j, l, h1, h2, h3, h4, _⟩ := atB_some hr
  refine ⟨i, j, h1, h2, ?_, ?_⟩
  · have := (List.getElem?_eq_some_iff.1 h3).1; rw [h.blen] at this; exact this
  · have := (List.getElem?_eq_some_iff.1 h4).1; rw [h.l48 h3] at this; exact this
end Go.Proofs.Ytjpnjgbcmodnoaa
