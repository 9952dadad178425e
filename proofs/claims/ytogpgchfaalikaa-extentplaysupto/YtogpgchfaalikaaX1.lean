import Derived.Test.YtogpgchfaalikaaC3
namespace Go.Proofs.Ytogpgchfaalikaa
open Go.RowKit

/-- only block b is written -/
structure At (w : World) (b : Nat) (w' : World) : Prop where
  os : w'.os = w.os
  tape : w'.tape = w.tape
  output : w'.output = w.output
  size : w.heap.size ≤ w'.heap.size
  block : ∀ c, c < w.heap.size → c ≠ b → w'.heap[c]? = w.heap[c]?
theorem At.refl (w : World) (b : Nat) : At w b w := ⟨rfl, rfl, rfl, Nat.le_refl _, fun _ _ _ => rfl⟩
theorem At.drew {w w' : World} {b : Nat} (h : At w b w') : At w b w'.drew := ⟨h.os, h.tape, h.output, h.size, h.block⟩
theorem At.set {w w' : World} {b : Nat} (h : At w b w') (j : Nat) (u : Value) : At w b (w'.setCell ⟨b, j, none⟩ u) :=
  ⟨h.os, h.tape, h.output, by simpa [World.setCell] using h.size, fun c hc hne => by rw [heap_setCell_other _ _ _ _ hne]; exact h.block c hc hne⟩
theorem At.below {w w1 w2 : World} {b : Nat} (h : At w b w1) (hb : Below w1.heap.size w1 w2) : At w b w2 :=
  ⟨hb.os.trans h.os, hb.tape.trans h.tape, hb.output.trans h.output, Nat.le_trans h.size hb.size, fun c hc hne => (hb.block c (Nat.lt_of_lt_of_le hc h.size)).trans (h.block c hc hne)⟩
theorem At.of_below {w w1 : World} {b : Nat} (hb : Below w.heap.size w w1) : At w b w1 := (At.refl w b).below hb
theorem At.mod {w w' : World} {b : Nat} (h : At w b w') {F : Nat → Prop} (hf : F b) : Mod F w w' :=
  ⟨h.os, h.tape, h.output, h.size, fun c hc hn => h.block c hc (fun e => hn (by rw [e]; exact hf))⟩

/-- what is kept of an extent: its serial and its holds -/
structure Cl where
  se : Int
  ho : Nat
def Cl.zero : Cl := ⟨0, 0⟩
/-- the cells of a table: the device, then the claims -/
structure Tc (cs : Array Value) (dv : Value) (C : Nat → Cl) : Prop where
  size : cs.size = 65
  dev : cs[0]? = some dv
  ser : ∀ n, n < 32 → cs[1 + n * 2]? = some (.int .i64 (C n).se)
  hol : ∀ n, n < 32 → cs[1 + n * 2 + 1]? = some (.int .i64 ((C n).ho : Int))
def put (C : Nat → Cl) (n : Nat) (c : Cl) : Nat → Cl := fun k => if k = n then c else C k
theorem put_same (C : Nat → Cl) (n : Nat) (c : Cl) : put C n c n = c := by unfold put; rw [if_pos rfl]
theorem put_other (C : Nat → Cl) {n k : Nat} (c : Cl) (h : k ≠ n) : put C n c k = C k := by unfold put; rw [if_neg h]
theorem Tc.setHo {cs : Array Value} {dv : Value} {C : Nat → Cl} (h : Tc cs dv C) (n m : Nat) (hn : n < 32) : Tc (cs.setIfInBounds (1 + n * 2 + 1) (.int .i64 (m : Int))) dv (put C n ⟨(C n).se, m⟩) := by
  refine ⟨by simpa using h.size, by rw [Array.getElem?_setIfInBounds_ne (by omega)]; exact h.dev, fun k hk => ?_, fun k hk => ?_⟩
  · rw [Array.getElem?_setIfInBounds_ne (by omega), h.ser k hk]
    unfold put; split
    · rename_i e; rw [e]
    · rfl
  · by_cases e : k = n
    · subst e; rw [Array.getElem?_setIfInBounds_self_of_lt (by rw [h.size]; omega), put_same]
    · rw [Array.getElem?_setIfInBounds_ne (by omega), h.hol k hk, put_other _ _ e]
theorem Tc.setCl {cs : Array Value} {dv : Value} {C : Nat → Cl} (h : Tc cs dv C) (n : Nat) (hn : n < 32) (c : Cl) : Tc ((cs.setIfInBounds (1 + n * 2) (.int .i64 c.se)).setIfInBounds (1 + n * 2 + 1) (.int .i64 (c.ho : Int))) dv (put C n c) := by
  refine ⟨by simpa using h.size, by rw [Array.getElem?_setIfInBounds_ne (by omega), Array.getElem?_setIfInBounds_ne (by omega)]; exact h.dev, fun k hk => ?_, fun k hk => ?_⟩
  · rw [Array.getElem?_setIfInBounds_ne (by omega)]
    by_cases e : k = n
    · subst e; rw [Array.getElem?_setIfInBounds_self_of_lt (by rw [h.size]; omega), put_same]
    · rw [Array.getElem?_setIfInBounds_ne (by omega), h.ser k hk, put_other _ _ e]
  · by_cases e : k = n
    · subst e; rw [Array.getElem?_setIfInBounds_self_of_lt (by rw [Array.size_setIfInBounds, h.size]; omega), put_same]
    · rw [Array.getElem?_setIfInBounds_ne (by omega), Array.getElem?_setIfInBounds_ne (by omega), h.hol k hk, put_other _ _ e]
/-- a table at block T -/
structure Tb (w : World) (T : Nat) (dv : Value) (C : Nat → Cl) : Prop where
  out : ∃ cs, w.heap[T]? = some (.cells cs 88 (0, 0)) ∧ Tc cs dv C
theorem Tb.keep {w w' : World} {T : Nat} {dv : Value} {C : Nat → Cl} (h : Tb w T dv C) (hk : w'.heap[T]? = w.heap[T]?) : Tb w' T dv C := by
  obtain ⟨cs, h1, h2⟩ := h.out; exact ⟨cs, hk.trans h1, h2⟩
theorem Tb.lt {w : World} {T : Nat} {dv : Value} {C : Nat → Cl} (h : Tb w T dv C) : T < w.heap.size := by
  obtain ⟨cs, h1, h2⟩ := h.out; exact (Array.getElem?_eq_some_iff.1 h1).1
theorem Tb.below {w w' : World} {T : Nat} {dv : Value} {C : Nat → Cl} (h : Tb w T dv C) (hb : Below w.heap.size w w') : Tb w' T dv C := h.keep (hb.block T h.lt)
theorem Tb.dev {w : World} {T : Nat} {dv : Value} {C : Nat → Cl} (h : Tb w T dv C) : w.cell? ⟨T, 0, none⟩ = some dv := by
  obtain ⟨cs, h1, h2⟩ := h.out; rw [cell_of_row _ _ _ _ _ _ h1]; exact h2.dev
theorem Tb.ser {w : World} {T : Nat} {dv : Value} {C : Nat → Cl} (h : Tb w T dv C) {n : Nat} (hn : n < 32) : w.cell? ⟨T, 1 + n * 2, none⟩ = some (.int .i64 (C n).se) := by
  obtain ⟨cs, h1, h2⟩ := h.out; rw [cell_of_row _ _ _ _ _ _ h1]; exact h2.ser n hn
theorem Tb.hol {w : World} {T : Nat} {dv : Value} {C : Nat → Cl} (h : Tb w T dv C) {n : Nat} (hn : n < 32) : w.cell? ⟨T, 1 + n * 2 + 1, none⟩ = some (.int .i64 ((C n).ho : Int)) := by
  obtain ⟨cs, h1, h2⟩ := h.out; rw [cell_of_row _ _ _ _ _ _ h1]; exact h2.hol n hn
theorem Tb.frz {w : World} {T : Nat} {dv : Value} {C : Nat → Cl} (h : Tb w T dv C) (j : Nat) : w.frozen? ⟨T, j, none⟩ = false := by
  obtain ⟨cs, h1, h2⟩ := h.out; exact frozen_of_row _ _ _ _ _ h1
theorem Tb.setHo {w : World} {T : Nat} {dv : Value} {C : Nat → Cl} (h : Tb w T dv C) {n : Nat} (hn : n < 32) (m : Nat) : Tb (w.setCell ⟨T, 1 + n * 2 + 1, none⟩ (.int .i64 (m : Int))) T dv (put C n ⟨(C n).se, m⟩) := by
  obtain ⟨cs, h1, h2⟩ := h.out; exact ⟨_, heap_setCell_same _ _ _ _ _ _ h1, h2.setHo n m hn⟩
theorem Tb.setCl {w : World} {T : Nat} {dv : Value} {C : Nat → Cl} (h : Tb w T dv C) {n : Nat} (hn : n < 32) (c : Cl) : Tb ((w.setCell ⟨T, 1 + n * 2, none⟩ (.int .i64 c.se)).setCell ⟨T, 1 + n * 2 + 1, none⟩ (.int .i64 (c.ho : Int))) T dv (put C n c) := by
  obtain ⟨cs, h1, h2⟩ := h.out; exact ⟨_, heap_setCell_same _ _ _ _ _ _ (heap_setCell_same _ _ _ _ _ _ h1), h2.setCl n hn c⟩

/-- a pointer to a block's first cell -/
abbrev tp (T : Nat) : Value := .pointer (some ⟨T, 0, none⟩)
theorem outsideE_any (z : Int) (w : World) : Calls Try.prog 52 #[.int .i64 z] w fun e w' => e = .returned (.bool (!decide (0 ≤ z ∧ z < 32))) ∧ w' = w := by
  rcases Int.lt_or_le z 0 with h | h
  · have h1 : decide (0 ≤ z ∧ z < 32) = false := by simp; omega
    rw [h1]
    have hd : decide (z < 0) = true := by simp [h]
    clear h1
    go_enter Try.func52, Try.ntmps52
    go_wp2
    go_ret
    exact ⟨rfl, rfl⟩
  · have hd : decide (z < 0) = false := by simp; omega
    have h1 : (!decide (0 ≤ z ∧ z < 32)) = decide (32 ≤ z) := by
      by_cases h3 : 32 ≤ z
      · have : ¬ (0 ≤ z ∧ z < 32) := by omega
        simp [this, h3]
      · have : 0 ≤ z ∧ z < 32 := by omega
        simp [this, h3]
    rw [h1]
    clear h1
    go_enter Try.func52, Try.ntmps52
    go_wp2
    go_ret
    exact ⟨rfl, rfl⟩
theorem newE_any (w : World) (B : Nat) : Calls Try.prog 9 #[tp B] w fun e w' => e = .returned (tp w.heap.size) ∧ Tb w' w.heap.size (.iface 23 (tp B)) (fun _ => Cl.zero) ∧ Below w.heap.size w w' := by
  go_enter Try.func9, Try.ntmps9
  go_wp2
  go_ret
  refine ⟨rfl, ⟨_, heap_alloc_last _ _, ⟨?_, ?_, ?_, ?_⟩⟩, (Below.refl _ _).alloc (Nat.le_refl _) _⟩
  · rfl
  · rfl
  · intro n hn
    have : n = 0 ∨ n = 1 ∨ n = 2 ∨ n = 3 ∨ n = 4 ∨ n = 5 ∨ n = 6 ∨ n = 7 ∨ n = 8 ∨ n = 9 ∨ n = 10 ∨ n = 11 ∨ n = 12 ∨ n = 13 ∨ n = 14 ∨ n = 15 ∨ n = 16 ∨ n = 17 ∨ n = 18 ∨ n = 19 ∨ n = 20 ∨ n = 21 ∨ n = 22 ∨ n = 23 ∨ n = 24 ∨ n = 25 ∨ n = 26 ∨ n = 27 ∨ n = 28 ∨ n = 29 ∨ n = 30 ∨ n = 31 := by omega
    rcases this with rfl | rfl | rfl | rfl | rfl | rfl | rfl | rfl | rfl | rfl | rfl | rfl | rfl | rfl | rfl | rfl | rfl | rfl | rfl | rfl | rfl | rfl | rfl | rfl | rfl | rfl | rfl | rfl | rfl | rfl | rfl | rfl <;> rfl
  · intro n hn
    have : n = 0 ∨ n = 1 ∨ n = 2 ∨ n = 3 ∨ n = 4 ∨ n = 5 ∨ n = 6 ∨ n = 7 ∨ n = 8 ∨ n = 9 ∨ n = 10 ∨ n = 11 ∨ n = 12 ∨ n = 13 ∨ n = 14 ∨ n = 15 ∨ n = 16 ∨ n = 17 ∨ n = 18 ∨ n = 19 ∨ n = 20 ∨ n = 21 ∨ n = 22 ∨ n = 23 ∨ n = 24 ∨ n = 25 ∨ n = 26 ∨ n = 27 ∨ n = 28 ∨ n = 29 ∨ n = 30 ∨ n = 31 := by omega
    rcases this with rfl | rfl | rfl | rfl | rfl | rfl | rfl | rfl | rfl | rfl | rfl | rfl | rfl | rfl | rfl | rfl | rfl | rfl | rfl | rfl | rfl | rfl | rfl | rfl | rfl | rfl | rfl | rfl | rfl | rfl | rfl | rfl <;> rfl
end Go.Proofs.Ytogpgchfaalikaa
