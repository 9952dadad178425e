import Derived.Test.YtncbbllmhohnkaaDoorI0
import GoSem.Core.Utf8
import GoSem.Instr.Next
import Derived.Laws.RangeString
namespace Go.Proofs.YtncbbllmhohnkaaDoor
open Go.RowKit
/-- a text -/
abbrev Tx := List UInt8
/-- the byte at a place -/
theorem get_at (s : ByteArray) (i : Nat) (h : i < s.size) : s.get! i = s[i]'h := by
  simp [ByteArray.get!, getElem!_pos, h]
  rfl
/-- what is read at a byte beyond ASCII: a rune beyond ASCII, and all that it takes is beyond ASCII -/
def HiOk (s : ByteArray) (pos : Nat) (d : Nat × Nat) : Prop := 128 ≤ d.1 ∧ d.1 ≤ 1114111 ∧ 1 ≤ d.2 ∧ pos + d.2 ≤ s.size ∧ ∀ j, j < d.2 → ∃ hj : pos + j < s.size, ¬ (s[pos + j]'hj).toNat < 128
theorem HiOk.bad {s : ByteArray} {pos : Nat} (h : pos < s.size) (hb : ¬ (s[pos]'h).toNat < 128) : HiOk s pos (Utf8.runeError, 1) :=
  ⟨by decide, by decide, by decide, h, fun j hj => by
    obtain rfl : j = 0 := by simp at hj; omega
    exact ⟨h, hb⟩⟩
theorem cont_hi {s : ByteArray} {pos k : Nat} (hk : (decide (pos + k < s.size) && (s.get! (pos + k)).toNat / 64 == 2) = true) : ∃ hk : pos + k < s.size, ¬ (s[pos + k]'hk).toNat < 128 := by
  simp only [Bool.and_eq_true, decide_eq_true_eq, beq_iff_eq] at hk
  refine ⟨hk.1, ?_⟩
  have := hk.2
  rw [get_at s _ hk.1] at this
  omega
theorem dec_hi (s : ByteArray) (pos : Nat) (h : pos < s.size) (hb : ¬ (s[pos]'h).toNat < 128) : HiOk s pos (Utf8.decode s pos) := by
  have e0 : (s.get! (pos + 0)).toNat = (s[pos]'h).toNat := by rw [Nat.add_zero, get_at s pos h]
  have bad := HiOk.bad h hb
  obtain ⟨b0, hb0⟩ : ∃ b, (s[pos]'h).toNat = b := ⟨_, rfl⟩
  obtain ⟨b1, hb1⟩ : ∃ b, (s.get! (pos + 1)).toNat = b := ⟨_, rfl⟩
  obtain ⟨b2, hb2⟩ : ∃ b, (s.get! (pos + 2)).toNat = b := ⟨_, rfl⟩
  obtain ⟨b3, hb3⟩ : ∃ b, (s.get! (pos + 3)).toNat = b := ⟨_, rfl⟩
  have n0 : ∃ hk : pos + 0 < s.size, ¬ (s[pos + 0]'hk).toNat < 128 := ⟨h, hb⟩
  have c1 : (decide (pos + 1 < s.size) && b1 / 64 == 2) = true → ∃ hk : pos + 1 < s.size, ¬ (s[pos + 1]'hk).toNat < 128 := fun hk => cont_hi (by rw [hb1]; exact hk)
  have c2 : (decide (pos + 2 < s.size) && b2 / 64 == 2) = true → ∃ hk : pos + 2 < s.size, ¬ (s[pos + 2]'hk).toNat < 128 := fun hk => cont_hi (by rw [hb2]; exact hk)
  have c3 : (decide (pos + 3 < s.size) && b3 / 64 == 2) = true → ∃ hk : pos + 3 < s.size, ¬ (s[pos + 3]'hk).toNat < 128 := fun hk => cont_hi (by rw [hb3]; exact hk)
  unfold Utf8.decode
  rw [hb0] at hb e0
  simp only [e0, hb1, hb2, hb3, hb, if_false]
  clear e0 hb0 hb1 hb2 hb3
  split
  · next h1 =>
    simp only [Bool.and_eq_true, beq_iff_eq] at h1
    obtain ⟨k1, n1⟩ := c1 (by simpa using h1.2)
    split
    · next h2 =>
      refine ⟨h2, ?_, Nat.le_succ 1, k1, fun j hj => ?_⟩
      · have := Nat.mod_lt b0 (show 0 < 32 by decide)
        have := Nat.mod_lt b1 (show 0 < 64 by decide)
        show b0 % 32 * 64 + b1 % 64 ≤ 1114111
        omega
      · match j, hj with
        | 0, _ => exact n0
        | 1, _ => exact ⟨k1, n1⟩
    · exact bad
  · split
    · next h1 =>
      simp only [Bool.and_eq_true, beq_iff_eq] at h1
      obtain ⟨k1, n1⟩ := c1 (by simpa using h1.1.2)
      obtain ⟨k2, n2⟩ := c2 (by simpa using h1.2)
      split
      · next h2 =>
        simp only [Bool.and_eq_true, decide_eq_true_eq] at h2
        refine ⟨Nat.le_trans (by decide) h2.1, ?_, (show 1 ≤ 3 by decide), k2, fun j hj => ?_⟩
        · have := Nat.mod_lt b0 (show 0 < 16 by decide)
          have := Nat.mod_lt b1 (show 0 < 64 by decide)
          have := Nat.mod_lt b2 (show 0 < 64 by decide)
          show b0 % 16 * 4096 + b1 % 64 * 64 + b2 % 64 ≤ 1114111
          omega
        · match j, hj with
          | 0, _ => exact n0
          | 1, _ => exact ⟨k1, n1⟩
          | 2, _ => exact ⟨k2, n2⟩
      · exact bad
    · split
      · next h1 =>
        simp only [Bool.and_eq_true, beq_iff_eq] at h1
        obtain ⟨k1, n1⟩ := c1 (by simpa using h1.1.1.2)
        obtain ⟨k2, n2⟩ := c2 (by simpa using h1.1.2)
        obtain ⟨k3, n3⟩ := c3 (by simpa using h1.2)
        split
        · next h2 =>
          simp only [Bool.and_eq_true, decide_eq_true_eq] at h2
          refine ⟨Nat.le_trans (by decide) h2.1, ?_, (show 1 ≤ 4 by decide), k3, fun j hj => ?_⟩
          · have h3 := h2.2
            generalize b0 % 8 * 262144 + b1 % 64 * 4096 + b2 % 64 * 64 + b3 % 64 = c at *
            unfold Utf8.valid at h3
            simp only [Bool.or_eq_true, Bool.and_eq_true, decide_eq_true_eq] at h3
            show c ≤ 1114111
            omega
          · match j, hj with
            | 0, _ => exact n0
            | 1, _ => exact ⟨k1, n1⟩
            | 2, _ => exact ⟨k2, n2⟩
            | 3, _ => exact ⟨k3, n3⟩
        · exact bad
      · exact bad
/-- a text's walk lies in a block -/
def It (wr : World) (g : Nat) (s : ByteArray) (pos : Nat) : Prop := wr.heap[g]? = some (.stringIter s pos)
def World.itTo (wr : World) (g : Nat) (s : ByteArray) (pos : Nat) : World := { wr with heap := wr.heap.setIfInBounds g (.stringIter s pos) }
/-- where the walk stands -/
def itPos (wr : World) (g : Nat) : Nat :=
  match wr.heap[g]? with
  | some (.stringIter _ p) => p
  | _ => 0
theorem it_pos {wr : World} {g : Nat} {s : ByteArray} {pos : Nat} (h : It wr g s pos) : itPos wr g = pos := by
  have h' : wr.heap[g]? = some (.stringIter s pos) := h
  simp [itPos, h']
theorem it_lt {wr : World} {g : Nat} {s : ByteArray} {pos : Nat} (h : It wr g s pos) : g < wr.heap.size := (Array.getElem?_eq_some_iff.1 h).1
theorem it_next {P : Program} {wr : World} {g : Nat} {s : ByteArray} {pos : Nat} (h : It wr g s pos) (ty : TypeId) (hp : pos < s.size) :
    (Instr.next (.pointer (some ⟨g, 0, none⟩)) true ty).run P wr = .ok (.tuple #[.bool true, .int .i64 pos, .int .i32 ((Utf8.decode s pos).1 : Nat)]) (World.itTo wr g s (pos + (Utf8.decode s pos).2)) := by
  have h' : wr.heap[g]? = some (.stringIter s pos) := h
  have hl := it_lt h
  simp only [Instr.next, getObj, setObj, Sem.run_bind, Sem.run, h', Result.andThen, hp, if_true]
  simp [goInt, World.itTo]
theorem it_end {P : Program} {wr : World} {g : Nat} {s : ByteArray} {pos : Nat} (h : It wr g s pos) (ty : TypeId) (hp : ¬ pos < s.size) :
    (Instr.next (.pointer (some ⟨g, 0, none⟩)) true ty).run P wr = .ok (.tuple #[.bool false]) wr := by
  have h' : wr.heap[g]? = some (.stringIter s pos) := h
  simp [Instr.next, getObj, Sem.run, h', hp]
theorem it_to {wr : World} {g : Nat} {s : ByteArray} {pos : Nat} (h : It wr g s pos) (q : Nat) : It (World.itTo wr g s q) g s q := by
  have hl := it_lt h
  simp [It, World.itTo, hl]
theorem it_below {w wr : World} {g : Nat} {s : ByteArray} {B : Nat} (h : Below B w wr) (hg : B ≤ g) (q : Nat) : Below B w (World.itTo wr g s q) :=
  ⟨h.os, h.tape, h.output, by simp [World.itTo]; exact h.size, fun k hk => by
    show (wr.heap.setIfInBounds g _)[k]? = _
    rw [Array.getElem?_setIfInBounds, if_neg (by omega)]
    exact h.block k hk⟩
theorem it_kept {W W' : World} {g : Nat} {s : ByteArray} {pos : Nat} (h : It W g s pos) (hb : Below W.heap.size W W') : It W' g s pos := by
  show W'.heap[g]? = _
  rw [hb.block g (it_lt h)]
  exact h
theorem itTo_size (W : World) (g : Nat) (s : ByteArray) (q : Nat) : (World.itTo W g s q).heap.size = W.heap.size := by simp [World.itTo]
end Go.Proofs.YtncbbllmhohnkaaDoor
