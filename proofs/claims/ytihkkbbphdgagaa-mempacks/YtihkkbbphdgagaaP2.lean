import Derived.Test.YtihkkbbphdgagaaP1
import Derived.Laws.BitsAllLaws
namespace Go.Proofs.Ytihkkbbphdgagaa
open Go.RowKit

/-- the first k bytes' part of word j -/
def unk (f : Nat → Nat) (k j : Nat) : Nat := (if 4 * j < k then f (4 * j) else 0) + 256 * (if 4 * j + 1 < k then f (4 * j + 1) else 0) + 65536 * (if 4 * j + 2 < k then f (4 * j + 2) else 0) + 16777216 * (if 4 * j + 3 < k then f (4 * j + 3) else 0)
theorem unk_other {f : Nat → Nat} {k j : Nat} (h : j ≠ k / 4) : unk f (k + 1) j = unk f k j := by
  unfold unk
  have e : ∀ i, i < 4 → ((4 * j + i < k + 1) ↔ (4 * j + i < k)) := fun i hi => by omega
  have e0 := e 0 (by omega)
  have e1 := e 1 (by omega)
  have e2 := e 2 (by omega)
  have e3 := e 3 (by omega)
  simp only [Nat.add_zero] at e0
  simp only [e0, e1, e2, e3]
theorem or_add {a b s : Nat} (h : a < 2 ^ s) : a ||| b * 2 ^ s = a + b * 2 ^ s := by
  have := Nat.shiftLeft_add_eq_or_of_lt h b
  rw [Nat.shiftLeft_eq] at this
  rw [Nat.or_comm, ← this, Nat.add_comm]
theorem unk_step {f : Nat → Nat} (hf : ∀ i, f i < 256) (k : Nat) : unk f (k + 1) (k / 4) = unk f k (k / 4) ||| f k * 2 ^ (k % 4 * 8) ∧ unk f (k + 1) (k / 4) < 4294967296 ∧ f k * 2 ^ (k % 4 * 8) < 4294967296 ∧ unk f k (k / 4) < 4294967296 := by
  obtain ⟨j, r, hr, rfl⟩ : ∃ j r, r < 4 ∧ k = 4 * j + r := ⟨k / 4, k % 4, by omega, by omega⟩
  rw [show (4 * j + r) / 4 = j by omega, show (4 * j + r) % 4 = r by omega]
  have h0 := hf (4 * j)
  have h1 := hf (4 * j + 1)
  have h2 := hf (4 * j + 2)
  have h3 := hf (4 * j + 3)
  have : r = 0 ∨ r = 1 ∨ r = 2 ∨ r = 3 := by omega
  rcases this with rfl | rfl | rfl | rfl
  · have a : unk f (4 * j + 0) j = 0 := by unfold unk; (repeat' split) <;> omega
    have b : unk f (4 * j + 0 + 1) j = f (4 * j) := by unfold unk; (repeat' split) <;> omega
    rw [a, b]; simp; omega
  · have a : unk f (4 * j + 1) j = f (4 * j) := by unfold unk; (repeat' split) <;> omega
    have b : unk f (4 * j + 1 + 1) j = f (4 * j) + 256 * f (4 * j + 1) := by unfold unk; (repeat' split) <;> omega
    rw [a, b, or_add (by omega)]; omega
  · have a : unk f (4 * j + 2) j = f (4 * j) + 256 * f (4 * j + 1) := by unfold unk; (repeat' split) <;> omega
    have b : unk f (4 * j + 2 + 1) j = f (4 * j) + 256 * f (4 * j + 1) + 65536 * f (4 * j + 2) := by unfold unk; (repeat' split) <;> omega
    rw [a, b, or_add (by omega)]; omega
  · have a : unk f (4 * j + 3) j = f (4 * j) + 256 * f (4 * j + 1) + 65536 * f (4 * j + 2) := by unfold unk; (repeat' split) <;> omega
    have b : unk f (4 * j + 3 + 1) j = f (4 * j) + 256 * f (4 * j + 1) + 65536 * f (4 * j + 2) + 16777216 * f (4 * j + 3) := by unfold unk; (repeat' split) <;> omega
    rw [a, b, or_add (by omega)]; omega
/-- a page's bytes give it back -/
theorem unk_pb {p : Nat → Nat} {j : Nat} (hj : j < 32) (h : p j < 4294967296) : unk (pb p) 128 j = p j := by
  unfold unk pb
  rw [if_pos (by omega), if_pos (by omega), if_pos (by omega), if_pos (by omega)]
  rw [show 4 * j / 4 = j by omega, show (4 * j + 1) / 4 = j by omega, show (4 * j + 2) / 4 = j by omega, show (4 * j + 3) / 4 = j by omega]
  rw [show 4 * j % 4 = 0 by omega, show (4 * j + 1) % 4 = 1 by omega, show (4 * j + 2) % 4 = 2 by omega, show (4 * j + 3) % 4 = 3 by omega]
  simp only [Nat.zero_mul, Nat.pow_zero, Nat.div_one, Nat.one_mul, show (2 : Nat) ^ 8 = 256 from rfl, show (2 : Nat) ^ (2 * 8) = 65536 from rfl, show (2 : Nat) ^ (3 * 8) = 16777216 from rfl]
  omega
theorem pb_lt (p : Nat → Nat) (i : Nat) : pb p i < 256 := Nat.mod_lt _ (by omega)
end Go.Proofs.Ytihkkbbphdgagaa
