import Derived.Test.YtnpklhjndominaaCB
namespace Go.Proofs.Ytnpklhjndominaa
open Go.RowKit

/-- the writes that l asks for -/
def puts (Z : Nat → Int × Nat) (n : Nat) : List (Nat × List Nat) := (List.range n).map (fun k => (pl (Z k).1, List.replicate 128 (Z k).2))
theorem puts_succ (Z : Nat → Int × Nat) (n : Nat) : puts Z (n + 1) = puts Z n ++ [(pl (Z n).1, List.replicate 128 (Z n).2)] := by
  simp [puts, List.range_succ]
theorem puts_len (Z : Nat → Int × Nat) (n : Nat) : (puts Z n).length = n := by simp [puts]
theorem IsPuts.at {w : World} {a : Option Addr} {len : Nat} {Z : Nat → Int × Nat} (h : IsPuts w a len Z) {k : Nat} (hk : k < len) : ∃ x, a = some x ∧ (Z k).2 < 256 ∧
    ∀ W, Below w.heap.size w W → W.cell? (x.add (k * 2)) = some (.int .i64 (Z k).1) ∧ W.cell? ⟨(x.add (k * 2)).block, (x.add (k * 2)).off + 1, none⟩ = some (.int .u8 ((Z k).2 : Int)) := by
  obtain ⟨x, hx, h0, h1, h2, _⟩ := h k hk
  refine ⟨x, hx, h2, fun W hb => ?_⟩
  have e : ∀ {p : Addr} {v : Value}, w.cell? p = some v → W.cell? p = some v := fun {p v} h1 => by
    have h2 := World.block_lt_of_cell? w _ h1
    rw [hb.cell h2]; exact h1
  exact ⟨e h0, far_cell (by decide) (e h1)⟩
theorem DkA.drew {B : Nat} {D : Dsk} {w : World} {F : Nat → Prop} (h : DkA B D w F) : DkA B D w.drew F := by
  obtain ⟨cs, cv, h, he⟩ := h; exact ⟨cs, cv, h.drew, he⟩
theorem Below.of_drew {n : Nat} {w w' : World} (h : Below n w.drew w') : Below n w w' := ⟨h.os, h.tape, h.output, h.size, h.block⟩
end Go.Proofs.Ytnpklhjndominaa
