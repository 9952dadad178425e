import Derived.Test.YtnpklhjndominaaCF
namespace Go.Proofs.Ytnpklhjndominaa
open Go.RowKit

/-- numbers that came in -/
def IsInts (w : World) (a : Option Addr) (len : Nat) (I : Nat → Int) : Prop := ∀ k, k < len → ∃ x, a = some x ∧ w.cell? (x.add k) = some (.int .i64 (I k)) ∧ -9223372036854775808 ≤ I k ∧ I k ≤ 9223372036854775807
theorem IsInts.at {w : World} {a : Option Addr} {len : Nat} {I : Nat → Int} (h : IsInts w a len I) {k : Nat} (hk : k < len) : ∃ x, a = some x ∧ ∀ W, Below w.heap.size w W → W.cell? (x.add k) = some (.int .i64 (I k)) := by
  obtain ⟨x, hx, h0, _⟩ := h k hk
  refine ⟨x, hx, fun W hb => ?_⟩
  rw [hb.cell (World.block_lt_of_cell? w _ h0)]; exact h0
theorem u64_rem (z : Int) (n : Nat) (hn : 0 < n) (hn2 : n ≤ 1048576) : ∃ j : Nat, j < n ∧ wrap64 ((IntKind.u64.wrap z).tmod (n : Int)) = (j : Int) := by
  have e1 : IntKind.u64.wrap z = z % 18446744073709551616 := by simp [IntKind.wrap, IntKind.signed, IntKind.bits]
  have e2 : (z % 18446744073709551616).tmod (n : Int) = z % 18446744073709551616 % (n : Int) := Int.tmod_eq_emod_of_nonneg (by omega)
  have h0 : 0 ≤ z % 18446744073709551616 % (n : Int) := Int.emod_nonneg _ (by omega)
  have h1 : z % 18446744073709551616 % (n : Int) < n := Int.emod_lt_of_pos _ (by omega)
  refine ⟨(z % 18446744073709551616 % (n : Int)).toNat, by omega, ?_⟩
  rw [e1, e2]
  generalize z % 18446744073709551616 % (n : Int) = q at *
  unfold wrap64
  omega
theorem u64_wrap_nat (n : Nat) (h : n ≤ 1048576) : IntKind.u64.wrap (n : Int) = (n : Int) := by
  have e1 : IntKind.u64.wrap (n : Int) = (n : Int) % 18446744073709551616 := by simp [IntKind.wrap, IntKind.signed, IntKind.bits]
  rw [e1]; omega
theorem OwI.read {w : World} {base : Nat} {v : Value} {l : List Nat} (h : OwI w base v l) : ∃ (ao : Option Addr) (cap : Nat), v = .slice ao l.length cap ∧ ∀ (k x : Nat), l[k]? = some x → ∃ g, ao = some ⟨g, 0, none⟩ ∧ w.cell? ⟨g, k, none⟩ = some (.int .i64 (x : Int)) := by
  have h' := h
  obtain ⟨hl, ⟨rfl, h0⟩ | ⟨g, cap, cur, rfl, hb, hg, hn, hm, hs, ht⟩⟩ := h
  · refine ⟨none, 0, by rw [h0], fun k x hk => ?_⟩
    have := (List.getElem?_eq_some_iff.1 hk).1; omega
  · refine ⟨_, cap, rfl, fun k x hk => ⟨g, rfl, ?_⟩⟩
    have := World.ownsRow.cells h' rfl k (IV x) (by simp [hk])
    rw [add0] at this; exact this
theorem OwI.below {w w' : World} {base : Nat} {v : Value} {l : List Nat} (h : OwI w base v l) (hb : Below w.heap.size w w') : OwI w' base v l := ownsRow_keep h (fun b e => hb.block b (ownsRow_lt h e))
theorem cell_up {w W : World} (hb : Below w.heap.size w W) {p : Addr} {v : Value} (h : w.cell? p = some v) : W.cell? p = some v := by
  rw [hb.cell (World.block_lt_of_cell? w _ h)]; exact h
theorem puts_sec (Z : Nat → Int × Nat) {k n : Nat} (h : k < n) : ((puts Z n).map (·.1))[k]? = some (pl (Z k).1) := by simp [puts, h]
end Go.Proofs.Ytnpklhjndominaa
