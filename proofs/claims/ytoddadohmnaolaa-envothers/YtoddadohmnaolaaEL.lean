import Derived.Test.YtoddadohmnaolaaEK
namespace Go.Proofs.Ytoddadohmnaolaa
open Go.RowKit

theorem bits_or_i64 (a b : Nat) (ha : a < 4294967296) (hb : b < 4294967296) : bits .or .i64 (a : Int) (b : Int) = ((a ||| b : Nat) : Int) := by
  have hx : a ||| b < 2 ^ 32 := Nat.or_lt_two_pow (by omega) (by omega)
  have h1 : (BitVec.ofInt 64 (a : Int)).toNat = a := by rw [BitVec.ofInt_natCast, BitVec.toNat_ofNat]; exact Nat.mod_eq_of_lt (by omega)
  have h2 : (BitVec.ofInt 64 (b : Int)).toNat = b := by rw [BitVec.ofInt_natCast, BitVec.toNat_ofNat]; exact Nat.mod_eq_of_lt (by omega)
  show IntKind.i64.wrap ((BitVec.ofInt 64 (a : Int) ||| BitVec.ofInt 64 (b : Int)).toNat : Int) = _
  rw [BitVec.toNat_or, h1, h2]
  simp [IntKind.wrap, IntKind.signed, IntKind.bits]
  omega
theorem or_lt (a b : Nat) (ha : a < 4294967296) (hb : b < 4294967296) : a ||| b < 4294967296 := Nat.or_lt_two_pow (n := 32) (by omega) (by omega)
/-- the table of the law: number 1 is r -/
def rsN (r : Er) : List (Option Er) := some e0 :: some r :: some e2 :: List.replicate 13 none
/-- what holds of number 1 between rounds: its bits are 'have', it waits where 'stops' says so -/
structure Nt (r : Er) (hv : Nat) (stops : Bool) : Prop where
  pc : r.pc = 77
  r2 : r.rg 2 = 9
  pa : r.pa = 0
  fz : r.fz = false
  bi : r.bi = (hv : Int)
  lt : hv < 4294967296
  st : r.st = if stops then 2 else 1
  zero : stops = true → hv = 0
theorem rsN_set (r r' : Er) : (rsN r).set 1 (some r') = rsN r' := rfl
theorem rsN_line {r : Er} (h : r.pa = 0) : Line (rsN r) ((1 : Nat) : Int) [((1 : Nat) : Int), 0] := by
  refine line_some (r := r) rfl ?_
  rw [h]
  exact line_some (r := e0) rfl (line_none rfl)
theorem rsN_any {r : Er} (h : r.fz = false) : [((1 : Nat) : Int), 0].any (flg (rsN r)) = false := by
  have h1 : flg (rsN r) ((1 : Nat) : Int) = r.fz := (flg_at (k := 1) rfl).symm
  have h2 : flg (rsN r) 0 = e0.fz := (flg_at (rs := rsN r) (k := 0) (r := e0) rfl).symm
  simp only [List.any_cons, List.any_nil, h1, h2, h]
  rfl
theorem Nt.waited {r : Er} {hv : Nat} {s : Bool} (h : Nt r hv s) : Nt (waited r) 0 (s || decide (hv = 0)) := by
  unfold Go.Proofs.Ytoddadohmnaolaa.waited
  have hb := h.bi
  by_cases e : hv = 0
  · subst e
    rw [if_pos (by rw [hb]; rfl)]
    exact ⟨h.pc, h.r2, h.pa, h.fz, rfl, by decide, by simp, fun _ => rfl⟩
  · rw [if_neg (by rw [hb]; omega)]
    have hs : s = false := by cases s; rfl; exact absurd (h.zero rfl) e
    subst hs
    exact ⟨h.pc, h.r2, h.pa, h.fz, rfl, by decide, by simp [e]; exact h.st, fun _ => rfl⟩
theorem Nt.noticed {r : Er} {hv : Nat} {s : Bool} (h : Nt r hv s) (n : Nat) (hn : n < 4294967296) :
    (s = true ∧ hv ||| n ≠ 0 → (noticed r n).st = 1 ∧ (noticed r n).bi = 0 ∧ (noticed r n).rg 0 = 0 ∧ (noticed r n).rg 1 = hv ||| n ∧ Nt (noticed r n) 0 false) ∧ (¬ (s = true ∧ hv ||| n ≠ 0) → Nt (noticed r n) (hv ||| n) s) := by
  have hz : bits .or .i64 r.bi (n : Int) = ((hv ||| n : Nat) : Int) := by rw [h.bi]; exact bits_or_i64 _ _ h.lt hn
  unfold Go.Proofs.Ytoddadohmnaolaa.noticed
  rw [hz]
  have hst := h.st
  constructor
  · rintro ⟨rfl, h2⟩
    rw [if_pos ⟨by rw [hst]; rfl, by omega⟩]
    refine ⟨rfl, rfl, rfl, by simp [wokenR], ⟨h.pc, ?_, h.pa, h.fz, rfl, by decide, rfl, fun h => rfl⟩⟩
    show wokenR r ((hv ||| n : Nat) : Int).toNat 2 = 9
    simp [wokenR, h.r2]
  · intro h2
    have hc : ¬ (r.st = 2 ∧ ¬ ((hv ||| n : Nat) : Int) = 0) := by
      rintro ⟨h3, h4⟩
      refine h2 ⟨?_, by omega⟩
      cases s
      · rw [hst] at h3; simp at h3
      · rfl
    rw [if_neg hc]
    refine ⟨h.pc, h.r2, h.pa, h.fz, rfl, or_lt _ _ h.lt hn, hst, fun hs => ?_⟩
    exact Classical.byContradiction fun h5 => h2 ⟨hs, h5⟩
end Go.Proofs.Ytoddadohmnaolaa
