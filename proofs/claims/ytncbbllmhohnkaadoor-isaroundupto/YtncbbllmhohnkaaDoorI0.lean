import Derived.Test.YtncbbllmhohnkaaDoorRows
import Derived.WalkKit
import Derived.Handy
import Derived.WalkSpells
import Derived.WalkLawsBesides
import Derived.Deep.RegionLaw
import Derived.Deep.RegionHeld
import Derived.Deep.WholeRow
import Derived.Deep.MidRow
import Derived.Laws.OwnMore
import Derived.Laws.StructEq
import Derived.Laws.BitsAllLaws
import Derived.BigQuiet
import Derived.Below
namespace Go.Proofs.YtncbbllmhohnkaaDoor
open Go.RowKit

theorem hide {p : Prop} (h : p) : Hid p := h
theorem add0 (g j : Nat) : (⟨g, 0, none⟩ : Addr).add j = ⟨g, j, none⟩ := by unfold Addr.add; split <;> simp_all

/-- an instruction's four numbers -/
structure I where
  op : Int
  a : Int
  b : Int
  imm : Int
def I.cells (i : I) : List Value := [.int .i64 i.op, .int .i64 i.a, .int .i64 i.b, .int .i64 i.imm]
/-- the table: does operation n use a, b; what is imm to it (0 nothing, 1 plain, 2 signed) -/
def uA (n : Nat) : Bool := n ∈ [2, 3, 4, 5, 6, 7, 8, 9, 10, 11, 12, 13, 14, 15, 16, 17, 18, 19, 20, 22, 23, 24, 25]
def uB (n : Nat) : Bool := n ∈ [4, 5, 6, 7, 8, 9, 10, 11, 12, 13, 14, 15, 16, 17, 19, 20]
def kd (n : Nat) : Nat := if n ∈ [3, 26] then 1 else if n ∈ [2, 18, 19, 20, 21, 22, 23, 25] then 2 else 0
theorem kd_le (n : Nat) : kd n = 0 ∨ kd n = 1 ∨ kd n = 2 := by unfold kd; split; simp; split <;> simp
/-- the operations' names -/
def nms : List (List UInt8) := [[], [110, 111, 112], [108, 105], [104, 105], [109, 111, 118], [97, 100, 100], [115, 117, 98], [109, 117, 108], [100, 105, 118], [114, 101, 109], [97, 110, 100], [111, 114], [120, 111, 114], [115, 104, 108], [115, 104, 114], [108, 116], [115, 108, 116], [101, 113], [97, 100, 100, 105], [108, 100], [115, 116], [106, 109, 112], [106, 122], [106, 110, 122], [106, 114], [99, 97, 108, 108], [115, 121, 115]]
def nm (n : Nat) : List UInt8 := nms.getD n []
def fitsB (n : Int) (u : Bool) : Bool := n == 0 || (u && decide (0 < n) && decide (n < 8))
theorem fitsB_range {n : Int} {u : Bool} (h : fitsB n u = true) : 0 ≤ n ∧ n < 8 := by
  unfold fitsB at h; simp at h; omega
def lo (k : Nat) : Int := if k = 2 then -32768 else 0
def hi (k : Nat) : Int := if k = 1 then 65535 else if k = 2 then 32767 else 0
def isI (i : I) : Bool := decide (1 ≤ i.op) && decide (i.op < 27) && fitsB i.a (uA i.op.toNat) && fitsB i.b (uB i.op.toNat) && decide (lo (kd i.op.toNat) ≤ i.imm) && decide (i.imm ≤ hi (kd i.op.toNat))
structure Isn (i : I) : Prop where
  op1 : 1 ≤ i.op
  op2 : i.op < 27
  a : fitsB i.a (uA i.op.toNat) = true
  b : fitsB i.b (uB i.op.toNat) = true
  l : lo (kd i.op.toNat) ≤ i.imm
  h : i.imm ≤ hi (kd i.op.toNat)
theorem isn {i : I} : isI i = true ↔ Isn i := by
  unfold isI
  simp only [Bool.and_eq_true, decide_eq_true_eq]
  exact ⟨fun ⟨⟨⟨⟨⟨h1, h2⟩, h3⟩, h4⟩, h5⟩, h6⟩ => ⟨h1, h2, h3, h4, h5, h6⟩, fun h => ⟨⟨⟨⟨⟨h.op1, h.op2⟩, h.a⟩, h.b⟩, h.l⟩, h.h⟩⟩
theorem Isn.imm {i : I} (h : Isn i) : -32768 ≤ i.imm ∧ i.imm ≤ 65535 := by
  have h1 := h.l
  have h2 := h.h
  unfold lo at h1; unfold hi at h2
  rcases kd_le i.op.toNat with e | e | e <;> rw [e] at h1 h2 <;> simp at h1 h2 <;> omega
/-- the parts of a word -/
def parts (w : Nat) : I := ⟨(w / 16777216 : Nat), (w / 1048576 % 16 : Nat), (w / 65536 % 16 : Nat), if kd (w / 16777216) = 2 ∧ 32768 ≤ w % 65536 then ((w % 65536 : Nat) : Int) - 65536 else (w % 65536 : Nat)⟩
def decI (w : Nat) : I := if isI (parts w) then parts w else ⟨0, 0, 0, 0⟩
def decE (w : Nat) : Int := if isI (parts w) then 0 else 70
/-- the word of an instruction -/
def word (i : I) : Nat := (i.op * 16777216 + i.a * 1048576 + i.b * 65536 + i.imm % 65536).toNat
def encW (i : I) : Nat := if isI i then word i else 0
def encE (i : I) : Int := if isI i then 0 else 70
theorem kd_big {n : Nat} (h : 27 ≤ n) : kd n = 0 := by
  unfold kd; rw [if_neg (by simp; omega), if_neg (by simp; omega)]
theorem kd_zero : kd 0 = 0 := rfl
theorem word_parts {w : Nat} (h : w < 4294967296) : word (parts w) = w := by
  unfold word parts
  simp only
  split <;> omega
theorem parts_word {i : I} (h : Isn i) : parts (word i) = i := by
  have ha := fitsB_range h.a
  have hb := fitsB_range h.b
  have h1 := h.op1
  have h2 := h.op2
  have hm := h.imm
  have hl := h.l
  have hh := h.h
  obtain ⟨op, a, b, imm⟩ := i
  simp only at ha hb h1 h2 hm hl hh
  obtain ⟨n, rfl⟩ := Int.eq_ofNat_of_zero_le (show 0 ≤ op by omega)
  simp only [Int.toNat_natCast] at hl hh
  have w0 : word ⟨(n : Int), a, b, imm⟩ = n * 16777216 + a.toNat * 1048576 + b.toNat * 65536 + (imm % 65536).toNat := by unfold word; simp only; omega
  have e1 : word ⟨(n : Int), a, b, imm⟩ / 16777216 = n := by rw [w0]; omega
  have e2 : word ⟨(n : Int), a, b, imm⟩ / 1048576 % 16 = a.toNat := by rw [w0]; omega
  have e3 : word ⟨(n : Int), a, b, imm⟩ / 65536 % 16 = b.toNat := by rw [w0]; omega
  have e4 : word ⟨(n : Int), a, b, imm⟩ % 65536 = (imm % 65536).toNat := by rw [w0]; omega
  unfold parts
  rw [e1, e2, e3, e4]
  unfold lo at hl; unfold hi at hh
  have e5 : (if kd n = 2 ∧ 32768 ≤ (imm % 65536).toNat then (((imm % 65536).toNat : Nat) : Int) - 65536 else ((imm % 65536).toNat : Nat)) = imm := by
    rcases kd_le n with e | e | e <;> rw [e] at hl hh ⊢ <;> simp at hl hh <;> (split <;> omega)
  rw [e5]
  congr 1 <;> omega
theorem word_lt {i : I} (h : Isn i) : word i < 4294967296 := by
  have ha := fitsB_range h.a
  have hb := fitsB_range h.b
  have h1 := h.op1
  have h2 := h.op2
  unfold word; omega
end Go.Proofs.YtncbbllmhohnkaaDoor
