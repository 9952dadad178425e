import Derived.Test.YtiafodeabdhcoaaGreatDoorRows
import Derived.WalkKit
import Derived.Handy
import Derived.WalkSpells
import Derived.WalkLawsBesides
import Derived.Deep.RegionLaw
import Derived.Deep.RegionHeld
import Derived.Deep.WholeRow
import Derived.Deep.MidRow
import Derived.Laws.OwnMore
import Derived.Laws.StructEq
import Derived.Laws.BitsAllLaws
import Derived.BigQuiet
import Derived.Below
import GoSem.Core.Utf8
import GoSem.Instr.Next
import Derived.Laws.RangeString
import Derived.Lib.SlTrimSet
import Derived.Lib.Strings
import Derived.Lib.IndexMore
import Derived.Lib.ItoaNum
import Derived.Lib.Split
import Derived.Shelf.Strings.BuilderK
import Derived.Shelf.Strconv.Itoa3
import Derived.Test.YtiafodeabdhcoaaGreatDoorProg
import Derived.Shelf.Strings.Prefix
import Derived.Shelf.Strings.Search3
import Derived.Shelf.Strings.Split
namespace Go.Proofs.YtiafodeabdhcoaaGreatDoor
open Go.RowKit

theorem hide {p : Prop} (h : p) : Hid p := h
theorem add0 (g j : Nat) : (⟨g, 0, none⟩ : Addr).add j = ⟨g, j, none⟩ := by unfold Addr.add; split <;> simp_all

/-- an instruction's four numbers -/
structure I where
  op : Int
  a : Int
  b : Int
  imm : Int
def I.cells (i : I) : List Value := [.int .i64 i.op, .int .i64 i.a, .int .i64 i.b, .int .i64 i.imm]
/-- the table: does operation n use a, b; what is imm to it (0 nothing, 1 plain, 2 signed) -/
def uA (n : Nat) : Bool := n ∈ [2, 3, 4, 5, 6, 7, 8, 9, 10, 11, 12, 13, 14, 15, 16, 17, 18, 19, 20, 22, 23, 24, 25]
def uB (n : Nat) : Bool := n ∈ [4, 5, 6, 7, 8, 9, 10, 11, 12, 13, 14, 15, 16, 17, 19, 20]
def kd (n : Nat) : Nat := if n ∈ [3, 26] then 1 else if n ∈ [2, 18, 19, 20, 21, 22, 23, 25] then 2 else 0
theorem kd_le (n : Nat) : kd n = 0 ∨ kd n = 1 ∨ kd n = 2 := by unfold kd; split; simp; split <;> simp
/-- the operations' names -/
def nms : List (List UInt8) := [[], [110, 111, 112], [108, 105], [104, 105], [109, 111, 118], [97, 100, 100], [115, 117, 98], [109, 117, 108], [100, 105, 118], [114, 101, 109], [97, 110, 100], [111, 114], [120, 111, 114], [115, 104, 108], [115, 104, 114], [108, 116], [115, 108, 116], [101, 113], [97, 100, 100, 105], [108, 100], [115, 116], [106, 109, 112], [106, 122], [106, 110, 122], [106, 114], [99, 97, 108, 108], [115, 121, 115]]
def nm (n : Nat) : List UInt8 := nms.getD n []
def fitsB (n : Int) (u : Bool) : Bool := n == 0 || (u && decide (0 < n) && decide (n < 8))
theorem fitsB_range {n : Int} {u : Bool} (h : fitsB n u = true) : 0 ≤ n ∧ n < 8 := by
  unfold fitsB at h; simp at h; omega
def lo (k : Nat) : Int := if k = 2 then -32768 else 0
def hi (k : Nat) : Int := if k = 1 then 65535 else if k = 2 then 32767 else 0
def isI (i : I) : Bool := decide (1 ≤ i.op) && decide (i.op < 27) && fitsB i.a (uA i.op.toNat) && fitsB i.b (uB i.op.toNat) && decide (lo (kd i.op.toNat) ≤ i.imm) && decide (i.imm ≤ hi (kd i.op.toNat))
structure Isn (i : I) : Prop where
  op1 : 1 ≤ i.op
  op2 : i.op < 27
  a : fitsB i.a (uA i.op.toNat) = true
  b : fitsB i.b (uB i.op.toNat) = true
  l : lo (kd i.op.toNat) ≤ i.imm
  h : i.imm ≤ hi (kd i.op.toNat)
theorem isn {i : I} : isI i = true ↔ Isn i := by
  unfold isI
  simp only [Bool.and_eq_true, decide_eq_true_eq]
  exact ⟨fun ⟨⟨⟨⟨⟨h1, h2⟩, h3⟩, h4⟩, h5⟩, h6⟩ => ⟨h1, h2, h3, h4, h5, h6⟩, fun h => ⟨⟨⟨⟨⟨h.op1, h.op2⟩, h.a⟩, h.b⟩, h.l⟩, h.h⟩⟩
theorem Isn.imm {i : I} (h : Isn i) : -32768 ≤ i.imm ∧ i.imm ≤ 65535 := by
  have h1 := h.l
  have h2 := h.h
  unfold lo at h1; unfold hi at h2
  rcases kd_le i.op.toNat with e | e | e <;> rw [e] at h1 h2 <;> simp at h1 h2 <;> omega
/-- the parts of a word -/
def parts (w : Nat) : I := ⟨(w / 16777216 : Nat), (w / 1048576 % 16 : Nat), (w / 65536 % 16 : Nat), if kd (w / 16777216) = 2 ∧ 32768 ≤ w % 65536 then ((w % 65536 : Nat) : Int) - 65536 else (w % 65536 : Nat)⟩
def decI (w : Nat) : I := if isI (parts w) then parts w else ⟨0, 0, 0, 0⟩
def decE (w : Nat) : Int := if isI (parts w) then 0 else 70
/-- the word of an instruction -/
def word (i : I) : Nat := (i.op * 16777216 + i.a * 1048576 + i.b * 65536 + i.imm % 65536).toNat
def encW (i : I) : Nat := if isI i then word i else 0
def encE (i : I) : Int := if isI i then 0 else 70
theorem kd_big {n : Nat} (h : 27 ≤ n) : kd n = 0 := by
  unfold kd; rw [if_neg (by simp; omega), if_neg (by simp; omega)]
theorem kd_zero : kd 0 = 0 := rfl
theorem word_parts {w : Nat} (h : w < 4294967296) : word (parts w) = w := by
  unfold word parts
  simp only
  split <;> omega
theorem parts_word {i : I} (h : Isn i) : parts (word i) = i := by
  have ha := fitsB_range h.a
  have hb := fitsB_range h.b
  have h1 := h.op1
  have h2 := h.op2
  have hm := h.imm
  have hl := h.l
  have hh := h.h
  obtain ⟨op, a, b, imm⟩ := i
  simp only at ha hb h1 h2 hm hl hh
  obtain ⟨n, rfl⟩ := Int.eq_ofNat_of_zero_le (show 0 ≤ op by omega)
  simp only [Int.toNat_natCast] at hl hh
  have w0 : word ⟨(n : Int), a, b, imm⟩ = n * 16777216 + a.toNat * 1048576 + b.toNat * 65536 + (imm % 65536).toNat := by unfold word; simp only; omega
  have e1 : word ⟨(n : Int), a, b, imm⟩ / 16777216 = n := by rw [w0]; omega
  have e2 : word ⟨(n : Int), a, b, imm⟩ / 1048576 % 16 = a.toNat := by rw [w0]; omega
  have e3 : word ⟨(n : Int), a, b, imm⟩ / 65536 % 16 = b.toNat := by rw [w0]; omega
  have e4 : word ⟨(n : Int), a, b, imm⟩ % 65536 = (imm % 65536).toNat := by rw [w0]; omega
  unfold parts
  rw [e1, e2, e3, e4]
  unfold lo at hl; unfold hi at hh
  have e5 : (if kd n = 2 ∧ 32768 ≤ (imm % 65536).toNat then (((imm % 65536).toNat : Nat) : Int) - 65536 else ((imm % 65536).toNat : Nat)) = imm := by
    rcases kd_le n with e | e | e <;> rw [e] at hl hh ⊢ <;> simp at hl hh <;> (split <;> omega)
  rw [e5]
  congr 1 <;> omega
theorem word_lt {i : I} (h : Isn i) : word i < 4294967296 := by
  have ha := fitsB_range h.a
  have hb := fitsB_range h.b
  have h1 := h.op1
  have h2 := h.op2
  unfold word; omega
end Go.Proofs.YtiafodeabdhcoaaGreatDoor

namespace Go.Proofs.YtiafodeabdhcoaaGreatDoor
open Go.RowKit
/-- a text -/
abbrev Tx := List UInt8
/-- the byte at a place -/
theorem get_at (s : ByteArray) (i : Nat) (h : i < s.size) : s.get! i = s[i]'h := by
  simp [ByteArray.get!, getElem!_pos, h]
  rfl
/-- what is read at a byte beyond ASCII: a rune beyond ASCII, and all that it takes is beyond ASCII -/
def HiOk (s : ByteArray) (pos : Nat) (d : Nat × Nat) : Prop := 128 ≤ d.1 ∧ d.1 ≤ 1114111 ∧ 1 ≤ d.2 ∧ pos + d.2 ≤ s.size ∧ ∀ j, j < d.2 → ∃ hj : pos + j < s.size, ¬ (s[pos + j]'hj).toNat < 128
theorem HiOk.bad {s : ByteArray} {pos : Nat} (h : pos < s.size) (hb : ¬ (s[pos]'h).toNat < 128) : HiOk s pos (Utf8.runeError, 1) :=
  ⟨by decide, by decide, by decide, h, fun j hj => by
    obtain rfl : j = 0 := by simp at hj; omega
    exact ⟨h, hb⟩⟩
theorem cont_hi {s : ByteArray} {pos k : Nat} (hk : (decide (pos + k < s.size) && (s.get! (pos + k)).toNat / 64 == 2) = true) : ∃ hk : pos + k < s.size, ¬ (s[pos + k]'hk).toNat < 128 := by
  simp only [Bool.and_eq_true, decide_eq_true_eq, beq_iff_eq] at hk
  refine ⟨hk.1, ?_⟩
  have := hk.2
  rw [get_at s _ hk.1] at this
  omega
theorem dec_hi (s : ByteArray) (pos : Nat) (h : pos < s.size) (hb : ¬ (s[pos]'h).toNat < 128) : HiOk s pos (Utf8.decode s pos) := by
  have e0 : (s.get! (pos + 0)).toNat = (s[pos]'h).toNat := by rw [Nat.add_zero, get_at s pos h]
  have bad := HiOk.bad h hb
  obtain ⟨b0, hb0⟩ : ∃ b, (s[pos]'h).toNat = b := ⟨_, rfl⟩
  obtain ⟨b1, hb1⟩ : ∃ b, (s.get! (pos + 1)).toNat = b := ⟨_, rfl⟩
  obtain ⟨b2, hb2⟩ : ∃ b, (s.get! (pos + 2)).toNat = b := ⟨_, rfl⟩
  obtain ⟨b3, hb3⟩ : ∃ b, (s.get! (pos + 3)).toNat = b := ⟨_, rfl⟩
  have n0 : ∃ hk : pos + 0 < s.size, ¬ (s[pos + 0]'hk).toNat < 128 := ⟨h, hb⟩
  have c1 : (decide (pos + 1 < s.size) && b1 / 64 == 2) = true → ∃ hk : pos + 1 < s.size, ¬ (s[pos + 1]'hk).toNat < 128 := fun hk => cont_hi (by rw [hb1]; exact hk)
  have c2 : (decide (pos + 2 < s.size) && b2 / 64 == 2) = true → ∃ hk : pos + 2 < s.size, ¬ (s[pos + 2]'hk).toNat < 128 := fun hk => cont_hi (by rw [hb2]; exact hk)
  have c3 : (decide (pos + 3 < s.size) && b3 / 64 == 2) = true → ∃ hk : pos + 3 < s.size, ¬ (s[pos + 3]'hk).toNat < 128 := fun hk => cont_hi (by rw [hb3]; exact hk)
  unfold Utf8.decode
  rw [hb0] at hb e0
  simp only [e0, hb1, hb2, hb3, hb, if_false]
  clear e0 hb0 hb1 hb2 hb3
  split
  · next h1 =>
    simp only [Bool.and_eq_true, beq_iff_eq] at h1
    obtain ⟨k1, n1⟩ := c1 (by simpa using h1.2)
    split
    · next h2 =>
      refine ⟨h2, ?_, Nat.le_succ 1, k1, fun j hj => ?_⟩
      · have := Nat.mod_lt b0 (show 0 < 32 by decide)
        have := Nat.mod_lt b1 (show 0 < 64 by decide)
        show b0 % 32 * 64 + b1 % 64 ≤ 1114111
        omega
      · match j, hj with
        | 0, _ => exact n0
        | 1, _ => exact ⟨k1, n1⟩
    · exact bad
  · split
    · next h1 =>
      simp only [Bool.and_eq_true, beq_iff_eq] at h1
      obtain ⟨k1, n1⟩ := c1 (by simpa using h1.1.2)
      obtain ⟨k2, n2⟩ := c2 (by simpa using h1.2)
      split
      · next h2 =>
        simp only [Bool.and_eq_true, decide_eq_true_eq] at h2
        refine ⟨Nat.le_trans (by decide) h2.1, ?_, (show 1 ≤ 3 by decide), k2, fun j hj => ?_⟩
        · have := Nat.mod_lt b0 (show 0 < 16 by decide)
          have := Nat.mod_lt b1 (show 0 < 64 by decide)
          have := Nat.mod_lt b2 (show 0 < 64 by decide)
          show b0 % 16 * 4096 + b1 % 64 * 64 + b2 % 64 ≤ 1114111
          omega
        · match j, hj with
          | 0, _ => exact n0
          | 1, _ => exact ⟨k1, n1⟩
          | 2, _ => exact ⟨k2, n2⟩
      · exact bad
    · split
      · next h1 =>
        simp only [Bool.and_eq_true, beq_iff_eq] at h1
        obtain ⟨k1, n1⟩ := c1 (by simpa using h1.1.1.2)
        obtain ⟨k2, n2⟩ := c2 (by simpa using h1.1.2)
        obtain ⟨k3, n3⟩ := c3 (by simpa using h1.2)
        split
        · next h2 =>
          simp only [Bool.and_eq_true, decide_eq_true_eq] at h2
          refine ⟨Nat.le_trans (by decide) h2.1, ?_, (show 1 ≤ 4 by decide), k3, fun j hj => ?_⟩
          · have h3 := h2.2
            generalize b0 % 8 * 262144 + b1 % 64 * 4096 + b2 % 64 * 64 + b3 % 64 = c at *
            unfold Utf8.valid at h3
            simp only [Bool.or_eq_true, Bool.and_eq_true, decide_eq_true_eq] at h3
            show c ≤ 1114111
            omega
          · match j, hj with
            | 0, _ => exact n0
            | 1, _ => exact ⟨k1, n1⟩
            | 2, _ => exact ⟨k2, n2⟩
            | 3, _ => exact ⟨k3, n3⟩
        · exact bad
      · exact bad
/-- a text's walk lies in a block -/
def It (wr : World) (g : Nat) (s : ByteArray) (pos : Nat) : Prop := wr.heap[g]? = some (.stringIter s pos)
def World.itTo (wr : World) (g : Nat) (s : ByteArray) (pos : Nat) : World := { wr with heap := wr.heap.setIfInBounds g (.stringIter s pos) }
/-- where the walk stands -/
def itPos (wr : World) (g : Nat) : Nat :=
  match wr.heap[g]? with
  | some (.stringIter _ p) => p
  | _ => 0
theorem it_pos {wr : World} {g : Nat} {s : ByteArray} {pos : Nat} (h : It wr g s pos) : itPos wr g = pos := by
  have h' : wr.heap[g]? = some (.stringIter s pos) := h
  simp [itPos, h']
theorem it_lt {wr : World} {g : Nat} {s : ByteArray} {pos : Nat} (h : It wr g s pos) : g < wr.heap.size := (Array.getElem?_eq_some_iff.1 h).1
theorem it_next {P : Program} {wr : World} {g : Nat} {s : ByteArray} {pos : Nat} (h : It wr g s pos) (ty : TypeId) (hp : pos < s.size) :
    (Instr.next (.pointer (some ⟨g, 0, none⟩)) true ty).run P wr = .ok (.tuple #[.bool true, .int .i64 pos, .int .i32 ((Utf8.decode s pos).1 : Nat)]) (World.itTo wr g s (pos + (Utf8.decode s pos).2)) := by
  have h' : wr.heap[g]? = some (.stringIter s pos) := h
  have hl := it_lt h
  simp only [Instr.next, getObj, setObj, Sem.run_bind, Sem.run, h', Result.andThen, hp, if_true]
  simp [goInt, World.itTo]
theorem it_end {P : Program} {wr : World} {g : Nat} {s : ByteArray} {pos : Nat} (h : It wr g s pos) (ty : TypeId) (hp : ¬ pos < s.size) :
    (Instr.next (.pointer (some ⟨g, 0, none⟩)) true ty).run P wr = .ok (.tuple #[.bool false]) wr := by
  have h' : wr.heap[g]? = some (.stringIter s pos) := h
  simp [Instr.next, getObj, Sem.run, h', hp]
theorem it_to {wr : World} {g : Nat} {s : ByteArray} {pos : Nat} (h : It wr g s pos) (q : Nat) : It (World.itTo wr g s q) g s q := by
  have hl := it_lt h
  simp [It, World.itTo, hl]
theorem it_below {w wr : World} {g : Nat} {s : ByteArray} {B : Nat} (h : Below B w wr) (hg : B ≤ g) (q : Nat) : Below B w (World.itTo wr g s q) :=
  ⟨h.os, h.tape, h.output, by simp [World.itTo]; exact h.size, fun k hk => by
    show (wr.heap.setIfInBounds g _)[k]? = _
    rw [Array.getElem?_setIfInBounds, if_neg (by omega)]
    exact h.block k hk⟩
theorem it_kept {W W' : World} {g : Nat} {s : ByteArray} {pos : Nat} (h : It W g s pos) (hb : Below W.heap.size W W') : It W' g s pos := by
  show W'.heap[g]? = _
  rw [hb.block g (it_lt h)]
  exact h
theorem itTo_size (W : World) (g : Nat) (s : ByteArray) (q : Nat) : (World.itTo W g s q).heap.size = W.heap.size := by simp [World.itTo]
end Go.Proofs.YtiafodeabdhcoaaGreatDoor

namespace Go.Proofs.YtiafodeabdhcoaaGreatDoor
open Go.RowKit
/-- without blanks at both ends -/
def trimT (s : Tx) : Tx := Lib.trimS s [32, 9]
/-- what stands ahead of the first mark and behind it -/
def cutT (ms : Tx) : Tx → Option (Tx × Tx)
  | [] => none
  | c :: r => if ms.contains c then some ([], r) else (cutT ms r).map fun p => (c :: p.1, p.2)
/-- the pieces between marks -/
def splitT (m : UInt8) : Tx → List Tx
  | [] => [[]]
  | c :: r => if c == m then [] :: splitT m r else match splitT m r with
    | [] => [[c]]
    | p :: ps => (c :: p) :: ps
def isLet (c : UInt8) : Bool := (decide (97 ≤ c.toNat) && decide (c.toNat ≤ 122)) || (decide (65 ≤ c.toNat) && decide (c.toNat ≤ 90)) || decide (c.toNat = 95)
def isDig (c : UInt8) : Bool := decide (48 ≤ c.toNat) && decide (c.toNat ≤ 57)
/-- has it a label's form -/
def isLbl : Tx → Bool
  | [] => false
  | c :: r => isLet c && r.all fun d => isLet d || isDig d
def digV (c : UInt8) : Nat := if isDig c then c.toNat - 48 else if 97 ≤ c.toNat ∧ c.toNat ≤ 102 then c.toNat - 87 else 16
def numF (b : Nat) : Nat → Tx → Option Nat
  | n, [] => some n
  | n, c :: r => if digV c < b then numF b (n * b + digV c) r else none
def minT (s : Tx) : Bool := Lib.hasPrefix s [45]
def absT (s : Tx) : Tx := Lib.trimPrefix s [45]
def hexT (s : Tx) : Bool := Lib.hasPrefix s [48, 120]
def digT (s : Tx) : Tx := Lib.trimPrefix s [48, 120]
/-- the base, and how many digits at most -/
def basT (s : Tx) : Nat := if hexT s then 16 else 10
def mosT (s : Tx) : Nat := if hexT s then 8 else 10
/-- the number that a text is -/
def numT (s : Tx) : Option Int :=
  if (digT (absT s)).length = 0 ∨ mosT (absT s) < (digT (absT s)).length then none
  else (numF (basT (absT s)) 0 (digT (absT s))).map fun n => if minT s then -(n : Int) else (n : Int)
/-- the register that a text is -/
def regT : Tx → Option Nat
  | [a, b] => if a.toNat = 114 ∧ 48 ≤ b.toNat ∧ b.toNat < 56 then some (b.toNat - 48) else none
  | _ => none
/-- the operation of a name, 0: none -/
def opT (s : Tx) : Nat := ((List.range 27).find? fun n => n != 0 && nm n == s).getD 0
/-- what a line says -/
structure Ln where
  wrong : Bool
  label : Tx
  i : I
  name : Tx
  words : Int
def ln0 : Ln := ⟨false, [], ⟨0, 0, 0, 0⟩, [], 0⟩
def lnBad : Ln := ⟨true, [], ⟨0, 0, 0, 0⟩, [], 0⟩
/-- a field that may be a label or a number within bounds -/
def immT (l : Ln) (f : Tx) (lo hi : Int) : Option Ln :=
  if isLbl f then some { l with name := f }
  else match numT f with
    | some n => if lo ≤ n ∧ n ≤ hi then some { l with i := { l.i with imm := n } } else none
    | none => none
/-- one field of an instruction, by its kind -/
def fldT (lo hi : Int) (l : Ln) (k : Int) (f : Tx) : Option Ln :=
  if k = 2 then immT l f lo hi
  else match regT f with
    | some n => if k = 0 then some { l with i := { l.i with a := n } } else some { l with i := { l.i with b := n } }
    | none => none
def fldsT (lo hi : Int) : Ln → List Int → List Tx → Option Ln
  | l, [], [] => some l
  | l, k :: ks, f :: fs => (fldT lo hi l k f).bind fun l' => fldsT lo hi l' ks fs
  | _, _, _ => none
def kinds (n : Nat) : List Int := (if uA n then [0] else []) ++ (if uB n then [1] else []) ++ (if kd n = 0 then [] else [2])
/-- a name and its fields -/
def stmT (name : Tx) (fs : List Tx) : Option Ln :=
  if name = [46, 119, 111, 114, 100] then match fs with
    | [f] => immT { ln0 with words := 1 } f (-2147483648) 4294967295
    | _ => none
  else if name = [46, 122, 101, 114, 111] then match fs with
    | [f] => match numT f with
      | some n => if 0 ≤ n ∧ n ≤ 512 then some { ln0 with words := n } else none
      | none => none
    | _ => none
  else if opT name = 0 then none
  else if fs.length = (kinds (opT name)).length then fldsT (lo (kd (opT name))) (hi (kd (opT name))) { ln0 with i := ⟨(opT name : Nat), 0, 0, 0⟩, words := 1 } (kinds (opT name)) fs
  else none
def sfT (s : Tx) : List Tx := if trimT s = [] then [] else (splitT 44 (trimT s)).map trimT
/-- what a line has beside its label -/
def stT (s : Tx) : Ln :=
  if s = [] then ln0
  else
    let p := (cutT [32, 9] s).getD (s, [])
    (stmT p.1 (sfT p.2)).getD lnBad
def lineT (s : Tx) : Ln :=
  let t := trimT ((cutT [59] s).getD (s, [])).1
  match cutT [58] t with
  | none => stT t
  | some (a, b) => if isLbl a then { stT (trimT b) with label := a } else lnBad
/-- the words that the lines ahead of line k give -/
def ahd (ls : List Ln) (k : Nat) : Int := ((ls.take k).map (·.words)).sum
/-- the first line with a label -/
def fndT (ls : List Ln) (s : Tx) : Option Nat := ls.findIdx? fun l => l.label == s
end Go.Proofs.YtiafodeabdhcoaaGreatDoor

namespace Go.Proofs.YtiafodeabdhcoaaGreatDoor
open Go.RowKit
/-- a token: 0 none, 1 the end, 2 a word, 3 a number, 4 a name, 5 a sign -/
structure Tk where
  kind : Nat
  text : Tx
  val : Nat
  line : Nat
def tk0 : Tk := ⟨0, [], 0, 0⟩
/-- the operators: text, level, code -/
def opsT : List (Tx × Nat × Tx) := [
  ([124, 124], 1, []),
  ([38, 38], 2, []),
  ([124], 3, [111, 114, 32, 114, 52, 44, 32, 114, 53]),
  ([94], 4, [120, 111, 114, 32, 114, 52, 44, 32, 114, 53]),
  ([38], 5, [97, 110, 100, 32, 114, 52, 44, 32, 114, 53]),
  ([61, 61], 6, [101, 113, 32, 114, 52, 44, 32, 114, 53]),
  ([33, 61], 6, [101, 113, 32, 114, 52, 44, 32, 114, 53, 59, 32, 101, 113, 32, 114, 52, 44, 32, 114, 55]),
  ([60], 7, [108, 116, 32, 114, 52, 44, 32, 114, 53]),
  ([60, 61], 7, [108, 116, 32, 114, 53, 44, 32, 114, 52, 59, 32, 109, 111, 118, 32, 114, 52, 44, 32, 114, 53, 59, 32, 101, 113, 32, 114, 52, 44, 32, 114, 55]),
  ([62], 7, [108, 116, 32, 114, 53, 44, 32, 114, 52, 59, 32, 109, 111, 118, 32, 114, 52, 44, 32, 114, 53]),
  ([62, 61], 7, [108, 116, 32, 114, 52, 44, 32, 114, 53, 59, 32, 101, 113, 32, 114, 52, 44, 32, 114, 55]),
  ([60, 60], 8, [115, 104, 108, 32, 114, 52, 44, 32, 114, 53]),
  ([62, 62], 8, [115, 104, 114, 32, 114, 52, 44, 32, 114, 53]),
  ([43], 9, [97, 100, 100, 32, 114, 52, 44, 32, 114, 53]),
  ([45], 9, [115, 117, 98, 32, 114, 52, 44, 32, 114, 53]),
  ([42], 10, [109, 117, 108, 32, 114, 52, 44, 32, 114, 53]),
  ([47], 10, [100, 105, 118, 32, 114, 52, 44, 32, 114, 53]),
  ([37], 10, [114, 101, 109, 32, 114, 52, 44, 32, 114, 53])]
/-- an operator's level; 0: none -/
def lvT (s : Tx) : Nat := ((opsT.find? fun o => o.1 == s).map fun o => o.2.1).getD 0
def ocT (s : Tx) : Tx := ((opsT.find? fun o => o.1 == s).map fun o => o.2.2).getD []
/-- the words of the language -/
def wdsT : List Tx := [[118, 97, 114], [105, 102], [101, 108, 115, 101], [119, 104, 105, 108, 101], [101, 109, 105, 116], [115, 116, 111, 112], [121, 105, 101, 108, 100], [98, 114, 101, 97, 107], [99, 111, 110, 116, 105, 110, 117, 101], [97, 115, 107]]
def isWd (s : Tx) : Bool := wdsT.any fun x => x == s
def sgnT : Tx := [124, 94, 38, 60, 62, 43, 45, 42, 47, 37, 33, 126, 61, 59, 40, 41, 91, 93, 123, 125]
/-- the number that a run is -/
def nmT (s : Tx) : Option Nat :=
  if (digT s).length = 0 ∨ mosT s < (digT s).length then none
  else (numF (basT s) 0 (digT s)).bind fun n => if n ≤ 4294967295 then some n else none
def runTk (s : Tx) : Tk :=
  if isWd s then ⟨2, s, 0, 0⟩
  else match nmT s with
    | some n => ⟨3, s, n, 0⟩
    | none => if s.length ≤ 16 && !((s.head?).map isDig).getD false then ⟨4, s, 0, 0⟩ else tk0
def runT (s : Tx) : Tx := s.takeWhile fun c => isLet c || isDig c
def fstTk (s : Tx) : Tk :=
  if runT s ≠ [] then runTk (runT s)
  else if 1 < s.length ∧ lvT (s.take 2) ≠ 0 then ⟨5, s.take 2, 0, 0⟩
  else if Lib.contains sgnT (s.take 1) = true then ⟨5, s.take 1, 0, 0⟩
  else tk0
def lnLen (s : Tx) : Nat := if 0 ≤ Lib.indexByte s 10 then (Lib.indexByte s 10).toNat else s.length
/-- the tokens: so many bytes are to be gone by, the line -/
def cutF : Nat → Nat → Tx → List Tk
  | _, ln, [] => [⟨1, [], 0, ln⟩]
  | sk, ln, c :: r =>
    if c = 10 then cutF (sk - 1) (ln + 1) r
    else if 0 < sk then cutF (sk - 1) ln r
    else if c = 32 ∨ c = 9 then cutF 0 ln r
    else if Lib.hasPrefix (c :: r) [47, 47] = true then cutF (lnLen (c :: r) - 1) ln r
    else if (fstTk (c :: r)).kind = 0 then [{ fstTk (c :: r) with line := ln }]
    else { fstTk (c :: r) with line := ln } :: cutF ((fstTk (c :: r)).text.length - 1) ln r
def tksT (s : Tx) : List Tk := cutF 0 1 s
/-- a declared name -/
structure Vr where
  name : Tx
  arr : Bool
  size : Nat
  at' : Nat
def vr0 : Vr := ⟨[], false, 0, 0⟩
/-- an expression: 0 a number, 1 ask, 2 a name, 3 an element, 4 a sign's, 5 an operator's -/
structure Ex where
  kind : Nat
  val : Nat
  var : Vr
  op : Tx
  left : Option Ex
  right : Option Ex
  depth : Nat
def ex0 : Ex := ⟨0, 0, vr0, [], none, none, 0⟩
/-- a statement, with those behind it -/
structure Sl where
  word : Tx
  var : Vr
  idx : Option Ex
  val : Option Ex
  body : Option Sl
  oth : Nat
  rest : Option Sl
  next : Option Sl
def Sl.of (w : Tx) : Sl := ⟨w, vr0, none, none, none, 0, none, none⟩
/-- a reader -/
structure Rd where
  at' : Nat
  form : Nat
  nam : Nat
  dat : Nat
  dep : Nat
  vars : List Vr
  words : Nat
  blocks : Nat
  loops : Nat
def rd0 : Rd := ⟨0, 0, 0, 0, 0, [], 0, 0, 0⟩
section
variable (ts : List Tk)
def Rd.see (r : Rd) : Tk := if r.form ≠ 0 then tk0 else (ts[r.at']?).getD tk0
def Rd.nform (r : Rd) (ln : Nat) : Rd := if r.form = 0 then { r with form := ln } else r
def Rd.nname (r : Rd) (ln : Nat) : Rd := if r.nam = 0 then { r with nam := ln } else r
def Rd.ndat (r : Rd) (ln : Nat) : Rd := if r.dat = 0 then { r with dat := ln } else r
def Rd.ndep (r : Rd) (ln : Nat) : Rd := if r.dep = 0 then { r with dep := ln } else r
def Rd.refuse (r : Rd) : Rd := r.nform (r.see ts).line
def Rd.is (r : Rd) (s : Tx) : Bool := (r.see ts).text == s
def Rd.step (r : Rd) : Rd := { r with at' := r.at' + 1 }
def Rd.pass (r : Rd) (s : Tx) : Rd := if r.is ts s then r.step else r
def Rd.take (r : Rd) (s : Tx) : Rd := if r.is ts s then r.step else r.refuse ts
/-- the place of the variable with this name: the last that was declared -/
def Rd.find (r : Rd) (s : Tx) : Option Vr := r.vars.reverse.find? fun v => v.name == s
def Rd.named (r : Rd) : Vr × Rd :=
  match r.find (r.see ts).text with
  | none => (vr0, r.step.nname (r.see ts).line)
  | some v => (v, if v.arr != (r.step).is ts [91] then r.step.nname (r.see ts).line else r.step)
def sgT (s : Tx) : Tx :=
  if s = [45] then [109, 111, 118, 32, 114, 53, 44, 32, 114, 55, 59, 32, 115, 117, 98, 32, 114, 53, 44, 32, 114, 52, 59, 32, 109, 111, 118, 32, 114, 52, 44, 32, 114, 53]
  else if s = [126] then [108, 105, 32, 114, 53, 44, 32, 45, 49, 59, 32, 120, 111, 114, 32, 114, 52, 44, 32, 114, 53]
  else if s = [33] then [101, 113, 32, 114, 52, 44, 32, 114, 55]
  else []
/-- expressions: tag 0 an operand, 1 an expression of this level, 2 what goes on behind e -/
def pxF : Nat → Nat → Nat → Ex → Rd → Ex × Rd
  | 0, _, _, _, r => (ex0, r)
  | n + 1, 0, _, _, r =>
    let t := r.see ts
    if sgT t.text ≠ [] then
      let p := pxF n 0 0 ex0 (r.take ts t.text)
      (⟨4, 0, vr0, t.text, some p.1, none, 1 + p.1.depth⟩, p.2)
    else if t.kind = 3 then (⟨0, t.val, vr0, [], none, none, 1⟩, r.step)
    else if t.text = [97, 115, 107] then (⟨1, 0, vr0, [], none, none, 1⟩, r.step)
    else if t.kind = 4 then
      let v := r.named ts
      if (v.2).is ts [91] then
        let p := pxF n 1 1 ex0 v.2.step
        (⟨3, 0, v.1, [], some p.1, none, 1 + p.1.depth⟩, (p.2).take ts [93])
      else (⟨2, 0, v.1, [], none, none, 1⟩, v.2)
    else if t.text = [40] then
      let p := pxF n 1 1 ex0 r.step
      ({ p.1 with depth := p.1.depth + 1 }, (p.2).take ts [41])
    else (ex0, r.refuse ts)
  | n + 1, 1, lv, _, r =>
    let p := pxF n 0 0 ex0 r
    pxF n 2 lv p.1 p.2
  | n + 1, _ + 2, lv, e, r =>
    let s := (r.see ts).text
    if lvT s < lv then (e, r)
    else
      let p := pxF n 1 (lvT s + 1) ex0 (r.take ts s)
      pxF n 2 lv ⟨5, 0, vr0, s, some e, some p.1, max e.depth (1 + p.1.depth)⟩ p.2
def Rd.fuel (r : Rd) : Nat := 3 * (ts.length - r.at') + 3
def Rd.whole (r : Rd) : Ex × Rd :=
  let p := pxF ts (r.fuel ts) 1 1 ex0 r
  (p.1, if 16 < p.1.depth then p.2.ndep (r.see ts).line else p.2)
def Rd.assign (r : Rd) : Sl × Rd :=
  let v := r.named ts
  if (v.2).is ts [91] then
    let i := Rd.whole ts v.2.step
    let e := Rd.whole ts (((i.2).take ts [93]).take ts [61])
    ({ Sl.of [61] with var := v.1, idx := some i.1, val := some e.1 }, (e.2).take ts [59])
  else
    let e := Rd.whole ts ((v.2).take ts [61])
    ({ Sl.of [61] with var := v.1, val := some e.1 }, (e.2).take ts [59])
def Rd.telling (r : Rd) (w : Tx) : Sl × Rd :=
  let e := Rd.whole ts (r.take ts w)
  ({ Sl.of w with val := some e.1 }, (e.2).take ts [59])
def Rd.bare (r : Rd) (t : Tk) : Sl × Rd :=
  (Sl.of t.text, ((if t.text ≠ [121, 105, 101, 108, 100] ∧ r.loops = 0 then r.nname t.line else r).take ts t.text).take ts [59])
def Rd.enter (r : Rd) : Rd :=
  let r1 := r.take ts [123]
  let r2 := if 16 ≤ r1.blocks then r1.ndep (r.see ts).line else r1
  { r2 with blocks := r2.blocks + 1 }
def Rd.leave (r : Rd) : Rd := ({ r with blocks := r.blocks - 1 } : Rd).take ts [125]
/-- statements: tag 0 all that come, 1 a block, 2 a choice, 3 a loop -/
def psF : Nat → Nat → Rd → Option Sl × Rd
  | 0, _, r => (none, r)
  | n + 1, 0, r =>
    let t := r.see ts
    let one : Option (Option Sl × Rd) :=
      if t.text = [105, 102] then some (psF n 2 r)
      else if t.text = [119, 104, 105, 108, 101] then some (psF n 3 r)
      else if t.text = [101, 109, 105, 116] ∨ t.text = [115, 116, 111, 112] then let p := r.telling ts t.text; some (some p.1, p.2)
      else if t.text = [121, 105, 101, 108, 100] ∨ t.text = [98, 114, 101, 97, 107] ∨ t.text = [99, 111, 110, 116, 105, 110, 117, 101] then let p := r.bare ts t; some (some p.1, p.2)
      else if t.text = [123] then let p := psF n 1 r; some (some { Sl.of [123] with body := p.1 }, p.2)
      else if t.kind = 4 then let p := r.assign ts; some (some p.1, p.2)
      else none
    match one with
    | some (some s, r1) => let q := psF n 0 r1; (some { s with next := q.1 }, q.2)
    | _ => (none, r)
  | n + 1, 1, r => let p := psF n 0 (r.enter ts); (p.1, (p.2).leave ts)
  | n + 1, 2, r =>
    let e := Rd.whole ts (r.take ts [105, 102])
    let b := psF n 1 e.2
    if (b.2).is ts [101, 108, 115, 101] then
      let r2 := b.2.step
      if r2.is ts [105, 102] then
        let c := psF n 2 r2
        (some { Sl.of [105, 102] with val := some e.1, body := b.1, oth := 2, rest := c.1 }, c.2)
      else
        let c := psF n 1 r2
        (some { Sl.of [105, 102] with val := some e.1, body := b.1, oth := 1, rest := c.1 }, c.2)
    else (some { Sl.of [105, 102] with val := some e.1, body := b.1 }, b.2)
  | n + 1, _ + 3, r =>
    let e := Rd.whole ts (r.take ts [119, 104, 105, 108, 101])
    let b := psF n 1 { e.2 with loops := e.2.loops + 1 }
    (some { Sl.of [119, 104, 105, 108, 101] with val := some e.1, body := b.1 }, { b.2 with loops := b.2.loops - 1 })
/-- a declaration behind its word -/
def Rd.declare (r : Rd) (v : Vr) (t : Tk) : Rd :=
  let r1 := if (r.find v.name).isSome ∨ t.kind = 2 then r.nname t.line else r
  let r2 := { r1 with words := r1.words + v.size }
  let r3 := if 96 < r2.words then r2.ndat t.line else r2
  { r3 with vars := r3.vars ++ [{ v with at' := 384 + r.words }] }
def Rd.decl (r : Rd) : Rd :=
  let t := r.see ts
  if t.kind = 4 ∨ t.kind = 2 then
    let r1 := r.step
    if r1.is ts [91] then
      let r2 := r1.step
      let n := r2.see ts
      if n.kind = 3 ∧ n.val ≠ 0 then (((r2.step).take ts [93]).take ts [59]).declare ⟨t.text, true, n.val, 0⟩ t
      else (((r2.refuse ts).take ts [93]).take ts [59]).declare ⟨t.text, true, 0, 0⟩ t
    else ((r1.take ts [59])).declare ⟨t.text, false, 1, 0⟩ t
  else r.refuse ts
def declsF : Nat → Rd → Rd
  | 0, r => r
  | n + 1, r => if r.is ts [118, 97, 114] then declsF n (r.step.decl ts) else r
def progT : Option Sl × Rd :=
  let r := declsF ts ts.length rd0
  let p := psF ts (4 * (ts.length - r.at') + 4) 0 r
  (p.1, if (p.2.see ts).kind = 1 then p.2 else p.2.refuse ts)
end
/-- what a source tells: its variables and statements; the line and the error of its fault -/
def readT (s : Tx) : (List Vr × Option Sl) × Nat × Nat :=
  let p := progT (tksT s)
  if p.2.form ≠ 0 then (([], none), p.2.form, 230)
  else if p.2.nam ≠ 0 then (([], none), p.2.nam, 231)
  else if p.2.dat ≠ 0 then (([], none), p.2.dat, 232)
  else if p.2.dep ≠ 0 then (([], none), p.2.dep, 232)
  else ((p.2.vars, p.1), 0, 0)
end Go.Proofs.YtiafodeabdhcoaaGreatDoor

namespace Go.Proofs.YtiafodeabdhcoaaGreatDoor
open Go.RowKit
/-- a program's code while it is written -/
structure Cd where
  text : Tx
  words : Nat
  labels : Nat
  loop : Tx
def cd0 : Cd := ⟨[], 0, 0, []⟩
/-- a number's digits, by fuel: Lib.itoa that the kernel can reckon -/
def dgF : Nat → Nat → Tx
  | 0, u => [UInt8.ofNat (48 + u)]
  | f + 1, u => if u < 10 then [UInt8.ofNat (48 + u)] else dgF f (u / 10) ++ [UInt8.ofNat (48 + u % 10)]
def nuT (n : Nat) : Tx := if n < 100000000000000000000 then dgF 20 n else Lib.itoa (n : Int)
def inT (z : Int) : Tx := if z < 0 then 45 :: nuT z.natAbs else nuT z.toNat
theorem dgF_eq : ∀ (f u : Nat), u < 10 ^ (f + 1) → dgF f u = Lib.decDigits u
  | 0, u, h => by rw [Lib.decDigits_one (by simpa using h)]; rfl
  | f + 1, u, h => by
    unfold dgF
    by_cases h1 : u < 10
    · rw [if_pos h1, Lib.decDigits_one h1]
    · rw [if_neg h1, dgF_eq f (u / 10) (by rw [Nat.pow_succ] at h; omega)]
      conv => rhs; rw [Lib.decDigits, dif_neg h1]
theorem nuT_eq (n : Nat) : nuT n = Lib.itoa (n : Int) := by
  unfold nuT
  split
  · rw [dgF_eq 20 n (by omega)]
    unfold Lib.itoa
    rw [if_neg (by omega)]
    rfl
  · rfl
theorem inT_eq (z : Int) : inT z = Lib.itoa z := by
  unfold inT
  split
  · next h =>
    rw [nuT_eq]
    unfold Lib.itoa
    rw [if_neg (by omega), if_pos h]
    rfl
  · next h =>
    rw [nuT_eq]
    congr 1
    omega
/-- lines, each with its end -/
def lnsT (L : List Tx) : Tx := L.flatMap (· ++ [10])
def Cd.put (c : Cd) (L : List Tx) : Cd := { c with text := c.text ++ lnsT L, words := c.words + L.length }
def Cd.lab (c : Cd) (s : Tx) : Cd := { c with text := c.text ++ (s ++ [58, 10]) }
def Cd.pair (c : Cd) : Cd := { c with labels := c.labels + 1 }
def Cd.name (c : Cd) : Tx := nuT (c.labels + 1)
/-- instructions put behind one another, as put takes them -/
def semJ : List Tx → Tx
  | [] => []
  | [a] => a
  | a :: b :: r => a ++ ([59, 32] ++ semJ (b :: r))
/-- its other side, for texts whose semicolons all part -/
def semF : Bool → Tx → List Tx
  | _, [] => [[]]
  | true, _ :: r => semF false r
  | false, c :: r =>
    if c = 59 then [] :: semF true r
    else match semF false r with
      | [] => [[c]]
      | h :: t => (c :: h) :: t
def semT (s : Tx) : List Tx := semF false s
/-- a number's lowest 16 bits, with a sign -/
def i16T (n : Nat) : Int := if n % 65536 < 32768 then ((n % 65536 : Nat) : Int) else ((n % 65536 : Nat) : Int) - 65536
def Cd.num (c : Cd) (n : Nat) : Cd :=
  if n ≤ 32767 then c.put [[108, 105, 32, 114, 52, 44, 32] ++ nuT n]
  else c.put [[108, 105, 32, 114, 52, 44, 32] ++ inT (i16T n), [104, 105, 32, 114, 52, 44, 32] ++ nuT (n / 65536)]
def Cd.guard (c : Cd) (v : Vr) : Cd := c.put [[108, 105, 32, 114, 53, 44, 32] ++ nuT v.size, [109, 111, 118, 32, 114, 54, 44, 32, 114, 52], [108, 116, 32, 114, 54, 44, 32, 114, 53], [106, 122, 32, 114, 54, 44, 32, 116, 114, 97, 112]]
/-- a side at which the jump is taken says alone what the whole is -/
def Cd.short (c : Cd) (fl fr : Cd → Cd) (j : Tx) (z : Nat) : Cd :=
  ((((((fr ((fl c.pair).put [j ++ ([32, 114, 52, 44, 32, 97] ++ c.name)])).put [j ++ ([32, 114, 52, 44, 32, 97] ++ c.name)]).put [[108, 105, 32, 114, 52, 44, 32] ++ nuT (1 - z), [106, 109, 112, 32, 98] ++ c.name]).lab ([97] ++ c.name)).put [[108, 105, 32, 114, 52, 44, 32] ++ nuT z]).lab ([98] ++ c.name))
def Cd.oper (c : Cd) (fl fr : Cd → Cd) (d : Nat) (op : Tx) : Cd :=
  (((fr ((fl c).put [[115, 116, 32, 114, 52, 44, 32, 114, 55, 44, 32] ++ nuT (480 + d)])).put [[109, 111, 118, 32, 114, 53, 44, 32, 114, 52], [108, 100, 32, 114, 52, 44, 32, 114, 55, 44, 32] ++ nuT (480 + d)]).put (semT (ocT op)))
/-- an expression's code, the temporary words below d in use -/
def cxF : Ex → Nat → Cd → Cd
  | ⟨k, v, vr, op, l, r, _⟩, d, c =>
    if k = 0 then c.num v
    else if k = 1 then c.put [[115, 121, 115, 32, 50, 52], [109, 111, 118, 32, 114, 52, 44, 32, 114, 49]]
    else if k = 2 then c.put [[108, 100, 32, 114, 52, 44, 32, 114, 55, 44, 32] ++ nuT vr.at']
    else if k = 3 then Cd.put (Cd.guard (match l with | none => c | some e => cxF e d c) vr) [[108, 100, 32, 114, 52, 44, 32, 114, 52, 44, 32] ++ nuT vr.at']
    else if k = 4 then Cd.put (match l with | none => c | some e => cxF e d c) (semT (sgT op))
    else if op = [38, 38] then c.short (fun c => match l with | none => c | some e => cxF e d c) (fun c => match r with | none => c | some e => cxF e d c) [106, 122] 0
    else if op = [124, 124] then c.short (fun c => match l with | none => c | some e => cxF e d c) (fun c => match r with | none => c | some e => cxF e d c) [106, 110, 122] 1
    else c.oper (fun c => match l with | none => c | some e => cxF e d c) (fun c => match r with | none => c | some e => cxF e (d + 1) c) d op
def cxO (o : Option Ex) (d : Nat) (c : Cd) : Cd := match o with | none => c | some e => cxF e d c
def Cd.assign (c : Cd) (v : Vr) (idx val : Option Ex) : Cd :=
  match idx with
  | none => (cxO val 0 c).put [[115, 116, 32, 114, 52, 44, 32, 114, 55, 44, 32] ++ nuT v.at']
  | some i =>
    let c1 := ((cxF i 0 c).guard v).put [[115, 116, 32, 114, 52, 44, 32, 114, 55, 44, 32] ++ nuT 480]
    (cxO val 1 c1).put [[108, 100, 32, 114, 53, 44, 32, 114, 55, 44, 32] ++ nuT 480, [115, 116, 32, 114, 52, 44, 32, 114, 53, 44, 32] ++ nuT v.at']
/-- one statement's code -/
def Cd.stm (c : Cd) (word : Tx) (v : Vr) (idx val : Option Ex) (oth : Nat) (fb fr : Cd → Cd) : Cd :=
  if word = [61] then c.assign v idx val
  else if word = [105, 102] then
    let c2 := fb ((cxO val 0 c.pair).put [[106, 122, 32, 114, 52, 44, 32, 97] ++ c.name])
    (fr ((if oth ≠ 0 then c2.put [[106, 109, 112, 32, 98] ++ c.name] else c2).lab ([97] ++ c.name))).lab ([98] ++ c.name)
  else if word = [119, 104, 105, 108, 101] then
    { ((fb ((cxO val 0 (({ c.pair with loop := c.name } : Cd).lab ([97] ++ c.name))).put [[106, 122, 32, 114, 52, 44, 32, 98] ++ c.name])).put [[106, 109, 112, 32, 97] ++ c.name]).lab ([98] ++ c.name) with loop := c.loop }
  else if word = [101, 109, 105, 116] then (cxO val 0 c).put [[109, 111, 118, 32, 114, 49, 44, 32, 114, 52], [115, 121, 115, 32, 49, 52]]
  else if word = [115, 116, 111, 112] then (cxO val 0 c).put [[109, 111, 118, 32, 114, 49, 44, 32, 114, 52], [115, 121, 115, 32, 49]]
  else if word = [121, 105, 101, 108, 100] then c.put [[115, 121, 115, 32, 48]]
  else if word = [98, 114, 101, 97, 107] then c.put [[106, 109, 112, 32, 98] ++ c.loop]
  else if word = [99, 111, 110, 116, 105, 110, 117, 101] then c.put [[106, 109, 112, 32, 97] ++ c.loop]
  else if word = [123] then fb (c.put [[110, 111, 112]])
  else c
/-- what is done of statements one behind the other, f of each of them -/
def slF {α : Type} (f : Tx → Vr → Option Ex → Option Ex → Nat → (α → α) → (α → α) → α → α) : Sl → α → α
  | ⟨word, v, idx, val, body, oth, rest, next⟩, c =>
    (fun c => match next with | none => c | some s => slF f s c) (f word v idx val oth (fun c => match body with | none => c | some b => slF f b c) (fun c => match rest with | none => c | some b => slF f b c) c)
def slFO {α : Type} (f : Tx → Vr → Option Ex → Option Ex → Nat → (α → α) → (α → α) → α → α) (o : Option Sl) (c : α) : α := match o with | none => c | some s => slF f s c
theorem slF_eq {α : Type} (f : Tx → Vr → Option Ex → Option Ex → Nat → (α → α) → (α → α) → α → α) (s : Sl) (c : α) : slF f s c = slFO f s.next (f s.word s.var s.idx s.val s.oth (slFO f s.body) (slFO f s.rest) c) := by
  obtain ⟨word, v, idx, val, body, oth, rest, next⟩ := s
  cases body <;> cases rest <;> cases next <;> rfl
def stmF (word : Tx) (v : Vr) (idx val : Option Ex) (oth : Nat) (fb fr : Cd → Cd) (c : Cd) : Cd := c.stm word v idx val oth fb fr
/-- statements' code -/
def csF (s : Sl) (c : Cd) : Cd := slF stmF s c
def csO (o : Option Sl) (c : Cd) : Cd := match o with | none => c | some s => csF s c
/-- a program's code and how many words it has -/
def codeT (o : Option Sl) : Cd :=
  let c1 := csO o (cd0.put [[108, 105, 32, 114, 55, 44, 32, 48]])
  ((c1.put [[108, 105, 32, 114, 49, 44, 32, 48], [115, 121, 115, 32, 49]]).lab [116, 114, 97, 112]).put [[108, 105, 32, 114, 49, 44, 32, 45, 49], [115, 121, 115, 32, 49]]
theorem sem_oc (o : Tx × Nat × Tx) (h : o ∈ opsT) : semJ (semT o.2.2) = o.2.2 ∧ ∀ p ∈ semT o.2.2, (59 : UInt8) ∉ p := by
  have : ∀ o ∈ opsT, semJ (semT o.2.2) = o.2.2 ∧ ∀ p ∈ semT o.2.2, (59 : UInt8) ∉ p := by decide
  exact this o h
theorem sem_ocT (s : Tx) : semJ (semT (ocT s)) = ocT s ∧ (∀ p ∈ semT (ocT s), (59 : UInt8) ∉ p) := by
  unfold ocT
  cases hq : opsT.find? (fun o => o.1 == s) with
  | none => decide
  | some o => exact sem_oc o (List.mem_of_find?_eq_some hq)
theorem sem_sgT (s : Tx) : semJ (semT (sgT s)) = sgT s ∧ (∀ p ∈ semT (sgT s), (59 : UInt8) ∉ p) := by
  unfold sgT
  split
  · decide
  · split
    · decide
    · split <;> decide
end Go.Proofs.YtiafodeabdhcoaaGreatDoor

namespace Go.Proofs.YtiafodeabdhcoaaGreatDoor
open Go.RowKit
theorem idx_semi : ∀ (a r : Tx), (59 : UInt8) ∉ a → Lib.index (a ++ 59 :: 32 :: r) [59, 32] = (a.length : Nat)
  | [], r, _ => by rfl
  | c :: a, r, h => by
    have h1 : (59 : UInt8) ≠ c := fun e => h (by rw [e]; exact List.mem_cons_self)
    have ih := idx_semi a r (fun hm => h (List.mem_cons_of_mem _ hm))
    show Lib.index (c :: (a ++ 59 :: 32 :: r)) [59, 32] = _
    unfold Lib.index
    rw [ih]
    have hp : List.isPrefixOf [59, 32] (c :: (a ++ 59 :: 32 :: r)) = false := by
      simp [List.isPrefixOf, h1]
    rw [hp]
    have : ¬ (((a.length : Nat) : Int) == -1) = true := by simp
    rw [if_neg (by decide), if_neg this]
    simp
theorem idx_no : ∀ (a : Tx), (59 : UInt8) ∉ a → Lib.index a [59, 32] = -1
  | [], _ => by rfl
  | c :: a, h => by
    have h1 : (59 : UInt8) ≠ c := fun e => h (by rw [e]; exact List.mem_cons_self)
    have ih := idx_no a (fun hm => h (List.mem_cons_of_mem _ hm))
    unfold Lib.index
    rw [ih]
    have hp : List.isPrefixOf [59, 32] (c :: a) = false := by simp [List.isPrefixOf, h1]
    rw [hp]
    rfl
theorem cnt_sem : ∀ (L : List Tx), L ≠ [] → (∀ p ∈ L, (59 : UInt8) ∉ p) → Lib.count (semJ L) [59, 32] + 1 = L.length
  | [], h, _ => absurd rfl h
  | [a], _, h => by
    show Lib.count a [59, 32] + 1 = 1
    rw [Lib.count_miss (idx_no a (h a (by simp)))]
  | a :: b :: r, _, h => by
    have e : semJ (a :: b :: r) = a ++ 59 :: 32 :: semJ (b :: r) := rfl
    have ih := cnt_sem (b :: r) (by simp) (fun p hp => h p (List.mem_cons_of_mem _ hp))
    rw [e, Lib.count_hit (by decide) (idx_semi a _ (h a (by simp)))]
    have e2 : (a ++ 59 :: 32 :: semJ (b :: r)).drop (a.length + ([59, 32] : Tx).length) = semJ (b :: r) := by
      rw [show a ++ 59 :: 32 :: semJ (b :: r) = (a ++ [59, 32]) ++ semJ (b :: r) by simp]
      rw [show a.length + ([59, 32] : Tx).length = (a ++ [59, 32]).length by simp]
      exact List.drop_left
    rw [e2]
    simp only [List.length_cons] at ih ⊢
    omega
theorem spl_sem : ∀ (L : List Tx) (k : Nat), k + 1 = L.length → (∀ p ∈ L, (59 : UInt8) ∉ p) → Lib.splitK [59, 32] 0 k (semJ L) = L
  | [], k, h, _ => by simp at h
  | [a], k, hk, h => by
    have : k = 0 := by simpa using hk
    subst this; rfl
  | a :: b :: r, k, hk, h => by
    obtain ⟨k, rfl⟩ : ∃ j, k = j + 1 := ⟨k - 1, by simp at hk; omega⟩
    have e : semJ (a :: b :: r) = a ++ 59 :: 32 :: semJ (b :: r) := rfl
    have ih := spl_sem (b :: r) k (by simpa using hk) (fun p hp => h p (List.mem_cons_of_mem _ hp))
    have hi := idx_semi a (semJ (b :: r)) (h a (by simp))
    unfold Lib.splitK
    rw [e, hi]
    have hm : ¬ (((a.length : Nat) : Int) == -1) = true := by simp
    rw [if_neg hm]
    have e1 : (a ++ 59 :: 32 :: semJ (b :: r)).take (((a.length : Nat) : Int).toNat + 0) = a := by
      simp
    have e2 : (a ++ 59 :: 32 :: semJ (b :: r)).drop (((a.length : Nat) : Int).toNat + ([59, 32] : Tx).length) = semJ (b :: r) := by
      rw [show a ++ 59 :: 32 :: semJ (b :: r) = (a ++ [59, 32]) ++ semJ (b :: r) by simp]
      rw [show ((a.length : Nat) : Int).toNat + ([59, 32] : Tx).length = (a ++ [59, 32]).length by simp]
      exact List.drop_left
    rw [e1, e2, ih]
/-- what Split makes of instructions behind one another -/
theorem split_sem (L : List Tx) (h0 : L ≠ []) (h : ∀ p ∈ L, (59 : UInt8) ∉ p) : Lib.countB ⟨(semJ L).toArray⟩ ⟨([59, 32] : Tx).toArray⟩ + 1 = L.length ∧ Lib.splitB ⟨([59, 32] : Tx).toArray⟩ 0 (Lib.countB ⟨(semJ L).toArray⟩ ⟨([59, 32] : Tx).toArray⟩) ⟨(semJ L).toArray⟩ = L.map (fun p => ⟨p.toArray⟩) := by
  have h1 : Lib.countB ⟨(semJ L).toArray⟩ ⟨([59, 32] : Tx).toArray⟩ + 1 = L.length := cnt_sem L h0 h
  refine ⟨h1, ?_⟩
  have h2 := Lib.splitB_data ⟨([59, 32] : Tx).toArray⟩ 0 (Lib.countB ⟨(semJ L).toArray⟩ ⟨([59, 32] : Tx).toArray⟩) ⟨(semJ L).toArray⟩
  have h3 := spl_sem L _ h1 h
  have h4 : (Lib.splitB ⟨([59, 32] : Tx).toArray⟩ 0 (Lib.countB ⟨(semJ L).toArray⟩ ⟨([59, 32] : Tx).toArray⟩) ⟨(semJ L).toArray⟩).map (·.data.toList) = L := h2.trans h3
  generalize Lib.splitB ⟨([59, 32] : Tx).toArray⟩ 0 (Lib.countB ⟨(semJ L).toArray⟩ ⟨([59, 32] : Tx).toArray⟩) ⟨(semJ L).toArray⟩ = M at h4
  subst h4
  rw [List.map_map]
  exact (List.map_id _).symm.trans (List.map_congr_left fun x _ => rfl)
end Go.Proofs.YtiafodeabdhcoaaGreatDoor

namespace Go.Proofs
open Go.Shelf
def Tryz.lays169_ren : Go.Shelf.Ren := ⟨fun | 169 => 36 | n => n, fun | 70 => 80 | 9 => 9 | 0 => 0 | 72 => 83 | 37 => 81 | 127 => 127 | 3 => 3 | 5 => 5 | n => n, fun | n => n⟩
theorem Tryz.lays169 : Go.Proofs.Lays.n169 Tryz.prog Tryz.lays169_ren := {
  mixed := by kernel_rfl
  f169 := Tryz.func36.trans (congrArg some (by kernel_rfl))
  t0 := Tryz.underlying0
  a0 := Tryz.isAgg0
  z0 := Tryz.sizeOf0
  v0 := Tryz.zeroValue0
  t3 := Tryz.underlying3
  a3 := Tryz.isAgg3
  z3 := Tryz.sizeOf3
  v3 := Tryz.zeroValue3
  t9 := Tryz.underlying9
  a9 := Tryz.isAgg9
  z9 := Tryz.sizeOf9
  v9 := Tryz.zeroValue9
  t37 := Tryz.underlying81
  a37 := Tryz.isAgg81
  z37 := Tryz.sizeOf81
  v37 := Tryz.zeroValue81
  t70 := Tryz.underlying80
  a70 := Tryz.isAgg80
  z70 := Tryz.sizeOf80
  v70 := Tryz.zeroValue80
  t72 := Tryz.underlying83
  a72 := Tryz.isAgg83
  z72 := Tryz.sizeOf83
  v72 := Tryz.zeroValue83
  t127 := Tryz.underlying127
  a127 := Tryz.isAgg127
  z127 := Tryz.sizeOf127
  v127 := Tryz.zeroValue127 }
def Tryz.laysM171_ren : Go.Shelf.Ren := ⟨fun | 171 => 10 | 243 => 22 | 246 => 28 | 283 => 40 | 284 => 41 | 285 => 42 | 286 => 43 | 129 => 65 | 317 => 64 | 318 => 66 | 319 => 67 | 320 => 68 | 337 => 99 | 338 => 100 | n => n, fun | 3 => 3 | 9 => 9 | 2 => 2 | 4 => 4 | 171 => 96 | 0 => 0 | 53 => 97 | 37 => 81 | 5 => 5 | 173 => 100 | 212 => 131 | 51 => 30 | 20 => 20 | 213 => 132 | 46 => 134 | 232 => 177 | 233 => 178 | n => n, fun | 17 => 0 | 18 => 2 | 19 => 3 | n => n⟩
theorem Tryz.laysM171 : Go.Proofs.LaysM.n171 Tryz.prog Tryz.laysM171_ren := {
  mixed := by kernel_rfl
  f129 := Tryz.func65.trans (congrArg some (by kernel_rfl))
  f171 := Tryz.func10.trans (congrArg some (by kernel_rfl))
  f243 := Tryz.func22.trans (congrArg some (by kernel_rfl))
  f246 := Tryz.func28.trans (congrArg some (by kernel_rfl))
  f283 := Tryz.func40.trans (congrArg some (by kernel_rfl))
  f284 := Tryz.func41.trans (congrArg some (by kernel_rfl))
  f285 := Tryz.func42.trans (congrArg some (by kernel_rfl))
  f286 := Tryz.func43.trans (congrArg some (by kernel_rfl))
  f317 := Tryz.func64.trans (congrArg some (by kernel_rfl))
  f318 := Tryz.func66.trans (congrArg some (by kernel_rfl))
  f319 := Tryz.func67.trans (congrArg some (by kernel_rfl))
  f320 := Tryz.func68.trans (congrArg some (by kernel_rfl))
  f337 := Tryz.func99.trans (congrArg some (by kernel_rfl))
  f338 := Tryz.func100.trans (congrArg some (by kernel_rfl))
  t0 := Tryz.underlying0
  a0 := Tryz.isAgg0
  z0 := Tryz.sizeOf0
  v0 := Tryz.zeroValue0
  t2 := Tryz.underlying2
  a2 := Tryz.isAgg2
  z2 := Tryz.sizeOf2
  v2 := Tryz.zeroValue2
  t3 := Tryz.underlying3
  a3 := Tryz.isAgg3
  z3 := Tryz.sizeOf3
  v3 := Tryz.zeroValue3
  t4 := Tryz.underlying4
  a4 := Tryz.isAgg4
  z4 := Tryz.sizeOf4
  v4 := Tryz.zeroValue4
  t5 := Tryz.underlying5
  a5 := Tryz.isAgg5
  z5 := Tryz.sizeOf5
  v5 := Tryz.zeroValue5
  t9 := Tryz.underlying9
  a9 := Tryz.isAgg9
  z9 := Tryz.sizeOf9
  v9 := Tryz.zeroValue9
  t20 := Tryz.underlying20
  a20 := Tryz.isAgg20
  z20 := Tryz.sizeOf20
  v20 := Tryz.zeroValue20
  t37 := Tryz.underlying81
  a37 := Tryz.isAgg81
  z37 := Tryz.sizeOf81
  v37 := Tryz.zeroValue81
  t46 := Tryz.underlying134
  a46 := Tryz.isAgg134
  z46 := Tryz.sizeOf134
  v46 := Tryz.zeroValue134
  t51 := Tryz.underlying30
  a51 := Tryz.isAgg30
  z51 := Tryz.sizeOf30
  v51 := Tryz.zeroValue30
  t53 := Tryz.underlying97
  a53 := Tryz.isAgg97
  z53 := Tryz.sizeOf97
  v53 := Tryz.zeroValue97
  t171 := Tryz.underlying96
  a171 := Tryz.isAgg96
  z171 := Tryz.sizeOf96
  v171 := Tryz.zeroValue96
  t173 := Tryz.underlying100
  a173 := Tryz.isAgg100
  z173 := Tryz.sizeOf100
  v173 := Tryz.zeroValue100
  t212 := Tryz.underlying131
  a212 := Tryz.isAgg131
  z212 := Tryz.sizeOf131
  v212 := Tryz.zeroValue131
  t213 := Tryz.underlying132
  a213 := Tryz.isAgg132
  z213 := Tryz.sizeOf132
  t232 := Tryz.underlying177
  a232 := Tryz.isAgg177
  z232 := Tryz.sizeOf177
  v232 := Tryz.zeroValue177
  t233 := Tryz.underlying178
  a233 := Tryz.isAgg178
  z233 := Tryz.sizeOf178
  v233 := Tryz.zeroValue178
  g17 := by kernel_rfl
  g18 := by kernel_rfl
  g19 := by kernel_rfl
  i0 := by kernel_rfl
  i2 := by kernel_rfl
  i3 := by kernel_rfl
  i4 := by kernel_rfl
  i5 := by kernel_rfl
  i9 := by kernel_rfl
  i20 := by kernel_rfl
  i37 := by kernel_rfl
  i46 := by kernel_rfl
  i51 := by kernel_rfl
  i53 := by kernel_rfl
  i171 := by kernel_rfl
  i173 := by kernel_rfl
  i212 := by kernel_rfl
  i232 := by kernel_rfl
  i233 := by kernel_rfl
  m17 := by kernel_rfl
  m18 := by kernel_rfl
  m19 := by kernel_rfl }
theorem Tryz.extra169 : Builder.Extra Tryz.prog Tryz.lays169_ren where
  sizeBuilder := by kernel_rfl
  liesBuilder := by kernel_rfl
  t5 := Tryz.underlying5
  a5 := Tryz.isAgg5
  z5 := Tryz.sizeOf5
  v5 := Tryz.zeroValue5
  infoByte := by kernel_rfl
  cellsByte := by kernel_rfl
  sizeByte := by kernel_rfl
  neB5 := by decide
open Go.RowKit Go.Sort Go.Lib
/-- what the calls of a builder keep: all below B -/
theorem Tryz.sbString (B b : Nat) (l : List UInt8) (w : World) (h : Lib.IsBuilderF 83 5 B b (Lib.byteCells l) w) (hBw : B ≤ w.heap.size) :
    Calls Tryz.prog 36 #[.pointer (some ⟨b, 0, none⟩)] w fun e w' => e = .returned (.string ⟨l.toArray⟩) ∧ Below B w w' :=
  (Any.Builder_String_any_k Tryz.lays169 Tryz.extra169 B b l w h hBw).mono fun _ _ ⟨h1, _, h3, _⟩ => ⟨h1, h3⟩
theorem Tryz.below_grow (w : World) (k : Nat) (os : Array Obj) : Below w.heap.size w (grow (w.drewN k) os) :=
  ⟨rfl, rfl, rfl, by simp [grow], fun j hj => by simp [grow, Array.getElem?_append, hj]⟩
theorem Tryz.itoa (n : Int) (h0 : -9223372036854775808 ≤ n) (h1 : n ≤ 9223372036854775807) (w : World) (htab : Lib.TabIs Tryz.prog w "internal/strconv.uint64pow10" .u64 Lib.pow10Tab) :
    Calls Tryz.prog 10 #[.int .i64 n] w fun e w' => e = .returned (.string ⟨(Lib.itoa n).toArray⟩) ∧ Below w.heap.size w w' :=
  (Any.strconv_Itoa Tryz.laysM171 n h0 h1 w htab).mono fun _ _ ⟨h1, k, os, h2⟩ => ⟨h1, h2 ▸ Tryz.below_grow w k os⟩
end Go.Proofs

namespace Go.Proofs.YtiafodeabdhcoaaGreatDoor
open Go.RowKit

/-- the operations' table lies as its text lays it -/
structure Ops (w : World) : Prop where
  s : ∀ n, n < 27 → ∃ s : ByteArray, w.cell? ⟨5, n * 4, none⟩ = some (.string s) ∧ s.data.toList = nm n
  a : ∀ n, n < 27 → w.cell? ⟨5, n * 4 + 1, none⟩ = some (.bool (uA n))
  b : ∀ n, n < 27 → w.cell? ⟨5, n * 4 + 2, none⟩ = some (.bool (uB n))
  k : ∀ n, n < 27 → w.cell? ⟨5, n * 4 + 3, none⟩ = some (.int .i64 (kd n : Nat))
theorem cell_lt {w : World} {b o : Nat} {v : Value} (h : w.cell? ⟨b, o, none⟩ = some v) : b < w.heap.size := by
  by_cases hb : b < w.heap.size
  · exact hb
  · have e : w.heap[b]? = none := Array.getElem?_eq_none (by omega)
    simp [World.cell?, e] at h
theorem Ops.lt {w : World} (h : Ops w) : 5 < w.heap.size := cell_lt (h.a 0 (by omega))
theorem Ops.below {w w' : World} (h : Ops w) (hb : Below w.heap.size w w') : Ops w' := by
  have hc : ∀ o, w'.cell? ⟨5, o, none⟩ = w.cell? ⟨5, o, none⟩ := fun o => hb.cell (p := ⟨5, o, none⟩) h.lt
  exact ⟨fun n hn => by rw [hc]; exact h.s n hn, fun n hn => by rw [hc]; exact h.a n hn, fun n hn => by rw [hc]; exact h.b n hn, fun n hn => by rw [hc]; exact h.k n hn⟩
section
variable (w : World)
theorem isOp_any (n : Int) : Calls Tryz.prog 158 #[.int .i64 n] w fun e w' => e = .returned (.bool (decide (1 ≤ n) && decide (n < 27))) ∧ w' = w := by
  by_cases h1 : 1 ≤ n
  · by_cases h2 : n < 27
    · go_enter Tryz.func158, Tryz.ntmps158
      go_wp2
      go_ret
      exact ⟨by simp [h1, h2], rfl⟩
    · go_enter Tryz.func158, Tryz.ntmps158
      go_wp2
      go_ret
      exact ⟨by simp [h2], rfl⟩
  · go_enter Tryz.func158, Tryz.ntmps158
    go_wp2
    go_ret
    exact ⟨by simp; omega, rfl⟩
theorem bounds_any (k : Nat) (hk : k = 0 ∨ k = 1 ∨ k = 2) : Calls Tryz.prog 159 #[.int .i64 (k : Int)] w fun e w' => e = .returned (.tuple #[.int .i64 (lo k), .int .i64 (hi k)]) ∧ w' = w := by
  rcases hk with rfl | rfl | rfl
  all_goals
    go_enter Tryz.func159, Tryz.ntmps159
    go_wp2
    go_ret2
    exact ⟨rfl, rfl⟩
theorem fits_any (n : Int) (u : Bool) : Calls Tryz.prog 160 #[.int .i64 n, .bool u] w fun e w' => e = .returned (.bool (fitsB n u)) ∧ w' = w := by
  by_cases h0 : n = 0
  · subst h0
    go_enter Tryz.func160, Tryz.ntmps160
    go_wp2
    go_ret
    exact ⟨by simp [fitsB], rfl⟩
  · cases u
    · go_enter Tryz.func160, Tryz.ntmps160
      go_wp2
      go_ret
      exact ⟨by simp [fitsB], rfl⟩
    · by_cases h1 : 0 < n
      · by_cases h2 : n < 8
        · go_enter Tryz.func160, Tryz.ntmps160
          go_wp2
          go_ret
          exact ⟨by simp [fitsB, h1, h2], rfl⟩
        · go_enter Tryz.func160, Tryz.ntmps160
          go_wp2
          go_ret
          exact ⟨by simp [fitsB, h0, h2], rfl⟩
      · go_enter Tryz.func160, Tryz.ntmps160
        go_wp2
        go_ret
        exact ⟨by simp [fitsB, h0]; omega, rfl⟩
end
end Go.Proofs.YtiafodeabdhcoaaGreatDoor

namespace Go.Proofs.YtiafodeabdhcoaaGreatDoor
open Go.RowKit
theorem bel1 (w : World) (o : Obj) : Below w.heap.size w (w.alloc o) := (Below.refl _ _).alloc (Nat.le_refl _) _
theorem bel2 (w : World) (o o' : Obj) : Below w.heap.size w ((w.alloc o).alloc o') := (bel1 w o).trans ((bel1 _ o').mono (by simp))
theorem info_op : (Tryz.prog.info? 206).map (·.size) = some 4 := by kernel_rfl
section
variable (w : World)
set_option maxHeartbeats 1000000 in
theorem isInstr_any (i : I) (hO : Ops w) : Calls Tryz.prog 140 #[.agg i.cells.toArray] w fun e w' => e = .returned (.bool (isI i)) ∧ Below w.heap.size w w' := by
  obtain ⟨op, a, b, imm⟩ := i
  simp only [I.cells]
  by_cases ho : 1 ≤ op ∧ op < 27
  · obtain ⟨h1, h2⟩ := ho
    obtain ⟨n, rfl⟩ := Int.eq_ofNat_of_zero_le (show 0 ≤ op by omega)
    have hn : n < 27 := by omega
    obtain ⟨s, c0, _⟩ := hO.s n hn
    have c1 := hO.a n hn
    have c2 := hO.b n hn
    have c3 := hO.k n hn
    have hk := kd_le n
    have HS : Hid (isI ⟨(n : Int), a, b, imm⟩ = (fitsB a (uA n) && fitsB b (uB n) && decide (lo (kd n) ≤ imm) && decide (imm ≤ hi (kd n)))) := by
      apply hide; simp [isI, h1, h2]
    have hlt := hO.lt
    clear hO
    generalize uA n = u at *
    generalize uB n = v at *
    generalize kd n = k at *
    have hO : (decide (1 ≤ (n : Int)) && decide ((n : Int) < 27)) = true := by simp; omega
    go_enter Tryz.func140, Tryz.ntmps140
    go_wp2_with fail
    refine (isOp_any _ _).mono ?_
    rintro e w1 ⟨rfl, rfl⟩
    go_wp2_with fail
    refine (bounds_any _ k hk).mono ?_
    rintro e w2 ⟨rfl, rfl⟩
    go_wp2_with fail
    refine (fits_any _ a u).mono ?_
    rintro e w2 ⟨rfl, rfl⟩
    rcases hx : fitsB a u with _ | _
    · rw [hx] at HS
      go_wp2
      go_ret
      exact ⟨by rw [HS.out]; rfl, bel2 _ _ _⟩
    · rw [hx] at HS
      go_wp2_with fail
      refine (fits_any _ b v).mono ?_
      rintro e w2 ⟨rfl, rfl⟩
      rcases hy : fitsB b v with _ | _
      · rw [hy] at HS
        go_wp2
        go_ret
        exact ⟨by rw [HS.out]; rfl, bel2 _ _ _⟩
      · rw [hy] at HS
        by_cases hl : lo k ≤ imm
        · by_cases hh : imm ≤ hi k
          · go_wp2
            go_ret
            exact ⟨by rw [HS.out]; simp [hl, hh], bel2 _ _ _⟩
          · go_wp2
            go_ret
            exact ⟨by rw [HS.out]; simp; omega, bel2 _ _ _⟩
        · go_wp2
          go_ret
          exact ⟨by rw [HS.out]; simp; omega, bel2 _ _ _⟩
  · have hO2 : (decide (1 ≤ op) && decide (op < 27)) = false := by simp; omega
    have HS : Hid (isI ⟨op, a, b, imm⟩ = false) := by apply hide; simp [isI]; omega
    go_enter Tryz.func140, Tryz.ntmps140
    go_wp2_with fail
    refine (isOp_any _ _).mono ?_
    rintro e w1 ⟨rfl, rfl⟩
    go_wp2
    go_ret
    exact ⟨by rw [HS.out]; rfl, (Below.refl _ _).alloc (Nat.le_refl _) _⟩
end
end Go.Proofs.YtiafodeabdhcoaaGreatDoor

namespace Go.Proofs.YtiafodeabdhcoaaGreatDoor
open Go.RowKit
theorem wraps_u32 (n : Int) (h₀ : 0 ≤ n) (h₁ : n < 2 ^ 32) : IntKind.u32.wrap n = n := by rw [IntKind.wrap_u32]; omega
theorem u32_mask (i : Nat) (hi : i ≤ 32) (x : Int) (h₀ : 0 ≤ x) (h₁ : x < 4294967296) : bits .and .u32 x (2 ^ i - 1) = x % 2 ^ i := bits_mask .u32 32 (by decide) wraps_u32 i hi x h₀ h₁
theorem wrap_i16 (n : Int) : IntKind.i16.wrap n = (n + 32768) % 65536 - 32768 := by
  simp [IntKind.wrap, IntKind.bits, IntKind.signed]
  split <;> omega
theorem results_row2 {P : Program} {fn : Func} {p u : Tmp} {ty : TypeId} (h : fn.results = #[.cell p ty, .tmp u]) (tmps : Array Value) (w : World) (g : Nat) (t : TypeId) (cs : Array Value) (fr : Nat × Nat) (d : TypeDesc)
    (hp : tmps.getD p undef = .pointer (some ⟨g, 0, none⟩)) (hg : w.heap[g]? = some (.cells cs t fr))
    (hu : P.underlying ty = some d) (hd : (match d with | .struct _ | .array _ _ => true | _ => false) = true) (hi : (P.info? ty).map (·.size) = some cs.size) :
    (results fn tmps).run P w = .ok (.tuple #[.agg cs, tmps.getD u undef]) w := by
  rw [results_cell_tmp h, hp]
  simp [asAddr, run_loadVar_row w g t ty cs fr d hg hu hd hi]
theorem below_setRow {w wr : World} {g : Nat} (h : Below w.heap.size w wr) (hg : w.heap.size ≤ g) (cs : Array Value) : Below w.heap.size w (wr.setRow g cs) :=
  ⟨h.os, h.tape, h.output, by simp [World.setRow]; exact h.size, fun k hk => by rw [setRow_other wr g k cs (by omega)]; exact h.block k hk⟩
theorem two_blocks {w w1 : World} {o o' : Obj} (hb : Below ((w.alloc o).alloc o').heap.size ((w.alloc o).alloc o') w1) : w1.heap[w.heap.size]? = some o ∧ w1.heap[w.heap.size + 1]? = some o' ∧ Below w.heap.size w w1 := by
  have s1 : (w.alloc o).heap.size = w.heap.size + 1 := by simp
  refine ⟨?_, ?_, (bel2 w o o').trans (hb.mono (by simp; omega))⟩
  · rw [hb.block _ (by simp; omega), (bel1 (w.alloc o) o').block _ (by simp)]; exact heap_alloc_last _ _
  · rw [hb.block _ (by simp), ← s1]; exact heap_alloc_last _ _
theorem set4 {w1 : World} {N : Nat} {o0 o1 o2 o3 : Value} {t : TypeId} (q : w1.heap[N]? = some (.cells #[o0, o1, o2, o3] t (0, 0))) (a b c d : Value) :
    ((((w1.setCell ⟨N, 0, none⟩ a).setCell ⟨N, 1, none⟩ b).setCell ⟨N, 2, none⟩ c).setCell ⟨N, 3, none⟩ d).heap[N]? = some (.cells #[a, b, c, d] t (0, 0)) := by
  have e1 := heap_setCell_same w1 N 0 _ t a q
  have e2 := heap_setCell_same _ N 1 _ t b e1
  have e3 := heap_setCell_same _ N 2 _ t c e2
  have e4 := heap_setCell_same _ N 3 _ t d e3
  exact e4
theorem bel_set4 {w w1 : World} (h : Below w.heap.size w w1) (a b c d : Value) :
    Below w.heap.size w ((((w1.setCell ⟨w.heap.size, 0, none⟩ a).setCell ⟨w.heap.size, 1, none⟩ b).setCell ⟨w.heap.size, 2, none⟩ c).setCell ⟨w.heap.size, 3, none⟩ d) :=
  (((h.setCell (Nat.le_refl _) _).setCell (Nat.le_refl _) _).setCell (Nat.le_refl _) _).setCell (Nat.le_refl _) _
theorem info_instr : (Tryz.prog.info? 107).map (·.size) = some 4 := by kernel_rfl
theorem decI_no {n : Nat} {i : I} (h : parts n = i) (hx : isI i = false) : decI n = ⟨0, 0, 0, 0⟩ ∧ decE n = 70 := by
  unfold decI decE; rw [h, hx]; exact ⟨rfl, rfl⟩
theorem decI_yes {n : Nat} {i : I} (h : parts n = i) (hx : isI i = true) : decI n = i ∧ decE n = 0 := by
  unfold decI decE; rw [h, hx]; exact ⟨rfl, rfl⟩
theorem bcell {W w1 : World} (hb : Below W.heap.size W w1) : (∀ b o, b < W.heap.size → w1.cell? ⟨b, o, none⟩ = W.cell? ⟨b, o, none⟩) ∧ (∀ b o, b < W.heap.size → w1.frozen? ⟨b, o, none⟩ = W.frozen? ⟨b, o, none⟩) :=
  ⟨fun b o h => hb.cell (p := ⟨b, o, none⟩) h, fun b o h => hb.frozen (p := ⟨b, o, none⟩) h⟩
section
variable (w : World)
end
end Go.Proofs.YtiafodeabdhcoaaGreatDoor

namespace Go.Proofs.YtiafodeabdhcoaaGreatDoor
open Go.RowKit Go.Lib
abbrev tB : Nat := 83
theorem sz_B : ∃ j, Tryz.prog.info? 83 = some j ∧ j.size = 2 := Option.map_eq_some_iff.1 (show (Tryz.prog.info? 83).map (·.size) = some 2 by kernel_rfl)
section
variable (B b : Nat) (bs : List Value) (w : World)
set_option maxHeartbeats 1000000 in
set_option maxRecDepth 100000 in
theorem cc_any (h : Lib.IsBuilderF 83 5 B b bs w) : Calls Tryz.prog 89 #[.pointer (some ⟨b, 0, none⟩)] w fun e w' => e = .returned (.tuple #[]) ∧ Lib.BuilderAtF 83 5 B b (.pointer (some ⟨b, 0, none⟩)) bs w' ∧ Below B w w' := by
  obtain ⟨j, hj, hjs⟩ := sz_B
  rcases h with h | h
  · have c0 := h.cell0
    have s0 := h.shape
    have f0 := h.frozen0
    have H := hide h
    clear h
    go_enter Tryz.func89, Tryz.ntmps89
    go_wp2
    rw [Lib.run_to_unsafe w ⟨b, 0, none⟩ Tryz.underlying80 Tryz.underlying173 hj (by rw [hjs]; decide) s0 (Nat.zero_lt_succ 1)]
    simp only [Result.andThen]
    rw [Oper.upon_value]
    go_wp2
    rw [run_callFunc_extern Tryz.func117 (by kernel_rfl) (by kernel_rfl) (by kernel_rfl) (e := Extern.AbiNoEscape.same) (by kernel_rfl), Lib.run_noEscape]
    simp only [Result.andThen]
    rw [Oper.upon_value]
    go_wp2
    rw [Lib.run_from_unsafe w ⟨b, 0, none⟩ Tryz.underlying173 Tryz.underlying80 hj s0 Tryz.extra169.liesBuilder]
    simp only [Result.andThen]
    rw [Oper.upon_value]
    go_wp2
    go_end0
    exact ⟨rfl, H.out.used _, (Below.refl B w).setCell (p := ⟨b, 0, none⟩) H.out.1 _⟩
  · have c0 := h.cell0
    have H := hide h
    clear h
    go_enter Tryz.func89, Tryz.ntmps89
    go_wp2
    rw [Lib.run_neq_ptr_same w _ Tryz.underlying80 hj]
    go_wp2
    go_end0
    exact ⟨rfl, H.out, Below.refl B _⟩
theorem put_new {v v' : Value} {bs' : List Value} {w1 w2 : World} {m : Nat} (hB : B ≤ b) (hbk : w1.heap[b]? = some (.cells #[.pointer (some ⟨b, 0, none⟩), v] 83 (0, 0))) (hne : v.ownBlock ≠ some b) (hm : b < m)
    (hg : ∀ k, k < m → v.ownBlock ≠ some k → w2.heap[k]? = w1.heap[k]?) (ho : w2.ownsRowF B 5 1 v' bs'.length bs') :
    w2.cell? ⟨b, 0, none⟩ = some (.pointer (some ⟨b, 0, none⟩)) ∧ w2.cell? ⟨b, 1, none⟩ = some v ∧ w2.frozen? ⟨b, 1, none⟩ = false ∧ Lib.IsBuilderF 83 5 B b bs' (w2.setCell ⟨b, 1, none⟩ v') := by
  have e : w2.heap[b]? = some (.cells #[.pointer (some ⟨b, 0, none⟩), v] 83 (0, 0)) := by rw [hg b hm hne, hbk]
  exact ⟨by rw [Lib.cell_of_heap e]; rfl, by rw [Lib.cell_of_heap e]; rfl, Lib.frozen_of_heap e 1, .inr (Lib.BuilderAtF.put (T := 83) (e := 5) hB e ho (by decide))⟩
theorem heap_lt {w1 : World} {o : Obj} (h : w1.heap[b]? = some o) : b < w1.heap.size := by
  rcases Nat.lt_or_ge b w1.heap.size with h' | h'
  · exact h'
  · simp [Array.getElem?_eq_none h'] at h
set_option maxHeartbeats 1000000 in
set_option maxRecDepth 100000 in
theorem sbStr (s : ByteArray) (h : Lib.IsBuilderF 83 5 B b bs w) (hlen : bs.length + s.size ≤ 140737488355328) (hBw : B ≤ w.heap.size) :
    Calls Tryz.prog 57 #[.pointer (some ⟨b, 0, none⟩), .string s] w fun e w' => e = .returned (.tuple #[.int .i64 s.size, .nilIface]) ∧ Lib.IsBuilderF 83 5 B b (bs ++ Lib.strCells s) w' ∧ Below B w w' := by
  obtain ⟨i0, hi, hz0, hz1, hz2⟩ := info_parts Tryz.extra169.infoByte
  go_enter Tryz.func57, Tryz.ntmps57
  go_wp2_with fail
  refine (cc_any B b bs _ h).mono ?_
  rintro e w1 ⟨rfl, ⟨hB, v, hbk, hown, hne⟩, hb1⟩
  have hs1 := hb1.size
  have c0 : w1.cell? ⟨b, 0, none⟩ = some (.pointer (some ⟨b, 0, none⟩)) := by rw [Lib.cell_of_heap hbk]; rfl
  have c1 : w1.cell? ⟨b, 1, none⟩ = some v := by rw [Lib.cell_of_heap hbk]; rfl
  go_wp2_with (at_builtin; refine Lib.wpList_append_own_stringF _ rfl _ _ 81 9 rfl B 5 i0 Tryz.underlying81 Tryz.underlying9 hi hz0 hz1 hz2 _ _ _ rfl hown s rfl ?c3 ?c4 ?c5 ?_)
  case c3 => unfold maxLen; omega
  case c4 => omega
  case c5 => omega
  intro v' w2 hown' hg _
  obtain ⟨d0, d1, f1, hI⟩ := put_new B b (bs' := bs ++ Lib.strCells s) hB hbk hne (heap_lt b hbk) (fun k hk hn => hg.block k hk (fun e => hn e.symm)) (by simpa [Lib.strCells_length] using hown')
  have HI := hide hI
  have HG := hide (hb1.grown hg (by omega) (fun k hk => (hown.lt k hk).1))
  clear hI hg
  obtain ⟨ao, n', cap, rfl⟩ : ∃ ao n' cap, v' = .slice ao n' cap := by
    rcases hown'.2 with ⟨hv, _⟩ | ⟨g, cap, cur, fz, hv, _⟩
    · exact ⟨_, _, _, hv⟩
    · exact ⟨_, _, _, hv⟩
  go_wp2
  go_ret2
  exact ⟨rfl, HI.out, HG.out.setCell (p := ⟨b, 1, none⟩) hB _⟩
end
end Go.Proofs.YtiafodeabdhcoaaGreatDoor

namespace Go.Proofs
open Go.Shelf
def Tryz.lays99_ren : Go.Shelf.Ren := ⟨fun | 99 => 48 | 206 => 72 | n => n, fun | 9 => 9 | 4 => 4 | 3 => 3 | n => n, fun | n => n⟩
theorem Tryz.lays99 : Go.Proofs.Lays.n99 Tryz.prog Tryz.lays99_ren := {
  mixed := by kernel_rfl
  f99 := Tryz.func48.trans (congrArg some (by kernel_rfl))
  f206 := Tryz.func72.trans (congrArg some (by kernel_rfl))
  t3 := Tryz.underlying3
  a3 := Tryz.isAgg3
  z3 := Tryz.sizeOf3
  v3 := Tryz.zeroValue3
  t4 := Tryz.underlying4
  a4 := Tryz.isAgg4
  z4 := Tryz.sizeOf4
  v4 := Tryz.zeroValue4
  t9 := Tryz.underlying9
  a9 := Tryz.isAgg9
  z9 := Tryz.sizeOf9
  v9 := Tryz.zeroValue9 }
def Tryz.lays144_ren : Go.Shelf.Ren := ⟨fun | 144 => 77 | 143 => 112 | 219 => 144 | 217 => 107 | 225 => 162 | 224 => 163 | 267 => 164 | 266 => 141 | 314 => 172 | n => n, fun | 9 => 9 | 4 => 4 | 3 => 3 | 5 => 5 | 46 => 134 | 146 => 213 | 51 => 30 | n => n, fun | 1 => 6 | n => n⟩
theorem Tryz.lays144 : Go.Proofs.Lays.n144 Tryz.prog Tryz.lays144_ren := {
  mixed := by kernel_rfl
  f143 := Tryz.func112.trans (congrArg some (by kernel_rfl))
  f144 := Tryz.func77.trans (congrArg some (by kernel_rfl))
  f217 := Tryz.func107.trans (congrArg some (by kernel_rfl))
  f219 := Tryz.func144.trans (congrArg some (by kernel_rfl))
  f224 := Tryz.func163.trans (congrArg some (by kernel_rfl))
  f225 := Tryz.func162.trans (congrArg some (by kernel_rfl))
  f266 := Tryz.func141.trans (congrArg some (by kernel_rfl))
  f267 := Tryz.func164.trans (congrArg some (by kernel_rfl))
  f314 := Tryz.func172.trans (congrArg some (by kernel_rfl))
  t3 := Tryz.underlying3
  a3 := Tryz.isAgg3
  z3 := Tryz.sizeOf3
  v3 := Tryz.zeroValue3
  t4 := Tryz.underlying4
  a4 := Tryz.isAgg4
  z4 := Tryz.sizeOf4
  v4 := Tryz.zeroValue4
  t5 := Tryz.underlying5
  a5 := Tryz.isAgg5
  z5 := Tryz.sizeOf5
  v5 := Tryz.zeroValue5
  t9 := Tryz.underlying9
  a9 := Tryz.isAgg9
  z9 := Tryz.sizeOf9
  v9 := Tryz.zeroValue9
  t46 := Tryz.underlying134
  a46 := Tryz.isAgg134
  z46 := Tryz.sizeOf134
  v46 := Tryz.zeroValue134
  t51 := Tryz.underlying30
  a51 := Tryz.isAgg30
  z51 := Tryz.sizeOf30
  v51 := Tryz.zeroValue30
  t146 := Tryz.underlying213
  a146 := Tryz.isAgg213
  z146 := Tryz.sizeOf213
  v146 := Tryz.zeroValue213
  g1 := by kernel_rfl }
def Tryz.lays146_ren : Go.Shelf.Ren := ⟨fun | 146 => 56 | 221 => 88 | 268 => 115 | 138 => 116 | 143 => 112 | 195 => 146 | 197 => 147 | 218 => 148 | 219 => 144 | 260 => 166 | 217 => 107 | 225 => 162 | 224 => 163 | 267 => 164 | 266 => 141 | 314 => 172 | n => n, fun | 9 => 9 | 31 => 47 | 3 => 3 | 4 => 4 | 0 => 0 | 105 => 196 | 21 => 21 | 5 => 5 | 46 => 134 | 119 => 215 | 139 => 218 | 138 => 217 | 146 => 213 | 51 => 30 | n => n, fun | 1 => 6 | 3 => 7 | 4 => 8 | n => n⟩
theorem Tryz.lays146 : Go.Proofs.Lays.n146 Tryz.prog Tryz.lays146_ren := {
  mixed := by kernel_rfl
  f138 := Tryz.func116.trans (congrArg some (by kernel_rfl))
  f143 := Tryz.func112.trans (congrArg some (by kernel_rfl))
  f146 := Tryz.func56.trans (congrArg some (by kernel_rfl))
  f195 := Tryz.func146.trans (congrArg some (by kernel_rfl))
  f197 := Tryz.func147.trans (congrArg some (by kernel_rfl))
  f217 := Tryz.func107.trans (congrArg some (by kernel_rfl))
  f218 := Tryz.func148.trans (congrArg some (by kernel_rfl))
  f219 := Tryz.func144.trans (congrArg some (by kernel_rfl))
  f221 := Tryz.func88.trans (congrArg some (by kernel_rfl))
  f224 := Tryz.func163.trans (congrArg some (by kernel_rfl))
  f225 := Tryz.func162.trans (congrArg some (by kernel_rfl))
  f260 := Tryz.func166.trans (congrArg some (by kernel_rfl))
  f266 := Tryz.func141.trans (congrArg some (by kernel_rfl))
  f267 := Tryz.func164.trans (congrArg some (by kernel_rfl))
  f268 := Tryz.func115.trans (congrArg some (by kernel_rfl))
  f314 := Tryz.func172.trans (congrArg some (by kernel_rfl))
  t0 := Tryz.underlying0
  a0 := Tryz.isAgg0
  z0 := Tryz.sizeOf0
  v0 := Tryz.zeroValue0
  t3 := Tryz.underlying3
  a3 := Tryz.isAgg3
  z3 := Tryz.sizeOf3
  v3 := Tryz.zeroValue3
  t4 := Tryz.underlying4
  a4 := Tryz.isAgg4
  z4 := Tryz.sizeOf4
  v4 := Tryz.zeroValue4
  t5 := Tryz.underlying5
  a5 := Tryz.isAgg5
  z5 := Tryz.sizeOf5
  v5 := Tryz.zeroValue5
  t9 := Tryz.underlying9
  a9 := Tryz.isAgg9
  z9 := Tryz.sizeOf9
  v9 := Tryz.zeroValue9
  t21 := Tryz.underlying21
  a21 := Tryz.isAgg21
  z21 := Tryz.sizeOf21
  v21 := Tryz.zeroValue21
  t31 := Tryz.underlying47
  a31 := Tryz.isAgg47
  z31 := Tryz.sizeOf47
  v31 := Tryz.zeroValue47
  t46 := Tryz.underlying134
  a46 := Tryz.isAgg134
  z46 := Tryz.sizeOf134
  v46 := Tryz.zeroValue134
  t51 := Tryz.underlying30
  a51 := Tryz.isAgg30
  z51 := Tryz.sizeOf30
  v51 := Tryz.zeroValue30
  t105 := Tryz.underlying196
  a105 := Tryz.isAgg196
  z105 := Tryz.sizeOf196
  v105 := Tryz.zeroValue196
  t119 := Tryz.underlying215
  a119 := Tryz.isAgg215
  z119 := Tryz.sizeOf215
  t138 := Tryz.underlying217
  a138 := Tryz.isAgg217
  z138 := Tryz.sizeOf217
  v138 := Tryz.zeroValue217
  t139 := Tryz.underlying218
  a139 := Tryz.isAgg218
  z139 := Tryz.sizeOf218
  v139 := Tryz.zeroValue218
  t146 := Tryz.underlying213
  a146 := Tryz.isAgg213
  z146 := Tryz.sizeOf213
  v146 := Tryz.zeroValue213
  g1 := by kernel_rfl
  g3 := by kernel_rfl
  g4 := by kernel_rfl }
open Go.RowKit Go.Lib
theorem Tryz.hasPre (l p : List UInt8) (w : World) : Calls Tryz.prog 48 #[.string ⟨l.toArray⟩, .string ⟨p.toArray⟩] w fun e w' => e = .returned (.bool (Lib.hasPrefix l p)) ∧ w' = w :=
  Any.strings_HasPrefix Tryz.lays99 ⟨l.toArray⟩ ⟨p.toArray⟩ w
theorem Tryz.conts (l p : List UInt8) (m : Int) (w : World) (hl : l.length < 4294967281) (hm : w.cell? ⟨6, 0, none⟩ = some (.int .i64 m)) : Calls Tryz.prog 77 #[.string ⟨l.toArray⟩, .string ⟨p.toArray⟩] w fun e w' => e = .returned (.bool (Lib.contains l p)) ∧ w' = w :=
  Any.strings_Contains Tryz.lays144 ⟨l.toArray⟩ ⟨p.toArray⟩ m w (by simpa [ByteArray.size] using hl) hm
theorem Tryz.splits (l p : List UInt8) (m : Int) (w : World) (hl : l.length < 4294967281) (h1 : 1 ≤ p.length) (hm : w.cell? ⟨6, 0, none⟩ = some (.int .i64 m)) : Calls Tryz.prog 56 #[.string ⟨l.toArray⟩, .string ⟨p.toArray⟩] w fun e w' =>
      e = .returned (.slice (some ⟨w.heap.size, 0, none⟩) (Lib.countB ⟨l.toArray⟩ ⟨p.toArray⟩ + 1) (Lib.countB ⟨l.toArray⟩ ⟨p.toArray⟩ + 1)) ∧ w' = w.alloc (.cells ((Lib.splitB ⟨p.toArray⟩ 0 (Lib.countB ⟨l.toArray⟩ ⟨p.toArray⟩) ⟨l.toArray⟩).map Value.string).toArray 9) :=
  Any.strings_Split Tryz.lays146 (by kernel_rfl) ⟨l.toArray⟩ ⟨p.toArray⟩ m w (by simpa [ByteArray.size] using hl) hm (by simpa [ByteArray.size] using h1)
end Go.Proofs
