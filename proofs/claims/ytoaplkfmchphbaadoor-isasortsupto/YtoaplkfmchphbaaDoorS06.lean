import GoSem.Core.Utf8
import GoSem.Instr.Next
import Derived.Laws.RangeString
import Derived.Lib.SlTrimSet
import Derived.Lib.Strings
import Derived.Test.YtoaplkfmchphbaaDoorS00
namespace Go.Proofs.YtoaplkfmchphbaaDoor
open Go.RowKit
/-- a text -/
abbrev Tx := List UInt8
/-- the byte at a place -/
theorem get_at (s : ByteArray) (i : Nat) (h : i < s.size) : s.get! i = s[i]'h := by
  simp [ByteArray.get!, getElem!_pos, h]
  rfl
/-- what is read at a byte beyond ASCII: a rune beyond ASCII, and all that it takes is beyond ASCII -/
def HiOk (s : ByteArray) (pos : Nat) (d : Nat × Nat) : Prop := 128 ≤ d.1 ∧ d.1 ≤ 1114111 ∧ 1 ≤ d.2 ∧ pos + d.2 ≤ s.size ∧ ∀ j, j < d.2 → ∃ hj : pos + j < s.size, ¬ (s[pos + j]'hj).toNat < 128
theorem HiOk.bad {s : ByteArray} {pos : Nat} (h : pos < s.size) (hb : ¬ (s[pos]'h).toNat < 128) : HiOk s pos (Utf8.runeError, 1) :=
  ⟨by decide, by decide, by decide, h, fun j hj => by
    obtain rfl : j = 0 := by simp at hj; omega
    exact ⟨h, hb⟩⟩
theorem cont_hi {s : ByteArray} {pos k : Nat} (hk : (decide (pos + k < s.size) && (s.get! (pos + k)).toNat / 64 == 2) = true) : ∃ hk : pos + k < s.size, ¬ (s[pos + k]'hk).toNat < 128 := by
  simp only [Bool.and_eq_true, decide_eq_true_eq, beq_iff_eq] at hk
  refine ⟨hk.1, ?_⟩
  have := hk.2
  rw [get_at s _ hk.1] at this
  omega
theorem dec_hi (s : ByteArray) (pos : Nat) (h : pos < s.size) (hb : ¬ (s[pos]'h).toNat < 128) : HiOk s pos (Utf8.decode s pos) := by
  have e0 : (s.get! (pos + 0)).toNat = (s[pos]'h).toNat := by rw [Nat.add_zero, get_at s pos h]
  have bad := HiOk.bad h hb
  obtain ⟨b0, hb0⟩ : ∃ b, (s[pos]'h).toNat = b := ⟨_, rfl⟩
  obtain ⟨b1, hb1⟩ : ∃ b, (s.get! (pos + 1)).toNat = b := ⟨_, rfl⟩
  obtain ⟨b2, hb2⟩ : ∃ b, (s.get! (pos + 2)).toNat = b := ⟨_, rfl⟩
  obtain ⟨b3, hb3⟩ : ∃ b, (s.get! (pos + 3)).toNat = b := ⟨_, rfl⟩
  have n0 : ∃ hk : pos + 0 < s.size, ¬ (s[pos + 0]'hk).toNat < 128 := ⟨h, hb⟩
  have c1 : (decide (pos + 1 < s.size) && b1 / 64 == 2) = true → ∃ hk : pos + 1 < s.size, ¬ (s[pos + 1]'hk).toNat < 128 := fun hk => cont_hi (by rw [hb1]; exact hk)
  have c2 : (decide (pos + 2 < s.size) && b2 / 64 == 2) = true → ∃ hk : pos + 2 < s.size, ¬ (s[pos + 2]'hk).toNat < 128 := fun hk => cont_hi (by rw [hb2]; exact hk)
  have c3 : (decide (pos + 3 < s.size) && b3 / 64 == 2) = true → ∃ hk : pos + 3 < s.size, ¬ (s[pos + 3]'hk).toNat < 128 := fun hk => cont_hi (by rw [hb3]; exact hk)
  unfold Utf8.decode
  rw [hb0] at hb e0
  simp only [e0, hb1, hb2, hb3, hb, if_false]
  clear e0 hb0 hb1 hb2 hb3
  split
  · next h1 =>
    simp only [Bool.and_eq_true, beq_iff_eq] at h1
    obtain ⟨k1, n1⟩ := c1 (by simpa using h1.2)
    split
    · next h2 =>
      refine ⟨h2, ?_, Nat.le_succ 1, k1, fun j hj => ?_⟩
      · have := Nat.mod_lt b0 (show 0 < 32 by decide)
        have := Nat.mod_lt b1 (show 0 < 64 by decide)
        show b0 % 32 * 64 + b1 % 64 ≤ 1114111
        omega
      · match j, hj with
        | 0, _ => exact n0
        | 1, _ => exact ⟨k1, n1⟩
    · exact bad
  · split
    · next h1 =>
      simp only [Bool.and_eq_true, beq_iff_eq] at h1
      obtain ⟨k1, n1⟩ := c1 (by simpa using h1.1.2)
      obtain ⟨k2, n2⟩ := c2 (by simpa using h1.2)
      split
      · next h2 =>
        simp only [Bool.and_eq_true, decide_eq_true_eq] at h2
        refine ⟨Nat.le_trans (by decide) h2.1, ?_, (show 1 ≤ 3 by decide), k2, fun j hj => ?_⟩
        · have := Nat.mod_lt b0 (show 0 < 16 by decide)
          have := Nat.mod_lt b1 (show 0 < 64 by decide)
          have := Nat.mod_lt b2 (show 0 < 64 by decide)
          show b0 % 16 * 4096 + b1 % 64 * 64 + b2 % 64 ≤ 1114111
          omega
        · match j, hj with
          | 0, _ => exact n0
          | 1, _ => exact ⟨k1, n1⟩
          | 2, _ => exact ⟨k2, n2⟩
      · exact bad
    · split
      · next h1 =>
        simp only [Bool.and_eq_true, beq_iff_eq] at h1
        obtain ⟨k1, n1⟩ := c1 (by simpa using h1.1.1.2)
        obtain ⟨k2, n2⟩ := c2 (by simpa using h1.1.2)
        obtain ⟨k3, n3⟩ := c3 (by simpa using h1.2)
        split
        · next h2 =>
          simp only [Bool.and_eq_true, decide_eq_true_eq] at h2
          refine ⟨Nat.le_trans (by decide) h2.1, ?_, (show 1 ≤ 4 by decide), k3, fun j hj => ?_⟩
          · have h3 := h2.2
            generalize b0 % 8 * 262144 + b1 % 64 * 4096 + b2 % 64 * 64 + b3 % 64 = c at *
            unfold Utf8.valid at h3
            simp only [Bool.or_eq_true, Bool.and_eq_true, decide_eq_true_eq] at h3
            show c ≤ 1114111
            omega
          · match j, hj with
            | 0, _ => exact n0
            | 1, _ => exact ⟨k1, n1⟩
            | 2, _ => exact ⟨k2, n2⟩
            | 3, _ => exact ⟨k3, n3⟩
        · exact bad
      · exact bad
/-- a text's walk lies in a block -/
def It (wr : World) (g : Nat) (s : ByteArray) (pos : Nat) : Prop := wr.heap[g]? = some (.stringIter s pos)
def World.itTo (wr : World) (g : Nat) (s : ByteArray) (pos : Nat) : World := { wr with heap := wr.heap.setIfInBounds g (.stringIter s pos) }
/-- where the walk stands -/
def itPos (wr : World) (g : Nat) : Nat :=
  match wr.heap[g]? with
  | some (.stringIter _ p) => p
  | _ => 0
theorem it_pos {wr : World} {g : Nat} {s : ByteArray} {pos : Nat} (h : It wr g s pos) : itPos wr g = pos := by
  have h' : wr.heap[g]? = some (.stringIter s pos) := h
  simp [itPos, h']
theorem it_lt {wr : World} {g : Nat} {s : ByteArray} {pos : Nat} (h : It wr g s pos) : g < wr.heap.size := (Array.getElem?_eq_some_iff.1 h).1
theorem it_next {P : Program} {wr : World} {g : Nat} {s : ByteArray} {pos : Nat} (h : It wr g s pos) (ty : TypeId) (hp : pos < s.size) :
    (Instr.next (.pointer (some ⟨g, 0, none⟩)) true ty).run P wr = .ok (.tuple #[.bool true, .int .i64 pos, .int .i32 ((Utf8.decode s pos).1 : Nat)]) (World.itTo wr g s (pos + (Utf8.decode s pos).2)) := by
  have h' : wr.heap[g]? = some (.stringIter s pos) := h
  have hl := it_lt h
  simp only [Instr.next, getObj, setObj, Sem.run_bind, Sem.run, h', Result.andThen, hp, if_true]
  simp [goInt, World.itTo]
theorem it_end {P : Program} {wr : World} {g : Nat} {s : ByteArray} {pos : Nat} (h : It wr g s pos) (ty : TypeId) (hp : ¬ pos < s.size) :
    (Instr.next (.pointer (some ⟨g, 0, none⟩)) true ty).run P wr = .ok (.tuple #[.bool false]) wr := by
  have h' : wr.heap[g]? = some (.stringIter s pos) := h
  simp [Instr.next, getObj, Sem.run, h', hp]
theorem it_to {wr : World} {g : Nat} {s : ByteArray} {pos : Nat} (h : It wr g s pos) (q : Nat) : It (World.itTo wr g s q) g s q := by
  have hl := it_lt h
  simp [It, World.itTo, hl]
theorem it_below {w wr : World} {g : Nat} {s : ByteArray} {B : Nat} (h : Below B w wr) (hg : B ≤ g) (q : Nat) : Below B w (World.itTo wr g s q) :=
  ⟨h.os, h.tape, h.output, by simp [World.itTo]; exact h.size, fun k hk => by
    show (wr.heap.setIfInBounds g _)[k]? = _
    rw [Array.getElem?_setIfInBounds, if_neg (by omega)]
    exact h.block k hk⟩
theorem it_kept {W W' : World} {g : Nat} {s : ByteArray} {pos : Nat} (h : It W g s pos) (hb : Below W.heap.size W W') : It W' g s pos := by
  show W'.heap[g]? = _
  rw [hb.block g (it_lt h)]
  exact h
theorem itTo_size (W : World) (g : Nat) (s : ByteArray) (q : Nat) : (World.itTo W g s q).heap.size = W.heap.size := by simp [World.itTo]
end Go.Proofs.YtoaplkfmchphbaaDoor

namespace Go.Proofs.YtoaplkfmchphbaaDoor
open Go.RowKit
/-- without blanks at both ends -/
def trimT (s : Tx) : Tx := Lib.trimS s [32, 9]
/-- what stands ahead of the first mark and behind it -/
def cutT (ms : Tx) : Tx → Option (Tx × Tx)
  | [] => none
  | c :: r => if ms.contains c then some ([], r) else (cutT ms r).map fun p => (c :: p.1, p.2)
/-- the pieces between marks -/
def splitT (m : UInt8) : Tx → List Tx
  | [] => [[]]
  | c :: r => if c == m then [] :: splitT m r else match splitT m r with
    | [] => [[c]]
    | p :: ps => (c :: p) :: ps
def isLet (c : UInt8) : Bool := (decide (97 ≤ c.toNat) && decide (c.toNat ≤ 122)) || (decide (65 ≤ c.toNat) && decide (c.toNat ≤ 90)) || decide (c.toNat = 95)
def isDig (c : UInt8) : Bool := decide (48 ≤ c.toNat) && decide (c.toNat ≤ 57)
/-- has it a label's form -/
def isLbl : Tx → Bool
  | [] => false
  | c :: r => isLet c && r.all fun d => isLet d || isDig d
def digV (c : UInt8) : Nat := if isDig c then c.toNat - 48 else if 97 ≤ c.toNat ∧ c.toNat ≤ 102 then c.toNat - 87 else 16
def numF (b : Nat) : Nat → Tx → Option Nat
  | n, [] => some n
  | n, c :: r => if digV c < b then numF b (n * b + digV c) r else none
def minT (s : Tx) : Bool := Lib.hasPrefix s [45]
def absT (s : Tx) : Tx := Lib.trimPrefix s [45]
def hexT (s : Tx) : Bool := Lib.hasPrefix s [48, 120]
def digT (s : Tx) : Tx := Lib.trimPrefix s [48, 120]
/-- the base, and how many digits at most -/
def basT (s : Tx) : Nat := if hexT s then 16 else 10
def mosT (s : Tx) : Nat := if hexT s then 8 else 10
/-- the number that a text is -/
def numT (s : Tx) : Option Int :=
  if (digT (absT s)).length = 0 ∨ mosT (absT s) < (digT (absT s)).length then none
  else (numF (basT (absT s)) 0 (digT (absT s))).map fun n => if minT s then -(n : Int) else (n : Int)
/-- the register that a text is -/
def regT : Tx → Option Nat
  | [a, b] => if a.toNat = 114 ∧ 48 ≤ b.toNat ∧ b.toNat < 56 then some (b.toNat - 48) else none
  | _ => none
/-- the operation of a name, 0: none -/
def opT (s : Tx) : Nat := ((List.range 27).find? fun n => n != 0 && nm n == s).getD 0
/-- what a line says -/
structure Ln where
  wrong : Bool
  label : Tx
  i : I
  name : Tx
  words : Int
def ln0 : Ln := ⟨false, [], ⟨0, 0, 0, 0⟩, [], 0⟩
def lnBad : Ln := ⟨true, [], ⟨0, 0, 0, 0⟩, [], 0⟩
/-- a field that may be a label or a number within bounds -/
def immT (l : Ln) (f : Tx) (lo hi : Int) : Option Ln :=
  if isLbl f then some { l with name := f }
  else match numT f with
    | some n => if lo ≤ n ∧ n ≤ hi then some { l with i := { l.i with imm := n } } else none
    | none => none
/-- one field of an instruction, by its kind -/
def fldT (lo hi : Int) (l : Ln) (k : Int) (f : Tx) : Option Ln :=
  if k = 2 then immT l f lo hi
  else match regT f with
    | some n => if k = 0 then some { l with i := { l.i with a := n } } else some { l with i := { l.i with b := n } }
    | none => none
def fldsT (lo hi : Int) : Ln → List Int → List Tx → Option Ln
  | l, [], [] => some l
  | l, k :: ks, f :: fs => (fldT lo hi l k f).bind fun l' => fldsT lo hi l' ks fs
  | _, _, _ => none
def kinds (n : Nat) : List Int := (if uA n then [0] else []) ++ (if uB n then [1] else []) ++ (if kd n = 0 then [] else [2])
/-- a name and its fields -/
def stmT (name : Tx) (fs : List Tx) : Option Ln :=
  if name = [46, 119, 111, 114, 100] then match fs with
    | [f] => immT { ln0 with words := 1 } f (-2147483648) 4294967295
    | _ => none
  else if name = [46, 122, 101, 114, 111] then match fs with
    | [f] => match numT f with
      | some n => if 0 ≤ n ∧ n ≤ 512 then some { ln0 with words := n } else none
      | none => none
    | _ => none
  else if opT name = 0 then none
  else if fs.length = (kinds (opT name)).length then fldsT (lo (kd (opT name))) (hi (kd (opT name))) { ln0 with i := ⟨(opT name : Nat), 0, 0, 0⟩, words := 1 } (kinds (opT name)) fs
  else none
def sfT (s : Tx) : List Tx := if trimT s = [] then [] else (splitT 44 (trimT s)).map trimT
/-- what a line has beside its label -/
def stT (s : Tx) : Ln :=
  if s = [] then ln0
  else
    let p := (cutT [32, 9] s).getD (s, [])
    (stmT p.1 (sfT p.2)).getD lnBad
def lineT (s : Tx) : Ln :=
  let t := trimT ((cutT [59] s).getD (s, [])).1
  match cutT [58] t with
  | none => stT t
  | some (a, b) => if isLbl a then { stT (trimT b) with label := a } else lnBad
/-- the words that the lines ahead of line k give -/
def ahd (ls : List Ln) (k : Nat) : Int := ((ls.take k).map (·.words)).sum
/-- the first line with a label -/
def fndT (ls : List Ln) (s : Tx) : Option Nat := ls.findIdx? fun l => l.label == s
end Go.Proofs.YtoaplkfmchphbaaDoor

namespace Go.Proofs.YtoaplkfmchphbaaDoor
open Go.RowKit
theorem cut_at (ms : Tx) : ∀ (s : Tx) (k : Nat) (hk : k < s.length), (∀ j (hj : j < k), ms.contains s[j] = false) → ms.contains s[k] = true → cutT ms s = some (s.take k, s.drop (k + 1))
  | [], k, hk, _, _ => by simp at hk
  | c :: r, 0, _, _, h => by
    simp only [List.getElem_cons_zero] at h
    simp only [cutT, h, if_true, List.take_zero, List.drop_succ_cons, List.drop_zero]
  | c :: r, k + 1, hk, h0, h => by
    have hc := h0 0 (Nat.succ_pos k)
    simp only [List.getElem_cons_zero] at hc
    have ih := cut_at ms r k (by simpa using hk) (fun j hj => by simpa using h0 (j + 1) (by omega)) (by simpa using h)
    simp only [cutT, hc, ih, Bool.false_eq_true, if_false, Option.map_some, List.take_succ_cons, List.drop_succ_cons]
theorem cut_none (ms : Tx) : ∀ (s : Tx), (∀ j (hj : j < s.length), ms.contains s[j] = false) → cutT ms s = none
  | [], _ => rfl
  | c :: r, h => by
    have hc := h 0 (by simp)
    simp only [List.getElem_cons_zero] at hc
    have ih := cut_none ms r (fun j hj => h (j + 1) (Nat.succ_lt_succ hj))
    simp only [cutT, hc, ih, Bool.false_eq_true, if_false, Option.map_none]
theorem split_ne (m : UInt8) (s : Tx) : splitT m s ≠ [] := by
  cases s with
  | nil => simp [splitT]
  | cons c r =>
    simp only [splitT]
    split
    · simp
    · split <;> simp
/-- pieces so far, then one that is open -/
theorem split_mark (m : UInt8) : ∀ (a b : Tx), (∀ x ∈ a, (x == m) = false) → splitT m (a ++ m :: b) = a :: splitT m b
  | [], b, _ => by simp [splitT]
  | c :: r, b, h => by
    have hc := h c (by simp)
    have ih := split_mark m r b (fun x hx => h x (by simp [hx]))
    simp only [List.cons_append, splitT, hc, Bool.false_eq_true, if_false, ih]
theorem split_end (m : UInt8) : ∀ (a : Tx), (∀ x ∈ a, (x == m) = false) → splitT m a = [a]
  | [], _ => rfl
  | c :: r, h => by
    have hc := h c (by simp)
    have ih := split_end m r (fun x hx => h x (by simp [hx]))
    simp only [splitT, hc, Bool.false_eq_true, if_false, ih]
theorem lbl_iff (s : Tx) : isLbl s = true ↔ s ≠ [] ∧ ∀ j (hj : j < s.length), isLet s[j] = true ∨ (j ≠ 0 ∧ isDig s[j] = true) := by
  cases s with
  | nil => simp [isLbl]
  | cons c r =>
    simp only [isLbl, Bool.and_eq_true, List.all_eq_true, Bool.or_eq_true]
    constructor
    · rintro ⟨h1, h2⟩
      refine ⟨by simp, fun j hj => ?_⟩
      cases j with
      | zero => exact .inl h1
      | succ j =>
        simp only [List.getElem_cons_succ]
        rcases h2 _ (List.getElem_mem (by simpa using hj)) with h | h
        · exact .inl h
        · exact .inr ⟨by omega, h⟩
    · rintro ⟨_, h⟩
      refine ⟨?_, fun x hx => ?_⟩
      · rcases h 0 (by simp) with h | h
        · exact h
        · exact absurd rfl h.1
      · obtain ⟨j, hj, rfl⟩ := List.getElem_of_mem hx
        rcases h (j + 1) (by simpa using hj) with h | h
        · exact .inl (by simpa using h)
        · exact .inr (by simpa using h.2)
theorem digV_le (c : UInt8) : digV c ≤ 16 := by
  unfold digV isDig
  split
  · next h => simp at h; omega
  · split <;> omega
theorem numF_take (b : Nat) : ∀ (s : Tx) (n j : Nat) (m : Nat), numF b n (s.take j) = some m → numF b n s = numF b m (s.drop j)
  | [], n, j, m, h => by simp [numF] at h ⊢; subst h; simp
  | c :: r, n, 0, m, h => by simp [numF] at h; subst h; simp
  | c :: r, n, j + 1, m, h => by
    simp only [List.take_succ_cons, numF] at h
    split at h
    · next hd =>
      simp only [numF, hd, if_true, List.drop_succ_cons]
      exact numF_take b r _ j m h
    · simp at h
theorem numF_snoc (b : Nat) (c : UInt8) : ∀ (s : Tx) (n : Nat), numF b n (s ++ [c]) = (numF b n s).bind fun m => if digV c < b then some (m * b + digV c) else none
  | [], n => by simp [numF]
  | x :: r, n => by
    simp only [List.cons_append, numF]
    split
    · exact numF_snoc b c r _
    · rfl
theorem numF_step {b m pos : Nat} {D : Tx} (hp : pos < D.length) (h : numF b 0 (D.take pos) = some m) (hd : digV D[pos] < b) : numF b 0 (D.take (pos + 1)) = some (m * b + digV D[pos]) := by
  rw [List.take_succ_eq_append_getElem hp, numF_snoc, h]
  simp [hd]
theorem numF_none {b m pos : Nat} {D : Tx} (hp : pos < D.length) (h : numF b 0 (D.take pos) = some m) (hd : ¬ digV D[pos] < b) : numF b 0 D = none := by
  rw [numF_take b D 0 pos m h, List.drop_eq_getElem_cons hp]
  simp [numF, hd]
/-- a number of so many digits -/
theorem numF_lt (b : Nat) (hb : 2 ≤ b) : ∀ (s : Tx) (n m k : Nat), n < b ^ k → numF b n s = some m → m < b ^ (k + s.length)
  | [], n, m, k, h, e => by simp [numF] at e; subst e; simpa using h
  | c :: r, n, m, k, h, e => by
    simp only [numF] at e
    split at e
    · next hd =>
      have h1 : n * b + digV c < b ^ (k + 1) := by
        have : (n + 1) * b ≤ b ^ k * b := Nat.mul_le_mul_right b h
        rw [Nat.pow_succ]
        rw [Nat.add_mul] at this
        omega
      have := numF_lt b hb r _ m (k + 1) h1 e
      rw [List.length_cons, show k + (r.length + 1) = k + 1 + r.length by omega]
      exact this
    · simp at e
end Go.Proofs.YtoaplkfmchphbaaDoor
