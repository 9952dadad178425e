import Derived.Lib.SlTrimSet
import Derived.Lib.Strings
import Derived.Below
import Derived.Shelf.Small.Wraps
import Derived.Shelf.Small.Strs
import Derived.Shelf.Small.Utf8
import Derived.Shelf.Strings.Runes
import Derived.Shelf.Strings.SlTrimAscii
import Derived.Test.YtbfagiofhakjnaaDoorProg
import Derived.Test.YtbfagiofhakjnaaDoorMA02
namespace Go.Proofs.YtbfagiofhakjnaaDoor
open Go.RowKit
/-- without blanks at both ends -/
def trimT (s : Tx) : Tx := Lib.trimS s [32, 9]
/-- what stands ahead of the first mark and behind it -/
def cutT (ms : Tx) : Tx → Option (Tx × Tx)
  | [] => none
  | c :: r => if ms.contains c then some ([], r) else (cutT ms r).map fun p => (c :: p.1, p.2)
/-- the pieces between marks -/
def splitT (m : UInt8) : Tx → List Tx
  | [] => [[]]
  | c :: r => if c == m then [] :: splitT m r else match splitT m r with
    | [] => [[c]]
    | p :: ps => (c :: p) :: ps
def isLet (c : UInt8) : Bool := (decide (97 ≤ c.toNat) && decide (c.toNat ≤ 122)) || (decide (65 ≤ c.toNat) && decide (c.toNat ≤ 90)) || decide (c.toNat = 95)
def isDig (c : UInt8) : Bool := decide (48 ≤ c.toNat) && decide (c.toNat ≤ 57)
/-- has it a label's form -/
def isLbl : Tx → Bool
  | [] => false
  | c :: r => isLet c && r.all fun d => isLet d || isDig d
def digV (c : UInt8) : Nat := if isDig c then c.toNat - 48 else if 97 ≤ c.toNat ∧ c.toNat ≤ 102 then c.toNat - 87 else 16
def numF (b : Nat) : Nat → Tx → Option Nat
  | n, [] => some n
  | n, c :: r => if digV c < b then numF b (n * b + digV c) r else none
def minT (s : Tx) : Bool := Lib.hasPrefix s [45]
def absT (s : Tx) : Tx := Lib.trimPrefix s [45]
def hexT (s : Tx) : Bool := Lib.hasPrefix s [48, 120]
def digT (s : Tx) : Tx := Lib.trimPrefix s [48, 120]
/-- the base, and how many digits at most -/
def basT (s : Tx) : Nat := if hexT s then 16 else 10
def mosT (s : Tx) : Nat := if hexT s then 8 else 10
/-- the number that a text is -/
def numT (s : Tx) : Option Int :=
  if (digT (absT s)).length = 0 ∨ mosT (absT s) < (digT (absT s)).length then none
  else (numF (basT (absT s)) 0 (digT (absT s))).map fun n => if minT s then -(n : Int) else (n : Int)
/-- the register that a text is -/
def regT : Tx → Option Nat
  | [a, b] => if a.toNat = 114 ∧ 48 ≤ b.toNat ∧ b.toNat < 56 then some (b.toNat - 48) else none
  | _ => none
/-- the operation of a name, 0: none -/
def opT (s : Tx) : Nat := ((List.range 27).find? fun n => n != 0 && nm n == s).getD 0
/-- what a line says -/
structure Ln where
  wrong : Bool
  label : Tx
  i : I
  name : Tx
  words : Int
def ln0 : Ln := ⟨false, [], ⟨0, 0, 0, 0⟩, [], 0⟩
def lnBad : Ln := ⟨true, [], ⟨0, 0, 0, 0⟩, [], 0⟩
/-- a field that may be a label or a number within bounds -/
def immT (l : Ln) (f : Tx) (lo hi : Int) : Option Ln :=
  if isLbl f then some { l with name := f }
  else match numT f with
    | some n => if lo ≤ n ∧ n ≤ hi then some { l with i := { l.i with imm := n } } else none
    | none => none
/-- one field of an instruction, by its kind -/
def fldT (lo hi : Int) (l : Ln) (k : Int) (f : Tx) : Option Ln :=
  if k = 2 then immT l f lo hi
  else match regT f with
    | some n => if k = 0 then some { l with i := { l.i with a := n } } else some { l with i := { l.i with b := n } }
    | none => none
def fldsT (lo hi : Int) : Ln → List Int → List Tx → Option Ln
  | l, [], [] => some l
  | l, k :: ks, f :: fs => (fldT lo hi l k f).bind fun l' => fldsT lo hi l' ks fs
  | _, _, _ => none
def kinds (n : Nat) : List Int := (if uA n then [0] else []) ++ (if uB n then [1] else []) ++ (if kd n = 0 then [] else [2])
/-- a name and its fields -/
def stmT (name : Tx) (fs : List Tx) : Option Ln :=
  if name = [46, 119, 111, 114, 100] then match fs with
    | [f] => immT { ln0 with words := 1 } f (-2147483648) 4294967295
    | _ => none
  else if name = [46, 122, 101, 114, 111] then match fs with
    | [f] => match numT f with
      | some n => if 0 ≤ n ∧ n ≤ 512 then some { ln0 with words := n } else none
      | none => none
    | _ => none
  else if opT name = 0 then none
  else if fs.length = (kinds (opT name)).length then fldsT (lo (kd (opT name))) (hi (kd (opT name))) { ln0 with i := ⟨(opT name : Nat), 0, 0, 0⟩, words := 1 } (kinds (opT name)) fs
  else none
def sfT (s : Tx) : List Tx := if trimT s = [] then [] else (splitT 44 (trimT s)).map trimT
/-- what a line has beside its label -/
def stT (s : Tx) : Ln :=
  if s = [] then ln0
  else
    let p := (cutT [32, 9] s).getD (s, [])
    (stmT p.1 (sfT p.2)).getD lnBad
def lineT (s : Tx) : Ln :=
  let t := trimT ((cutT [59] s).getD (s, [])).1
  match cutT [58] t with
  | none => stT t
  | some (a, b) => if isLbl a then { stT (trimT b) with label := a } else lnBad
/-- the words that the lines ahead of line k give -/
def ahd (ls : List Ln) (k : Nat) : Int := ((ls.take k).map (·.words)).sum
/-- the first line with a label -/
def fndT (ls : List Ln) (s : Tx) : Option Nat := ls.findIdx? fun l => l.label == s
end Go.Proofs.YtbfagiofhakjnaaDoor

namespace Go.Proofs.YtbfagiofhakjnaaDoor
open Go.RowKit
theorem cut_at (ms : Tx) : ∀ (s : Tx) (k : Nat) (hk : k < s.length), (∀ j (hj : j < k), ms.contains s[j] = false) → ms.contains s[k] = true → cutT ms s = some (s.take k, s.drop (k + 1))
  | [], k, hk, _, _ => by simp at hk
  | c :: r, 0, _, _, h => by
    simp only [List.getElem_cons_zero] at h
    simp only [cutT, h, if_true, List.take_zero, List.drop_succ_cons, List.drop_zero]
  | c :: r, k + 1, hk, h0, h => by
    have hc := h0 0 (Nat.succ_pos k)
    simp only [List.getElem_cons_zero] at hc
    have ih := cut_at ms r k (by simpa using hk) (fun j hj => by simpa using h0 (j + 1) (by omega)) (by simpa using h)
    simp only [cutT, hc, ih, Bool.false_eq_true, if_false, Option.map_some, List.take_succ_cons, List.drop_succ_cons]
theorem cut_none (ms : Tx) : ∀ (s : Tx), (∀ j (hj : j < s.length), ms.contains s[j] = false) → cutT ms s = none
  | [], _ => rfl
  | c :: r, h => by
    have hc := h 0 (by simp)
    simp only [List.getElem_cons_zero] at hc
    have ih := cut_none ms r (fun j hj => h (j + 1) (Nat.succ_lt_succ hj))
    simp only [cutT, hc, ih, Bool.false_eq_true, if_false, Option.map_none]
theorem split_ne (m : UInt8) (s : Tx) : splitT m s ≠ [] := by
  cases s with
  | nil => simp [splitT]
  | cons c r =>
    simp only [splitT]
    split
    · simp
    · split <;> simp
/-- pieces so far, then one that is open -/
theorem split_mark (m : UInt8) : ∀ (a b : Tx), (∀ x ∈ a, (x == m) = false) → splitT m (a ++ m :: b) = a :: splitT m b
  | [], b, _ => by simp [splitT]
  | c :: r, b, h => by
    have hc := h c (by simp)
    have ih := split_mark m r b (fun x hx => h x (by simp [hx]))
    simp only [List.cons_append, splitT, hc, Bool.false_eq_true, if_false, ih]
theorem split_end (m : UInt8) : ∀ (a : Tx), (∀ x ∈ a, (x == m) = false) → splitT m a = [a]
  | [], _ => rfl
  | c :: r, h => by
    have hc := h c (by simp)
    have ih := split_end m r (fun x hx => h x (by simp [hx]))
    simp only [splitT, hc, Bool.false_eq_true, if_false, ih]
theorem lbl_iff (s : Tx) : isLbl s = true ↔ s ≠ [] ∧ ∀ j (hj : j < s.length), isLet s[j] = true ∨ (j ≠ 0 ∧ isDig s[j] = true) := by
  cases s with
  | nil => simp [isLbl]
  | cons c r =>
    simp only [isLbl, Bool.and_eq_true, List.all_eq_true, Bool.or_eq_true]
    constructor
    · rintro ⟨h1, h2⟩
      refine ⟨by simp, fun j hj => ?_⟩
      cases j with
      | zero => exact .inl h1
      | succ j =>
        simp only [List.getElem_cons_succ]
        rcases h2 _ (List.getElem_mem (by simpa using hj)) with h | h
        · exact .inl h
        · exact .inr ⟨by omega, h⟩
    · rintro ⟨_, h⟩
      refine ⟨?_, fun x hx => ?_⟩
      · rcases h 0 (by simp) with h | h
        · exact h
        · exact absurd rfl h.1
      · obtain ⟨j, hj, rfl⟩ := List.getElem_of_mem hx
        rcases h (j + 1) (by simpa using hj) with h | h
        · exact .inl (by simpa using h)
        · exact .inr (by simpa using h.2)
theorem digV_le (c : UInt8) : digV c ≤ 16 := by
  unfold digV isDig
  split
  · next h => simp at h; omega
  · split <;> omega
theorem numF_take (b : Nat) : ∀ (s : Tx) (n j : Nat) (m : Nat), numF b n (s.take j) = some m → numF b n s = numF b m (s.drop j)
  | [], n, j, m, h => by simp [numF] at h ⊢; subst h; simp
  | c :: r, n, 0, m, h => by simp [numF] at h; subst h; simp
  | c :: r, n, j + 1, m, h => by
    simp only [List.take_succ_cons, numF] at h
    split at h
    · next hd =>
      simp only [numF, hd, if_true, List.drop_succ_cons]
      exact numF_take b r _ j m h
    · simp at h
theorem numF_snoc (b : Nat) (c : UInt8) : ∀ (s : Tx) (n : Nat), numF b n (s ++ [c]) = (numF b n s).bind fun m => if digV c < b then some (m * b + digV c) else none
  | [], n => by simp [numF]
  | x :: r, n => by
    simp only [List.cons_append, numF]
    split
    · exact numF_snoc b c r _
    · rfl
theorem numF_step {b m pos : Nat} {D : Tx} (hp : pos < D.length) (h : numF b 0 (D.take pos) = some m) (hd : digV D[pos] < b) : numF b 0 (D.take (pos + 1)) = some (m * b + digV D[pos]) := by
  rw [List.take_succ_eq_append_getElem hp, numF_snoc, h]
  simp [hd]
theorem numF_none {b m pos : Nat} {D : Tx} (hp : pos < D.length) (h : numF b 0 (D.take pos) = some m) (hd : ¬ digV D[pos] < b) : numF b 0 D = none := by
  rw [numF_take b D 0 pos m h, List.drop_eq_getElem_cons hp]
  simp [numF, hd]
/-- a number of so many digits -/
theorem numF_lt (b : Nat) (hb : 2 ≤ b) : ∀ (s : Tx) (n m k : Nat), n < b ^ k → numF b n s = some m → m < b ^ (k + s.length)
  | [], n, m, k, h, e => by simp [numF] at e; subst e; simpa using h
  | c :: r, n, m, k, h, e => by
    simp only [numF] at e
    split at e
    · next hd =>
      have h1 : n * b + digV c < b ^ (k + 1) := by
        have : (n + 1) * b ≤ b ^ k * b := Nat.mul_le_mul_right b h
        rw [Nat.pow_succ]
        rw [Nat.add_mul] at this
        omega
      have := numF_lt b hb r _ m (k + 1) h1 e
      rw [List.length_cons, show k + (r.length + 1) = k + 1 + r.length by omega]
      exact this
    · simp at e
end Go.Proofs.YtbfagiofhakjnaaDoor

namespace Go.Proofs
open Go.Shelf
def Tryd.lays160_ren : Go.Shelf.Ren := ⟨fun | 160 => 30 | 232 => 42 | 231 => 41 | 227 => 43 | 234 => 45 | 233 => 44 | 236 => 47 | 235 => 46 | 228 => 56 | 271 => 58 | 151 => 40 | 197 => 57 | 120 => 71 | 152 => 55 | 260 => 70 | 137 => 66 | 119 => 67 | 224 => 68 | 225 => 69 | 217 => 75 | 266 => 78 | n => n, fun | 9 => 9 | 4 => 4 | 3 => 3 | 5 => 5 | 117 => 78 | 116 => 77 | 0 => 0 | 124 => 81 | 21 => 21 | 105 => 91 | 46 => 85 | 119 => 105 | 139 => 108 | 138 => 107 | n => n, fun | 3 => 3 | 4 => 4 | n => n⟩
theorem Tryd.lays160 : Go.Proofs.Lays.n160 Tryd.prog Tryd.lays160_ren := {
  mixed := by kernel_rfl
  f119 := Tryd.func67.trans (congrArg some (by kernel_rfl))
  f120 := Tryd.func71.trans (congrArg some (by kernel_rfl))
  f137 := Tryd.func66.trans (congrArg some (by kernel_rfl))
  f151 := Tryd.func40.trans (congrArg some (by kernel_rfl))
  f152 := Tryd.func55.trans (congrArg some (by kernel_rfl))
  f160 := Tryd.func30.trans (congrArg some (by kernel_rfl))
  f197 := Tryd.func57.trans (congrArg some (by kernel_rfl))
  f217 := Tryd.func75.trans (congrArg some (by kernel_rfl))
  f224 := Tryd.func68.trans (congrArg some (by kernel_rfl))
  f225 := Tryd.func69.trans (congrArg some (by kernel_rfl))
  f227 := Tryd.func43.trans (congrArg some (by kernel_rfl))
  f228 := Tryd.func56.trans (congrArg some (by kernel_rfl))
  f231 := Tryd.func41.trans (congrArg some (by kernel_rfl))
  f232 := Tryd.func42.trans (congrArg some (by kernel_rfl))
  f233 := Tryd.func44.trans (congrArg some (by kernel_rfl))
  f234 := Tryd.func45.trans (congrArg some (by kernel_rfl))
  f235 := Tryd.func46.trans (congrArg some (by kernel_rfl))
  f236 := Tryd.func47.trans (congrArg some (by kernel_rfl))
  f260 := Tryd.func70.trans (congrArg some (by kernel_rfl))
  f266 := Tryd.func78.trans (congrArg some (by kernel_rfl))
  f271 := Tryd.func58.trans (congrArg some (by kernel_rfl))
  t0 := Tryd.underlying0
  a0 := Tryd.isAgg0
  z0 := Tryd.sizeOf0
  v0 := Tryd.zeroValue0
  t3 := Tryd.underlying3
  a3 := Tryd.isAgg3
  z3 := Tryd.sizeOf3
  v3 := Tryd.zeroValue3
  t4 := Tryd.underlying4
  a4 := Tryd.isAgg4
  z4 := Tryd.sizeOf4
  v4 := Tryd.zeroValue4
  t5 := Tryd.underlying5
  a5 := Tryd.isAgg5
  z5 := Tryd.sizeOf5
  v5 := Tryd.zeroValue5
  t9 := Tryd.underlying9
  a9 := Tryd.isAgg9
  z9 := Tryd.sizeOf9
  v9 := Tryd.zeroValue9
  t21 := Tryd.underlying21
  a21 := Tryd.isAgg21
  z21 := Tryd.sizeOf21
  v21 := Tryd.zeroValue21
  t46 := Tryd.underlying85
  a46 := Tryd.isAgg85
  z46 := Tryd.sizeOf85
  v46 := Tryd.zeroValue85
  t105 := Tryd.underlying91
  a105 := Tryd.isAgg91
  z105 := Tryd.sizeOf91
  v105 := Tryd.zeroValue91
  t116 := Tryd.underlying77
  a116 := Tryd.isAgg77
  z116 := Tryd.sizeOf77
  t117 := Tryd.underlying78
  a117 := Tryd.isAgg78
  z117 := Tryd.sizeOf78
  v117 := Tryd.zeroValue78
  t119 := Tryd.underlying105
  a119 := Tryd.isAgg105
  z119 := Tryd.sizeOf105
  t124 := Tryd.underlying81
  a124 := Tryd.isAgg81
  z124 := Tryd.sizeOf81
  v124 := Tryd.zeroValue81
  t138 := Tryd.underlying107
  a138 := Tryd.isAgg107
  z138 := Tryd.sizeOf107
  v138 := Tryd.zeroValue107
  t139 := Tryd.underlying108
  a139 := Tryd.isAgg108
  z139 := Tryd.sizeOf108
  v139 := Tryd.zeroValue108
  g3 := by kernel_rfl
  g4 := by kernel_rfl }
def Tryd.lays103_ren : Go.Shelf.Ren := ⟨fun | 103 => 76 | 210 => 79 | 206 => 80 | n => n, fun | 9 => 9 | 4 => 4 | 24 => 109 | 3 => 3 | n => n, fun | n => n⟩
theorem Tryd.lays103 : Go.Proofs.Lays.n103 Tryd.prog Tryd.lays103_ren := {
  mixed := by kernel_rfl
  f103 := Tryd.func76.trans (congrArg some (by kernel_rfl))
  f206 := Tryd.func80.trans (congrArg some (by kernel_rfl))
  f210 := Tryd.func79.trans (congrArg some (by kernel_rfl))
  t3 := Tryd.underlying3
  a3 := Tryd.isAgg3
  z3 := Tryd.sizeOf3
  v3 := Tryd.zeroValue3
  t4 := Tryd.underlying4
  a4 := Tryd.isAgg4
  z4 := Tryd.sizeOf4
  v4 := Tryd.zeroValue4
  t9 := Tryd.underlying9
  a9 := Tryd.isAgg9
  z9 := Tryd.sizeOf9
  v9 := Tryd.zeroValue9
  t24 := Tryd.underlying109
  a24 := Tryd.isAgg109
  z24 := Tryd.sizeOf109
  v24 := Tryd.zeroValue109 }
def Tryd.lays151_ren : Go.Shelf.Ren := ⟨fun | 151 => 40 | 152 => 55 | 137 => 66 | 119 => 67 | 224 => 68 | 225 => 69 | 217 => 75 | 266 => 78 | n => n, fun | 9 => 9 | 21 => 21 | 4 => 4 | 3 => 3 | 5 => 5 | 0 => 0 | 46 => 85 | n => n, fun | n => n⟩
theorem Tryd.lays151 : Go.Proofs.Lays.n151 Tryd.prog Tryd.lays151_ren := {
  mixed := by kernel_rfl
  f119 := Tryd.func67.trans (congrArg some (by kernel_rfl))
  f137 := Tryd.func66.trans (congrArg some (by kernel_rfl))
  f151 := Tryd.func40.trans (congrArg some (by kernel_rfl))
  f152 := Tryd.func55.trans (congrArg some (by kernel_rfl))
  f217 := Tryd.func75.trans (congrArg some (by kernel_rfl))
  f224 := Tryd.func68.trans (congrArg some (by kernel_rfl))
  f225 := Tryd.func69.trans (congrArg some (by kernel_rfl))
  f266 := Tryd.func78.trans (congrArg some (by kernel_rfl))
  t0 := Tryd.underlying0
  a0 := Tryd.isAgg0
  z0 := Tryd.sizeOf0
  v0 := Tryd.zeroValue0
  t3 := Tryd.underlying3
  a3 := Tryd.isAgg3
  z3 := Tryd.sizeOf3
  v3 := Tryd.zeroValue3
  t4 := Tryd.underlying4
  a4 := Tryd.isAgg4
  z4 := Tryd.sizeOf4
  v4 := Tryd.zeroValue4
  t5 := Tryd.underlying5
  a5 := Tryd.isAgg5
  z5 := Tryd.sizeOf5
  v5 := Tryd.zeroValue5
  t9 := Tryd.underlying9
  a9 := Tryd.isAgg9
  z9 := Tryd.sizeOf9
  v9 := Tryd.zeroValue9
  t21 := Tryd.underlying21
  a21 := Tryd.isAgg21
  z21 := Tryd.sizeOf21
  v21 := Tryd.zeroValue21
  t46 := Tryd.underlying85
  a46 := Tryd.isAgg85
  z46 := Tryd.sizeOf85
  v46 := Tryd.zeroValue85 }
def Tryd.lays137_ren : Go.Shelf.Ren := ⟨fun | 137 => 66 | 217 => 75 | 266 => 78 | n => n, fun | 9 => 9 | 5 => 5 | 3 => 3 | n => n, fun | n => n⟩
theorem Tryd.lays137 : Go.Proofs.Lays.n137 Tryd.prog Tryd.lays137_ren := {
  mixed := by kernel_rfl
  f137 := Tryd.func66.trans (congrArg some (by kernel_rfl))
  f217 := Tryd.func75.trans (congrArg some (by kernel_rfl))
  f266 := Tryd.func78.trans (congrArg some (by kernel_rfl))
  t3 := Tryd.underlying3
  a3 := Tryd.isAgg3
  z3 := Tryd.sizeOf3
  v3 := Tryd.zeroValue3
  t5 := Tryd.underlying5
  a5 := Tryd.isAgg5
  z5 := Tryd.sizeOf5
  v5 := Tryd.zeroValue5
  t9 := Tryd.underlying9
  a9 := Tryd.isAgg9
  z9 := Tryd.sizeOf9
  v9 := Tryd.zeroValue9 }
def Tryd.lays119_ren : Go.Shelf.Ren := ⟨fun | 119 => 67 | n => n, fun | 21 => 21 | 4 => 4 | n => n, fun | n => n⟩
theorem Tryd.lays119 : Go.Proofs.Lays.n119 Tryd.prog Tryd.lays119_ren := {
  mixed := by kernel_rfl
  f119 := Tryd.func67.trans (congrArg some (by kernel_rfl))
  t4 := Tryd.underlying4
  a4 := Tryd.isAgg4
  z4 := Tryd.sizeOf4
  v4 := Tryd.zeroValue4
  t21 := Tryd.underlying21
  a21 := Tryd.isAgg21
  z21 := Tryd.sizeOf21
  v21 := Tryd.zeroValue21 }
open Go.RowKit Go.Lib
theorem Tryd.trims (l : List UInt8) (w : World) (hs : l.length ≤ 9223372036854775807) : Calls Tryd.prog 30 #[.string ⟨l.toArray⟩, .string ⟨#[32, 9]⟩] w fun e w' => e = .returned (.string ⟨(Lib.trimS l [32, 9]).toArray⟩) ∧ Below w.heap.size w w' :=
  Any.strings_Trim_laid Tryd.lays160 (by kernel_rfl) ⟨l.toArray⟩ ⟨#[32, 9]⟩ w (by simpa [ByteArray.size] using hs) (by decide) (ascii_of_all (by decide))
theorem Tryd.cutPre (l p : List UInt8) (w : World) : Calls Tryd.prog 76 #[.string ⟨l.toArray⟩, .string ⟨p.toArray⟩] w fun e w' => e = .returned (.tuple #[.string ⟨(Lib.trimPrefix l p).toArray⟩, .bool (Lib.hasPrefix l p)]) ∧ w' = w :=
  Any.strings_CutPrefix Tryd.lays103 ⟨l.toArray⟩ ⟨p.toArray⟩ w
theorem Tryd.contAscii (l : List UInt8) (r : Int) (w : World) (h0 : 0 ≤ r) (h1 : r < 128) : Calls Tryd.prog 40 #[.string ⟨l.toArray⟩, .int .i32 r] w fun e w' => e = .returned (.bool (decide (0 ≤ Lib.indexByte l r.toNat.toUInt8))) ∧ w' = w :=
  Any.strings_ContainsRune_ascii Tryd.lays151 ⟨l.toArray⟩ r w h0 h1
theorem Tryd.idxByte (l : List UInt8) (c : Int) (w : World) : Calls Tryd.prog 66 #[.string ⟨l.toArray⟩, .int .u8 c] w fun e w' => e = .returned (.int .i64 (Lib.indexByte l c.toNat.toUInt8)) ∧ w' = w :=
  Any.strings_IndexByte Tryd.lays137 ⟨l.toArray⟩ c w
theorem Tryd.validR (r : Int) (w : World) : Calls Tryd.prog 67 #[.int .i32 r] w fun e w' => e = .returned (.bool (decide (0 ≤ r ∧ r < 55296 ∨ 57343 < r ∧ r ≤ 1114111))) ∧ w' = w :=
  Any.utf8_ValidRune Tryd.lays119 r w
end Go.Proofs
