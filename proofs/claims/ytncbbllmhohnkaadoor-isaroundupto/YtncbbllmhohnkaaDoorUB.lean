import Derived.Test.YtncbbllmhohnkaaDoorUA
import Derived.Lib.SlTrimSet
import Derived.Lib.Strings
namespace Go.Proofs.YtncbbllmhohnkaaDoor
open Go.RowKit
/-- without blanks at both ends -/
def trimT (s : Tx) : Tx := Lib.trimS s [32, 9]
/-- what stands ahead of the first mark and behind it -/
def cutT (ms : Tx) : Tx → Option (Tx × Tx)
  | [] => none
  | c :: r => if ms.contains c then some ([], r) else (cutT ms r).map fun p => (c :: p.1, p.2)
/-- the pieces between marks -/
def splitT (m : UInt8) : Tx → List Tx
  | [] => [[]]
  | c :: r => if c == m then [] :: splitT m r else match splitT m r with
    | [] => [[c]]
    | p :: ps => (c :: p) :: ps
def isLet (c : UInt8) : Bool := (decide (97 ≤ c.toNat) && decide (c.toNat ≤ 122)) || (decide (65 ≤ c.toNat) && decide (c.toNat ≤ 90)) || decide (c.toNat = 95)
def isDig (c : UInt8) : Bool := decide (48 ≤ c.toNat) && decide (c.toNat ≤ 57)
/-- has it a label's form -/
def isLbl : Tx → Bool
  | [] => false
  | c :: r => isLet c && r.all fun d => isLet d || isDig d
def digV (c : UInt8) : Nat := if isDig c then c.toNat - 48 else if 97 ≤ c.toNat ∧ c.toNat ≤ 102 then c.toNat - 87 else 16
def numF (b : Nat) : Nat → Tx → Option Nat
  | n, [] => some n
  | n, c :: r => if digV c < b then numF b (n * b + digV c) r else none
def minT (s : Tx) : Bool := Lib.hasPrefix s [45]
def absT (s : Tx) : Tx := Lib.trimPrefix s [45]
def hexT (s : Tx) : Bool := Lib.hasPrefix s [48, 120]
def digT (s : Tx) : Tx := Lib.trimPrefix s [48, 120]
/-- the base, and how many digits at most -/
def basT (s : Tx) : Nat := if hexT s then 16 else 10
def mosT (s : Tx) : Nat := if hexT s then 8 else 10
/-- the number that a text is -/
def numT (s : Tx) : Option Int :=
  if (digT (absT s)).length = 0 ∨ mosT (absT s) < (digT (absT s)).length then none
  else (numF (basT (absT s)) 0 (digT (absT s))).map fun n => if minT s then -(n : Int) else (n : Int)
/-- the register that a text is -/
def regT : Tx → Option Nat
  | [a, b] => if a.toNat = 114 ∧ 48 ≤ b.toNat ∧ b.toNat < 56 then some (b.toNat - 48) else none
  | _ => none
/-- the operation of a name, 0: none -/
def opT (s : Tx) : Nat := ((List.range 27).find? fun n => n != 0 && nm n == s).getD 0
/-- what a line says -/
structure Ln where
  wrong : Bool
  label : Tx
  i : I
  name : Tx
  words : Int
def ln0 : Ln := ⟨false, [], ⟨0, 0, 0, 0⟩, [], 0⟩
def lnBad : Ln := ⟨true, [], ⟨0, 0, 0, 0⟩, [], 0⟩
/-- a field that may be a label or a number within bounds -/
def immT (l : Ln) (f : Tx) (lo hi : Int) : Option Ln :=
  if isLbl f then some { l with name := f }
  else match numT f with
    | some n => if lo ≤ n ∧ n ≤ hi then some { l with i := { l.i with imm := n } } else none
    | none => none
/-- one field of an instruction, by its kind -/
def fldT (lo hi : Int) (l : Ln) (k : Int) (f : Tx) : Option Ln :=
  if k = 2 then immT l f lo hi
  else match regT f with
    | some n => if k = 0 then some { l with i := { l.i with a := n } } else some { l with i := { l.i with b := n } }
    | none => none
def fldsT (lo hi : Int) : Ln → List Int → List Tx → Option Ln
  | l, [], [] => some l
  | l, k :: ks, f :: fs => (fldT lo hi l k f).bind fun l' => fldsT lo hi l' ks fs
  | _, _, _ => none
def kinds (n : Nat) : List Int := (if uA n then [0] else []) ++ (if uB n then [1] else []) ++ (if kd n = 0 then [] else [2])
/-- a name and its fields -/
def stmT (name : Tx) (fs : List Tx) : Option Ln :=
  if name = [46, 119, 111, 114, 100] then match fs with
    | [f] => immT { ln0 with words := 1 } f (-2147483648) 4294967295
    | _ => none
  else if name = [46, 122, 101, 114, 111] then match fs with
    | [f] => match numT f with
      | some n => if 0 ≤ n ∧ n ≤ 512 then some { ln0 with words := n } else none
      | none => none
    | _ => none
  else if opT name = 0 then none
  else if fs.length = (kinds (opT name)).length then fldsT (lo (kd (opT name))) (hi (kd (opT name))) { ln0 with i := ⟨(opT name : Nat), 0, 0, 0⟩, words := 1 } (kinds (opT name)) fs
  else none
def sfT (s : Tx) : List Tx := if trimT s = [] then [] else (splitT 44 (trimT s)).map trimT
/-- what a line has beside its label -/
def stT (s : Tx) : Ln :=
  if s = [] then ln0
  else
    let p := (cutT [32, 9] s).getD (s, [])
    (stmT p.1 (sfT p.2)).getD lnBad
def lineT (s : Tx) : Ln :=
  let t := trimT ((cutT [59] s).getD (s, [])).1
  match cutT [58] t with
  | none => stT t
  | some (a, b) => if isLbl a then { stT (trimT b) with label := a } else lnBad
/-- the words that the lines ahead of line k give -/
def ahd (ls : List Ln) (k : Nat) : Int := ((ls.take k).map (·.words)).sum
/-- the first line with a label -/
def fndT (ls : List Ln) (s : Tx) : Option Nat := ls.findIdx? fun l => l.label == s
end Go.Proofs.YtncbbllmhohnkaaDoor
