import Derived.Test.YtncbbllmhohnkaaDoorI0
import Derived.Lib.ItoaMem
namespace Go.Proofs.YtncbbllmhohnkaaDoor
open Go.RowKit
/-- a digit's sign, of base sixteen -/
def hd (k : Nat) : UInt8 := if k < 10 then UInt8.ofNat (48 + k) else UInt8.ofNat (87 + k)
/-- eight digits -/
def hx8 (n : Nat) : List UInt8 := [hd (n / 268435456 % 16), hd (n / 16777216 % 16), hd (n / 1048576 % 16), hd (n / 65536 % 16), hd (n / 4096 % 16), hd (n / 256 % 16), hd (n / 16 % 16), hd (n % 16)]
/-- the digits without zeros ahead, behind them what is there -/
def hxA : Nat → Nat → List UInt8 → List UInt8
  | 0, u, acc => hd u :: acc
  | f + 1, u, acc => if u < 16 then hd u :: acc else hxA f (u / 16) (hd (u % 16) :: acc)
theorem hxA_len : ∀ (f u : Nat) (acc : List UInt8), acc.length < (hxA f u acc).length ∧ (hxA f u acc).length ≤ acc.length + f + 1
  | 0, u, acc => by simp [hxA]
  | f + 1, u, acc => by
    unfold hxA
    split
    · simp
    · have := hxA_len f (u / 16) (hd (u % 16) :: acc)
      simp at this
      omega
theorem hx_pad (n : Nat) (h : n < 4294967296) : List.replicate (8 - (hxA 7 n []).length) 48 ++ hxA 7 n [] = hx8 n := by
  have z : hd 0 = 48 := rfl
  by_cases h1 : n < 16
  · have e : hxA 7 n [] = [hd n] := by simp [hxA, h1]
    rw [e]
    simp [hx8, List.replicate, show n / 268435456 % 16 = 0 by omega, show n / 16777216 % 16 = 0 by omega, show n / 1048576 % 16 = 0 by omega, show n / 65536 % 16 = 0 by omega, show n / 4096 % 16 = 0 by omega, show n / 256 % 16 = 0 by omega, show n / 16 % 16 = 0 by omega, show n % 16 = n by omega, z]
  by_cases h2 : n / 16 < 16
  · have e : hxA 7 n [] = [hd (n / 16), hd (n % 16)] := by simp [hxA, h1, h2]
    rw [e]
    simp [hx8, List.replicate, show n / 268435456 % 16 = 0 by omega, show n / 16777216 % 16 = 0 by omega, show n / 1048576 % 16 = 0 by omega, show n / 65536 % 16 = 0 by omega, show n / 4096 % 16 = 0 by omega, show n / 256 % 16 = 0 by omega, show n / 16 % 16 = n / 16 by omega, z]
  by_cases h3 : n / 16 / 16 < 16
  · have e : hxA 7 n [] = [hd (n / 16 / 16), hd (n / 16 % 16), hd (n % 16)] := by simp [hxA, h1, h2, h3]
    rw [e]
    simp [hx8, List.replicate, show n / 268435456 % 16 = 0 by omega, show n / 16777216 % 16 = 0 by omega, show n / 1048576 % 16 = 0 by omega, show n / 65536 % 16 = 0 by omega, show n / 4096 % 16 = 0 by omega, show n / 256 % 16 = n / 16 / 16 by omega, z]
  by_cases h4 : n / 16 / 16 / 16 < 16
  · have e : hxA 7 n [] = [hd (n / 16 / 16 / 16), hd (n / 16 / 16 % 16), hd (n / 16 % 16), hd (n % 16)] := by simp [hxA, h1, h2, h3, h4]
    rw [e]
    simp [hx8, List.replicate, show n / 268435456 % 16 = 0 by omega, show n / 16777216 % 16 = 0 by omega, show n / 1048576 % 16 = 0 by omega, show n / 65536 % 16 = 0 by omega, show n / 4096 % 16 = n / 16 / 16 / 16 by omega, show n / 256 % 16 = n / 16 / 16 % 16 by omega, z]
  by_cases h5 : n / 16 / 16 / 16 / 16 < 16
  · have e : hxA 7 n [] = [hd (n / 16 / 16 / 16 / 16), hd (n / 16 / 16 / 16 % 16), hd (n / 16 / 16 % 16), hd (n / 16 % 16), hd (n % 16)] := by simp [hxA, h1, h2, h3, h4, h5]
    rw [e]
    simp [hx8, List.replicate, show n / 268435456 % 16 = 0 by omega, show n / 16777216 % 16 = 0 by omega, show n / 1048576 % 16 = 0 by omega, show n / 65536 % 16 = n / 16 / 16 / 16 / 16 by omega, show n / 4096 % 16 = n / 16 / 16 / 16 % 16 by omega, show n / 256 % 16 = n / 16 / 16 % 16 by omega, z]
  by_cases h6 : n / 16 / 16 / 16 / 16 / 16 < 16
  · have e : hxA 7 n [] = [hd (n / 16 / 16 / 16 / 16 / 16), hd (n / 16 / 16 / 16 / 16 % 16), hd (n / 16 / 16 / 16 % 16), hd (n / 16 / 16 % 16), hd (n / 16 % 16), hd (n % 16)] := by simp [hxA, h1, h2, h3, h4, h5, h6]
    rw [e]
    simp [hx8, List.replicate, show n / 268435456 % 16 = 0 by omega, show n / 16777216 % 16 = 0 by omega, show n / 1048576 % 16 = n / 16 / 16 / 16 / 16 / 16 by omega, show n / 65536 % 16 = n / 16 / 16 / 16 / 16 % 16 by omega, show n / 4096 % 16 = n / 16 / 16 / 16 % 16 by omega, show n / 256 % 16 = n / 16 / 16 % 16 by omega, z]
  by_cases h7 : n / 16 / 16 / 16 / 16 / 16 / 16 < 16
  · have e : hxA 7 n [] = [hd (n / 16 / 16 / 16 / 16 / 16 / 16), hd (n / 16 / 16 / 16 / 16 / 16 % 16), hd (n / 16 / 16 / 16 / 16 % 16), hd (n / 16 / 16 / 16 % 16), hd (n / 16 / 16 % 16), hd (n / 16 % 16), hd (n % 16)] := by simp [hxA, h1, h2, h3, h4, h5, h6, h7]
    rw [e]
    simp [hx8, show n / 268435456 % 16 = 0 by omega, show n / 16777216 % 16 = n / 16 / 16 / 16 / 16 / 16 / 16 by omega, show n / 1048576 % 16 = n / 16 / 16 / 16 / 16 / 16 % 16 by omega, show n / 65536 % 16 = n / 16 / 16 / 16 / 16 % 16 by omega, show n / 4096 % 16 = n / 16 / 16 / 16 % 16 by omega, show n / 256 % 16 = n / 16 / 16 % 16 by omega, z]
  · have e : hxA 7 n [] = [hd (n / 16 / 16 / 16 / 16 / 16 / 16 / 16), hd (n / 16 / 16 / 16 / 16 / 16 / 16 % 16), hd (n / 16 / 16 / 16 / 16 / 16 % 16), hd (n / 16 / 16 / 16 / 16 % 16), hd (n / 16 / 16 / 16 % 16), hd (n / 16 / 16 % 16), hd (n / 16 % 16), hd (n % 16)] := by simp [hxA, h1, h2, h3, h4, h5, h6, h7]
    rw [e]
    simp [hx8, show n / 268435456 % 16 = n / 16 / 16 / 16 / 16 / 16 / 16 / 16 by omega, show n / 16777216 % 16 = n / 16 / 16 / 16 / 16 / 16 / 16 % 16 by omega, show n / 1048576 % 16 = n / 16 / 16 / 16 / 16 / 16 % 16 by omega, show n / 65536 % 16 = n / 16 / 16 / 16 / 16 % 16 by omega, show n / 4096 % 16 = n / 16 / 16 / 16 % 16 by omega, show n / 256 % 16 = n / 16 / 16 % 16 by omega]
theorem hd_toNat (k : Nat) (h : k < 16) : (hd k).toNat = if k < 10 then 48 + k else 87 + k := by
  unfold hd; split <;> (simp; omega)
theorem hxA_stop {f u : Nat} {acc : List UInt8} (h : u < 16) : hxA f u acc = hd u :: acc := by
  cases f with
  | zero => rfl
  | succ f => simp [hxA, h]
theorem hxA_go {f u : Nat} {acc : List UInt8} (h : ¬ u < 16) : hxA (f + 1) u acc = hxA f (u / 16) (hd (u % 16) :: acc) := by simp [hxA, h]
/-- the fields of an instruction, as texts -/
def flds (i : I) : List (List UInt8) := (if uA i.op.toNat then [114 :: Lib.itoa i.a] else []) ++ (if uB i.op.toNat then [114 :: Lib.itoa i.b] else []) ++ (if kd i.op.toNat = 0 then [] else [Lib.itoa i.imm])
/-- texts, one behind the other, a mark ahead of each -/
def jn : List UInt8 → List (List UInt8) → List UInt8
  | _, [] => []
  | sep, f :: r => sep ++ (f ++ jn [44, 32] r)
/-- the line of a word -/
def tl (n : Nat) : List UInt8 := if isI (parts n) then nm (parts n).op.toNat ++ jn [32] (flds (parts n)) else [46, 119, 111, 114, 100, 32, 48, 120] ++ hx8 n
/-- the text of words -/
def tls : List Nat → List UInt8
  | [] => []
  | n :: r => tl n ++ 10 :: tls r
theorem tls_append (a b : List Nat) : tls (a ++ b) = tls a ++ tls b := by
  induction a with
  | nil => rfl
  | cons x r ih => simp [tls, ih]
theorem tls_one (a : List Nat) (n : Nat) : tls (a ++ [n]) = tls a ++ tl n ++ [10] := by rw [tls_append]; simp [tls]
end Go.Proofs.YtncbbllmhohnkaaDoor
