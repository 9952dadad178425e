import Derived.Lib.ItoaMem
import Derived.Test.YtbfagiofhakjnaaDoorMA00
namespace Go.Proofs.YtbfagiofhakjnaaDoor
open Go.RowKit
/-- a digit's sign, of base sixteen -/
def hd (k : Nat) : UInt8 := if k < 10 then UInt8.ofNat (48 + k) else UInt8.ofNat (87 + k)
/-- eight digits -/
def hx8 (n : Nat) : List UInt8 := [hd (n / 268435456 % 16), hd (n / 16777216 % 16), hd (n / 1048576 % 16), hd (n / 65536 % 16), hd (n / 4096 % 16), hd (n / 256 % 16), hd (n / 16 % 16), hd (n % 16)]
/-- the digits without zeros ahead, behind them what is there -/
def hxA : Nat → Nat → List UInt8 → List UInt8
  | 0, u, acc => hd u :: acc
  | f + 1, u, acc => if u < 16 then hd u :: acc else hxA f (u / 16) (hd (u % 16) :: acc)
theorem hxA_len : ∀ (f u : Nat) (acc : List UInt8), acc.length < (hxA f u acc).length ∧ (hxA f u acc).length ≤ acc.length + f + 1
  | 0, u, acc => by simp [hxA]
  | f + 1, u, acc => by
    unfold hxA
    split
    · simp
    · have := hxA_len f (u / 16) (hd (u % 16) :: acc)
      simp at this
      omega
theorem hx_pad (n : Nat) (h : n < 4294967296) : List.replicate (8 - (hxA 7 n []).length) 48 ++ hxA 7 n [] = hx8 n := by
  have z : hd 0 = 48 := rfl
  by_cases h1 : n < 16
  · have e : hxA 7 n [] = [hd n] := by simp [hxA, h1]
    rw [e]
    simp [hx8, List.replicate, show n / 268435456 % 16 = 0 by omega, show n / 16777216 % 16 = 0 by omega, show n / 1048576 % 16 = 0 by omega, show n / 65536 % 16 = 0 by omega, show n / 4096 % 16 = 0 by omega, show n / 256 % 16 = 0 by omega, show n / 16 % 16 = 0 by omega, show n % 16 = n by omega, z]
  by_cases h2 : n / 16 < 16
  · have e : hxA 7 n [] = [hd (n / 16), hd (n % 16)] := by simp [hxA, h1, h2]
    rw [e]
    simp [hx8, List.replicate, show n / 268435456 % 16 = 0 by omega, show n / 16777216 % 16 = 0 by omega, show n / 1048576 % 16 = 0 by omega, show n / 65536 % 16 = 0 by omega, show n / 4096 % 16 = 0 by omega, show n / 256 % 16 = 0 by omega, show n / 16 % 16 = n / 16 by omega, z]
  by_cases h3 : n / 16 / 16 < 16
  · have e : hxA 7 n [] = [hd (n / 16 / 16), hd (n / 16 % 16), hd (n % 16)] := by simp [hxA, h1, h2, h3]
    rw [e]
    simp [hx8, List.replicate, show n / 268435456 % 16 = 0 by omega, show n / 16777216 % 16 = 0 by omega, show n / 1048576 % 16 = 0 by omega, show n / 65536 % 16 = 0 by omega, show n / 4096 % 16 = 0 by omega, show n / 256 % 16 = n / 16 / 16 by omega, z]
  by_cases h4 : n / 16 / 16 / 16 < 16
  · have e : hxA 7 n [] = [hd (n / 16 / 16 / 16), hd (n / 16 / 16 % 16), hd (n / 16 % 16), hd (n % 16)] := by simp [hxA, h1, h2, h3, h4]
    rw [e]
    simp [hx8, List.replicate, show n / 268435456 % 16 = 0 by omega, show n / 16777216 % 16 = 0 by omega, show n / 1048576 % 16 = 0 by omega, show n / 65536 % 16 = 0 by omega, show n / 4096 % 16 = n / 16 / 16 / 16 by omega, show n / 256 % 16 = n / 16 / 16 % 16 by omega, z]
  by_cases h5 : n / 16 / 16 / 16 / 16 < 16
  · have e : hxA 7 n [] = [hd (n / 16 / 16 / 16 / 16), hd (n / 16 / 16 / 16 % 16), hd (n / 16 / 16 % 16), hd (n / 16 % 16), hd (n % 16)] := by simp [hxA, h1, h2, h3, h4, h5]
    rw [e]
    simp [hx8, List.replicate, show n / 268435456 % 16 = 0 by omega, show n / 16777216 % 16 = 0 by omega, show n / 1048576 % 16 = 0 by omega, show n / 65536 % 16 = n / 16 / 16 / 16 / 16 by omega, show n / 4096 % 16 = n / 16 / 16 / 16 % 16 by omega, show n / 256 % 16 = n / 16 / 16 % 16 by omega, z]
  by_cases h6 : n / 16 / 16 / 16 / 16 / 16 < 16
  · have e : hxA 7 n [] = [hd (n / 16 / 16 / 16 / 16 / 16), hd (n / 16 / 16 / 16 / 16 % 16), hd (n / 16 / 16 / 16 % 16), hd (n / 16 / 16 % 16), hd (n / 16 % 16), hd (n % 16)] := by simp [hxA, h1, h2, h3, h4, h5, h6]
    rw [e]
    simp [hx8, List.replicate, show n / 268435456 % 16 = 0 by omega, show n / 16777216 % 16 = 0 by omega, show n / 1048576 % 16 = n / 16 / 16 / 16 / 16 / 16 by omega, show n / 65536 % 16 = n / 16 / 16 / 16 / 16 % 16 by omega, show n / 4096 % 16 = n / 16 / 16 / 16 % 16 by omega, show n / 256 % 16 = n / 16 / 16 % 16 by omega, z]
  by_cases h7 : n / 16 / 16 / 16 / 16 / 16 / 16 < 16
  · have e : hxA 7 n [] = [hd (n / 16 / 16 / 16 / 16 / 16 / 16), hd (n / 16 / 16 / 16 / 16 / 16 % 16), hd (n / 16 / 16 / 16 / 16 % 16), hd (n / 16 / 16 / 16 % 16), hd (n / 16 / 16 % 16), hd (n / 16 % 16), hd (n % 16)] := by simp [hxA, h1, h2, h3, h4, h5, h6, h7]
    rw [e]
    simp [hx8, show n / 268435456 % 16 = 0 by omega, show n / 16777216 % 16 = n / 16 / 16 / 16 / 16 / 16 / 16 by omega, show n / 1048576 % 16 = n / 16 / 16 / 16 / 16 / 16 % 16 by omega, show n / 65536 % 16 = n / 16 / 16 / 16 / 16 % 16 by omega, show n / 4096 % 16 = n / 16 / 16 / 16 % 16 by omega, show n / 256 % 16 = n / 16 / 16 % 16 by omega, z]
  · have e : hxA 7 n [] = [hd (n / 16 / 16 / 16 / 16 / 16 / 16 / 16), hd (n / 16 / 16 / 16 / 16 / 16 / 16 % 16), hd (n / 16 / 16 / 16 / 16 / 16 % 16), hd (n / 16 / 16 / 16 / 16 % 16), hd (n / 16 / 16 / 16 % 16), hd (n / 16 / 16 % 16), hd (n / 16 % 16), hd (n % 16)] := by simp [hxA, h1, h2, h3, h4, h5, h6, h7]
    rw [e]
    simp [hx8, show n / 268435456 % 16 = n / 16 / 16 / 16 / 16 / 16 / 16 / 16 by omega, show n / 16777216 % 16 = n / 16 / 16 / 16 / 16 / 16 / 16 % 16 by omega, show n / 1048576 % 16 = n / 16 / 16 / 16 / 16 / 16 % 16 by omega, show n / 65536 % 16 = n / 16 / 16 / 16 / 16 % 16 by omega, show n / 4096 % 16 = n / 16 / 16 / 16 % 16 by omega, show n / 256 % 16 = n / 16 / 16 % 16 by omega]
theorem hd_toNat (k : Nat) (h : k < 16) : (hd k).toNat = if k < 10 then 48 + k else 87 + k := by
  unfold hd; split <;> (simp; omega)
theorem hxA_stop {f u : Nat} {acc : List UInt8} (h : u < 16) : hxA f u acc = hd u :: acc := by
  cases f with
  | zero => rfl
  | succ f => simp [hxA, h]
theorem hxA_go {f u : Nat} {acc : List UInt8} (h : ¬ u < 16) : hxA (f + 1) u acc = hxA f (u / 16) (hd (u % 16) :: acc) := by simp [hxA, h]
/-- the fields of an instruction, as texts -/
def flds (i : I) : List (List UInt8) := (if uA i.op.toNat then [114 :: Lib.itoa i.a] else []) ++ (if uB i.op.toNat then [114 :: Lib.itoa i.b] else []) ++ (if kd i.op.toNat = 0 then [] else [Lib.itoa i.imm])
/-- texts, one behind the other, a mark ahead of each -/
def jn : List UInt8 → List (List UInt8) → List UInt8
  | _, [] => []
  | sep, f :: r => sep ++ (f ++ jn [44, 32] r)
/-- the line of a word -/
def tl (n : Nat) : List UInt8 := if isI (parts n) then nm (parts n).op.toNat ++ jn [32] (flds (parts n)) else [46, 119, 111, 114, 100, 32, 48, 120] ++ hx8 n
/-- the text of words -/
def tls : List Nat → List UInt8
  | [] => []
  | n :: r => tl n ++ 10 :: tls r
theorem tls_append (a b : List Nat) : tls (a ++ b) = tls a ++ tls b := by
  induction a with
  | nil => rfl
  | cons x r ih => simp [tls, ih]
theorem tls_one (a : List Nat) (n : Nat) : tls (a ++ [n]) = tls a ++ tl n ++ [10] := by rw [tls_append]; simp [tls]
end Go.Proofs.YtbfagiofhakjnaaDoor

namespace Go.Proofs.YtbfagiofhakjnaaDoor
open Go.RowKit
theorem bel1 (w : World) (o : Obj) : Below w.heap.size w (w.alloc o) := (Below.refl _ _).alloc (Nat.le_refl _) _
theorem bel2 (w : World) (o o' : Obj) : Below w.heap.size w ((w.alloc o).alloc o') := (bel1 w o).trans ((bel1 _ o').mono (by simp))
theorem info_op : (Tryd.prog.info? 97).map (·.size) = some 4 := by kernel_rfl
section
variable (w : World)
set_option maxHeartbeats 1000000 in
theorem isInstr_any (i : I) (hO : Ops w) : Calls Tryd.prog 52 #[.agg i.cells.toArray] w fun e w' => e = .returned (.bool (isI i)) ∧ Below w.heap.size w w' := by
  obtain ⟨op, a, b, imm⟩ := i
  simp only [I.cells]
  by_cases ho : 1 ≤ op ∧ op < 27
  · obtain ⟨h1, h2⟩ := ho
    obtain ⟨n, rfl⟩ := Int.eq_ofNat_of_zero_le (show 0 ≤ op by omega)
    have hn : n < 27 := by omega
    obtain ⟨s, c0, _⟩ := hO.s n hn
    have c1 := hO.a n hn
    have c2 := hO.b n hn
    have c3 := hO.k n hn
    have hk := kd_le n
    have HS : Hid (isI ⟨(n : Int), a, b, imm⟩ = (fitsB a (uA n) && fitsB b (uB n) && decide (lo (kd n) ≤ imm) && decide (imm ≤ hi (kd n)))) := by
      apply hide; simp [isI, h1, h2]
    have hlt := hO.lt
    clear hO
    generalize uA n = u at *
    generalize uB n = v at *
    generalize kd n = k at *
    have hO : (decide (1 ≤ (n : Int)) && decide ((n : Int) < 27)) = true := by simp; omega
    go_enter Tryd.func52, Tryd.ntmps52
    go_wp2_with fail
    refine (isOp_any _ _).mono ?_
    rintro e w1 ⟨rfl, rfl⟩
    go_wp2_with fail
    refine (bounds_any _ k hk).mono ?_
    rintro e w2 ⟨rfl, rfl⟩
    go_wp2_with fail
    refine (fits_any _ a u).mono ?_
    rintro e w2 ⟨rfl, rfl⟩
    rcases hx : fitsB a u with _ | _
    · rw [hx] at HS
      go_wp2
      go_ret
      exact ⟨by rw [HS.out]; rfl, bel2 _ _ _⟩
    · rw [hx] at HS
      go_wp2_with fail
      refine (fits_any _ b v).mono ?_
      rintro e w2 ⟨rfl, rfl⟩
      rcases hy : fitsB b v with _ | _
      · rw [hy] at HS
        go_wp2
        go_ret
        exact ⟨by rw [HS.out]; rfl, bel2 _ _ _⟩
      · rw [hy] at HS
        by_cases hl : lo k ≤ imm
        · by_cases hh : imm ≤ hi k
          · go_wp2
            go_ret
            exact ⟨by rw [HS.out]; simp [hl, hh], bel2 _ _ _⟩
          · go_wp2
            go_ret
            exact ⟨by rw [HS.out]; simp; omega, bel2 _ _ _⟩
        · go_wp2
          go_ret
          exact ⟨by rw [HS.out]; simp; omega, bel2 _ _ _⟩
  · have hO2 : (decide (1 ≤ op) && decide (op < 27)) = false := by simp; omega
    have HS : Hid (isI ⟨op, a, b, imm⟩ = false) := by apply hide; simp [isI]; omega
    go_enter Tryd.func52, Tryd.ntmps52
    go_wp2_with fail
    refine (isOp_any _ _).mono ?_
    rintro e w1 ⟨rfl, rfl⟩
    go_wp2
    go_ret
    exact ⟨by rw [HS.out]; rfl, (Below.refl _ _).alloc (Nat.le_refl _) _⟩
end
end Go.Proofs.YtbfagiofhakjnaaDoor

namespace Go.Proofs.YtbfagiofhakjnaaDoor
open Go.RowKit
theorem wraps_u32 (n : Int) (h₀ : 0 ≤ n) (h₁ : n < 2 ^ 32) : IntKind.u32.wrap n = n := by rw [IntKind.wrap_u32]; omega
theorem u32_mask (i : Nat) (hi : i ≤ 32) (x : Int) (h₀ : 0 ≤ x) (h₁ : x < 4294967296) : bits .and .u32 x (2 ^ i - 1) = x % 2 ^ i := bits_mask .u32 32 (by decide) wraps_u32 i hi x h₀ h₁
theorem wrap_i16 (n : Int) : IntKind.i16.wrap n = (n + 32768) % 65536 - 32768 := by
  simp [IntKind.wrap, IntKind.bits, IntKind.signed]
  split <;> omega
theorem results_row2 {P : Program} {fn : Func} {p u : Tmp} {ty : TypeId} (h : fn.results = #[.cell p ty, .tmp u]) (tmps : Array Value) (w : World) (g : Nat) (t : TypeId) (cs : Array Value) (fr : Nat × Nat) (d : TypeDesc)
    (hp : tmps.getD p undef = .pointer (some ⟨g, 0, none⟩)) (hg : w.heap[g]? = some (.cells cs t fr))
    (hu : P.underlying ty = some d) (hd : (match d with | .struct _ | .array _ _ => true | _ => false) = true) (hi : (P.info? ty).map (·.size) = some cs.size) :
    (results fn tmps).run P w = .ok (.tuple #[.agg cs, tmps.getD u undef]) w := by
  rw [results_cell_tmp h, hp]
  simp [asAddr, run_loadVar_row w g t ty cs fr d hg hu hd hi]
theorem below_setRow {w wr : World} {g : Nat} (h : Below w.heap.size w wr) (hg : w.heap.size ≤ g) (cs : Array Value) : Below w.heap.size w (wr.setRow g cs) :=
  ⟨h.os, h.tape, h.output, by simp [World.setRow]; exact h.size, fun k hk => by rw [setRow_other wr g k cs (by omega)]; exact h.block k hk⟩
theorem two_blocks {w w1 : World} {o o' : Obj} (hb : Below ((w.alloc o).alloc o').heap.size ((w.alloc o).alloc o') w1) : w1.heap[w.heap.size]? = some o ∧ w1.heap[w.heap.size + 1]? = some o' ∧ Below w.heap.size w w1 := by
  have s1 : (w.alloc o).heap.size = w.heap.size + 1 := by simp
  refine ⟨?_, ?_, (bel2 w o o').trans (hb.mono (by simp; omega))⟩
  · rw [hb.block _ (by simp; omega), (bel1 (w.alloc o) o').block _ (by simp)]; exact heap_alloc_last _ _
  · rw [hb.block _ (by simp), ← s1]; exact heap_alloc_last _ _
theorem set4 {w1 : World} {N : Nat} {o0 o1 o2 o3 : Value} {t : TypeId} (q : w1.heap[N]? = some (.cells #[o0, o1, o2, o3] t (0, 0))) (a b c d : Value) :
    ((((w1.setCell ⟨N, 0, none⟩ a).setCell ⟨N, 1, none⟩ b).setCell ⟨N, 2, none⟩ c).setCell ⟨N, 3, none⟩ d).heap[N]? = some (.cells #[a, b, c, d] t (0, 0)) := by
  have e1 := heap_setCell_same w1 N 0 _ t a q
  have e2 := heap_setCell_same _ N 1 _ t b e1
  have e3 := heap_setCell_same _ N 2 _ t c e2
  have e4 := heap_setCell_same _ N 3 _ t d e3
  exact e4
theorem bel_set4 {w w1 : World} (h : Below w.heap.size w w1) (a b c d : Value) :
    Below w.heap.size w ((((w1.setCell ⟨w.heap.size, 0, none⟩ a).setCell ⟨w.heap.size, 1, none⟩ b).setCell ⟨w.heap.size, 2, none⟩ c).setCell ⟨w.heap.size, 3, none⟩ d) :=
  (((h.setCell (Nat.le_refl _) _).setCell (Nat.le_refl _) _).setCell (Nat.le_refl _) _).setCell (Nat.le_refl _) _
theorem info_instr : (Tryd.prog.info? 33).map (·.size) = some 4 := by kernel_rfl
theorem decI_no {n : Nat} {i : I} (h : parts n = i) (hx : isI i = false) : decI n = ⟨0, 0, 0, 0⟩ ∧ decE n = 70 := by
  unfold decI decE; rw [h, hx]; exact ⟨rfl, rfl⟩
theorem decI_yes {n : Nat} {i : I} (h : parts n = i) (hx : isI i = true) : decI n = i ∧ decE n = 0 := by
  unfold decI decE; rw [h, hx]; exact ⟨rfl, rfl⟩
theorem bcell {W w1 : World} (hb : Below W.heap.size W w1) : (∀ b o, b < W.heap.size → w1.cell? ⟨b, o, none⟩ = W.cell? ⟨b, o, none⟩) ∧ (∀ b o, b < W.heap.size → w1.frozen? ⟨b, o, none⟩ = W.frozen? ⟨b, o, none⟩) :=
  ⟨fun b o h => hb.cell (p := ⟨b, o, none⟩) h, fun b o h => hb.frozen (p := ⟨b, o, none⟩) h⟩
section
variable (w : World)
end
end Go.Proofs.YtbfagiofhakjnaaDoor
