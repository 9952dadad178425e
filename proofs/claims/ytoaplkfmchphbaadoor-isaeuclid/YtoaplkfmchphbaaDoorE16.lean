import Derived.Test.YtoaplkfmchphbaaDoorE00
import Derived.Test.YtoaplkfmchphbaaDoorE01
namespace Go.Proofs.YtoaplkfmchphbaaDoor
open Go.RowKit
/-- the cells of eight registers and the program counter -/
def rgR (R : Nat → Nat) : List Value := (List.range 8).map fun i => Value.int .u32 (R i : Nat)
def rg (R : Nat → Nat) (pc : Nat) : List Value := rgR R ++ [.int .u32 (pc : Nat)]
structure RgOk (R : Nat → Nat) (pc : Nat) : Prop where
  r : ∀ i, i < 8 → R i < 4294967296
  p : pc < 4294967296
def put (R : Nat → Nat) (a v : Nat) : Nat → Nat := fun j => if j = a then v else R j
theorem rgR_len (R : Nat → Nat) : (rgR R).length = 8 := by simp [rgR]
theorem rg_len (R : Nat → Nat) (pc : Nat) : (rg R pc).length = 9 := by simp [rg, rgR]
theorem rg_size (R : Nat → Nat) (pc : Nat) : (rg R pc).toArray.size = 9 := by simp [rg_len]
theorem rg_get (R : Nat → Nat) (pc : Nat) {a : Nat} (h : a < 8) : (rg R pc)[a]? = some (.int .u32 (R a : Nat)) := by
  unfold rg; rw [List.getElem?_append_left (by rw [rgR_len]; exact h)]; simp [rgR, h]
theorem rg_pc (R : Nat → Nat) (pc : Nat) : (rg R pc)[8]? = some (.int .u32 (pc : Nat)) := by
  unfold rg; rw [List.getElem?_append_right (by rw [rgR_len]; omega), rgR_len]; rfl
theorem rg_ext {cs : List Value} {R : Nat → Nat} {pc : Nat} (hl : cs.length = 9) (h : ∀ a, a < 8 → cs[a]? = some (.int .u32 (R a : Nat))) (hp : cs[8]? = some (.int .u32 (pc : Nat))) : cs = rg R pc := by
  apply List.ext_getElem?
  intro j
  by_cases hj : j < 8
  · rw [h j hj, rg_get R pc hj]
  · by_cases h8 : j = 8
    · subst h8; rw [hp, rg_pc]
    · rw [List.getElem?_eq_none (by omega), List.getElem?_eq_none (by rw [rg_len]; omega)]
theorem rg_put (R : Nat → Nat) (pc : Nat) {a : Nat} (h : a < 8) (v : Nat) : (rg R pc).set a (.int .u32 (v : Nat)) = rg (put R a v) pc := by
  refine rg_ext (by rw [List.length_set, rg_len]) (fun j hj => ?_) ?_
  · rw [List.getElem?_set]
    split
    · rename_i e; subst e; simp [rg_len, put]; omega
    · rw [rg_get R pc hj]; simp [put]; rw [if_neg (by omega)]
  · rw [List.getElem?_set_ne (by omega), rg_pc]
theorem rg_setpc (R : Nat → Nat) (pc v : Nat) : (rg R pc).set 8 (.int .u32 (v : Nat)) = rg R v := by
  refine rg_ext (by rw [List.length_set, rg_len]) (fun j hj => ?_) ?_
  · rw [List.getElem?_set_ne (by omega), rg_get R pc hj]
  · rw [List.getElem?_set]; simp [rg_len]
theorem rg_ones (R : Nat → Nat) (pc : Nat) : ∀ u ∈ rg R pc, u.oneCell' = true := by
  intro u hu
  simp [rg, rgR] at hu
  rcases hu with ⟨i, _, rfl⟩ | rfl <;> rfl
theorem rg_one (R : Nat → Nat) (pc : Nat) : (rg R pc).toArray.all (·.oneCell') = true := all_oneCell_toArray (rg_ones R pc)
theorem rg_congr {R R' : Nat → Nat} {pc : Nat} (h : ∀ i, i < 8 → R i = R' i) : rg R pc = rg R' pc :=
  rg_ext (rg_len _ _) (fun a ha => by rw [rg_get _ _ ha, h a ha]) (rg_pc _ _)
theorem put_same (R : Nat → Nat) (a : Nat) : put R a (R a) = R := by
  funext j; unfold put; split
  · rename_i e; rw [e]
  · rfl
theorem rg_zero : (#[.int .u32 0, .int .u32 0, .int .u32 0, .int .u32 0, .int .u32 0, .int .u32 0, .int .u32 0, .int .u32 0, .int .u32 0] : Array Value) = (rg (fun _ => 0) 0).toArray := rfl
theorem info_regs : (Tryd.prog.info? 32).map (·.size) = some 9 := by kernel_rfl
theorem info_rg (R : Nat → Nat) (pc : Nat) : (Tryd.prog.info? 32).map (·.size) = some (rg R pc).toArray.size := by rw [rg_size]; exact info_regs
/-- registers at block N -/
structure Rb (w : World) (N : Nat) (R : Nat → Nat) (pc : Nat) : Prop where
  out : w.heap[N]? = some (.cells (rg R pc).toArray 32 (0, 0))
section
variable {w w' : World} {N : Nat} {R : Nat → Nat} {pc : Nat}
theorem Rb.get (h : Rb w N R pc) {j : Nat} {v : Value} (hv : (rg R pc)[j]? = some v) : w.cell? ⟨N, j, none⟩ = some v := by
  rw [cell_of_row _ _ _ _ _ _ h.out]; simpa using hv
theorem Rb.r (h : Rb w N R pc) {a : Nat} (ha : a < 8) : w.cell? ⟨N, a, none⟩ = some (.int .u32 (R a : Nat)) := h.get (rg_get R pc ha)
theorem Rb.p (h : Rb w N R pc) : w.cell? ⟨N, 8, none⟩ = some (.int .u32 (pc : Nat)) := h.get (rg_pc R pc)
theorem Rb.nine (h : Rb w N R pc) : w.cell? ⟨N, 0, none⟩ = some (.int .u32 (R 0 : Nat)) ∧ w.cell? ⟨N, 1, none⟩ = some (.int .u32 (R 1 : Nat)) ∧ w.cell? ⟨N, 2, none⟩ = some (.int .u32 (R 2 : Nat)) ∧ w.cell? ⟨N, 3, none⟩ = some (.int .u32 (R 3 : Nat)) ∧ w.cell? ⟨N, 4, none⟩ = some (.int .u32 (R 4 : Nat)) ∧ w.cell? ⟨N, 5, none⟩ = some (.int .u32 (R 5 : Nat)) ∧ w.cell? ⟨N, 6, none⟩ = some (.int .u32 (R 6 : Nat)) ∧ w.cell? ⟨N, 7, none⟩ = some (.int .u32 (R 7 : Nat)) ∧ w.cell? ⟨N, 8, none⟩ = some (.int .u32 (pc : Nat)) :=
  ⟨h.r (by omega), h.r (by omega), h.r (by omega), h.r (by omega), h.r (by omega), h.r (by omega), h.r (by omega), h.r (by omega), h.p⟩
theorem Rb.lt (h : Rb w N R pc) : N < w.heap.size := (Array.getElem?_eq_some_iff.1 h.out).1
theorem Rb.frz (h : Rb w N R pc) (o : Nat) : w.frozen? ⟨N, o, none⟩ = false := frozen_of_row w N o _ _ h.out
theorem Rb.keep (h : Rb w N R pc) (hB : w'.heap[N]? = w.heap[N]?) : Rb w' N R pc := ⟨by rw [hB]; exact h.out⟩
theorem Rb.below (h : Rb w N R pc) (hb : Below w.heap.size w w') : Rb w' N R pc := h.keep (hb.block N h.lt)
theorem Rb.new (w : World) (R : Nat → Nat) (pc : Nat) : Rb (w.alloc (.cells (rg R pc).toArray 32)) w.heap.size R pc := ⟨heap_alloc_last _ _⟩
theorem Rb.put (h : Rb w N R pc) {a : Nat} (ha : a < 8) (v : Nat) : Rb (w.setCell ⟨N, a, none⟩ (.int .u32 (v : Nat))) N (put R a v) pc := by
  refine ⟨?_⟩
  rw [heap_setCell_same w N a _ _ _ h.out, ← rg_put R pc ha v]
  simp
theorem Rb.setpc (h : Rb w N R pc) (v : Nat) : Rb (w.setCell ⟨N, 8, none⟩ (.int .u32 (v : Nat))) N R v := by
  refine ⟨?_⟩
  rw [heap_setCell_same w N 8 _ _ _ h.out, ← rg_setpc R pc v]
  simp
end
theorem eq_rgR (R : Nat → Nat) (d : Nat) (w : World) : (Op.equalIn (d + 2) 30 (.agg (rgR R).toArray) (.agg (rgR R).toArray)).run Tryd.prog w = .ok true w := by
  rw [show d + 2 = (d + 1) + 1 from rfl, Op.equalIn]
  simp only [Sem.run_bind, run_underlying Tryd.underlying30, Result.andThen_ok, Tryd.sizeOf29, Std.Legacy.Range.forIn_eq_forIn_range', Std.Legacy.Range.size, Nat.sub_zero, Nat.add_sub_cancel, Nat.div_one]
  have hl : ∀ i ∈ List.range' 0 8 1, i < 8 := fun i hi => by simpa using (List.mem_range'_1.1 hi).2
  generalize List.range' 0 8 1 = l at hl ⊢
  induction l with
  | nil => simp
  | cons i l ih =>
    have hi : i < 8 := hl i (by simp)
    have hg : (rgR R)[i]? = some (.int .u32 (R i : Nat)) := by simp [rgR, hi]
    have px : (part 29 (rgR R).toArray (i * 1)).run Tryd.prog w = .ok (.int .u32 (R i : Nat)) w := by
      simp [part, isAgg, run_underlying Tryd.underlying29, hg]
    have pe : (Op.equalIn (d + 1) 29 (.int .u32 (R i : Nat)) (.int .u32 (R i : Nat))).run Tryd.prog w = .ok true w := by
      rw [run_equalIn_int w d 29 .u32 .u32 _ _ Tryd.underlying29]
      simp
    simp only [List.forIn_cons, Sem.run_bind, px, pe, Result.andThen_ok, Bool.not_true, Bool.false_eq_true, if_false, Sem.run_pure]
    exact ih fun j hj => hl j (by simp [hj])
theorem rgR_eight (R : Nat → Nat) : (rgR R).toArray = #[.int .u32 (R 0 : Nat), .int .u32 (R 1 : Nat), .int .u32 (R 2 : Nat), .int .u32 (R 3 : Nat), .int .u32 (R 4 : Nat), .int .u32 (R 5 : Nat), .int .u32 (R 6 : Nat), .int .u32 (R 7 : Nat)] := rfl
set_option maxRecDepth 100000 in
theorem eq_rg (R : Nat → Nat) (pc : Nat) (w : World) : (Op.equalIn 10000 32 (.agg (rg R pc).toArray) (.agg (rg R pc).toArray)).run Tryd.prog w = .ok true w := by
  have e : (rg R pc).toArray = #[.int .u32 (R 0 : Nat), .int .u32 (R 1 : Nat), .int .u32 (R 2 : Nat), .int .u32 (R 3 : Nat), .int .u32 (R 4 : Nat), .int .u32 (R 5 : Nat), .int .u32 (R 6 : Nat), .int .u32 (R 7 : Nat), .int .u32 (pc : Nat)] := rfl
  have h := eq_rgR R 9997 w
  rw [rgR_eight] at h
  rw [e]
  simp [go_sem, h]
end Go.Proofs.YtoaplkfmchphbaaDoor

namespace Go.Proofs.YtoaplkfmchphbaaDoor
open Go.RowKit
/-- a word as a two's complement -/
def sg (x : Nat) : Int := if x < 2147483648 then (x : Int) else (x : Int) - 4294967296
/-- what register a becomes -/
def res (op x y imm : Nat) : Nat :=
  match op with
  | 2 => imm
  | 3 => imm * 65536 % 4294967296 + x % 65536
  | 4 => y
  | 5 => (x + y) % 4294967296
  | 6 => (((x : Int) - (y : Int)) % 4294967296).toNat
  | 7 => x * y % 4294967296
  | 8 => x / y
  | 9 => x % y
  | 10 => x &&& y
  | 11 => x ||| y
  | 12 => x ^^^ y
  | 13 => if y < 32 then x * 2 ^ y % 4294967296 else 0
  | 14 => if y < 32 then x / 2 ^ y else 0
  | 15 => if x < y then 1 else 0
  | 16 => if sg x < sg y then 1 else 0
  | 17 => if x = y then 1 else 0
  | 18 => (x + imm) % 4294967296
  | _ => x
/-- where a step goes on -/
def tgt (op x imm next : Nat) : Nat :=
  if op = 24 then x else if op = 21 ∨ op = 25 ∨ (op = 22 ∧ x = 0) ∨ (op = 23 ∧ x ≠ 0) then (next + imm) % 4294967296 else next
section
variable (w : World)
theorem trap_any (c : Int) : Calls Tryd.prog 27 #[.int .i64 c] w fun e w' => e = .returned (.agg #[.int .i64 4, .int .u32 0, .int .i64 0, .int .u32 0, .int .i64 c]) ∧ Below w.heap.size w w' := by
  go_enter Tryd.func27, Tryd.ntmps27
  go_wp2
  exact bodyPost_ret (v := .agg #[.int .i64 4, .int .u32 0, .int .i64 0, .int .u32 0, .int .i64 c]) (by simp [results, Tryd.results27, go_sem]) rfl ⟨rfl, bel1 _ _⟩
theorem truth_any (b : Bool) : Calls Tryd.prog 43 #[.bool b] w fun e w' => e = .returned (.int .u32 (if b then 1 else 0)) ∧ w' = w := by
  cases b
  all_goals
    go_enter Tryd.func43, Tryd.ntmps43
    go_wp2
    go_ret
    exact ⟨rfl, rfl⟩
theorem bits_xor_u32 (a b : Nat) (ha : a < 4294967296) (hb : b < 4294967296) : bits .xor .u32 (a : Int) (b : Int) = ((a ^^^ b : Nat) : Int) := by
  have hx : a ^^^ b < 2 ^ 32 := Nat.xor_lt_two_pow (by omega) (by omega)
  have h1 : (BitVec.ofInt 32 (a : Int)).toNat = a := by rw [BitVec.ofInt_natCast, BitVec.toNat_ofNat]; exact Nat.mod_eq_of_lt (by omega)
  have h2 : (BitVec.ofInt 32 (b : Int)).toNat = b := by rw [BitVec.ofInt_natCast, BitVec.toNat_ofNat]; exact Nat.mod_eq_of_lt (by omega)
  show IntKind.u32.wrap ((BitVec.ofInt 32 (a : Int) ^^^ BitVec.ofInt 32 (b : Int)).toNat : Int) = _
  rw [BitVec.toNat_xor, h1, h2, IntKind.wrap_u32]
  omega
theorem div_word (x y : Nat) (hx : x < 4294967296) : (x : Int) / (y : Int) % 4294967296 = ((x / y : Nat) : Int) := by
  have h := Nat.div_le_self x y
  have e : ((x / y : Nat) : Int) = (x : Int) / (y : Int) := by simp
  rw [← e]
  clear e
  generalize x / y = q at h ⊢
  omega
theorem hi_bits (imm x : Nat) (hx : x < 4294967296) : bits BinOp.or IntKind.u32 ((imm : Int) * 65536 % 4294967296) (bits BinOp.and IntKind.u32 (x : Int) 65535) = (imm : Int) * 65536 % 4294967296 + (x : Int) % 65536 := by
  rw [show (65535 : Int) = 2 ^ 16 - 1 from rfl, u32_mask 16 (by decide) _ (by omega) (by omega)]
  exact bits_join .u32 32 (by decide) wraps_u32 16 _ _ (by omega) (by omega) (by omega) (by omega) (by omega) (by omega)
theorem shl_bits (x y : Nat) : (x : Int) * 2 ^ min y 32 % 4294967296 = ((if y < 32 then x * 2 ^ y % 4294967296 else 0 : Nat) : Int) := by
  by_cases h : y < 32
  · rw [if_pos h, Nat.min_eq_left (by omega)]; simp
  · rw [if_neg h, Nat.min_eq_right (by omega)]; omega
theorem shr_bits (x y : Nat) (hx : x < 4294967296) : (x : Int) / 2 ^ min y 32 = ((if y < 32 then x / 2 ^ y else 0 : Nat) : Int) := by
  by_cases h : y < 32
  · rw [if_pos h, Nat.min_eq_left (by omega)]; simp
  · rw [if_neg h, Nat.min_eq_right (by omega)]; omega
theorem ret_u32 {x y : Int} (h : x = y) : Ending.returned (.int .u32 x) = .returned (.int .u32 y) := by rw [h]
section
variable (x y imm next : Nat)
theorem result_1 : Calls Tryd.prog 29 #[.int .i64 1, .int .u32 (x : Nat), .int .u32 (y : Nat), .int .u32 (imm : Nat)] w fun e w' => e = .returned (.int .u32 (res 1 x y imm : Nat)) ∧ w' = w := by
  go_enter Tryd.func29, Tryd.ntmps29
  go_wp2
  go_ret
  exact ⟨ret_u32 (by rfl), rfl⟩
theorem result_21 : Calls Tryd.prog 29 #[.int .i64 21, .int .u32 (x : Nat), .int .u32 (y : Nat), .int .u32 (imm : Nat)] w fun e w' => e = .returned (.int .u32 (res 21 x y imm : Nat)) ∧ w' = w := by
  go_enter Tryd.func29, Tryd.ntmps29
  go_wp2
  go_ret
  exact ⟨ret_u32 (by rfl), rfl⟩
theorem result_22 : Calls Tryd.prog 29 #[.int .i64 22, .int .u32 (x : Nat), .int .u32 (y : Nat), .int .u32 (imm : Nat)] w fun e w' => e = .returned (.int .u32 (res 22 x y imm : Nat)) ∧ w' = w := by
  go_enter Tryd.func29, Tryd.ntmps29
  go_wp2
  go_ret
  exact ⟨ret_u32 (by rfl), rfl⟩
theorem result_23 : Calls Tryd.prog 29 #[.int .i64 23, .int .u32 (x : Nat), .int .u32 (y : Nat), .int .u32 (imm : Nat)] w fun e w' => e = .returned (.int .u32 (res 23 x y imm : Nat)) ∧ w' = w := by
  go_enter Tryd.func29, Tryd.ntmps29
  go_wp2
  go_ret
  exact ⟨ret_u32 (by rfl), rfl⟩
theorem result_24 : Calls Tryd.prog 29 #[.int .i64 24, .int .u32 (x : Nat), .int .u32 (y : Nat), .int .u32 (imm : Nat)] w fun e w' => e = .returned (.int .u32 (res 24 x y imm : Nat)) ∧ w' = w := by
  go_enter Tryd.func29, Tryd.ntmps29
  go_wp2
  go_ret
  exact ⟨ret_u32 (by rfl), rfl⟩
theorem result_2 : Calls Tryd.prog 29 #[.int .i64 2, .int .u32 (x : Nat), .int .u32 (y : Nat), .int .u32 (imm : Nat)] w fun e w' => e = .returned (.int .u32 (res 2 x y imm : Nat)) ∧ w' = w := by
  go_enter Tryd.func29, Tryd.ntmps29
  go_wp2
  go_ret
  exact ⟨ret_u32 (by rfl), rfl⟩
theorem result_4 : Calls Tryd.prog 29 #[.int .i64 4, .int .u32 (x : Nat), .int .u32 (y : Nat), .int .u32 (imm : Nat)] w fun e w' => e = .returned (.int .u32 (res 4 x y imm : Nat)) ∧ w' = w := by
  go_enter Tryd.func29, Tryd.ntmps29
  go_wp2
  go_ret
  exact ⟨ret_u32 (by rfl), rfl⟩
set_option linter.unusedVariables false
theorem result_5 (hx : x < 4294967296) (hy : y < 4294967296) (hm : imm < 4294967296) : Calls Tryd.prog 29 #[.int .i64 5, .int .u32 (x : Nat), .int .u32 (y : Nat), .int .u32 (imm : Nat)] w fun e w' => e = .returned (.int .u32 (res 5 x y imm : Nat)) ∧ w' = w := by
  go_enter Tryd.func29, Tryd.ntmps29
  go_wp2
  go_ret
  exact ⟨ret_u32 (by simp [res]), rfl⟩
theorem result_6 (hx : x < 4294967296) (hy : y < 4294967296) (hm : imm < 4294967296) : Calls Tryd.prog 29 #[.int .i64 6, .int .u32 (x : Nat), .int .u32 (y : Nat), .int .u32 (imm : Nat)] w fun e w' => e = .returned (.int .u32 (res 6 x y imm : Nat)) ∧ w' = w := by
  go_enter Tryd.func29, Tryd.ntmps29
  go_wp2
  go_ret
  exact ⟨ret_u32 (by simp [res]; omega), rfl⟩
theorem result_7 (hx : x < 4294967296) (hy : y < 4294967296) (hm : imm < 4294967296) : Calls Tryd.prog 29 #[.int .i64 7, .int .u32 (x : Nat), .int .u32 (y : Nat), .int .u32 (imm : Nat)] w fun e w' => e = .returned (.int .u32 (res 7 x y imm : Nat)) ∧ w' = w := by
  go_enter Tryd.func29, Tryd.ntmps29
  go_wp2
  go_ret
  exact ⟨ret_u32 (by simp [res]), rfl⟩
theorem result_8 (hx : x < 4294967296) (hy : y < 4294967296) (hm : imm < 4294967296) (h0 : y ≠ 0) : Calls Tryd.prog 29 #[.int .i64 8, .int .u32 (x : Nat), .int .u32 (y : Nat), .int .u32 (imm : Nat)] w fun e w' => e = .returned (.int .u32 (res 8 x y imm : Nat)) ∧ w' = w := by
  go_enter Tryd.func29, Tryd.ntmps29
  go_wp2
  go_ret
  exact ⟨ret_u32 (by exact div_word x y hx), rfl⟩
theorem result_9 (hx : x < 4294967296) (hy : y < 4294967296) (hm : imm < 4294967296) (h0 : y ≠ 0) : Calls Tryd.prog 29 #[.int .i64 9, .int .u32 (x : Nat), .int .u32 (y : Nat), .int .u32 (imm : Nat)] w fun e w' => e = .returned (.int .u32 (res 9 x y imm : Nat)) ∧ w' = w := by
  go_enter Tryd.func29, Tryd.ntmps29
  go_wp2
  go_ret
  exact ⟨ret_u32 (by simp [res]), rfl⟩
theorem result_18 (hx : x < 4294967296) (hy : y < 4294967296) (hm : imm < 4294967296) : Calls Tryd.prog 29 #[.int .i64 18, .int .u32 (x : Nat), .int .u32 (y : Nat), .int .u32 (imm : Nat)] w fun e w' => e = .returned (.int .u32 (res 18 x y imm : Nat)) ∧ w' = w := by
  go_enter Tryd.func29, Tryd.ntmps29
  go_wp2
  go_ret
  exact ⟨ret_u32 (by simp [res]), rfl⟩
theorem result_3 (hx : x < 4294967296) (hy : y < 4294967296) (hm : imm < 4294967296) : Calls Tryd.prog 29 #[.int .i64 3, .int .u32 (x : Nat), .int .u32 (y : Nat), .int .u32 (imm : Nat)] w fun e w' => e = .returned (.int .u32 (res 3 x y imm : Nat)) ∧ w' = w := by
  go_enter Tryd.func29, Tryd.ntmps29
  go_wp2
  go_ret
  exact ⟨ret_u32 (by simp only [res]; rw [hi_bits imm x hx]; omega), rfl⟩
theorem result_10 (hx : x < 4294967296) (hy : y < 4294967296) (hm : imm < 4294967296) : Calls Tryd.prog 29 #[.int .i64 10, .int .u32 (x : Nat), .int .u32 (y : Nat), .int .u32 (imm : Nat)] w fun e w' => e = .returned (.int .u32 (res 10 x y imm : Nat)) ∧ w' = w := by
  go_enter Tryd.func29, Tryd.ntmps29
  go_wp2
  go_ret
  exact ⟨ret_u32 (by exact (bits_nat .u32 32 (by decide) wraps_u32 x y hx hy).1), rfl⟩
theorem result_11 (hx : x < 4294967296) (hy : y < 4294967296) (hm : imm < 4294967296) : Calls Tryd.prog 29 #[.int .i64 11, .int .u32 (x : Nat), .int .u32 (y : Nat), .int .u32 (imm : Nat)] w fun e w' => e = .returned (.int .u32 (res 11 x y imm : Nat)) ∧ w' = w := by
  go_enter Tryd.func29, Tryd.ntmps29
  go_wp2
  go_ret
  exact ⟨ret_u32 (by exact (bits_nat .u32 32 (by decide) wraps_u32 x y hx hy).2), rfl⟩
theorem result_12 (hx : x < 4294967296) (hy : y < 4294967296) (hm : imm < 4294967296) : Calls Tryd.prog 29 #[.int .i64 12, .int .u32 (x : Nat), .int .u32 (y : Nat), .int .u32 (imm : Nat)] w fun e w' => e = .returned (.int .u32 (res 12 x y imm : Nat)) ∧ w' = w := by
  go_enter Tryd.func29, Tryd.ntmps29
  go_wp2
  go_ret
  exact ⟨ret_u32 (by exact bits_xor_u32 x y hx hy), rfl⟩
theorem result_13 (hx : x < 4294967296) (hy : y < 4294967296) (hm : imm < 4294967296) : Calls Tryd.prog 29 #[.int .i64 13, .int .u32 (x : Nat), .int .u32 (y : Nat), .int .u32 (imm : Nat)] w fun e w' => e = .returned (.int .u32 (res 13 x y imm : Nat)) ∧ w' = w := by
  go_enter Tryd.func29, Tryd.ntmps29
  go_wp2
  go_ret
  exact ⟨ret_u32 (by exact shl_bits x y), rfl⟩
theorem result_14 (hx : x < 4294967296) (hy : y < 4294967296) (hm : imm < 4294967296) : Calls Tryd.prog 29 #[.int .i64 14, .int .u32 (x : Nat), .int .u32 (y : Nat), .int .u32 (imm : Nat)] w fun e w' => e = .returned (.int .u32 (res 14 x y imm : Nat)) ∧ w' = w := by
  go_enter Tryd.func29, Tryd.ntmps29
  go_wp2
  go_ret
  exact ⟨ret_u32 (by exact shr_bits x y hx), rfl⟩
theorem result_15 (hx : x < 4294967296) (hy : y < 4294967296) (hm : imm < 4294967296) : Calls Tryd.prog 29 #[.int .i64 15, .int .u32 (x : Nat), .int .u32 (y : Nat), .int .u32 (imm : Nat)] w fun e w' => e = .returned (.int .u32 (res 15 x y imm : Nat)) ∧ w' = w := by
  by_cases h : x < y
  · have HR : Hid (res 15 x y imm = 1) := by apply hide; simp only [res]; rw [if_pos h]
    have hd : decide ((x : Int) < (y : Int)) = true := by simp; omega
    have hd2 : decide (x < y) = true := by simp; omega
    clear h
    go_enter Tryd.func29, Tryd.ntmps29
    go_wp2_with fail
    refine (truth_any _ _).mono ?_
    rintro e w1 ⟨rfl, rfl⟩
    go_wp2
    go_ret
    exact ⟨by rw [HR.out]; rfl, rfl⟩
  · have HR : Hid (res 15 x y imm = 0) := by apply hide; simp only [res]; rw [if_neg h]
    have hd : decide ((x : Int) < (y : Int)) = false := by simp; omega
    have hd2 : decide (x < y) = false := by simp; omega
    clear h
    go_enter Tryd.func29, Tryd.ntmps29
    go_wp2_with fail
    refine (truth_any _ _).mono ?_
    rintro e w1 ⟨rfl, rfl⟩
    go_wp2
    go_ret
    exact ⟨by rw [HR.out]; rfl, rfl⟩
theorem result_16 (hx : x < 4294967296) (hy : y < 4294967296) (hm : imm < 4294967296) : Calls Tryd.prog 29 #[.int .i64 16, .int .u32 (x : Nat), .int .u32 (y : Nat), .int .u32 (imm : Nat)] w fun e w' => e = .returned (.int .u32 (res 16 x y imm : Nat)) ∧ w' = w := by
  by_cases h : sg x < sg y
  · have HR : Hid (res 16 x y imm = 1) := by apply hide; simp only [res]; rw [if_pos h]
    have e1 : IntKind.i32.wrap (x : Int) = sg x := by rw [IntKind.wrap_i32]; unfold sg; split <;> omega
    have e2 : IntKind.i32.wrap (y : Int) = sg y := by rw [IntKind.wrap_i32]; unfold sg; split <;> omega
    have hd : decide (sg x < sg y) = true := by simpa using h
    clear h
    go_enter Tryd.func29, Tryd.ntmps29
    go_wp2_with fail
    refine (truth_any _ _).mono ?_
    rintro e w1 ⟨rfl, rfl⟩
    go_wp2
    go_ret
    exact ⟨by rw [HR.out]; rfl, rfl⟩
  · have HR : Hid (res 16 x y imm = 0) := by apply hide; simp only [res]; rw [if_neg h]
    have e1 : IntKind.i32.wrap (x : Int) = sg x := by rw [IntKind.wrap_i32]; unfold sg; split <;> omega
    have e2 : IntKind.i32.wrap (y : Int) = sg y := by rw [IntKind.wrap_i32]; unfold sg; split <;> omega
    have hd : decide (sg x < sg y) = false := by simpa using h
    clear h
    go_enter Tryd.func29, Tryd.ntmps29
    go_wp2_with fail
    refine (truth_any _ _).mono ?_
    rintro e w1 ⟨rfl, rfl⟩
    go_wp2
    go_ret
    exact ⟨by rw [HR.out]; rfl, rfl⟩
theorem result_17 (hx : x < 4294967296) (hy : y < 4294967296) (hm : imm < 4294967296) : Calls Tryd.prog 29 #[.int .i64 17, .int .u32 (x : Nat), .int .u32 (y : Nat), .int .u32 (imm : Nat)] w fun e w' => e = .returned (.int .u32 (res 17 x y imm : Nat)) ∧ w' = w := by
  by_cases h : x = y
  · have HR : Hid (res 17 x y imm = 1) := by apply hide; simp only [res]; rw [if_pos h]
    have hd : (x : Int) = (y : Int) := by omega
    clear h
    go_enter Tryd.func29, Tryd.ntmps29
    go_wp2_with fail
    refine (truth_any _ _).mono ?_
    rintro e w1 ⟨rfl, rfl⟩
    go_wp2
    go_ret
    exact ⟨by rw [HR.out]; rfl, rfl⟩
  · have HR : Hid (res 17 x y imm = 0) := by apply hide; simp only [res]; rw [if_neg h]
    have hd : ¬ (x : Int) = (y : Int) := by omega
    have hd2 : ¬ x = y := by omega
    clear h
    go_enter Tryd.func29, Tryd.ntmps29
    go_wp2_with fail
    refine (truth_any _ _).mono ?_
    rintro e w1 ⟨rfl, rfl⟩
    go_wp2
    go_ret
    exact ⟨by rw [HR.out]; rfl, rfl⟩
theorem target_any (hm : imm < 4294967296) (hn : next < 4294967296) (n : Nat) (hn1 : n < 27) : Calls Tryd.prog 28 #[.int .i64 (n : Int), .int .u32 (x : Nat), .int .u32 (imm : Nat), .int .u32 (next : Nat)] w fun e w' => e = .returned (.int .u32 (tgt n x imm next : Nat)) ∧ w' = w := by
  by_cases h24 : n = 24
  · subst h24
    go_enter Tryd.func28, Tryd.ntmps28
    go_wp2
    go_ret
    exact ⟨rfl, rfl⟩
  · by_cases h21 : n = 21
    · subst h21
      go_enter Tryd.func28, Tryd.ntmps28
      go_wp2
      go_ret
      exact ⟨ret_u32 (by simp [tgt]), rfl⟩
    · by_cases h25 : n = 25
      · subst h25
        go_enter Tryd.func28, Tryd.ntmps28
        go_wp2
        go_ret
        exact ⟨ret_u32 (by simp [tgt]), rfl⟩
      · by_cases h22 : n = 22
        · subst h22
          by_cases h0 : x = 0
          · subst h0
            go_enter Tryd.func28, Tryd.ntmps28
            go_wp2
            go_ret
            exact ⟨ret_u32 (by simp [tgt]), rfl⟩
          · have HR : Hid (tgt 22 x imm next = next) := by apply hide; simp [tgt, h0]
            go_enter Tryd.func28, Tryd.ntmps28
            go_wp2
            go_ret
            exact ⟨by rw [HR.out]; rfl, rfl⟩
        · by_cases h23 : n = 23
          · subst h23
            by_cases h0 : x = 0
            · subst h0
              go_enter Tryd.func28, Tryd.ntmps28
              go_wp2
              go_ret
              exact ⟨rfl, rfl⟩
            · have HR : Hid (tgt 23 x imm next = (next + imm) % 4294967296) := by apply hide; simp [tgt, h0]
              go_enter Tryd.func28, Tryd.ntmps28
              go_wp2
              go_ret
              exact ⟨ret_u32 (by rw [HR.out]; simp), rfl⟩
          · have HR : Hid (tgt n x imm next = next) := by apply hide; simp [tgt, h21, h22, h23, h24, h25]
            go_enter Tryd.func28, Tryd.ntmps28
            go_wp2
            go_ret
            exact ⟨by rw [HR.out]; rfl, rfl⟩
end
end
end Go.Proofs.YtoaplkfmchphbaaDoor

namespace Go.Proofs.YtoaplkfmchphbaaDoor
open Go.RowKit
section
variable {P : Program} {ops : Array Oper} {Q : Exit → Act → World → Prop} {S : World → Prop} {fuel : Nat} {listed : Array Bool} {a : Act} {w : World}
/-- a store of a whole struct, the one operation that may come up -/
theorem held_store (i : Nat) {o : Oper} (hr : Region.ready .any ops listed = [i]) (ho : ops[i]? = some o) (hw : Region.wanted o (yielded ops a.tmps) = true) {ty : TypeId} {x y : Operand} (hop : o.op = .store ty x y) (hd : o.dst = none)
    {b off : Nat} {cells : List Value} (hx : a.eval x = .pointer (some ⟨b, off, none⟩)) (hy : a.eval y = .agg cells.toArray) (ht : w.there b off cells.length) (hi : (P.info? ty).map (·.size) = some cells.length) (h1 : ∀ v ∈ cells, v.oneCell' = true)
    (hS : S (w.setCells b off cells)) (h : wpAnyH P .any ops Q S fuel (listed.setIfInBounds i true) a (w.setCells b off cells)) : wpAnyH P .any ops Q S (fuel + 1) listed a w := by
  refine wpAnyH_ready hr (by simp) (AllReadyH.cons ho (fun K hK => ?_) AllReadyH.nil)
  rw [if_pos hw]
  refine wp_store_mid ty x y hop b off cells.toArray hx hy (by simpa using ht) (by simpa using hi) (all_oneCell_toArray h1) ?_
  rw [hd]
  exact hK.out _ _ hS (fun _ => h)
/-- a call, the one operation that may come up -/
theorem held_call (i : Nat) {o : Oper} (hr : Region.ready .any ops listed = [i]) (ho : ops[i]? = some o) (hw : Region.wanted o (yielded ops a.tmps) = true)
    (h : ∀ K : Act → World → Prop, (∀ a w, S w → wpAnyH P .any ops Q S fuel (listed.setIfInBounds i true) a w → K a w) → Oper.wp P o a w K Q) : wpAnyH P .any ops Q S (fuel + 1) listed a w := by
  refine wpAnyH_ready hr (by simp) (AllReadyH.cons ho (fun K hK => ?_) AllReadyH.nil)
  rw [if_pos hw]
  exact h K (fun a w hS hh => hK.out a w hS (fun _ => hh))
theorem held_load (i : Nat) {o : Oper} (hs : Region.noSelect ops = true) (hf : Region.free .any ops listed i = true) (hr : (Region.ready .any ops listed).contains i = true) (ho : ops[i]? = some o) (hw : Region.wanted o (yielded ops a.tmps) = true) {ty : TypeId} {x : Operand} (hop : o.op = .load ty x)
    {b off : Nat} (cs : List Value) {d : TypeDesc} (hx : a.eval x = .pointer (some ⟨b, off, none⟩)) (hS : ∀ w, S w → w.rangeAt b off cs) (hu : P.underlying ty = some d) (hd : d.isRow = true) (hi : (P.info? ty).map (·.size) = some cs.length)
    (hQ : ∀ c a w, Q (.panic c) (a.put o.dst (.agg cs.toArray)) w → Q (.panic c) a w) (h0 : S w) (h : wpAnyH P .any ops Q S fuel (listed.setIfInBounds i true) (a.put o.dst (.agg cs.toArray)) w) : wpAnyH P .any ops Q S (fuel + 1) listed a w :=
  wpAnyH_take ho hs hf hr hQ (yieldsIf_load_mid hw ty x hop b off hx cs d hS hu hd hi) h0 h
/-- what yields in whatever world -/
theorem held_take (i : Nat) {o : Oper} (v : Value) (hs : Region.noSelect ops = true) (hf : Region.free .any ops listed i = true) (hr : (Region.ready .any ops listed).contains i = true) (ho : ops[i]? = some o) (hw : Region.wanted o (yielded ops a.tmps) = true)
    (hy : ∀ w, S w → (execOp a.eval o).run P w = .ok (.value v) w)
    (hQ : ∀ c a w, Q (.panic c) (a.put o.dst v) w → Q (.panic c) a w) (h0 : S w) (h : wpAnyH P .any ops Q S fuel (listed.setIfInBounds i true) (a.put o.dst v) w) : wpAnyH P .any ops Q S (fuel + 1) listed a w :=
  wpAnyH_take ho hs hf hr hQ (Or.inl ⟨hw, hy⟩) h0 h
end
end Go.Proofs.YtoaplkfmchphbaaDoor
