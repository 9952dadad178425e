import Derived.Laws.BytesString
import Derived.Laws.ShiftsVar
import Derived.Deep.Cut
import Derived.Deep.DeepCutAuto
import Derived.WalkSmall
import Derived.BigQuiet
import Derived.Shelf.Strings.BuilderK
import Derived.Shelf.Strings.Repeat
import Derived.Shelf.Strconv.Itoa3
import Derived.Test.YtoaplkfmchphbaaDoorProg
import Derived.Test.YtoaplkfmchphbaaDoorS01
namespace Go.Proofs.YtoaplkfmchphbaaDoor
open Go.RowKit
/-- the table by which trailing zeros are found, where 16 comes to -/
def Tz (w : World) : Prop := w.cell? ⟨3, 15, none⟩ = some (.int .u8 4)
theorem Tz.below {w w' : World} (h : Tz w) (hb : Below w.heap.size w w') : Tz w' := by
  unfold Tz
  rw [hb.cell (p := ⟨3, 15, none⟩) (cell_lt h)]
  exact h
theorem wraps_u64 (n : Int) (h₀ : 0 ≤ n) (h₁ : n < 2 ^ 64) : IntKind.u64.wrap n = n := by rw [IntKind.wrap_u64]; omega
theorem u64_mask (i : Nat) (hi : i ≤ 64) (x : Int) (h₀ : 0 ≤ x) (h₁ : x < 18446744073709551616) : bits .and .u64 x (2 ^ i - 1) = x % 2 ^ i := bits_mask .u64 64 (by decide) wraps_u64 i hi x h₀ h₁
section
variable (w : World)
set_option maxRecDepth 100000 in
theorem tz_any (hT : Tz w) : Calls Tryd.prog 87 #[.int .u64 16] w fun e w' => e = .returned (.int .i64 4) ∧ w' = w := by
  have e1 : IntKind.u64.wrap (-16) = 18446744073709551600 := by decide
  have b1 : bits .and .u64 16 18446744073709551600 = 16 := by decide
  have e2 : IntKind.u64.wrap 4573923408821661840 = 4573923408821661840 := by decide
  unfold Tz at hT
  go_enter Tryd.func87, Tryd.ntmps87
  go_wp2
  go_ret
  exact ⟨rfl, rfl⟩
theorem tzs_any (hT : Tz w) : Calls Tryd.prog 69 #[.int .u64 16] w fun e w' => e = .returned (.int .i64 4) ∧ w' = w := by
  go_enter Tryd.func69, Tryd.ntmps69
  go_wp2_with fail
  refine (tz_any w hT).mono ?_
  rintro e w1 ⟨rfl, rfl⟩
  go_wp2
  go_ret
  exact ⟨rfl, rfl⟩
theorem fold_push : ∀ (L : List UInt8) (s : ByteArray), (L.map fun c => ((c.toNat : Nat) : Int)).foldl (fun r n => r.push (UInt8.ofNat n.toNat)) s = ⟨(s.data.toList ++ L).toArray⟩
  | [], s => by simp
  | c :: r, s => by
    simp only [List.map_cons, List.foldl_cons]
    rw [fold_push r]
    simp [ByteArray.push]
/-- bytes that lie in a row, as a string -/
theorem str_of (L : List UInt8) (a : Addr) (n cap : Nat) (hn : n = L.length) (h : ∀ j (hj : j < L.length), w.cell? (a.add j) = some (.int .u8 (L[j].toNat : Nat))) : (convert 74 9 (.slice (some a) n cap)).run Tryd.prog w = .ok (.string ⟨L.toArray⟩) w := by
  subst hn
  rw [run_convert_bytes_string w 74 9 5 _ _ _ Tryd.underlying74 Tryd.underlying5 Tryd.underlying9]
  rw [run_bytesToString w a L.length cap (L.map fun c => ((c.toNat : Nat) : Int)), fold_push]
  · simp
  · have e := run_loadCells_list (P := Tryd.prog) (w := w) a (L.map fun c => Value.int .u8 ((c.toNat : Nat) : Int)) (fun j v hv => by
      rw [List.getElem?_map] at hv
      by_cases hj : j < L.length
      · rw [List.getElem?_eq_getElem hj] at hv
        simp at hv
        rw [h j hj, ← hv]
      · rw [List.getElem?_eq_none (by omega)] at hv
        simp at hv)
    simpa [Function.comp_def] using e
def dgs : ByteArray := ⟨#[48, 49, 50, 51, 52, 53, 54, 55, 56, 57, 97, 98, 99, 100, 101, 102, 103, 104, 105, 106, 107, 108, 109, 110, 111, 112, 113, 114, 115, 116, 117, 118, 119, 120, 121, 122]⟩
theorem dg_at (v : Nat) (h : v < 16) (h' : v < dgs.size) : dgs[v] = hd v := by
  match v, h with
  | k + 16, h => omega
  | 0, _ => rfl
  | 1, _ => rfl
  | 2, _ => rfl
  | 3, _ => rfl
  | 4, _ => rfl
  | 5, _ => rfl
  | 6, _ => rfl
  | 7, _ => rfl
  | 8, _ => rfl
  | 9, _ => rfl
  | 10, _ => rfl
  | 11, _ => rfl
  | 12, _ => rfl
  | 13, _ => rfl
  | 14, _ => rfl
  | 15, _ => rfl
def Z65 : Array Value := (List.replicate 65 (Value.int .u8 0)).toArray
theorem zero65 (w : World) : (zeroValue 123).run Tryd.prog w = .ok (.agg Z65) w := by
  unfold zeroValue
  rw [Sem.run_bind, Tryd.typeInfo123]
  simp [show Tryd.t123.zero = some (.agg Z65) by kernel_rfl]
theorem ipt_any : Calls Tryd.prog 68 #[.int .i64 16] w fun e w' => e = .returned (.bool true) ∧ w' = w := by
  have b1 : bits .and .i64 16 15 = 0 := by decide
  go_enter Tryd.func68, Tryd.ntmps68
  go_wp2
  go_ret
  exact ⟨rfl, rfl⟩
theorem shrS {ops : Array Oper} {rest : List Oper} {op : Oper} {a : Act} {w : World} {Q : Exit → Act → World → Prop} (hw : Region.wanted op (yielded ops a.tmps) = true) (x y : Operand) (ho : op.op = .binOp .shr 71 x y 24) (v q : Nat) (hx : a.eval x = .int .u64 (v : Int)) (hy : a.eval y = .int .u64 4) (hq : q = v / 16)
    (h : wpList Tryd.prog ops Q rest (a.put op.dst (.int .u64 (q : Int))) w) : wpList Tryd.prog ops Q (op :: rest) a w :=
  BigFrame.wpList_want hw fun K hK => by
    have hr : (execOp a.eval op).run Tryd.prog w = .ok (.value (.int .u64 (q : Int))) w := by
      unfold execOp
      simp only [ho, hx, hy]
      rw [hq]
      go_simp
    have h9 := hK _ _ h
    unfold Oper.wp
    rw [hr]
    exact h9
/-- the digits laid so far, at the end of the row -/
def Dg (wr : World) (g m : Nat) (D : List UInt8) : Prop := ∃ cs : Array Value, wr.heap[g]? = some (.cells cs 123 (0, 0)) ∧ cs.size = 65 ∧ (∀ j, j < 65 → ∃ x : Int, cs[j]? = some (.int .u8 x)) ∧ ∀ j (h : j < D.length), cs[m + 1 + j]? = some (.int .u8 (D[j].toNat : Nat))
theorem Dg.cell {wr : World} {g m : Nat} {D : List UInt8} (h : Dg wr g m D) (j : Nat) (hj : j < 65) : ∃ x : Int, wr.cell? ⟨g, j, none⟩ = some (.int .u8 x) := by
  obtain ⟨cs, h1, _, h2, _⟩ := h
  obtain ⟨x, hx⟩ := h2 j hj
  exact ⟨x, by rw [Lib.cell_of_heap h1]; exact hx⟩
theorem Dg.frz {wr : World} {g m : Nat} {D : List UInt8} (h : Dg wr g m D) (j : Nat) : wr.frozen? ⟨g, j, none⟩ = false := by
  obtain ⟨cs, h1, _⟩ := h
  exact Lib.frozen_of_heap h1 j
theorem Dg.put {wr : World} {g m : Nat} {D : List UInt8} (h : Dg wr g m D) (hm : m + 1 + D.length = 65) (c : UInt8) : Dg (wr.setCell ⟨g, m, none⟩ (.int .u8 (c.toNat : Nat))) g (m - 1) (c :: D) ∨ m = 0 := by
  by_cases h0 : m = 0
  · exact .inr h0
  obtain ⟨cs, h1, h2, h3, h4⟩ := h
  refine .inl ⟨cs.setIfInBounds m (.int .u8 (c.toNat : Nat)), ?_, by simpa using h2, ?_, ?_⟩
  · exact heap_setCell_same wr g m _ _ _ h1
  · intro j hj
    rw [Array.getElem?_setIfInBounds]
    split
    · simp; omega
    · exact h3 j hj
  · intro j hj
    rw [Array.getElem?_setIfInBounds]
    cases j with
    | zero => rw [if_pos (by omega), if_pos (by omega)]; rfl
    | succ j =>
      rw [if_neg (by omega), show m - 1 + 1 + (j + 1) = m + 1 + j by omega]
      exact h4 j (by simpa using hj)
theorem Dg.start (w : World) : Dg (w.alloc (.cells Z65 123)) w.heap.size 64 [] := by
  refine ⟨Z65, heap_alloc_last _ _, by simp [Z65], ?_, fun j hj => by simp at hj⟩
  intro j hj
  exact ⟨0, by unfold Z65; rw [List.getElem?_toArray, List.getElem?_replicate, if_pos hj]⟩
set_option maxRecDepth 100000 in
set_option maxHeartbeats 1000000 in
theorem fmt16 (n : Nat) (hn : n < 4294967296) (hT : Tz w) : Calls Tryd.prog 52 #[.slice none 0 0, .int .u64 (n : Int), .int .i64 16, .bool false, .bool false] w fun e w' => e = .returned (.tuple #[.slice none 0 0, .string ⟨(hxA 7 n []).toArray⟩]) ∧ Below w.heap.size w w' := by
  have hT1 : ∀ o, Tz (w.alloc o) := fun o => hT.below (bel1 _ _)
  have h65 := zero65
  go_enter Tryd.func52, Tryd.ntmps52
  go_wp2_with fail
  refine (ipt_any _).mono ?_
  rintro e w1 ⟨rfl, rfl⟩
  go_wp2_with fail
  refine (tzs_any _ (hT1 _)).mono ?_
  rintro e w1 ⟨rfl, rfl⟩
  go_upto_region 11 with fail
  go_loopw [1, 13] (fun u i wr => ∃ (f : Nat) (D : List UInt8) (m v : Nat), u = .int .u64 (v : Int) ∧ i = .int .i64 ((m + 1 : Nat) : Int) ∧ hxA f v D = hxA 7 n [] ∧ D.length + f = 7 ∧ m + 1 + D.length = 65 ∧ v < 16 ^ (f + 1) ∧ Dg wr w.heap.size m D ∧ Below w.heap.size w wr) (fun u _ _ => (intOf u).toNat)
  case atStart => exact ⟨7, [], 64, n, rfl, rfl, rfl, rfl, rfl, by omega, Dg.start w, bel1 _ _⟩
  case round =>
  obtain ⟨f, D, m, v, rfl, rfl, hx, hf, hm, hv, hD, hB⟩ := hrel
  have hv8 : v < 4294967296 := Nat.lt_of_lt_of_le hv (Nat.le_trans (Nat.pow_le_pow_right (n := 16) (by decide) (show f + 1 ≤ 8 by omega)) (by decide))
  have HV := hide hv
  have HX := hide hx
  have HF := hide hf
  have HM := hide hm
  have hm57 : 57 ≤ m := by omega
  have hm65 : m < 65 := by omega
  obtain ⟨x0, c0⟩ := hD.cell m hm65
  have f0 := hD.frz m
  have HD := hide hD
  have HB := hide hB
  clear hv hx hf hm hD hB
  have hal : Tryd.prog.arrayLen 123 = 65 := by kernel_rfl
  by_cases h16 : v < 16
  · have hi : (v : Int) < 16 := by omega
    have hsl : ∀ W, (Instr.sliceAt 123 (.pointer (some ⟨w.heap.size, 0, none⟩)) (some (.int .i64 (m : Int))) none none).run Tryd.prog W = .ok (.slice (some ⟨w.heap.size, m, none⟩) (65 - m) (65 - m)) W := fun W => by
      rw [run_sliceAt_array_l (t := 123) (a := ⟨w.heap.size, 0, none⟩) (w := W) (by kernel_rfl) .i64 (m : Int) (by omega) (by rw [hal]; omega)]
      go_simp
      omega
    clear hal
    obtain ⟨c, hc⟩ : ∃ c, hd v = c := ⟨_, rfl⟩
    have hcv : ∀ h', dgs[v]'h' = c := fun h' => by rw [dg_at v h16 h', hc]
    have hp := HD.out.put HM.out c
    have hst : (convert 74 9 (.slice (some ⟨w.heap.size, m, none⟩) (65 - m) (65 - m))).run Tryd.prog (wr.setCell ⟨w.heap.size, m, none⟩ (.int .u8 (c.toNat : Nat))) = .ok (.string ⟨(c :: D).toArray⟩) (wr.setCell ⟨w.heap.size, m, none⟩ (.int .u8 (c.toNat : Nat))) := by
      refine str_of _ (c :: D) _ _ _ (by have := HM.out; simp; omega) fun j hj => ?_
      rcases hp with ⟨cs, h1, _, _, h4⟩ | h0
      · rw [show (⟨w.heap.size, m, none⟩ : Addr).add j = ⟨w.heap.size, m + j, none⟩ by unfold Addr.add; split <;> simp_all, Lib.cell_of_heap h1]
        have := h4 j hj
        rw [show m - 1 + 1 + j = m + j by omega] at this
        exact this
      · omega
    have HC : Hid (hxA 7 n [] = c :: D) := hide (by rw [← HX.out, hxA_stop h16, hc])
    clear hp hc
    unfold dgs at hcv
    go_wp2
    go_ret2
    exact ⟨by rw [HC.out]; rfl, HB.out.setCell (Nat.le_refl _) _⟩
  · have hi : (16 : Int) ≤ (v : Int) := by omega
    clear hal
    have b1 : bits .and .u64 (v : Int) 15 = (v % 16 : Nat) := by
      rw [show (15 : Int) = 2 ^ 4 - 1 from rfl, u64_mask 4 (by decide) _ (by omega) (by omega)]; omega
    have d1 : (v : Int) / 16 = (v / 16 : Nat) := by omega
    have hr : v % 16 < 16 := Nat.mod_lt _ (by decide)
    obtain ⟨r, er⟩ : ∃ r, v % 16 = r := ⟨_, rfl⟩
    rw [er] at b1 hr
    have hr2 : (r : Int) < 36 := by omega
    obtain ⟨c, hc⟩ : ∃ c, hd r = c := ⟨_, rfl⟩
    have hcv : ∀ h', dgs[r]'h' = c := fun h' => by rw [dg_at r hr h', hc]
    have hp := hide (HD.out.put HM.out c)
    obtain ⟨f', hf'⟩ : ∃ f', f = f' + 1 := by
      cases f with
      | zero => have := HV.out; simp at this; omega
      | succ f' => exact ⟨f', rfl⟩
    have HF' := hide hf'
    have HC : Hid (hxA f' (v / 16) (c :: D) = hxA 7 n []) := hide (by rw [← HX.out, hf', hxA_go h16, er, hc])
    have HV2 : Hid (v / 16 < 16 ^ (f' + 1)) := hide (by
      have h1 := HV.out
      rw [hf', Nat.pow_succ] at h1
      omega)
    clear hc hf' er
    unfold dgs at hcv
    obtain ⟨q, eq⟩ : ∃ q, q = v / 16 := ⟨_, rfl⟩
    have hqv : q < v := by omega
    rw [← eq] at HC HV2
    have HQ := hide eq
    clear d1 eq
    go_upto_region 14 with fail
    go_wp2_with (refine shrS rfl _ _ rfl v q rfl rfl HQ.out ?_)
    go_roundw
    case rel => exact ⟨f', c :: D, m - 1, q, rfl, by rw [show m - 1 + 1 = m by omega], HC.out, by have h1 := HF.out; have h2 := HF'.out; simp; omega, by have h1 := HM.out; simp; omega, HV2.out, hp.out.resolve_right (by omega), HB.out.setCell (Nat.le_refl _) _⟩
    case measure => simp [intOf]; omega
theorem ifmt_any (n : Nat) (hn : n < 4294967296) (hT : Tz w) : Calls Tryd.prog 44 #[.int .u64 (n : Int), .int .i64 16] w fun e w' => e = .returned (.string ⟨(hxA 7 n []).toArray⟩) ∧ Below w.heap.size w w' := by
  go_enter Tryd.func44, Tryd.ntmps44
  go_wp2_with fail
  refine (fmt16 _ n hn hT).mono ?_
  rintro e w1 ⟨rfl, hb⟩
  go_wp2
  go_ret
  exact ⟨rfl, hb⟩
theorem fmt_any (n : Nat) (hn : n < 4294967296) (hT : Tz w) : Calls Tryd.prog 31 #[.int .u64 (n : Int), .int .i64 16] w fun e w' => e = .returned (.string ⟨(hxA 7 n []).toArray⟩) ∧ Below w.heap.size w w' := by
  go_enter Tryd.func31, Tryd.ntmps31
  go_wp2_with fail
  refine (ifmt_any _ n hn hT).mono ?_
  rintro e w1 ⟨rfl, hb⟩
  go_wp2
  go_ret
  exact ⟨rfl, hb⟩
end
end Go.Proofs.YtoaplkfmchphbaaDoor

namespace Go.Proofs
open Go.Shelf
def Tryd.lays169_ren : Go.Shelf.Ren := ⟨fun | 169 => 36 | n => n, fun | 70 => 73 | 9 => 9 | 0 => 0 | 72 => 76 | 37 => 74 | 127 => 100 | 3 => 3 | 5 => 5 | n => n, fun | n => n⟩
theorem Tryd.lays169 : Go.Proofs.Lays.n169 Tryd.prog Tryd.lays169_ren := {
  mixed := by kernel_rfl
  f169 := Tryd.func36.trans (congrArg some (by kernel_rfl))
  t0 := Tryd.underlying0
  a0 := Tryd.isAgg0
  z0 := Tryd.sizeOf0
  v0 := Tryd.zeroValue0
  t3 := Tryd.underlying3
  a3 := Tryd.isAgg3
  z3 := Tryd.sizeOf3
  v3 := Tryd.zeroValue3
  t9 := Tryd.underlying9
  a9 := Tryd.isAgg9
  z9 := Tryd.sizeOf9
  v9 := Tryd.zeroValue9
  t37 := Tryd.underlying74
  a37 := Tryd.isAgg74
  z37 := Tryd.sizeOf74
  v37 := Tryd.zeroValue74
  t70 := Tryd.underlying73
  a70 := Tryd.isAgg73
  z70 := Tryd.sizeOf73
  v70 := Tryd.zeroValue73
  t72 := Tryd.underlying76
  a72 := Tryd.isAgg76
  z72 := Tryd.sizeOf76
  v72 := Tryd.zeroValue76
  t127 := Tryd.underlying100
  a127 := Tryd.isAgg100
  z127 := Tryd.sizeOf100
  v127 := Tryd.zeroValue100 }
def Tryd.lays105_ren : Go.Shelf.Ren := ⟨fun | 105 => 46 | 212 => 61 | 99 => 62 | 165 => 63 | 166 => 33 | 170 => 64 | 169 => 36 | 263 => 82 | 264 => 83 | 206 => 84 | 240 => 45 | 241 => 85 | 276 => 60 | 277 => 96 | n => n, fun | 9 => 9 | 3 => 3 | 4 => 4 | 20 => 20 | 0 => 0 | 46 => 24 | 109 => 115 | 5 => 5 | 72 => 76 | 76 => 79 | 51 => 29 | 146 => 136 | 53 => 71 | 148 => 138 | 70 => 73 | 37 => 74 | 75 => 78 | 127 => 100 | 164 => 113 | 80 => 82 | n => n, fun | n => n⟩
theorem Tryd.lays105 : Go.Proofs.Lays.n105 Tryd.prog Tryd.lays105_ren := {
  mixed := by kernel_rfl
  f99 := Tryd.func62.trans (congrArg some (by kernel_rfl))
  f105 := Tryd.func46.trans (congrArg some (by kernel_rfl))
  f165 := Tryd.func63.trans (congrArg some (by kernel_rfl))
  f166 := Tryd.func33.trans (congrArg some (by kernel_rfl))
  f169 := Tryd.func36.trans (congrArg some (by kernel_rfl))
  f170 := Tryd.func64.trans (congrArg some (by kernel_rfl))
  f206 := Tryd.func84.trans (congrArg some (by kernel_rfl))
  f212 := Tryd.func61.trans (congrArg some (by kernel_rfl))
  f240 := Tryd.func45.trans (congrArg some (by kernel_rfl))
  f241 := Tryd.func85.trans (congrArg some (by kernel_rfl))
  f263 := Tryd.func82.trans (congrArg some (by kernel_rfl))
  f264 := Tryd.func83.trans (congrArg some (by kernel_rfl))
  f276 := Tryd.func60.trans (congrArg some (by kernel_rfl))
  f277 := Tryd.func96.trans (congrArg some (by kernel_rfl))
  t0 := Tryd.underlying0
  a0 := Tryd.isAgg0
  z0 := Tryd.sizeOf0
  v0 := Tryd.zeroValue0
  t3 := Tryd.underlying3
  a3 := Tryd.isAgg3
  z3 := Tryd.sizeOf3
  v3 := Tryd.zeroValue3
  t4 := Tryd.underlying4
  a4 := Tryd.isAgg4
  z4 := Tryd.sizeOf4
  v4 := Tryd.zeroValue4
  t5 := Tryd.underlying5
  a5 := Tryd.isAgg5
  z5 := Tryd.sizeOf5
  v5 := Tryd.zeroValue5
  t9 := Tryd.underlying9
  a9 := Tryd.isAgg9
  z9 := Tryd.sizeOf9
  v9 := Tryd.zeroValue9
  t20 := Tryd.underlying20
  a20 := Tryd.isAgg20
  z20 := Tryd.sizeOf20
  v20 := Tryd.zeroValue20
  t37 := Tryd.underlying74
  a37 := Tryd.isAgg74
  z37 := Tryd.sizeOf74
  v37 := Tryd.zeroValue74
  t46 := Tryd.underlying24
  a46 := Tryd.isAgg24
  z46 := Tryd.sizeOf24
  v46 := Tryd.zeroValue24
  t51 := Tryd.underlying29
  a51 := Tryd.isAgg29
  z51 := Tryd.sizeOf29
  v51 := Tryd.zeroValue29
  t53 := Tryd.underlying71
  a53 := Tryd.isAgg71
  z53 := Tryd.sizeOf71
  v53 := Tryd.zeroValue71
  t70 := Tryd.underlying73
  a70 := Tryd.isAgg73
  z70 := Tryd.sizeOf73
  v70 := Tryd.zeroValue73
  t72 := Tryd.underlying76
  a72 := Tryd.isAgg76
  z72 := Tryd.sizeOf76
  v72 := Tryd.zeroValue76
  t75 := Tryd.underlying78
  a75 := Tryd.isAgg78
  z75 := Tryd.sizeOf78
  v75 := Tryd.zeroValue78
  t76 := Tryd.underlying79
  a76 := Tryd.isAgg79
  z76 := Tryd.sizeOf79
  v76 := Tryd.zeroValue79
  t109 := Tryd.underlying115
  a109 := Tryd.isAgg115
  z109 := Tryd.sizeOf115
  v109 := Tryd.zeroValue115
  t127 := Tryd.underlying100
  a127 := Tryd.isAgg100
  z127 := Tryd.sizeOf100
  v127 := Tryd.zeroValue100
  t146 := Tryd.underlying136
  a146 := Tryd.isAgg136
  z146 := Tryd.sizeOf136
  v146 := Tryd.zeroValue136
  t148 := Tryd.underlying138
  a148 := Tryd.isAgg138
  z148 := Tryd.sizeOf138
  v148 := Tryd.zeroValue138
  t164 := Tryd.underlying113
  a164 := Tryd.isAgg113
  z164 := Tryd.sizeOf113
  v164 := Tryd.zeroValue113 }
def Tryd.laysM171_ren : Go.Shelf.Ren := ⟨fun | 171 => 9 | 243 => 21 | 246 => 37 | 283 => 49 | 284 => 50 | 285 => 51 | 286 => 52 | 129 => 66 | 317 => 65 | 318 => 67 | 319 => 68 | 320 => 69 | 337 => 86 | 338 => 87 | n => n, fun | 3 => 3 | 9 => 9 | 2 => 2 | 4 => 4 | 171 => 101 | 0 => 0 | 53 => 71 | 37 => 74 | 5 => 5 | 173 => 104 | 212 => 122 | 51 => 29 | 20 => 20 | 213 => 123 | 46 => 24 | 232 => 150 | 233 => 151 | n => n, fun | 17 => 1 | 18 => 2 | 19 => 3 | n => n⟩
theorem Tryd.laysM171 : Go.Proofs.LaysM.n171 Tryd.prog Tryd.laysM171_ren := {
  mixed := by kernel_rfl
  f129 := Tryd.func66.trans (congrArg some (by kernel_rfl))
  f171 := Tryd.func9.trans (congrArg some (by kernel_rfl))
  f243 := Tryd.func21.trans (congrArg some (by kernel_rfl))
  f246 := Tryd.func37.trans (congrArg some (by kernel_rfl))
  f283 := Tryd.func49.trans (congrArg some (by kernel_rfl))
  f284 := Tryd.func50.trans (congrArg some (by kernel_rfl))
  f285 := Tryd.func51.trans (congrArg some (by kernel_rfl))
  f286 := Tryd.func52.trans (congrArg some (by kernel_rfl))
  f317 := Tryd.func65.trans (congrArg some (by kernel_rfl))
  f318 := Tryd.func67.trans (congrArg some (by kernel_rfl))
  f319 := Tryd.func68.trans (congrArg some (by kernel_rfl))
  f320 := Tryd.func69.trans (congrArg some (by kernel_rfl))
  f337 := Tryd.func86.trans (congrArg some (by kernel_rfl))
  f338 := Tryd.func87.trans (congrArg some (by kernel_rfl))
  t0 := Tryd.underlying0
  a0 := Tryd.isAgg0
  z0 := Tryd.sizeOf0
  v0 := Tryd.zeroValue0
  t2 := Tryd.underlying2
  a2 := Tryd.isAgg2
  z2 := Tryd.sizeOf2
  v2 := Tryd.zeroValue2
  t3 := Tryd.underlying3
  a3 := Tryd.isAgg3
  z3 := Tryd.sizeOf3
  v3 := Tryd.zeroValue3
  t4 := Tryd.underlying4
  a4 := Tryd.isAgg4
  z4 := Tryd.sizeOf4
  v4 := Tryd.zeroValue4
  t5 := Tryd.underlying5
  a5 := Tryd.isAgg5
  z5 := Tryd.sizeOf5
  v5 := Tryd.zeroValue5
  t9 := Tryd.underlying9
  a9 := Tryd.isAgg9
  z9 := Tryd.sizeOf9
  v9 := Tryd.zeroValue9
  t20 := Tryd.underlying20
  a20 := Tryd.isAgg20
  z20 := Tryd.sizeOf20
  v20 := Tryd.zeroValue20
  t37 := Tryd.underlying74
  a37 := Tryd.isAgg74
  z37 := Tryd.sizeOf74
  v37 := Tryd.zeroValue74
  t46 := Tryd.underlying24
  a46 := Tryd.isAgg24
  z46 := Tryd.sizeOf24
  v46 := Tryd.zeroValue24
  t51 := Tryd.underlying29
  a51 := Tryd.isAgg29
  z51 := Tryd.sizeOf29
  v51 := Tryd.zeroValue29
  t53 := Tryd.underlying71
  a53 := Tryd.isAgg71
  z53 := Tryd.sizeOf71
  v53 := Tryd.zeroValue71
  t171 := Tryd.underlying101
  a171 := Tryd.isAgg101
  z171 := Tryd.sizeOf101
  v171 := Tryd.zeroValue101
  t173 := Tryd.underlying104
  a173 := Tryd.isAgg104
  z173 := Tryd.sizeOf104
  v173 := Tryd.zeroValue104
  t212 := Tryd.underlying122
  a212 := Tryd.isAgg122
  z212 := Tryd.sizeOf122
  v212 := Tryd.zeroValue122
  t213 := Tryd.underlying123
  a213 := Tryd.isAgg123
  z213 := Tryd.sizeOf123
  t232 := Tryd.underlying150
  a232 := Tryd.isAgg150
  z232 := Tryd.sizeOf150
  v232 := Tryd.zeroValue150
  t233 := Tryd.underlying151
  a233 := Tryd.isAgg151
  z233 := Tryd.sizeOf151
  v233 := Tryd.zeroValue151
  g17 := by kernel_rfl
  g18 := by kernel_rfl
  g19 := by kernel_rfl
  i0 := by kernel_rfl
  i2 := by kernel_rfl
  i3 := by kernel_rfl
  i4 := by kernel_rfl
  i5 := by kernel_rfl
  i9 := by kernel_rfl
  i20 := by kernel_rfl
  i37 := by kernel_rfl
  i46 := by kernel_rfl
  i51 := by kernel_rfl
  i53 := by kernel_rfl
  i171 := by kernel_rfl
  i173 := by kernel_rfl
  i212 := by kernel_rfl
  i232 := by kernel_rfl
  i233 := by kernel_rfl
  m17 := by kernel_rfl
  m18 := by kernel_rfl
  m19 := by kernel_rfl }
theorem Tryd.extra169 : Builder.Extra Tryd.prog Tryd.lays169_ren where
  sizeBuilder := by kernel_rfl
  liesBuilder := by kernel_rfl
  t5 := Tryd.underlying5
  a5 := Tryd.isAgg5
  z5 := Tryd.sizeOf5
  v5 := Tryd.zeroValue5
  infoByte := by kernel_rfl
  cellsByte := by kernel_rfl
  sizeByte := by kernel_rfl
  neB5 := by decide
theorem Tryd.extra105 : Builder.Extra Tryd.prog Tryd.lays105_ren where
  sizeBuilder := by kernel_rfl
  liesBuilder := by kernel_rfl
  t5 := Tryd.underlying5
  a5 := Tryd.isAgg5
  z5 := Tryd.sizeOf5
  v5 := Tryd.zeroValue5
  infoByte := by kernel_rfl
  cellsByte := by kernel_rfl
  sizeByte := by kernel_rfl
  neB5 := by decide
open Go.RowKit Go.Sort Go.Lib
/-- what the calls of a builder keep: all below B -/
theorem Tryd.sbString (B b : Nat) (l : List UInt8) (w : World) (h : Lib.IsBuilderF 76 5 B b (Lib.byteCells l) w) (hBw : B ≤ w.heap.size) :
    Calls Tryd.prog 36 #[.pointer (some ⟨b, 0, none⟩)] w fun e w' => e = .returned (.string ⟨l.toArray⟩) ∧ Below B w w' :=
  (Any.Builder_String_any_k Tryd.lays169 Tryd.extra169 B b l w h hBw).mono fun _ _ ⟨h1, _, h3, _⟩ => ⟨h1, h3⟩
theorem Tryd.repeats (s : ByteArray) (c : Nat) (w : World) (hc : c ≤ 9223372036854775807) (hlen : s.size * c ≤ 140737488355328) :
    Calls Tryd.prog 46 #[.string s, .int .i64 c] w fun e w' => e = .returned (.string ⟨(Lib.repeatL s.data.toList c).toArray⟩) ∧ Below w.heap.size w w' := Any.strings_Repeat Tryd.lays105 Tryd.extra105 s c w hc hlen
theorem Tryd.below_grow (w : World) (k : Nat) (os : Array Obj) : Below w.heap.size w (grow (w.drewN k) os) :=
  ⟨rfl, rfl, rfl, by simp [grow], fun j hj => by simp [grow, Array.getElem?_append, hj]⟩
theorem Tryd.itoa (n : Int) (h0 : -9223372036854775808 ≤ n) (h1 : n ≤ 9223372036854775807) (w : World) (htab : Lib.TabIs Tryd.prog w "internal/strconv.uint64pow10" .u64 Lib.pow10Tab) :
    Calls Tryd.prog 9 #[.int .i64 n] w fun e w' => e = .returned (.string ⟨(Lib.itoa n).toArray⟩) ∧ Below w.heap.size w w' :=
  (Any.strconv_Itoa Tryd.laysM171 n h0 h1 w htab).mono fun _ _ ⟨h1, k, os, h2⟩ => ⟨h1, h2 ▸ Tryd.below_grow w k os⟩
end Go.Proofs

namespace Go.Proofs.YtoaplkfmchphbaaDoor
open Go.RowKit Go.Lib
abbrev tB : Nat := 76
theorem sz_B : ∃ j, Tryd.prog.info? 76 = some j ∧ j.size = 2 := Option.map_eq_some_iff.1 (show (Tryd.prog.info? 76).map (·.size) = some 2 by kernel_rfl)
section
variable (B b : Nat) (bs : List Value) (w : World)
set_option maxHeartbeats 1000000 in
set_option maxRecDepth 100000 in
theorem cc_any (h : Lib.IsBuilderF 76 5 B b bs w) : Calls Tryd.prog 45 #[.pointer (some ⟨b, 0, none⟩)] w fun e w' => e = .returned (.tuple #[]) ∧ Lib.BuilderAtF 76 5 B b (.pointer (some ⟨b, 0, none⟩)) bs w' ∧ Below B w w' := by
  obtain ⟨j, hj, hjs⟩ := sz_B
  rcases h with h | h
  · have c0 := h.cell0
    have s0 := h.shape
    have f0 := h.frozen0
    have H := hide h
    clear h
    go_enter Tryd.func45, Tryd.ntmps45
    go_wp2
    rw [Lib.run_to_unsafe w ⟨b, 0, none⟩ Tryd.underlying73 Tryd.underlying113 hj (by rw [hjs]; decide) s0 (Nat.zero_lt_succ 1)]
    simp only [Result.andThen]
    rw [Oper.upon_value]
    go_wp2
    rw [run_callFunc_extern Tryd.func60 (by kernel_rfl) (by kernel_rfl) (by kernel_rfl) (e := Extern.AbiNoEscape.same) (by kernel_rfl), Lib.run_noEscape]
    simp only [Result.andThen]
    rw [Oper.upon_value]
    go_wp2
    rw [Lib.run_from_unsafe w ⟨b, 0, none⟩ Tryd.underlying113 Tryd.underlying73 hj s0 Tryd.extra169.liesBuilder]
    simp only [Result.andThen]
    rw [Oper.upon_value]
    go_wp2
    go_end0
    exact ⟨rfl, H.out.used _, (Below.refl B w).setCell (p := ⟨b, 0, none⟩) H.out.1 _⟩
  · have c0 := h.cell0
    have H := hide h
    clear h
    go_enter Tryd.func45, Tryd.ntmps45
    go_wp2
    rw [Lib.run_neq_ptr_same w _ Tryd.underlying73 hj]
    go_wp2
    go_end0
    exact ⟨rfl, H.out, Below.refl B _⟩
theorem put_new {v v' : Value} {bs' : List Value} {w1 w2 : World} {m : Nat} (hB : B ≤ b) (hbk : w1.heap[b]? = some (.cells #[.pointer (some ⟨b, 0, none⟩), v] 76 (0, 0))) (hne : v.ownBlock ≠ some b) (hm : b < m)
    (hg : ∀ k, k < m → v.ownBlock ≠ some k → w2.heap[k]? = w1.heap[k]?) (ho : w2.ownsRowF B 5 1 v' bs'.length bs') :
    w2.cell? ⟨b, 0, none⟩ = some (.pointer (some ⟨b, 0, none⟩)) ∧ w2.cell? ⟨b, 1, none⟩ = some v ∧ w2.frozen? ⟨b, 1, none⟩ = false ∧ Lib.IsBuilderF 76 5 B b bs' (w2.setCell ⟨b, 1, none⟩ v') := by
  have e : w2.heap[b]? = some (.cells #[.pointer (some ⟨b, 0, none⟩), v] 76 (0, 0)) := by rw [hg b hm hne, hbk]
  exact ⟨by rw [Lib.cell_of_heap e]; rfl, by rw [Lib.cell_of_heap e]; rfl, Lib.frozen_of_heap e 1, .inr (Lib.BuilderAtF.put (T := 76) (e := 5) hB e ho (by decide))⟩
theorem heap_lt {w1 : World} {o : Obj} (h : w1.heap[b]? = some o) : b < w1.heap.size := by
  rcases Nat.lt_or_ge b w1.heap.size with h' | h'
  · exact h'
  · simp [Array.getElem?_eq_none h'] at h
set_option maxHeartbeats 1000000 in
set_option maxRecDepth 100000 in
theorem sbStr (s : ByteArray) (h : Lib.IsBuilderF 76 5 B b bs w) (hlen : bs.length + s.size ≤ 140737488355328) (hBw : B ≤ w.heap.size) :
    Calls Tryd.prog 33 #[.pointer (some ⟨b, 0, none⟩), .string s] w fun e w' => e = .returned (.tuple #[.int .i64 s.size, .nilIface]) ∧ Lib.IsBuilderF 76 5 B b (bs ++ Lib.strCells s) w' ∧ Below B w w' := by
  obtain ⟨i0, hi, hz0, hz1, hz2⟩ := info_parts Tryd.extra169.infoByte
  go_enter Tryd.func33, Tryd.ntmps33
  go_wp2_with fail
  refine (cc_any B b bs _ h).mono ?_
  rintro e w1 ⟨rfl, ⟨hB, v, hbk, hown, hne⟩, hb1⟩
  have hs1 := hb1.size
  have c0 : w1.cell? ⟨b, 0, none⟩ = some (.pointer (some ⟨b, 0, none⟩)) := by rw [Lib.cell_of_heap hbk]; rfl
  have c1 : w1.cell? ⟨b, 1, none⟩ = some v := by rw [Lib.cell_of_heap hbk]; rfl
  go_wp2_with (at_builtin; refine Lib.wpList_append_own_stringF _ rfl _ _ 74 9 rfl B 5 i0 Tryd.underlying74 Tryd.underlying9 hi hz0 hz1 hz2 _ _ _ rfl hown s rfl ?c3 ?c4 ?c5 ?_)
  case c3 => unfold maxLen; omega
  case c4 => omega
  case c5 => omega
  intro v' w2 hown' hg _
  obtain ⟨d0, d1, f1, hI⟩ := put_new B b (bs' := bs ++ Lib.strCells s) hB hbk hne (heap_lt b hbk) (fun k hk hn => hg.block k hk (fun e => hn e.symm)) (by simpa [Lib.strCells_length] using hown')
  have HI := hide hI
  have HG := hide (hb1.grown hg (by omega) (fun k hk => (hown.lt k hk).1))
  clear hI hg
  obtain ⟨ao, n', cap, rfl⟩ : ∃ ao n' cap, v' = .slice ao n' cap := by
    rcases hown'.2 with ⟨hv, _⟩ | ⟨g, cap, cur, fz, hv, _⟩
    · exact ⟨_, _, _, hv⟩
    · exact ⟨_, _, _, hv⟩
  go_wp2
  go_ret2
  exact ⟨rfl, HI.out, HG.out.setCell (p := ⟨b, 1, none⟩) hB _⟩
set_option maxHeartbeats 1000000 in
set_option maxRecDepth 100000 in
theorem sbByte (c : Int) (h : Lib.IsBuilderF 76 5 B b bs w) (hlen : bs.length + 1 ≤ 140737488355328) (hBw : B ≤ w.heap.size) :
    Calls Tryd.prog 35 #[.pointer (some ⟨b, 0, none⟩), .int .u8 c] w fun e w' => e = .returned .nilIface ∧ Lib.IsBuilderF 76 5 B b (bs ++ [.int .u8 c]) w' ∧ Below B w w' := by
  obtain ⟨i0, hi, hz0, hz1, hz2⟩ := info_parts Tryd.extra169.infoByte
  go_enter Tryd.func35, Tryd.ntmps35
  go_wp2_with fail
  refine (cc_any B b bs _ h).mono ?_
  rintro e w1 ⟨rfl, ⟨hB, v, hbk, hown, hne⟩, hb1⟩
  have hs1 := hb1.size
  have c0 : w1.cell? ⟨b, 0, none⟩ = some (.pointer (some ⟨b, 0, none⟩)) := by rw [Lib.cell_of_heap hbk]; rfl
  have c1 : w1.cell? ⟨b, 1, none⟩ = some v := by rw [Lib.cell_of_heap hbk]; rfl
  have hl1 := heap_lt b hbk
  go_wp2_with (at_builtin; refine wpList_append_ownF _ rfl _ _ 74 rfl B 5 i0 (.int .u8 0) 1 1 Tryd.underlying74 hi hz0 hz1 hz2 rfl (by decide) _ _ _ rfl (hown.alloc _) ⟨w1.heap.size, 0, none⟩ 1 1 [.int .u8 c] rfl rfl ?c1 ?c2 ?c3 ?c4 ?c5 ?_)
  case c1 =>
    intro j u hj
    match j, hj with
    | 0, hj => simp at hj; subst hj; simp [Addr.add]
  case c2 => intro u hu; simp at hu; subst hu; rfl
  case c3 => unfold maxLen; omega
  case c4 => omega
  case c5 => simp; omega
  intro v' w2 hown' hg _
  obtain ⟨d0, d1, f1, hI⟩ := put_new B b (bs' := bs ++ [.int .u8 c]) (w1 := w1.alloc _) hB (by rw [Lib.alloc_old w1 _ b hl1]; exact hbk) hne (m := w1.heap.size + 1) (by omega) (fun k hk hn => hg.block k (by simp; omega) (fun e => hn e.symm)) (by simpa using hown')
  have HI := hide hI
  have HG := hide ((hb1.alloc (by omega) _).grown hg (by simp; omega) (fun k hk => (hown.lt k hk).1))
  clear hI hg
  obtain ⟨ao, n', cap, rfl⟩ : ∃ ao n' cap, v' = .slice ao n' cap := by
    rcases hown'.2 with ⟨hv, _⟩ | ⟨g, cap, cur, fz, hv, _⟩
    · exact ⟨_, _, _, hv⟩
    · exact ⟨_, _, _, hv⟩
  go_wp2
  go_ret
  exact ⟨rfl, HI.out, HG.out.setCell (p := ⟨b, 1, none⟩) hB _⟩
end
end Go.Proofs.YtoaplkfmchphbaaDoor
