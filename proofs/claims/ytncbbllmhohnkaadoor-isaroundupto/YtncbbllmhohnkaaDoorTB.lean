import Derived.Test.YtncbbllmhohnkaaDoorTA
import Derived.Test.YtncbbllmhohnkaaDoorI5
import Derived.Laws.BytesString
import Derived.Laws.ShiftsVar
import Derived.Deep.Cut
import Derived.Deep.DeepCutAuto
import Derived.WalkSmall
import Derived.BigQuiet
namespace Go.Proofs.YtncbbllmhohnkaaDoor
open Go.RowKit
/-- the table by which trailing zeros are found, where 16 comes to -/
def Tz (w : World) : Prop := w.cell? ⟨3, 15, none⟩ = some (.int .u8 4)
theorem Tz.below {w w' : World} (h : Tz w) (hb : Below w.heap.size w w') : Tz w' := by
  unfold Tz
  rw [hb.cell (p := ⟨3, 15, none⟩) (cell_lt h)]
  exact h
theorem wraps_u64 (n : Int) (h₀ : 0 ≤ n) (h₁ : n < 2 ^ 64) : IntKind.u64.wrap n = n := by rw [IntKind.wrap_u64]; omega
theorem u64_mask (i : Nat) (hi : i ≤ 64) (x : Int) (h₀ : 0 ≤ x) (h₁ : x < 18446744073709551616) : bits .and .u64 x (2 ^ i - 1) = x % 2 ^ i := bits_mask .u64 64 (by decide) wraps_u64 i hi x h₀ h₁
section
variable (w : World)
set_option maxRecDepth 100000 in
theorem tz_any (hT : Tz w) : Calls Tryd.prog 87 #[.int .u64 16] w fun e w' => e = .returned (.int .i64 4) ∧ w' = w := by
  have e1 : IntKind.u64.wrap (-16) = 18446744073709551600 := by decide
  have b1 : bits .and .u64 16 18446744073709551600 = 16 := by decide
  have e2 : IntKind.u64.wrap 4573923408821661840 = 4573923408821661840 := by decide
  unfold Tz at hT
  go_enter Tryd.func87, Tryd.ntmps87
  go_wp2
  go_ret
  exact ⟨rfl, rfl⟩
theorem tzs_any (hT : Tz w) : Calls Tryd.prog 69 #[.int .u64 16] w fun e w' => e = .returned (.int .i64 4) ∧ w' = w := by
  go_enter Tryd.func69, Tryd.ntmps69
  go_wp2_with fail
  refine (tz_any w hT).mono ?_
  rintro e w1 ⟨rfl, rfl⟩
  go_wp2
  go_ret
  exact ⟨rfl, rfl⟩
theorem fold_push : ∀ (L : List UInt8) (s : ByteArray), (L.map fun c => ((c.toNat : Nat) : Int)).foldl (fun r n => r.push (UInt8.ofNat n.toNat)) s = ⟨(s.data.toList ++ L).toArray⟩
  | [], s => by simp
  | c :: r, s => by
    simp only [List.map_cons, List.foldl_cons]
    rw [fold_push r]
    simp [ByteArray.push]
/-- bytes that lie in a row, as a string -/
theorem str_of (L : List UInt8) (a : Addr) (n cap : Nat) (hn : n = L.length) (h : ∀ j (hj : j < L.length), w.cell? (a.add j) = some (.int .u8 (L[j].toNat : Nat))) : (convert 74 9 (.slice (some a) n cap)).run Tryd.prog w = .ok (.string ⟨L.toArray⟩) w := by
  subst hn
  rw [run_convert_bytes_string w 74 9 5 _ _ _ Tryd.underlying74 Tryd.underlying5 Tryd.underlying9]
  rw [run_bytesToString w a L.length cap (L.map fun c => ((c.toNat : Nat) : Int)), fold_push]
  · simp
  · have e := run_loadCells_list (P := Tryd.prog) (w := w) a (L.map fun c => Value.int .u8 ((c.toNat : Nat) : Int)) (fun j v hv => by
      rw [List.getElem?_map] at hv
      by_cases hj : j < L.length
      · rw [List.getElem?_eq_getElem hj] at hv
        simp at hv
        rw [h j hj, ← hv]
      · rw [List.getElem?_eq_none (by omega)] at hv
        simp at hv)
    simpa [Function.comp_def] using e
def dgs : ByteArray := ⟨#[48, 49, 50, 51, 52, 53, 54, 55, 56, 57, 97, 98, 99, 100, 101, 102, 103, 104, 105, 106, 107, 108, 109, 110, 111, 112, 113, 114, 115, 116, 117, 118, 119, 120, 121, 122]⟩
theorem dg_at (v : Nat) (h : v < 16) (h' : v < dgs.size) : dgs[v] = hd v := by
  match v, h with
  | k + 16, h => omega
  | 0, _ => rfl
  | 1, _ => rfl
  | 2, _ => rfl
  | 3, _ => rfl
  | 4, _ => rfl
  | 5, _ => rfl
  | 6, _ => rfl
  | 7, _ => rfl
  | 8, _ => rfl
  | 9, _ => rfl
  | 10, _ => rfl
  | 11, _ => rfl
  | 12, _ => rfl
  | 13, _ => rfl
  | 14, _ => rfl
  | 15, _ => rfl
def Z65 : Array Value := (List.replicate 65 (Value.int .u8 0)).toArray
theorem zero65 (w : World) : (zeroValue 123).run Tryd.prog w = .ok (.agg Z65) w := by
  unfold zeroValue
  rw [Sem.run_bind, Tryd.typeInfo123]
  simp [show Tryd.t123.zero = some (.agg Z65) by kernel_rfl]
theorem ipt_any : Calls Tryd.prog 68 #[.int .i64 16] w fun e w' => e = .returned (.bool true) ∧ w' = w := by
  have b1 : bits .and .i64 16 15 = 0 := by decide
  go_enter Tryd.func68, Tryd.ntmps68
  go_wp2
  go_ret
  exact ⟨rfl, rfl⟩
theorem shrS {ops : Array Oper} {rest : List Oper} {op : Oper} {a : Act} {w : World} {Q : Exit → Act → World → Prop} (hw : Region.wanted op (yielded ops a.tmps) = true) (x y : Operand) (ho : op.op = .binOp .shr 71 x y 24) (v q : Nat) (hx : a.eval x = .int .u64 (v : Int)) (hy : a.eval y = .int .u64 4) (hq : q = v / 16)
    (h : wpList Tryd.prog ops Q rest (a.put op.dst (.int .u64 (q : Int))) w) : wpList Tryd.prog ops Q (op :: rest) a w :=
  BigFrame.wpList_want hw fun K hK => by
    have hr : (execOp a.eval op).run Tryd.prog w = .ok (.value (.int .u64 (q : Int))) w := by
      unfold execOp
      simp only [ho, hx, hy]
      rw [hq]
      go_simp
    have h9 := hK _ _ h
    unfold Oper.wp
    rw [hr]
    exact h9
/-- the digits laid so far, at the end of the row -/
def Dg (wr : World) (g m : Nat) (D : List UInt8) : Prop := ∃ cs : Array Value, wr.heap[g]? = some (.cells cs 123 (0, 0)) ∧ cs.size = 65 ∧ (∀ j, j < 65 → ∃ x : Int, cs[j]? = some (.int .u8 x)) ∧ ∀ j (h : j < D.length), cs[m + 1 + j]? = some (.int .u8 (D[j].toNat : Nat))
theorem Dg.cell {wr : World} {g m : Nat} {D : List UInt8} (h : Dg wr g m D) (j : Nat) (hj : j < 65) : ∃ x : Int, wr.cell? ⟨g, j, none⟩ = some (.int .u8 x) := by
  obtain ⟨cs, h1, _, h2, _⟩ := h
  obtain ⟨x, hx⟩ := h2 j hj
  exact ⟨x, by rw [Lib.cell_of_heap h1]; exact hx⟩
theorem Dg.frz {wr : World} {g m : Nat} {D : List UInt8} (h : Dg wr g m D) (j : Nat) : wr.frozen? ⟨g, j, none⟩ = false := by
  obtain ⟨cs, h1, _⟩ := h
  exact Lib.frozen_of_heap h1 j
theorem Dg.put {wr : World} {g m : Nat} {D : List UInt8} (h : Dg wr g m D) (hm : m + 1 + D.length = 65) (c : UInt8) : Dg (wr.setCell ⟨g, m, none⟩ (.int .u8 (c.toNat : Nat))) g (m - 1) (c :: D) ∨ m = 0 := by
  by_cases h0 : m = 0
  · exact .inr h0
  obtain ⟨cs, h1, h2, h3, h4⟩ := h
  refine .inl ⟨cs.setIfInBounds m (.int .u8 (c.toNat : Nat)), ?_, by simpa using h2, ?_, ?_⟩
  · exact heap_setCell_same wr g m _ _ _ h1
  · intro j hj
    rw [Array.getElem?_setIfInBounds]
    split
    · simp; omega
    · exact h3 j hj
  · intro j hj
    rw [Array.getElem?_setIfInBounds]
    cases j with
    | zero => rw [if_pos (by omega), if_pos (by omega)]; rfl
    | succ j =>
      rw [if_neg (by omega), show m - 1 + 1 + (j + 1) = m + 1 + j by omega]
      exact h4 j (by simpa using hj)
theorem Dg.start (w : World) : Dg (w.alloc (.cells Z65 123)) w.heap.size 64 [] := by
  refine ⟨Z65, heap_alloc_last _ _, by simp [Z65], ?_, fun j hj => by simp at hj⟩
  intro j hj
  exact ⟨0, by unfold Z65; rw [List.getElem?_toArray, List.getElem?_replicate, if_pos hj]⟩
set_option maxRecDepth 100000 in
set_option maxHeartbeats 1000000 in
theorem fmt16 (n : Nat) (hn : n < 4294967296) (hT : Tz w) : Calls Tryd.prog 52 #[.slice none 0 0, .int .u64 (n : Int), .int .i64 16, .bool false, .bool false] w fun e w' => e = .returned (.tuple #[.slice none 0 0, .string ⟨(hxA 7 n []).toArray⟩]) ∧ Below w.heap.size w w' := by
  have hT1 : ∀ o, Tz (w.alloc o) := fun o => hT.below (bel1 _ _)
  have h65 := zero65
  go_enter Tryd.func52, Tryd.ntmps52
  go_wp2_with fail
  refine (ipt_any _).mono ?_
  rintro e w1 ⟨rfl, rfl⟩
  go_wp2_with fail
  refine (tzs_any _ (hT1 _)).mono ?_
  rintro e w1 ⟨rfl, rfl⟩
  go_upto_region 11 with fail
  go_loopw [1, 13] (fun u i wr => ∃ (f : Nat) (D : List UInt8) (m v : Nat), u = .int .u64 (v : Int) ∧ i = .int .i64 ((m + 1 : Nat) : Int) ∧ hxA f v D = hxA 7 n [] ∧ D.length + f = 7 ∧ m + 1 + D.length = 65 ∧ v < 16 ^ (f + 1) ∧ Dg wr w.heap.size m D ∧ Below w.heap.size w wr) (fun u _ _ => (intOf u).toNat)
  case atStart => exact ⟨7, [], 64, n, rfl, rfl, rfl, rfl, rfl, by omega, Dg.start w, bel1 _ _⟩
  case round =>
  obtain ⟨f, D, m, v, rfl, rfl, hx, hf, hm, hv, hD, hB⟩ := hrel
  have hv8 : v < 4294967296 := Nat.lt_of_lt_of_le hv (Nat.le_trans (Nat.pow_le_pow_right (n := 16) (by decide) (show f + 1 ≤ 8 by omega)) (by decide))
  have HV := hide hv
  have HX := hide hx
  have HF := hide hf
  have HM := hide hm
  have hm57 : 57 ≤ m := by omega
  have hm65 : m < 65 := by omega
  obtain ⟨x0, c0⟩ := hD.cell m hm65
  have f0 := hD.frz m
  have HD := hide hD
  have HB := hide hB
  clear hv hx hf hm hD hB
  have hal : Tryd.prog.arrayLen 123 = 65 := by kernel_rfl
  by_cases h16 : v < 16
  · have hi : (v : Int) < 16 := by omega
    have hsl : ∀ W, (Instr.sliceAt 123 (.pointer (some ⟨w.heap.size, 0, none⟩)) (some (.int .i64 (m : Int))) none none).run Tryd.prog W = .ok (.slice (some ⟨w.heap.size, m, none⟩) (65 - m) (65 - m)) W := fun W => by
      rw [run_sliceAt_array_l (t := 123) (a := ⟨w.heap.size, 0, none⟩) (w := W) (by kernel_rfl) .i64 (m : Int) (by omega) (by rw [hal]; omega)]
      go_simp
      omega
    clear hal
    obtain ⟨c, hc⟩ : ∃ c, hd v = c := ⟨_, rfl⟩
    have hcv : ∀ h', dgs[v]'h' = c := fun h' => by rw [dg_at v h16 h', hc]
    have hp := HD.out.put HM.out c
    have hst : (convert 74 9 (.slice (some ⟨w.heap.size, m, none⟩) (65 - m) (65 - m))).run Tryd.prog (wr.setCell ⟨w.heap.size, m, none⟩ (.int .u8 (c.toNat : Nat))) = .ok (.string ⟨(c :: D).toArray⟩) (wr.setCell ⟨w.heap.size, m, none⟩ (.int .u8 (c.toNat : Nat))) := by
      refine str_of _ (c :: D) _ _ _ (by have := HM.out; simp; omega) fun j hj => ?_
      rcases hp with ⟨cs, h1, _, _, h4⟩ | h0
      · rw [show (⟨w.heap.size, m, none⟩ : Addr).add j = ⟨w.heap.size, m + j, none⟩ by unfold Addr.add; split <;> simp_all, Lib.cell_of_heap h1]
        have := h4 j hj
        rw [show m - 1 + 1 + j = m + j by omega] at this
        exact this
      · omega
    have HC : Hid (hxA 7 n [] = c :: D) := hide (by rw [← HX.out, hxA_stop h16, hc])
    clear hp hc
    unfold dgs at hcv
    go_wp2
    go_ret2
    exact ⟨by rw [HC.out]; rfl, HB.out.setCell (Nat.le_refl _) _⟩
  · have hi : (16 : Int) ≤ (v : Int) := by omega
    clear hal
    have b1 : bits .and .u64 (v : Int) 15 = (v % 16 : Nat) := by
      rw [show (15 : Int) = 2 ^ 4 - 1 from rfl, u64_mask 4 (by decide) _ (by omega) (by omega)]; omega
    have d1 : (v : Int) / 16 = (v / 16 : Nat) := by omega
    have hr : v % 16 < 16 := Nat.mod_lt _ (by decide)
    obtain ⟨r, er⟩ : ∃ r, v % 16 = r := ⟨_, rfl⟩
    rw [er] at b1 hr
    have hr2 : (r : Int) < 36 := by omega
    obtain ⟨c, hc⟩ : ∃ c, hd r = c := ⟨_, rfl⟩
    have hcv : ∀ h', dgs[r]'h' = c := fun h' => by rw [dg_at r hr h', hc]
    have hp := hide (HD.out.put HM.out c)
    obtain ⟨f', hf'⟩ : ∃ f', f = f' + 1 := by
      cases f with
      | zero => have := HV.out; simp at this; omega
      | succ f' => exact ⟨f', rfl⟩
    have HF' := hide hf'
    have HC : Hid (hxA f' (v / 16) (c :: D) = hxA 7 n []) := hide (by rw [← HX.out, hf', hxA_go h16, er, hc])
    have HV2 : Hid (v / 16 < 16 ^ (f' + 1)) := hide (by
      have h1 := HV.out
      rw [hf', Nat.pow_succ] at h1
      omega)
    clear hc hf' er
    unfold dgs at hcv
    obtain ⟨q, eq⟩ : ∃ q, q = v / 16 := ⟨_, rfl⟩
    have hqv : q < v := by omega
    rw [← eq] at HC HV2
    have HQ := hide eq
    clear d1 eq
    go_upto_region 14 with fail
    go_wp2_with (refine shrS rfl _ _ rfl v q rfl rfl HQ.out ?_)
    go_roundw
    case rel => exact ⟨f', c :: D, m - 1, q, rfl, by rw [show m - 1 + 1 = m by omega], HC.out, by have h1 := HF.out; have h2 := HF'.out; simp; omega, by have h1 := HM.out; simp; omega, HV2.out, hp.out.resolve_right (by omega), HB.out.setCell (Nat.le_refl _) _⟩
    case measure => simp [intOf]; omega
theorem ifmt_any (n : Nat) (hn : n < 4294967296) (hT : Tz w) : Calls Tryd.prog 44 #[.int .u64 (n : Int), .int .i64 16] w fun e w' => e = .returned (.string ⟨(hxA 7 n []).toArray⟩) ∧ Below w.heap.size w w' := by
  go_enter Tryd.func44, Tryd.ntmps44
  go_wp2_with fail
  refine (fmt16 _ n hn hT).mono ?_
  rintro e w1 ⟨rfl, hb⟩
  go_wp2
  go_ret
  exact ⟨rfl, hb⟩
theorem fmt_any (n : Nat) (hn : n < 4294967296) (hT : Tz w) : Calls Tryd.prog 31 #[.int .u64 (n : Int), .int .i64 16] w fun e w' => e = .returned (.string ⟨(hxA 7 n []).toArray⟩) ∧ Below w.heap.size w w' := by
  go_enter Tryd.func31, Tryd.ntmps31
  go_wp2_with fail
  refine (ifmt_any _ n hn hT).mono ?_
  rintro e w1 ⟨rfl, hb⟩
  go_wp2
  go_ret
  exact ⟨rfl, hb⟩
end
end Go.Proofs.YtncbbllmhohnkaaDoor
