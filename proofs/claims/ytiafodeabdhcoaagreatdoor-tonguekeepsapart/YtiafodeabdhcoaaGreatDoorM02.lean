import Derived.Laws.BytesString
import Derived.Laws.ShiftsVar
import Derived.Deep.Cut
import Derived.Deep.DeepCutAuto
import Derived.WalkSmall
import Derived.BigQuiet
import Derived.Laws.AppendOwn
import Derived.Test.YtiafodeabdhcoaaGreatDoorM00
import Derived.Test.YtiafodeabdhcoaaGreatDoorM01
namespace Go.Proofs.YtiafodeabdhcoaaGreatDoor
open Go.RowKit
/-- the table by which trailing zeros are found, where 16 comes to -/
def Tz (w : World) : Prop := w.cell? ⟨3, 15, none⟩ = some (.int .u8 4)
theorem Tz.below {w w' : World} (h : Tz w) (hb : Below w.heap.size w w') : Tz w' := by
  unfold Tz
  rw [hb.cell (p := ⟨3, 15, none⟩) (cell_lt h)]
  exact h
theorem wraps_u64 (n : Int) (h₀ : 0 ≤ n) (h₁ : n < 2 ^ 64) : IntKind.u64.wrap n = n := by rw [IntKind.wrap_u64]; omega
theorem u64_mask (i : Nat) (hi : i ≤ 64) (x : Int) (h₀ : 0 ≤ x) (h₁ : x < 18446744073709551616) : bits .and .u64 x (2 ^ i - 1) = x % 2 ^ i := bits_mask .u64 64 (by decide) wraps_u64 i hi x h₀ h₁
section
variable (w : World)
set_option maxRecDepth 100000 in
theorem tz_any (hT : Tz w) : Calls Tryz.prog 100 #[.int .u64 16] w fun e w' => e = .returned (.int .i64 4) ∧ w' = w := by
  have e1 : IntKind.u64.wrap (-16) = 18446744073709551600 := by decide
  have b1 : bits .and .u64 16 18446744073709551600 = 16 := by decide
  have e2 : IntKind.u64.wrap 4573923408821661840 = 4573923408821661840 := by decide
  unfold Tz at hT
  go_enter Tryz.func100, Tryz.ntmps100
  go_wp2
  go_ret
  exact ⟨rfl, rfl⟩
theorem tzs_any (hT : Tz w) : Calls Tryz.prog 68 #[.int .u64 16] w fun e w' => e = .returned (.int .i64 4) ∧ w' = w := by
  go_enter Tryz.func68, Tryz.ntmps68
  go_wp2_with fail
  refine (tz_any w hT).mono ?_
  rintro e w1 ⟨rfl, rfl⟩
  go_wp2
  go_ret
  exact ⟨rfl, rfl⟩
theorem fold_push : ∀ (L : List UInt8) (s : ByteArray), (L.map fun c => ((c.toNat : Nat) : Int)).foldl (fun r n => r.push (UInt8.ofNat n.toNat)) s = ⟨(s.data.toList ++ L).toArray⟩
  | [], s => by simp
  | c :: r, s => by
    simp only [List.map_cons, List.foldl_cons]
    rw [fold_push r]
    simp [ByteArray.push]
/-- bytes that lie in a row, as a string -/
theorem str_of (L : List UInt8) (a : Addr) (n cap : Nat) (hn : n = L.length) (h : ∀ j (hj : j < L.length), w.cell? (a.add j) = some (.int .u8 (L[j].toNat : Nat))) : (convert 81 9 (.slice (some a) n cap)).run Tryz.prog w = .ok (.string ⟨L.toArray⟩) w := by
  subst hn
  rw [run_convert_bytes_string w 81 9 5 _ _ _ Tryz.underlying81 Tryz.underlying5 Tryz.underlying9]
  rw [run_bytesToString w a L.length cap (L.map fun c => ((c.toNat : Nat) : Int)), fold_push]
  · simp
  · have e := run_loadCells_list (P := Tryz.prog) (w := w) a (L.map fun c => Value.int .u8 ((c.toNat : Nat) : Int)) (fun j v hv => by
      rw [List.getElem?_map] at hv
      by_cases hj : j < L.length
      · rw [List.getElem?_eq_getElem hj] at hv
        simp at hv
        rw [h j hj, ← hv]
      · rw [List.getElem?_eq_none (by omega)] at hv
        simp at hv)
    simpa [Function.comp_def] using e
def dgs : ByteArray := ⟨#[48, 49, 50, 51, 52, 53, 54, 55, 56, 57, 97, 98, 99, 100, 101, 102, 103, 104, 105, 106, 107, 108, 109, 110, 111, 112, 113, 114, 115, 116, 117, 118, 119, 120, 121, 122]⟩
theorem dg_at (v : Nat) (h : v < 16) (h' : v < dgs.size) : dgs[v] = hd v := by
  match v, h with
  | k + 16, h => omega
  | 0, _ => rfl
  | 1, _ => rfl
  | 2, _ => rfl
  | 3, _ => rfl
  | 4, _ => rfl
  | 5, _ => rfl
  | 6, _ => rfl
  | 7, _ => rfl
  | 8, _ => rfl
  | 9, _ => rfl
  | 10, _ => rfl
  | 11, _ => rfl
  | 12, _ => rfl
  | 13, _ => rfl
  | 14, _ => rfl
  | 15, _ => rfl
def Z65 : Array Value := (List.replicate 65 (Value.int .u8 0)).toArray
theorem zero65 (w : World) : (zeroValue 132).run Tryz.prog w = .ok (.agg Z65) w := by
  unfold zeroValue
  rw [Sem.run_bind, Tryz.typeInfo132]
  simp [show Tryz.t132.zero = some (.agg Z65) by kernel_rfl]
theorem ipt_any : Calls Tryz.prog 67 #[.int .i64 16] w fun e w' => e = .returned (.bool true) ∧ w' = w := by
  have b1 : bits .and .i64 16 15 = 0 := by decide
  go_enter Tryz.func67, Tryz.ntmps67
  go_wp2
  go_ret
  exact ⟨rfl, rfl⟩
theorem shrS {ops : Array Oper} {rest : List Oper} {op : Oper} {a : Act} {w : World} {Q : Exit → Act → World → Prop} (hw : Region.wanted op (yielded ops a.tmps) = true) (x y : Operand) (ho : op.op = .binOp .shr 97 x y 134) (v q : Nat) (hx : a.eval x = .int .u64 (v : Int)) (hy : a.eval y = .int .u64 4) (hq : q = v / 16)
    (h : wpList Tryz.prog ops Q rest (a.put op.dst (.int .u64 (q : Int))) w) : wpList Tryz.prog ops Q (op :: rest) a w :=
  BigFrame.wpList_want hw fun K hK => by
    have hr : (execOp a.eval op).run Tryz.prog w = .ok (.value (.int .u64 (q : Int))) w := by
      unfold execOp
      simp only [ho, hx, hy]
      rw [hq]
      go_simp
    have h9 := hK _ _ h
    unfold Oper.wp
    rw [hr]
    exact h9
/-- the digits laid so far, at the end of the row -/
def Dg (wr : World) (g m : Nat) (D : List UInt8) : Prop := ∃ cs : Array Value, wr.heap[g]? = some (.cells cs 132 (0, 0)) ∧ cs.size = 65 ∧ (∀ j, j < 65 → ∃ x : Int, cs[j]? = some (.int .u8 x)) ∧ ∀ j (h : j < D.length), cs[m + 1 + j]? = some (.int .u8 (D[j].toNat : Nat))
theorem Dg.cell {wr : World} {g m : Nat} {D : List UInt8} (h : Dg wr g m D) (j : Nat) (hj : j < 65) : ∃ x : Int, wr.cell? ⟨g, j, none⟩ = some (.int .u8 x) := by
  obtain ⟨cs, h1, _, h2, _⟩ := h
  obtain ⟨x, hx⟩ := h2 j hj
  exact ⟨x, by rw [Lib.cell_of_heap h1]; exact hx⟩
theorem Dg.frz {wr : World} {g m : Nat} {D : List UInt8} (h : Dg wr g m D) (j : Nat) : wr.frozen? ⟨g, j, none⟩ = false := by
  obtain ⟨cs, h1, _⟩ := h
  exact Lib.frozen_of_heap h1 j
theorem Dg.put {wr : World} {g m : Nat} {D : List UInt8} (h : Dg wr g m D) (hm : m + 1 + D.length = 65) (c : UInt8) : Dg (wr.setCell ⟨g, m, none⟩ (.int .u8 (c.toNat : Nat))) g (m - 1) (c :: D) ∨ m = 0 := by
  by_cases h0 : m = 0
  · exact .inr h0
  obtain ⟨cs, h1, h2, h3, h4⟩ := h
  refine .inl ⟨cs.setIfInBounds m (.int .u8 (c.toNat : Nat)), ?_, by simpa using h2, ?_, ?_⟩
  · exact heap_setCell_same wr g m _ _ _ h1
  · intro j hj
    rw [Array.getElem?_setIfInBounds]
    split
    · simp; omega
    · exact h3 j hj
  · intro j hj
    rw [Array.getElem?_setIfInBounds]
    cases j with
    | zero => rw [if_pos (by omega), if_pos (by omega)]; rfl
    | succ j =>
      rw [if_neg (by omega), show m - 1 + 1 + (j + 1) = m + 1 + j by omega]
      exact h4 j (by simpa using hj)
theorem Dg.start (w : World) : Dg (w.alloc (.cells Z65 132)) w.heap.size 64 [] := by
  refine ⟨Z65, heap_alloc_last _ _, by simp [Z65], ?_, fun j hj => by simp at hj⟩
  intro j hj
  exact ⟨0, by unfold Z65; rw [List.getElem?_toArray, List.getElem?_replicate, if_pos hj]⟩
set_option maxRecDepth 100000 in
set_option maxHeartbeats 1000000 in
theorem fmt16 (n : Nat) (hn : n < 4294967296) (hT : Tz w) : Calls Tryz.prog 43 #[.slice none 0 0, .int .u64 (n : Int), .int .i64 16, .bool false, .bool false] w fun e w' => e = .returned (.tuple #[.slice none 0 0, .string ⟨(hxA 7 n []).toArray⟩]) ∧ Below w.heap.size w w' := by
  have hT1 : ∀ o, Tz (w.alloc o) := fun o => hT.below (bel1 _ _)
  have h65 := zero65
  go_enter Tryz.func43, Tryz.ntmps43
  go_wp2_with fail
  refine (ipt_any _).mono ?_
  rintro e w1 ⟨rfl, rfl⟩
  go_wp2_with fail
  refine (tzs_any _ (hT1 _)).mono ?_
  rintro e w1 ⟨rfl, rfl⟩
  go_upto_region 11 with fail
  go_loopw [1, 13] (fun u i wr => ∃ (f : Nat) (D : List UInt8) (m v : Nat), u = .int .u64 (v : Int) ∧ i = .int .i64 ((m + 1 : Nat) : Int) ∧ hxA f v D = hxA 7 n [] ∧ D.length + f = 7 ∧ m + 1 + D.length = 65 ∧ v < 16 ^ (f + 1) ∧ Dg wr w.heap.size m D ∧ Below w.heap.size w wr) (fun u _ _ => (intOf u).toNat)
  case atStart => exact ⟨7, [], 64, n, rfl, rfl, rfl, rfl, rfl, by omega, Dg.start w, bel1 _ _⟩
  case round =>
  obtain ⟨f, D, m, v, rfl, rfl, hx, hf, hm, hv, hD, hB⟩ := hrel
  have hv8 : v < 4294967296 := Nat.lt_of_lt_of_le hv (Nat.le_trans (Nat.pow_le_pow_right (n := 16) (by decide) (show f + 1 ≤ 8 by omega)) (by decide))
  have HV := hide hv
  have HX := hide hx
  have HF := hide hf
  have HM := hide hm
  have hm57 : 57 ≤ m := by omega
  have hm65 : m < 65 := by omega
  obtain ⟨x0, c0⟩ := hD.cell m hm65
  have f0 := hD.frz m
  have HD := hide hD
  have HB := hide hB
  clear hv hx hf hm hD hB
  have hal : Tryz.prog.arrayLen 132 = 65 := by kernel_rfl
  by_cases h16 : v < 16
  · have hi : (v : Int) < 16 := by omega
    have hsl : ∀ W, (Instr.sliceAt 132 (.pointer (some ⟨w.heap.size, 0, none⟩)) (some (.int .i64 (m : Int))) none none).run Tryz.prog W = .ok (.slice (some ⟨w.heap.size, m, none⟩) (65 - m) (65 - m)) W := fun W => by
      rw [run_sliceAt_array_l (t := 132) (a := ⟨w.heap.size, 0, none⟩) (w := W) (by kernel_rfl) .i64 (m : Int) (by omega) (by rw [hal]; omega)]
      go_simp
      omega
    clear hal
    obtain ⟨c, hc⟩ : ∃ c, hd v = c := ⟨_, rfl⟩
    have hcv : ∀ h', dgs[v]'h' = c := fun h' => by rw [dg_at v h16 h', hc]
    have hp := HD.out.put HM.out c
    have hst : (convert 81 9 (.slice (some ⟨w.heap.size, m, none⟩) (65 - m) (65 - m))).run Tryz.prog (wr.setCell ⟨w.heap.size, m, none⟩ (.int .u8 (c.toNat : Nat))) = .ok (.string ⟨(c :: D).toArray⟩) (wr.setCell ⟨w.heap.size, m, none⟩ (.int .u8 (c.toNat : Nat))) := by
      refine str_of _ (c :: D) _ _ _ (by have := HM.out; simp; omega) fun j hj => ?_
      rcases hp with ⟨cs, h1, _, _, h4⟩ | h0
      · rw [show (⟨w.heap.size, m, none⟩ : Addr).add j = ⟨w.heap.size, m + j, none⟩ by unfold Addr.add; split <;> simp_all, Lib.cell_of_heap h1]
        have := h4 j hj
        rw [show m - 1 + 1 + j = m + j by omega] at this
        exact this
      · omega
    have HC : Hid (hxA 7 n [] = c :: D) := hide (by rw [← HX.out, hxA_stop h16, hc])
    clear hp hc
    unfold dgs at hcv
    go_wp2
    go_ret2
    exact ⟨by rw [HC.out]; rfl, HB.out.setCell (Nat.le_refl _) _⟩
  · have hi : (16 : Int) ≤ (v : Int) := by omega
    clear hal
    have b1 : bits .and .u64 (v : Int) 15 = (v % 16 : Nat) := by
      rw [show (15 : Int) = 2 ^ 4 - 1 from rfl, u64_mask 4 (by decide) _ (by omega) (by omega)]; omega
    have d1 : (v : Int) / 16 = (v / 16 : Nat) := by omega
    have hr : v % 16 < 16 := Nat.mod_lt _ (by decide)
    obtain ⟨r, er⟩ : ∃ r, v % 16 = r := ⟨_, rfl⟩
    rw [er] at b1 hr
    have hr2 : (r : Int) < 36 := by omega
    obtain ⟨c, hc⟩ : ∃ c, hd r = c := ⟨_, rfl⟩
    have hcv : ∀ h', dgs[r]'h' = c := fun h' => by rw [dg_at r hr h', hc]
    have hp := hide (HD.out.put HM.out c)
    obtain ⟨f', hf'⟩ : ∃ f', f = f' + 1 := by
      cases f with
      | zero => have := HV.out; simp at this; omega
      | succ f' => exact ⟨f', rfl⟩
    have HF' := hide hf'
    have HC : Hid (hxA f' (v / 16) (c :: D) = hxA 7 n []) := hide (by rw [← HX.out, hf', hxA_go h16, er, hc])
    have HV2 : Hid (v / 16 < 16 ^ (f' + 1)) := hide (by
      have h1 := HV.out
      rw [hf', Nat.pow_succ] at h1
      omega)
    clear hc hf' er
    unfold dgs at hcv
    obtain ⟨q, eq⟩ : ∃ q, q = v / 16 := ⟨_, rfl⟩
    have hqv : q < v := by omega
    rw [← eq] at HC HV2
    have HQ := hide eq
    clear d1 eq
    go_upto_region 14 with fail
    go_wp2_with (refine shrS rfl _ _ rfl v q rfl rfl HQ.out ?_)
    go_roundw
    case rel => exact ⟨f', c :: D, m - 1, q, rfl, by rw [show m - 1 + 1 = m by omega], HC.out, by have h1 := HF.out; have h2 := HF'.out; simp; omega, by have h1 := HM.out; simp; omega, HV2.out, hp.out.resolve_right (by omega), HB.out.setCell (Nat.le_refl _) _⟩
    case measure => simp [intOf]; omega
end
end Go.Proofs.YtiafodeabdhcoaaGreatDoor

namespace Go.Proofs.YtiafodeabdhcoaaGreatDoor
open Go.RowKit
def dg16 : ByteArray := ⟨#[48, 49, 50, 51, 52, 53, 54, 55, 56, 57, 97, 98, 99, 100, 101, 102]⟩
theorem cut16 (v : Nat) (h : v < 16) : dg16.extract v (v + 1) = ⟨#[hd v]⟩ := by
  match v, h with
  | k + 16, h => omega
  | 0, _ => rfl
  | 1, _ => rfl
  | 2, _ => rfl
  | 3, _ => rfl
  | 4, _ => rfl
  | 5, _ => rfl
  | 6, _ => rfl
  | 7, _ => rfl
  | 8, _ => rfl
  | 9, _ => rfl
  | 10, _ => rfl
  | 11, _ => rfl
  | 12, _ => rfl
  | 13, _ => rfl
  | 14, _ => rfl
  | 15, _ => rfl
theorem app_str (a b : List UInt8) : (⟨a.toArray⟩ : ByteArray) ++ (⟨b.toArray⟩ : ByteArray) = ⟨(a ++ b).toArray⟩ := by
  apply ByteArray.ext
  simp [ByteArray.data_append]
theorem hx_step (L : List UInt8) (r : Nat) (h : r < 16) : (⟨L.toArray⟩ : ByteArray) ++ dg16.extract r (r + 1) = ⟨(L ++ [hd r]).toArray⟩ := by
  rw [cut16 r h]; exact app_str L [hd r]
section
variable (w : World)
end
end Go.Proofs.YtiafodeabdhcoaaGreatDoor

namespace Go.Proofs.YtiafodeabdhcoaaGreatDoor
open Go.RowKit
/-- the tables that the texts need lie as they are laid -/
structure Tb (w : World) : Prop where
  ops : Ops w
  tz : Tz w
  pw : Lib.TabIs Tryz.prog w "internal/strconv.uint64pow10" .u64 Lib.pow10Tab
theorem tabIs_below {P : Program} {w w' : World} {name : String} {k : IntKind} {zs : List Int} (h : Lib.TabIs P w name k zs) (hb : Below w.heap.size w w') : Lib.TabIs P w' name k zs := by
  unfold Lib.TabIs World.var? at *
  cases hg : P.globalNamed name with
  | none => rw [hg] at h; simp at h
  | some g =>
    rw [hg] at h
    have hlt : g < w.heap.size := by
      by_cases hb : g < w.heap.size
      · exact hb
      · simp [Array.getElem?_eq_none (show w.heap.size ≤ g by omega)] at h
    simp only [Option.bind_some] at h ⊢
    rw [hb.block g hlt]
    exact h
theorem Tb.below {w w' : World} (h : Tb w) (hb : Below w.heap.size w w') : Tb w' :=
  { ops := h.ops.below hb
    tz := h.tz.below hb
    pw := tabIs_below h.pw hb }
theorem Ops.name {w : World} (h : Ops w) {n : Nat} (hn : n < 27) : w.cell? ⟨5, n * 4, none⟩ = some (.string ⟨(nm n).toArray⟩) := by
  obtain ⟨s, h1, h2⟩ := h.s n hn
  rw [h1, ← h2]
/-- what the parts of an instruction are -/
theorem parts_of {n : Nat} (h : isI (parts n) = true) : ∃ (no na nb : Nat) (z : Int), parts n = ⟨(no : Int), (na : Int), (nb : Int), z⟩ ∧ 1 ≤ no ∧ no < 27 ∧ na < 8 ∧ nb < 8 ∧ -32768 ≤ z ∧ z ≤ 65535 := by
  have hi := isn.1 h
  have ha := fitsB_range hi.a
  have hb := fitsB_range hi.b
  have h1 := hi.op1
  have h2 := hi.op2
  have hm := hi.imm
  refine ⟨n / 16777216, n / 1048576 % 16, n / 65536 % 16, _, rfl, ?_, ?_, ?_, ?_, hm⟩
  all_goals (simp only [parts] at h1 h2 ha hb; omega)
theorem nd5 {u : Nat} (h : u < 100000) : Lib.nDigits u ≤ 5 := by
  by_cases h1 : u < 10
  · rw [Lib.nDigits_small h1]; omega
  by_cases h2 : u / 10 < 10
  · rw [Lib.nDigits_big h1, Lib.nDigits_small h2]; omega
  by_cases h3 : u / 10 / 10 < 10
  · rw [Lib.nDigits_big h1, Lib.nDigits_big h2, Lib.nDigits_small h3]; omega
  by_cases h4 : u / 10 / 10 / 10 < 10
  · rw [Lib.nDigits_big h1, Lib.nDigits_big h2, Lib.nDigits_big h3, Lib.nDigits_small h4]; omega
  · rw [Lib.nDigits_big h1, Lib.nDigits_big h2, Lib.nDigits_big h3, Lib.nDigits_big h4, Lib.nDigits_small (show u / 10 / 10 / 10 / 10 < 10 by omega)]; omega
theorem itoa_len {z : Int} (h1 : -32768 ≤ z) (h2 : z ≤ 65535) : (Lib.itoa z).length ≤ 6 := by
  unfold Lib.itoa
  split
  · have := nd5 (show z.natAbs < 100000 by omega)
    rw [List.length_cons, Lib.decDigits_length]; omega
  · have := nd5 (show z.toNat < 100000 by omega)
    rw [Lib.decDigits_length]; omega
theorem nm_len (n : Nat) : (nm n).length ≤ 4 := by
  by_cases h : n < 27
  · have : ∀ k : Fin 27, (nm k.val).length ≤ 4 := by decide
    exact this ⟨n, h⟩
  · unfold nm
    rw [List.getD_eq_getElem?_getD, List.getElem?_eq_none (by simp [nms]; omega)]
    simp
theorem tl_len (n : Nat) : (tl n).length ≤ 40 := by
  unfold tl
  split
  · next hx =>
    obtain ⟨no, na, nb, z, hp, h1, h2, h3, h4, h5, h6⟩ := parts_of hx
    have a1 := itoa_len (z := (na : Int)) (by omega) (by omega)
    have a2 := itoa_len (z := (nb : Int)) (by omega) (by omega)
    have a3 := itoa_len h5 h6
    have a4 := nm_len no
    rw [hp]
    simp only [flds, Int.toNat_natCast]
    cases uA no <;> cases uB no <;> (by_cases e : kd no = 0 <;> simp [jn, e] <;> omega)
  · simp [hx8]
/-- an instruction lies in a block of the call's own -/
structure St (w W : World) (g : Nat) (no na nb : Nat) (z : Int) : Prop where
  c0 : W.cell? ⟨g, 0, none⟩ = some (.int .i64 (no : Int))
  c1 : W.cell? ⟨g, 1, none⟩ = some (.int .i64 (na : Int))
  c2 : W.cell? ⟨g, 2, none⟩ = some (.int .i64 (nb : Int))
  c3 : W.cell? ⟨g, 3, none⟩ = some (.int .i64 z)
  tb : Tb W
  be : Below w.heap.size w W
  le : w.heap.size ≤ g
theorem St.below {w W W' : World} {g no na nb : Nat} {z : Int} (h : St w W g no na nb z) (hb : Below W.heap.size W W') : St w W' g no na nb z := by
  have hl := cell_lt h.c0
  exact ⟨by rw [hb.cell (p := ⟨g, 0, none⟩) hl]; exact h.c0, by rw [hb.cell (p := ⟨g, 1, none⟩) hl]; exact h.c1, by rw [hb.cell (p := ⟨g, 2, none⟩) hl]; exact h.c2, by rw [hb.cell (p := ⟨g, 3, none⟩) hl]; exact h.c3, h.tb.below hb, h.be.trans (hb.mono h.be.size), h.le⟩
theorem St.start {w w1 : World} (no na nb : Nat) (z : Int) (hT : Tb w1) (hb : Below w.heap.size w w1) : St w (w1.alloc (.cells #[.int .i64 (no : Int), .int .i64 (na : Int), .int .i64 (nb : Int), .int .i64 z] 107)) w1.heap.size no na nb z :=
  ⟨by rw [World.cell?_alloc_new]; rfl, by rw [World.cell?_alloc_new]; rfl, by rw [World.cell?_alloc_new]; rfl, by rw [World.cell?_alloc_new]; rfl, hT.below (bel1 _ _), hb.alloc hb.size _, hb.size⟩
end Go.Proofs.YtiafodeabdhcoaaGreatDoor

namespace Go.Proofs.YtiafodeabdhcoaaGreatDoor
open Go.RowKit
/-- the table as one value -/
def opL : List Value := (List.range 27).flatMap fun n => [.string ⟨(nm n).toArray⟩, .bool (uA n), .bool (uB n), .int .i64 (kd n : Nat)]
theorem opL_len : opL.length = 108 := rfl
theorem opL_at (n : Nat) (hn : n < 27) : opL[n * 4]? = some (.string ⟨(nm n).toArray⟩) ∧ opL[n * 4 + 1]? = some (.bool (uA n)) ∧ opL[n * 4 + 2]? = some (.bool (uB n)) ∧ opL[n * 4 + 3]? = some (.int .i64 (kd n : Nat)) := by
  have h : n = 0 ∨ n = 1 ∨ n = 2 ∨ n = 3 ∨ n = 4 ∨ n = 5 ∨ n = 6 ∨ n = 7 ∨ n = 8 ∨ n = 9 ∨ n = 10 ∨ n = 11 ∨ n = 12 ∨ n = 13 ∨ n = 14 ∨ n = 15 ∨ n = 16 ∨ n = 17 ∨ n = 18 ∨ n = 19 ∨ n = 20 ∨ n = 21 ∨ n = 22 ∨ n = 23 ∨ n = 24 ∨ n = 25 ∨ n = 26 := by omega
  rcases h with rfl | rfl | rfl | rfl | rfl | rfl | rfl | rfl | rfl | rfl | rfl | rfl | rfl | rfl | rfl | rfl | rfl | rfl | rfl | rfl | rfl | rfl | rfl | rfl | rfl | rfl | rfl <;> exact ⟨rfl, rfl, rfl, rfl⟩
theorem Ops.all {w : World} (h : Ops w) : ∀ (j : Nat) (v : Value), opL[j]? = some v → w.cell? ((⟨5, 0, none⟩ : Addr).add j) = some v := by
  intro j v hv
  have hj : j < 108 := by
    have := (List.getElem?_eq_some_iff.1 hv).1
    rw [opL_len] at this
    exact this
  rw [add0]
  obtain ⟨n, k, hn, hk, rfl⟩ : ∃ n k, n < 27 ∧ k < 4 ∧ j = n * 4 + k := ⟨j / 4, j % 4, by omega, by omega, by omega⟩
  obtain ⟨e0, e1, e2, e3⟩ := opL_at n hn
  match k, hk with
  | 0, _ => rw [Nat.add_zero] at hv ⊢; rw [h.name hn, ← e0, hv]
  | 1, _ => rw [h.a n hn, ← e1, hv]
  | 2, _ => rw [h.b n hn, ← e2, hv]
  | 3, _ => rw [h.k n hn, ← e3, hv]
theorem opT_at {s : Tx} {k : Nat} (hk : k < 27) (h0 : ∀ n, n < k → (n != 0 && nm n == s) = false) (h1 : (k != 0 && nm k == s) = true) : opT s = k := by
  have e : (List.range 27).find? (fun n => n != 0 && nm n == s) = some k := by
    rw [List.find?_eq_some_iff_append]
    refine ⟨h1, List.range k, List.range' (k + 1) (26 - k), ?_, fun n hn => by
      have := h0 n (List.mem_range.1 hn)
      simp only [this, Bool.not_false]⟩
    rw [List.range_eq_range', List.range_eq_range', show k :: List.range' (k + 1) (26 - k) = List.range' k (27 - k) by rw [show 27 - k = (26 - k) + 1 by omega, List.range'_succ]]
    have e := List.range'_append_1 (s := 0) (m := k) (n := 27 - k)
    rw [Nat.zero_add, show k + (27 - k) = 27 by omega] at e
    exact e.symm
  unfold opT
  rw [e]; rfl
theorem opT_none {s : Tx} (h0 : ∀ n, n < 27 → (n != 0 && nm n == s) = false) : opT s = 0 := by
  have e : (List.range 27).find? (fun n => n != 0 && nm n == s) = none := by
    rw [List.find?_eq_none]
    intro n hn
    rw [h0 n (List.mem_range.1 hn)]
    simp
  unfold opT
  rw [e]; rfl
/-- a struct or an array loaded out of whatever address -/
theorem loadT {t : TypeId} {d : TypeDesc} (hu : Tryz.prog.underlying t = some d) (hd : (match d with | .struct _ | .array _ _ => true | _ => false) = true) (cs : List Value) (hi : (Tryz.prog.info? t).map (·.size) = some cs.length) {ops : Array Oper} {rest : List Oper} {op : Oper} {a : Act} {w : World} {Q : Exit → Act → World → Prop} (hw : Region.wanted op (yielded ops a.tmps) = true) (x : Operand) (ho : op.op = .load t x) (ad : Addr)
    (hx : a.eval x = .pointer (some ad)) (hc : ∀ (j : Nat) (v : Value), cs[j]? = some v → w.cell? (ad.add j) = some v) (h : wpList Tryz.prog ops Q rest (a.put op.dst (.agg cs.toArray)) w) : wpList Tryz.prog ops Q (op :: rest) a w :=
  BigFrame.wpList_want hw fun _ hK => by
    have hl : (loadCells ad cs.length).run Tryz.prog w = .ok cs.toArray w := run_loadCells_list w ad cs hc
    have hv : (loadVar t ad).run Tryz.prog w = .ok (.agg cs.toArray) w := by
      cases hq : Tryz.prog.info? t with
      | none => simp [hq] at hi
      | some i =>
        have hs : i.size = cs.length := by simpa [hq] using hi
        have hagg : (isAgg t).run Tryz.prog w = .ok true w := by
          unfold isAgg
          rw [Sem.run_bind, run_underlying hu w]
          cases d <;> simp_all
        simp [loadVar, Sem.run_bind, hagg, sizeOf, typeInfo, hq, hs, hl]
    unfold Oper.wp execOp
    simp only [ho, hx, Instr.loadAt, Instr.sureAddr, Sem.run_bind, Sem.run_pure, Result.andThen_ok, hv]
    exact hK _ _ h
theorem idxO (w : World) (A : Array Value) (hA : A.size = 108) (k : Nat) (hk : k < 27) (a b c d : Value) (h1 : A[k * 4]? = some a) (h2 : A[k * 4 + 1]? = some b) (h3 : A[k * 4 + 2]? = some c) (h4 : A[k * 4 + 3]? = some d) : (Instr.index 207 (.agg A) (.int .i64 (k : Int))).run Tryz.prog w = .ok (.agg #[a, b, c, d]) w := by
  have hk' : (0 : Int) ≤ k ∧ (k : Int) < 27 := by omega
  unfold Instr.index
  have hsz : (sizeOf 206).run Tryz.prog w = .ok 4 w := by kernel_rfl
  have hx : A.extract (k * 4) (k * 4 + 4) = #[a, b, c, d] := by
    apply Array.ext_getElem?
    intro j
    rw [Array.getElem?_extract]
    by_cases e0 : j < 4
    · rw [if_pos (by omega)]
      match j, e0 with
      | 0, _ => simpa using h1
      | 1, _ => simpa using h2
      | 2, _ => simpa using h3
      | 3, _ => simpa using h4
    · rw [if_neg (by omega), Array.getElem?_eq_none (by simp; omega)]
  simp [Sem.run_bind, asIntOf, run_underlying Tryz.underlying207, hk', hsz, part, hx]
  intro h; omega
section
variable (w : World)
set_option maxRecDepth 100000 in
set_option maxHeartbeats 1000000 in
theorem opNamed_any (s : Tx) (hO : Ops w) : Calls Tryz.prog 156 #[.string ⟨s.toArray⟩] w fun e w' => e = .returned (.int .i64 (opT s : Nat)) ∧ Below w.heap.size w w' := by
  have HA := hide hO.all
  clear hO
  obtain ⟨A, hA⟩ : ∃ A, A = opL := ⟨_, rfl⟩
  rw [← hA] at HA
  have hlen : A.length = 108 := by rw [hA]; exact opL_len
  have HX : Hid (∀ (k : Nat), k < 27 → ∀ (W : World), (Instr.index 207 (.agg A.toArray) (.int .i64 (k : Int))).run Tryz.prog W = .ok (.agg #[.string ⟨(nm k).toArray⟩, .bool (uA k), .bool (uB k), .int .i64 (kd k : Nat)]) W) := hide (fun k hk W => by
    obtain ⟨e0, e1, e2, e3⟩ := opL_at k hk
    rw [← hA] at e0 e1 e2 e3
    exact idxO W A.toArray (by simpa using hlen) k hk _ _ _ _ (by simpa using e0) (by simpa using e1) (by simpa using e2) (by simpa using e3))
  have HN := hide hlen
  clear hlen hA
  go_enter Tryz.func156, Tryz.ntmps156
  go_upto_region 2 with (refine loadT Tryz.underlying207 rfl A (by rw [HN.out]; kernel_rfl) rfl _ rfl ⟨5, 0, none⟩ rfl HA.out ?_)
  go_loopw [2, 6] (fun r u wr => ∃ k : Nat, r = .int .i64 0 ∧ k ≤ 27 ∧ u = .int .i64 (k : Int) ∧ (∀ n, n < k → (n != 0 && nm n == s) = false) ∧ Below w.heap.size w wr) (fun _ u _ => 27 - (intOf u).toNat)
  case atStart => exact ⟨0, rfl, by omega, rfl, fun n h => by omega, Below.refl _ _⟩
  case round =>
  obtain ⟨k, rfl, hk, rfl, hno, hB⟩ := hrel
  have HNo := hide hno
  have HB := hide hB
  clear hno hB
  by_cases hlt : k < 27
  · have hd : (k : Int) < 27 := by omega
    have hix := HX.out k hlt
    by_cases h0 : k = 0
    · subst h0
      have hix0 : ∀ (W : World), (Instr.index 207 (.agg A.toArray) (.int .i64 0)).run Tryz.prog W = .ok (.agg #[.string ⟨(nm 0).toArray⟩, .bool (uA 0), .bool (uB 0), .int .i64 (kd 0 : Nat)]) W := hix
      clear hix hd
      go_wp2
      refine ⟨⟨1, rfl, by omega, rfl, fun n hn => by
        obtain rfl : n = 0 := by omega
        rfl, HB.out.alloc HB.out.size _⟩, by simp [intOf]⟩
    · have h0' : ((k : Int) != 0) = true := by simp; omega
      have h0n : (k != 0) = true := by simpa using h0
      have HO : Hid ((nm k == s) = true → opT s = k) := hide (fun e => opT_at hlt HNo.out (by rw [h0n, e]; rfl))
      cases hx : (nm k == s) with
      | true =>
        have HO2 := hide (HO.out hx)
        clear HO
        generalize nm k = nn at *
        generalize uA k = ua at *
        generalize uB k = ub at *
        generalize kd k = kk at *
        go_wp2
        go_ret
        exact ⟨by rw [HO2.out]; rfl, HB.out.alloc HB.out.size _⟩
      | false =>
        have HF : Hid ((k != 0 && nm k == s) = false) := hide (by rw [hx]; simp)
        generalize uA k = ua at *
        generalize uB k = ub at *
        generalize kd k = kk at *
        go_wp2
        refine ⟨⟨k + 1, rfl, by omega, by simp, fun n hn => by
          by_cases e : n = k
          · subst e; exact HF.out
          · exact HNo.out n (by omega), HB.out.alloc HB.out.size _⟩, ?_⟩
        simp [intOf]
        omega
  · obtain rfl : k = 27 := by omega
    have HV := hide (opT_none HNo.out)
    go_wp2
    go_ret
    exact ⟨by rw [HV.out]; rfl, HB.out⟩
end
end Go.Proofs.YtiafodeabdhcoaaGreatDoor

namespace Go.Proofs.YtiafodeabdhcoaaGreatDoor
open Go.RowKit
/-- the operators' table, and that of the words, each as one value -/
def opG : List Value := opsT.flatMap fun o => [.string ⟨o.1.toArray⟩, .int .i64 (o.2.1 : Nat), .string ⟨o.2.2.toArray⟩]
def wdG : List Value := wdsT.map fun s => .string ⟨s.toArray⟩
def opN (k : Nat) : Tx := (opsT.getD k ([], 0, [])).1
def opV (k : Nat) : Nat := (opsT.getD k ([], 0, [])).2.1
def opC (k : Nat) : Tx := (opsT.getD k ([], 0, [])).2.2
def wdN (k : Nat) : Tx := wdsT.getD k []
/-- what lies ready: the operators, the words -/
structure Lg (w : World) : Prop where
  o : ∀ (j : Nat) (v : Value), opG[j]? = some v → w.cell? ((⟨1, 0, none⟩ : Addr).add j) = some v
  d : ∀ (j : Nat) (v : Value), wdG[j]? = some v → w.cell? ((⟨4, 0, none⟩ : Addr).add j) = some v
  m : ∃ m : Int, w.cell? ⟨6, 0, none⟩ = some (.int .i64 m)
  ops : Ops w
  pw : Lib.TabIs Tryz.prog w "internal/strconv.uint64pow10" .u64 Lib.pow10Tab
theorem Lg.below {w w' : World} (h : Lg w) (hb : Below w.heap.size w w') : Lg w' := by
  have h1 : 1 < w.heap.size := by
    have := h.o 0 _ (show opG[0]? = some (.string ⟨#[124, 124]⟩) from rfl)
    rw [add0] at this
    exact cell_lt this
  have h2 : 4 < w.heap.size := by
    have := h.d 0 _ (show wdG[0]? = some (.string ⟨#[118, 97, 114]⟩) from rfl)
    rw [add0] at this
    exact cell_lt this
  refine ⟨fun j v hv => ?_, fun j v hv => ?_, ?_, h.ops.below hb, tabIs_below h.pw hb⟩
  · rw [← h.o j v hv, add0]; exact hb.cell (p := ⟨1, j, none⟩) h1
  · rw [← h.d j v hv, add0]; exact hb.cell (p := ⟨4, j, none⟩) h2
  · obtain ⟨m, hm⟩ := h.m
    exact ⟨m, by rw [hb.cell (p := ⟨6, 0, none⟩) (cell_lt hm)]; exact hm⟩
theorem opG_at (n : Nat) (hn : n < 18) : opG[n * 3]? = some (.string ⟨(opN n).toArray⟩) ∧ opG[n * 3 + 1]? = some (.int .i64 (opV n : Nat)) ∧ opG[n * 3 + 2]? = some (.string ⟨(opC n).toArray⟩) := by
  have h : n = 0 ∨ n = 1 ∨ n = 2 ∨ n = 3 ∨ n = 4 ∨ n = 5 ∨ n = 6 ∨ n = 7 ∨ n = 8 ∨ n = 9 ∨ n = 10 ∨ n = 11 ∨ n = 12 ∨ n = 13 ∨ n = 14 ∨ n = 15 ∨ n = 16 ∨ n = 17 := by omega
  rcases h with rfl | rfl | rfl | rfl | rfl | rfl | rfl | rfl | rfl | rfl | rfl | rfl | rfl | rfl | rfl | rfl | rfl | rfl <;> exact ⟨rfl, rfl, rfl⟩
theorem wdG_at (n : Nat) (hn : n < 10) : wdG[n]? = some (.string ⟨(wdN n).toArray⟩) := by
  have h : n = 0 ∨ n = 1 ∨ n = 2 ∨ n = 3 ∨ n = 4 ∨ n = 5 ∨ n = 6 ∨ n = 7 ∨ n = 8 ∨ n = 9 := by omega
  rcases h with rfl | rfl | rfl | rfl | rfl | rfl | rfl | rfl | rfl | rfl <;> rfl
theorem find_at {α : Type} (l : List α) (p : α → Bool) (k : Nat) (hk : k < l.length) (h0 : ∀ n (hn : n < l.length), n < k → p l[n] = false) (h1 : p l[k] = true) : l.find? p = some l[k] := by
  rw [List.find?_eq_some_iff_append]
  refine ⟨h1, l.take k, l.drop (k + 1), ?_, fun x hx => ?_⟩
  · rw [List.getElem_cons_drop]; simp
  · obtain ⟨j, hj, rfl⟩ := List.getElem_of_mem hx
    simp only [List.length_take] at hj
    have := h0 j (by omega) (by omega)
    simp [this]
theorem find_no {α : Type} (l : List α) (p : α → Bool) (h0 : ∀ n (hn : n < l.length), p l[n] = false) : l.find? p = none := by
  rw [List.find?_eq_none]
  intro x hx
  obtain ⟨j, hj, rfl⟩ := List.getElem_of_mem hx
  simp [h0 j hj]
theorem opN_get (n : Nat) (hn : n < opsT.length) : opN n = (opsT[n]).1 := by simp [opN, List.getD, hn]
theorem opV_get (n : Nat) (hn : n < opsT.length) : opV n = (opsT[n]).2.1 := by simp [opV, List.getD, hn]
theorem opC_get (n : Nat) (hn : n < opsT.length) : opC n = (opsT[n]).2.2 := by simp [opC, List.getD, hn]
theorem ops_at {s : Tx} {k : Nat} (hk : k < 18) (h0 : ∀ n, n < k → (opN n == s) = false) (h1 : (opN k == s) = true) : lvT s = opV k ∧ ocT s = opC k := by
  have hk' : k < opsT.length := hk
  have e := find_at opsT (fun o => o.1 == s) k hk' (fun n hn h => by have := h0 n h; rw [opN_get n hn] at this; exact this) (by rw [← opN_get k hk']; exact h1)
  unfold lvT ocT
  rw [e, opV_get k hk', opC_get k hk']
  exact ⟨rfl, rfl⟩
theorem ops_none {s : Tx} (h0 : ∀ n, n < 18 → (opN n == s) = false) : lvT s = 0 ∧ ocT s = [] := by
  have e := find_no opsT (fun o => o.1 == s) (fun n hn => by have := h0 n hn; rw [opN_get n hn] at this; exact this)
  unfold lvT ocT
  rw [e]
  exact ⟨rfl, rfl⟩
theorem wdN_get (n : Nat) (hn : n < wdsT.length) : wdN n = wdsT[n] := by simp [wdN, List.getD, hn]
theorem wd_at {s : Tx} {k : Nat} (hk : k < 10) (h1 : (wdN k == s) = true) : isWd s = true := by
  have hk' : k < wdsT.length := hk
  unfold isWd
  rw [List.any_eq_true]
  exact ⟨wdsT[k], List.getElem_mem hk', by rw [← wdN_get k hk']; exact h1⟩
theorem wd_none {s : Tx} (h0 : ∀ n, n < 10 → (wdN n == s) = false) : isWd s = false := by
  unfold isWd
  rw [List.any_eq_false]
  intro x hx
  obtain ⟨j, hj, rfl⟩ := List.getElem_of_mem hx
  have := h0 j hj
  rw [wdN_get j hj] at this
  simp [this]
theorem idxP (w : World) (A : Array Value) (k : Nat) (hk : k < 18) (a b c : Value) (h1 : A[k * 3]? = some a) (h2 : A[k * 3 + 1]? = some b) (h3 : A[k * 3 + 2]? = some c) : (Instr.index 168 (.agg A) (.int .i64 (k : Int))).run Tryz.prog w = .ok (.agg #[a, b, c]) w := by
  have hk' : (0 : Int) ≤ k ∧ (k : Int) < 18 := by omega
  unfold Instr.index
  have hsz : (sizeOf 167).run Tryz.prog w = .ok 3 w := by kernel_rfl
  have hx : A.extract (k * 3) (k * 3 + 3) = #[a, b, c] := by
    apply Array.ext_getElem?
    intro j
    rw [Array.getElem?_extract]
    have hsz := (Array.getElem?_eq_some_iff.1 h3).1
    by_cases e0 : j < 3
    · rw [if_pos (by omega)]
      match j, e0 with
      | 0, _ => simpa using h1
      | 1, _ => simpa using h2
      | 2, _ => simpa using h3
    · rw [if_neg (by omega), Array.getElem?_eq_none (by simp; omega)]
  have hag : ∀ W, (isAgg 167).run Tryz.prog W = .ok true W := fun W => by unfold isAgg; rw [Sem.run_bind, run_underlying Tryz.underlying167 W]; rfl
  simp [Sem.run_bind, asIntOf, run_underlying Tryz.underlying168, hk', hsz, part, hx, hag]
  intro h; omega
theorem idxW (w : World) (A : Array Value) (k : Nat) (hk : k < 10) (a : Value) (h1 : A[k]? = some a) : (Instr.index 191 (.agg A) (.int .i64 (k : Int))).run Tryz.prog w = .ok a w := by
  have hk' : (0 : Int) ≤ k ∧ (k : Int) < 10 := by omega
  have hsz : (sizeOf 9).run Tryz.prog w = .ok 1 w := by kernel_rfl
  have hag : ∀ W, (isAgg 9).run Tryz.prog W = .ok false W := fun W => run_isAgg_plain Tryz.underlying9 rfl W
  unfold Instr.index
  simp [Sem.run_bind, asIntOf, run_underlying Tryz.underlying191, hk', hsz, part, h1, hag]
  intro h; omega
section
variable (w : World)
set_option maxRecDepth 100000 in
set_option maxHeartbeats 1000000 in
theorem level_any (s : Tx) (hO : Lg w) : Calls Tryz.prog 76 #[.string ⟨s.toArray⟩] w fun e w' => e = .returned (.int .i64 (lvT s : Nat)) ∧ Below w.heap.size w w' := by
  have HA := hide hO.o
  clear hO
  obtain ⟨A, hA⟩ : ∃ A, A = opG := ⟨_, rfl⟩
  rw [← hA] at HA
  have hlen : A.length = 54 := by rw [hA]; rfl
  have HX : Hid (∀ (k : Nat), k < 18 → ∀ (W : World), (Instr.index 168 (.agg A.toArray) (.int .i64 (k : Int))).run Tryz.prog W = .ok (.agg #[.string ⟨(opN k).toArray⟩, .int .i64 (opV k : Nat), .string ⟨(opC k).toArray⟩]) W) := hide (fun k hk W => by
    obtain ⟨e0, e1, e2⟩ := opG_at k hk
    rw [← hA] at e0 e1 e2
    exact idxP W A.toArray k hk _ _ _ (by simpa using e0) (by simpa using e1) (by simpa using e2))
  have HN := hide hlen
  clear hlen hA
  go_enter Tryz.func76, Tryz.ntmps76
  go_upto_region 2 with (refine loadT Tryz.underlying168 rfl A (by rw [HN.out]; kernel_rfl) rfl _ rfl ⟨1, 0, none⟩ rfl HA.out ?_)
  go_loopw [2, 6] (fun r u wr => ∃ k : Nat, r = .int .i64 0 ∧ k ≤ 18 ∧ u = .int .i64 (k : Int) ∧ (∀ n, n < k → (opN n == s) = false) ∧ Below w.heap.size w wr) (fun _ u _ => 18 - (intOf u).toNat)
  case atStart => exact ⟨0, rfl, by omega, rfl, fun n h => by omega, Below.refl _ _⟩
  case round =>
  obtain ⟨k, rfl, hk, rfl, hno, hB⟩ := hrel
  have HNo := hide hno
  have HB := hide hB
  clear hno hB
  by_cases hlt : k < 18
  · have hd : (k : Int) < 18 := by omega
    have hix := HX.out k hlt
    have HO : Hid ((opN k == s) = true → lvT s = opV k ∧ ocT s = opC k) := hide (fun e => ops_at hlt HNo.out e)
    cases hx : (opN k == s) with
    | true =>
      have HO2 := hide (HO.out hx)
      clear HO
      generalize opN k = nn at *
      generalize opV k = vv at *
      generalize opC k = cc at *
      go_wp2
      go_ret
      exact ⟨by rw [HO2.out.1]; rfl, HB.out.alloc HB.out.size _⟩
    | false =>
      have HF : Hid ((opN k == s) = false) := hide hx
      clear HO
      generalize opV k = vv at *
      generalize opC k = cc at *
      go_wp2
      refine ⟨⟨k + 1, rfl, by omega, by simp, fun n hn => by
        by_cases e : n = k
        · subst e; exact HF.out
        · exact HNo.out n (by omega), HB.out.alloc HB.out.size _⟩, ?_⟩
      simp [intOf]
      omega
  · obtain rfl : k = 18 := by omega
    have HV := hide (ops_none HNo.out)
    go_wp2
    go_ret
    exact ⟨by rw [HV.out.1]; rfl, HB.out⟩
set_option maxRecDepth 100000 in
set_option maxHeartbeats 1000000 in
theorem opCode_any (s : Tx) (hO : Lg w) : Calls Tryz.prog 150 #[.string ⟨s.toArray⟩] w fun e w' => e = .returned (.string ⟨(ocT s).toArray⟩) ∧ Below w.heap.size w w' := by
  have HA := hide hO.o
  clear hO
  obtain ⟨A, hA⟩ : ∃ A, A = opG := ⟨_, rfl⟩
  rw [← hA] at HA
  have hlen : A.length = 54 := by rw [hA]; rfl
  have HX : Hid (∀ (k : Nat), k < 18 → ∀ (W : World), (Instr.index 168 (.agg A.toArray) (.int .i64 (k : Int))).run Tryz.prog W = .ok (.agg #[.string ⟨(opN k).toArray⟩, .int .i64 (opV k : Nat), .string ⟨(opC k).toArray⟩]) W) := hide (fun k hk W => by
    obtain ⟨e0, e1, e2⟩ := opG_at k hk
    rw [← hA] at e0 e1 e2
    exact idxP W A.toArray k hk _ _ _ (by simpa using e0) (by simpa using e1) (by simpa using e2))
  have HN := hide hlen
  clear hlen hA
  go_enter Tryz.func150, Tryz.ntmps150
  go_upto_region 2 with (refine loadT Tryz.underlying168 rfl A (by rw [HN.out]; kernel_rfl) rfl _ rfl ⟨1, 0, none⟩ rfl HA.out ?_)
  go_loopw [2, 6] (fun r u wr => ∃ k : Nat, r = .string ⟨#[]⟩ ∧ k ≤ 18 ∧ u = .int .i64 (k : Int) ∧ (∀ n, n < k → (opN n == s) = false) ∧ Below w.heap.size w wr) (fun _ u _ => 18 - (intOf u).toNat)
  case atStart => exact ⟨0, rfl, by omega, rfl, fun n h => by omega, Below.refl _ _⟩
  case round =>
  obtain ⟨k, rfl, hk, rfl, hno, hB⟩ := hrel
  have HNo := hide hno
  have HB := hide hB
  clear hno hB
  by_cases hlt : k < 18
  · have hd : (k : Int) < 18 := by omega
    have hix := HX.out k hlt
    have HO : Hid ((opN k == s) = true → lvT s = opV k ∧ ocT s = opC k) := hide (fun e => ops_at hlt HNo.out e)
    cases hx : (opN k == s) with
    | true =>
      have HO2 := hide (HO.out hx)
      clear HO
      generalize opN k = nn at *
      generalize opV k = vv at *
      generalize opC k = cc at *
      go_wp2
      go_ret
      exact ⟨by rw [HO2.out.2]; rfl, HB.out.alloc HB.out.size _⟩
    | false =>
      have HF : Hid ((opN k == s) = false) := hide hx
      clear HO
      generalize opV k = vv at *
      generalize opC k = cc at *
      go_wp2
      refine ⟨⟨k + 1, rfl, by omega, by simp, fun n hn => by
        by_cases e : n = k
        · subst e; exact HF.out
        · exact HNo.out n (by omega), HB.out.alloc HB.out.size _⟩, ?_⟩
      simp [intOf]
      omega
  · obtain rfl : k = 18 := by omega
    have HV := hide (ops_none HNo.out)
    go_wp2
    go_ret
    exact ⟨by rw [HV.out.2]; rfl, HB.out⟩
set_option maxRecDepth 100000 in
set_option maxHeartbeats 1000000 in
theorem isWord_any (s : Tx) (hO : Lg w) : Calls Tryz.prog 110 #[.string ⟨s.toArray⟩] w fun e w' => e = .returned (.bool (isWd s)) ∧ Below w.heap.size w w' := by
  have HA := hide hO.d
  clear hO
  obtain ⟨A, hA⟩ : ∃ A, A = wdG := ⟨_, rfl⟩
  rw [← hA] at HA
  have hlen : A.length = 10 := by rw [hA]; rfl
  have HX : Hid (∀ (k : Nat), k < 10 → ∀ (W : World), (Instr.index 191 (.agg A.toArray) (.int .i64 (k : Int))).run Tryz.prog W = .ok (.string ⟨(wdN k).toArray⟩) W) := hide (fun k hk W => by
    have e0 := wdG_at k hk
    rw [← hA] at e0
    exact idxW W A.toArray k hk _ (by simpa using e0))
  have HN := hide hlen
  clear hlen hA
  go_enter Tryz.func110, Tryz.ntmps110
  go_upto_region 2 with (refine loadT Tryz.underlying191 rfl A (by rw [HN.out]; kernel_rfl) rfl _ rfl ⟨4, 0, none⟩ rfl HA.out ?_)
  go_loopw [2, 6] (fun r u wr => ∃ k : Nat, r = .bool false ∧ k ≤ 10 ∧ u = .int .i64 (k : Int) ∧ (∀ n, n < k → (wdN n == s) = false) ∧ Below w.heap.size w wr) (fun _ u _ => 10 - (intOf u).toNat)
  case atStart => exact ⟨0, rfl, by omega, rfl, fun n h => by omega, Below.refl _ _⟩
  case round =>
  obtain ⟨k, rfl, hk, rfl, hno, hB⟩ := hrel
  have HNo := hide hno
  have HB := hide hB
  clear hno hB
  by_cases hlt : k < 10
  · have hd : (k : Int) < 10 := by omega
    have hix := HX.out k hlt
    cases hx : (wdN k == s) with
    | true =>
      have HO2 := hide (wd_at hlt hx)
      generalize wdN k = nn at *
      go_wp2
      go_ret
      exact ⟨by rw [HO2.out]; rfl, HB.out⟩
    | false =>
      have HF : Hid ((wdN k == s) = false) := hide hx
      go_wp2
      refine ⟨⟨k + 1, rfl, by omega, by simp, fun n hn => by
        by_cases e : n = k
        · subst e; exact HF.out
        · exact HNo.out n (by omega), HB.out⟩, ?_⟩
      simp [intOf]
      omega
  · obtain rfl : k = 10 := by omega
    have HV := hide (wd_none HNo.out)
    go_wp2
    go_ret
    exact ⟨by rw [HV.out]; rfl, HB.out⟩
end
end Go.Proofs.YtiafodeabdhcoaaGreatDoor

namespace Go.Proofs.YtiafodeabdhcoaaGreatDoor
open Go.RowKit
def nums (l : List Int) : List Value := l.map (Value.int .i64)
theorem cell_one_new (w : World) (v : Value) (t : TypeId) : ∀ j u, [v][j]? = some u → (w.alloc (.cells #[v] t)).cell? ((⟨w.heap.size, 0, none⟩ : Addr).add j) = some u := by
  intro j u h
  match j, h with
  | 0, h =>
    simp at h
    subst h
    rw [add0, World.cell?_alloc_new]; rfl
theorem own_shape {w : World} {base : Nat} {e : TypeId} {size : Nat} {v : Value} {n : Nat} {xs : List Value} (h : w.ownsRow base e size v n xs) : ∃ a c, v = .slice a n c := by
  rcases h.2 with ⟨h1, h2⟩ | ⟨g, cap, cur, h1, _⟩
  · exact ⟨none, 0, by rw [h1, h2]⟩
  · exact ⟨_, _, h1⟩
/-- the fields that an operation has: 0, 1, 2 -/
def fl (a b : Bool) (k : Nat) : List Int := (if a then [0] else []) ++ (if b then [1] else []) ++ (if k = 0 then [] else [2])
/-- a field's text -/
def tfl (na nb : Nat) (z f : Int) : List UInt8 := if f = 0 then 114 :: Lib.itoa (na : Int) else if f = 1 then 114 :: Lib.itoa (nb : Int) else Lib.itoa z
theorem flds_fl (no na nb : Nat) (z : Int) : flds ⟨(no : Int), (na : Int), (nb : Int), z⟩ = (fl (uA no) (uB no) (kd no)).map (tfl na nb z) := by
  unfold flds fl
  simp only [Int.toNat_natCast]
  cases uA no <;> cases uB no <;> (by_cases e : kd no = 0 <;> simp [e, tfl])
theorem info_int : ∃ i, Tryz.prog.info? 3 = some i ∧ i.zero = some (.int .i64 0) ∧ i.size = 1 ∧ i.bytes = 8 := info_parts (by kernel_rfl)
section
variable (w : World)
set_option maxRecDepth 100000 in
set_option maxHeartbeats 2000000 in
theorem fields_any (s : ByteArray) (ua ub : Bool) (k : Nat) : Calls Tryz.prog 170 #[.agg #[.string s, .bool ua, .bool ub, .int .i64 (k : Int)]] w fun e w' => ∃ v, e = .returned v ∧ w'.ownsRow (w.heap.size + 1) 3 1 v (fl ua ub k).length (nums (fl ua ub k)) ∧ Below w.heap.size w w' := by
  obtain ⟨i3, hi, hz, hs, hb⟩ := info_int
  obtain ⟨W0, hW0⟩ : ∃ W0, W0 = w.alloc (.cells #[.string s, .bool ua, .bool ub, .int .i64 (k : Int)] 206) := ⟨_, rfl⟩
  have hN : W0.heap.size = w.heap.size + 1 := by rw [hW0]; simp
  have HC1 : Hid (W0.cell? ⟨w.heap.size, 1, none⟩ = some (.bool ua)) := hide (by rw [hW0, World.cell?_alloc_new]; rfl)
  have HC2 : Hid (W0.cell? ⟨w.heap.size, 2, none⟩ = some (.bool ub)) := hide (by rw [hW0, World.cell?_alloc_new]; rfl)
  have HC3 : Hid (W0.cell? ⟨w.heap.size, 3, none⟩ = some (.int .i64 (k : Int))) := hide (by rw [hW0, World.cell?_alloc_new]; rfl)
  have cA : ∀ V, Below (w.heap.size + 1) W0 V → ∀ j v, W0.cell? ⟨w.heap.size, j, none⟩ = some v → V.cell? ⟨w.heap.size, j, none⟩ = some v := fun V hV j v h => by rw [hV.cell (p := ⟨w.heap.size, j, none⟩) (Nat.lt_succ_self _)]; exact h
  have HZ : Hid (w.heap.size + 1 ≤ W0.heap.size) := hide (by omega)
  have HE : Hid (∀ V, Below (w.heap.size + 1) W0 V → Below w.heap.size w V) := hide (fun V hV => (hW0 ▸ bel1 w _ : Below w.heap.size w W0).trans (hV.mono (by omega)))
  have HO : Hid (W0.ownsRow (w.heap.size + 1) 3 1 (.slice none 0 0) 0 (nums [])) := hide ⟨rfl, .inl ⟨rfl, rfl⟩⟩
  have HB : Hid (Below (w.heap.size + 1) W0 W0) := hide (Below.refl _ _)
  have hsz := HZ.out
  have b0 := HC1.out
  have b1 := HC2.out
  have b2 := HC3.out
  go_enter Tryz.func170, Tryz.ntmps170
  go_upto_region 1 with fail
  rw [← hW0]
  clear hW0 hN
  rcases ua with _ | _
  · go_upto_region 4 with fail
    rcases ub with _ | _
    · go_upto_region 6 with fail
      by_cases hk : k = 0
      · have HL : Hid (fl false false k = []) := hide (by simp [fl, hk])
        subst hk
        go_wp2
        go_ret
        exact ⟨_, rfl, by rw [HL.out]; exact HO.out, HE.out _ HB.out⟩
      · have HL : Hid (fl false false k = [2]) := hide (by simp [fl, hk])
        have hk2 : ¬ (k : Int) = 0 := by omega
        clear hk
        go_upto_region 8 with (at_builtin; refine wpList_append_own _ rfl _ _ 48 rfl (w.heap.size + 1) 3 i3 (.int .i64 0) 1 8 Tryz.underlying48 hi hz hs hb rfl (by decide) _ 0 (nums []) rfl (HO.out.alloc _) ⟨_, 0, none⟩ 1 1 [.int .i64 2] rfl rfl (cell_one_new _ _ _) (by simp [Value.oneCell']) (by unfold maxLen; omega) (by omega) (by simp; omega) ?_; intro v2 w2 ho2 hg2 _; obtain ⟨au, cu, rfl⟩ := own_shape ho2)
        have HO2 : Hid (w2.ownsRow (w.heap.size + 1) 3 1 (.slice au 1 cu) 1 (nums [2])) := hide (by simpa [nums] using ho2)
        have HB2 : Hid (Below (w.heap.size + 1) W0 w2) := hide ((HB.out.alloc hsz _).grown hg2 (by simp; omega) (fun j hj => (HO.out.lt j hj).1))
        clear ho2 hg2 HO HB b0 b1 b2 hsz
        have HO := HO2
        have HB := HB2
        clear HO2 HB2
        have hsz := Nat.le_trans HZ.out HB.out.size
        have b0 := cA w2 HB.out 1 _ HC1.out
        have b1 := cA w2 HB.out 2 _ HC2.out
        have b2 := cA w2 HB.out 3 _ HC3.out
        go_wp2
        go_ret
        exact ⟨_, rfl, by rw [HL.out]; exact HO.out, HE.out _ HB.out⟩
    · go_upto_region 6 with (at_builtin; refine wpList_append_own _ rfl _ _ 48 rfl (w.heap.size + 1) 3 i3 (.int .i64 0) 1 8 Tryz.underlying48 hi hz hs hb rfl (by decide) _ 0 (nums []) rfl (HO.out.alloc _) ⟨_, 0, none⟩ 1 1 [.int .i64 1] rfl rfl (cell_one_new _ _ _) (by simp [Value.oneCell']) (by unfold maxLen; omega) (by omega) (by simp; omega) ?_; intro v2 w2 ho2 hg2 _; obtain ⟨au, cu, rfl⟩ := own_shape ho2)
      have HO2 : Hid (w2.ownsRow (w.heap.size + 1) 3 1 (.slice au 1 cu) 1 (nums [1])) := hide (by simpa [nums] using ho2)
      have HB2 : Hid (Below (w.heap.size + 1) W0 w2) := hide ((HB.out.alloc hsz _).grown hg2 (by simp; omega) (fun j hj => (HO.out.lt j hj).1))
      clear ho2 hg2 HO HB b0 b1 b2 hsz
      have HO := HO2
      have HB := HB2
      clear HO2 HB2
      have hsz := Nat.le_trans HZ.out HB.out.size
      have b0 := cA w2 HB.out 1 _ HC1.out
      have b1 := cA w2 HB.out 2 _ HC2.out
      have b2 := cA w2 HB.out 3 _ HC3.out
      by_cases hk : k = 0
      · have HL : Hid (fl false true k = [1]) := hide (by simp [fl, hk])
        subst hk
        go_wp2
        go_ret
        exact ⟨_, rfl, by rw [HL.out]; exact HO.out, HE.out _ HB.out⟩
      · have HL : Hid (fl false true k = [1, 2]) := hide (by simp [fl, hk])
        have hk2 : ¬ (k : Int) = 0 := by omega
        clear hk
        go_upto_region 8 with (at_builtin; refine wpList_append_own _ rfl _ _ 48 rfl (w.heap.size + 1) 3 i3 (.int .i64 0) 1 8 Tryz.underlying48 hi hz hs hb rfl (by decide) _ 1 (nums [1]) rfl (HO.out.alloc _) ⟨_, 0, none⟩ 1 1 [.int .i64 2] rfl rfl (cell_one_new _ _ _) (by simp [Value.oneCell']) (by unfold maxLen; omega) (by omega) (by simp; omega) ?_; intro v2 w2 ho2 hg2 _; obtain ⟨au, cu, rfl⟩ := own_shape ho2)
        have HO2 : Hid (w2.ownsRow (w.heap.size + 1) 3 1 (.slice au 2 cu) 2 (nums [1, 2])) := hide (by simpa [nums] using ho2)
        have HB2 : Hid (Below (w.heap.size + 1) W0 w2) := hide ((HB.out.alloc hsz _).grown hg2 (by simp; omega) (fun j hj => (HO.out.lt j hj).1))
        clear ho2 hg2 HO HB b0 b1 b2 hsz
        have HO := HO2
        have HB := HB2
        clear HO2 HB2
        have hsz := Nat.le_trans HZ.out HB.out.size
        have b0 := cA w2 HB.out 1 _ HC1.out
        have b1 := cA w2 HB.out 2 _ HC2.out
        have b2 := cA w2 HB.out 3 _ HC3.out
        go_wp2
        go_ret
        exact ⟨_, rfl, by rw [HL.out]; exact HO.out, HE.out _ HB.out⟩
  · go_upto_region 4 with (at_builtin; refine wpList_append_own _ rfl _ _ 48 rfl (w.heap.size + 1) 3 i3 (.int .i64 0) 1 8 Tryz.underlying48 hi hz hs hb rfl (by decide) _ 0 (nums []) rfl (HO.out.alloc _) ⟨_, 0, none⟩ 1 1 [.int .i64 0] rfl rfl (cell_one_new _ _ _) (by simp [Value.oneCell']) (by unfold maxLen; omega) (by omega) (by simp; omega) ?_; intro v2 w2 ho2 hg2 _; obtain ⟨au, cu, rfl⟩ := own_shape ho2)
    have HO2 : Hid (w2.ownsRow (w.heap.size + 1) 3 1 (.slice au 1 cu) 1 (nums [0])) := hide (by simpa [nums] using ho2)
    have HB2 : Hid (Below (w.heap.size + 1) W0 w2) := hide ((HB.out.alloc hsz _).grown hg2 (by simp; omega) (fun j hj => (HO.out.lt j hj).1))
    clear ho2 hg2 HO HB b0 b1 b2 hsz
    have HO := HO2
    have HB := HB2
    clear HO2 HB2
    have hsz := Nat.le_trans HZ.out HB.out.size
    have b0 := cA w2 HB.out 1 _ HC1.out
    have b1 := cA w2 HB.out 2 _ HC2.out
    have b2 := cA w2 HB.out 3 _ HC3.out
    rcases ub with _ | _
    · go_upto_region 6 with fail
      by_cases hk : k = 0
      · have HL : Hid (fl true false k = [0]) := hide (by simp [fl, hk])
        subst hk
        go_wp2
        go_ret
        exact ⟨_, rfl, by rw [HL.out]; exact HO.out, HE.out _ HB.out⟩
      · have HL : Hid (fl true false k = [0, 2]) := hide (by simp [fl, hk])
        have hk2 : ¬ (k : Int) = 0 := by omega
        clear hk
        go_upto_region 8 with (at_builtin; refine wpList_append_own _ rfl _ _ 48 rfl (w.heap.size + 1) 3 i3 (.int .i64 0) 1 8 Tryz.underlying48 hi hz hs hb rfl (by decide) _ 1 (nums [0]) rfl (HO.out.alloc _) ⟨_, 0, none⟩ 1 1 [.int .i64 2] rfl rfl (cell_one_new _ _ _) (by simp [Value.oneCell']) (by unfold maxLen; omega) (by omega) (by simp; omega) ?_; intro v2 w2 ho2 hg2 _; obtain ⟨au, cu, rfl⟩ := own_shape ho2)
        have HO2 : Hid (w2.ownsRow (w.heap.size + 1) 3 1 (.slice au 2 cu) 2 (nums [0, 2])) := hide (by simpa [nums] using ho2)
        have HB2 : Hid (Below (w.heap.size + 1) W0 w2) := hide ((HB.out.alloc hsz _).grown hg2 (by simp; omega) (fun j hj => (HO.out.lt j hj).1))
        clear ho2 hg2 HO HB b0 b1 b2 hsz
        have HO := HO2
        have HB := HB2
        clear HO2 HB2
        have hsz := Nat.le_trans HZ.out HB.out.size
        have b0 := cA w2 HB.out 1 _ HC1.out
        have b1 := cA w2 HB.out 2 _ HC2.out
        have b2 := cA w2 HB.out 3 _ HC3.out
        go_wp2
        go_ret
        exact ⟨_, rfl, by rw [HL.out]; exact HO.out, HE.out _ HB.out⟩
    · go_upto_region 6 with (at_builtin; refine wpList_append_own _ rfl _ _ 48 rfl (w.heap.size + 1) 3 i3 (.int .i64 0) 1 8 Tryz.underlying48 hi hz hs hb rfl (by decide) _ 1 (nums [0]) rfl (HO.out.alloc _) ⟨_, 0, none⟩ 1 1 [.int .i64 1] rfl rfl (cell_one_new _ _ _) (by simp [Value.oneCell']) (by unfold maxLen; omega) (by omega) (by simp; omega) ?_; intro v2 w2 ho2 hg2 _; obtain ⟨au, cu, rfl⟩ := own_shape ho2)
      have HO2 : Hid (w2.ownsRow (w.heap.size + 1) 3 1 (.slice au 2 cu) 2 (nums [0, 1])) := hide (by simpa [nums] using ho2)
      have HB2 : Hid (Below (w.heap.size + 1) W0 w2) := hide ((HB.out.alloc hsz _).grown hg2 (by simp; omega) (fun j hj => (HO.out.lt j hj).1))
      clear ho2 hg2 HO HB b0 b1 b2 hsz
      have HO := HO2
      have HB := HB2
      clear HO2 HB2
      have hsz := Nat.le_trans HZ.out HB.out.size
      have b0 := cA w2 HB.out 1 _ HC1.out
      have b1 := cA w2 HB.out 2 _ HC2.out
      have b2 := cA w2 HB.out 3 _ HC3.out
      by_cases hk : k = 0
      · have HL : Hid (fl true true k = [0, 1]) := hide (by simp [fl, hk])
        subst hk
        go_wp2
        go_ret
        exact ⟨_, rfl, by rw [HL.out]; exact HO.out, HE.out _ HB.out⟩
      · have HL : Hid (fl true true k = [0, 1, 2]) := hide (by simp [fl, hk])
        have hk2 : ¬ (k : Int) = 0 := by omega
        clear hk
        go_upto_region 8 with (at_builtin; refine wpList_append_own _ rfl _ _ 48 rfl (w.heap.size + 1) 3 i3 (.int .i64 0) 1 8 Tryz.underlying48 hi hz hs hb rfl (by decide) _ 2 (nums [0, 1]) rfl (HO.out.alloc _) ⟨_, 0, none⟩ 1 1 [.int .i64 2] rfl rfl (cell_one_new _ _ _) (by simp [Value.oneCell']) (by unfold maxLen; omega) (by omega) (by simp; omega) ?_; intro v2 w2 ho2 hg2 _; obtain ⟨au, cu, rfl⟩ := own_shape ho2)
        have HO2 : Hid (w2.ownsRow (w.heap.size + 1) 3 1 (.slice au 3 cu) 3 (nums [0, 1, 2])) := hide (by simpa [nums] using ho2)
        have HB2 : Hid (Below (w.heap.size + 1) W0 w2) := hide ((HB.out.alloc hsz _).grown hg2 (by simp; omega) (fun j hj => (HO.out.lt j hj).1))
        clear ho2 hg2 HO HB b0 b1 b2 hsz
        have HO := HO2
        have HB := HB2
        clear HO2 HB2
        have hsz := Nat.le_trans HZ.out HB.out.size
        have b0 := cA w2 HB.out 1 _ HC1.out
        have b1 := cA w2 HB.out 2 _ HC2.out
        have b2 := cA w2 HB.out 3 _ HC3.out
        go_wp2
        go_ret
        exact ⟨_, rfl, by rw [HL.out]; exact HO.out, HE.out _ HB.out⟩
end
end Go.Proofs.YtiafodeabdhcoaaGreatDoor

namespace Go.Proofs.YtiafodeabdhcoaaGreatDoor
open Go.RowKit
theorem info_str : ∃ i, Tryz.prog.info? 9 = some i ∧ i.zero = some (.string ⟨#[]⟩) ∧ i.size = 1 ∧ i.bytes = 16 := info_parts (by kernel_rfl)
def strs (ps : List Tx) : List Value := ps.map fun p => .string ⟨p.toArray⟩
theorem it_under {W W' : World} {B g : Nat} {s : ByteArray} {pos : Nat} (h : It W g s pos) (hb : Below B W W') (hg : g < B) : It W' g s pos := by
  show W'.heap[g]? = _
  rw [hb.block g hg]
  exact h
theorem ownTo {w : World} {base g : Nat} {e : TypeId} {v : Value} {n : Nat} {xs : List Value} {s : ByteArray} (q : Nat) (h : w.ownsRow base e 1 v n xs) (hg : g < base) : (World.itTo w g s q).ownsRow base e 1 v n xs := by
  obtain ⟨h1, h2 | ⟨k, cap, cur, h2, h3, h4, h5⟩⟩ := h
  · exact ⟨h1, .inl h2⟩
  · refine ⟨h1, .inr ⟨k, cap, cur, h2, h3, ?_, h5⟩⟩
    show (w.heap.setIfInBounds g _)[k]? = _
    rw [Array.getElem?_setIfInBounds, if_neg (by omega)]
    exact h4
/-- the piece between two places -/
theorem piece_eq {l : Tx} {f pos : Nat} (hf : f ≤ pos) (hp : pos < l.length) : l.drop f = ((l.take pos).drop f) ++ l[pos] :: l.drop (pos + 1) := by
  rw [← List.drop_eq_getElem_cons hp]
  conv => lhs; rw [← List.take_append_drop pos l]
  rw [List.drop_append]
  have : f - (l.take pos).length = 0 := by simp; omega
  rw [this, List.drop_zero]
theorem piece_no {l : Tx} {f pos : Nat} {m : UInt8} (h : ∀ j (hj : j < l.length), f ≤ j → j < pos → (l[j] == m) = false) : ∀ x ∈ (l.take pos).drop f, (x == m) = false := by
  intro x hx
  obtain ⟨k, hk, rfl⟩ := List.getElem_of_mem hx
  simp only [List.length_drop, List.length_take] at hk
  have := h (f + k) (by omega) (by omega) (by omega)
  simpa using this
section
variable (w : World)
set_option maxRecDepth 100000 in
set_option maxHeartbeats 1000000 in
theorem cutAll_any (l : Tx) (m : UInt8) (hm : m.toNat < 128) (hl : l.length ≤ 16384) : Calls Tryz.prog 69 #[.string ⟨l.toArray⟩, .int .i32 (m.toNat : Nat)] w fun e w' => ∃ v, e = .returned v ∧ w'.ownsRow (w.heap.size + 1) 9 1 v (splitT m l).length (strs (splitT m l)) ∧ Below w.heap.size w w' := by
  obtain ⟨i9, hi, hz, hs, hb⟩ := info_str
  go_enter Tryz.func69, Tryz.ntmps69
  go_upto_region 4 with fail
  go_loopw [5, 6] (fun v u wr => ∃ (pos f : Nat) (ps : List Tx), u = .int .i64 (f : Int) ∧ f ≤ pos ∧ pos ≤ l.length ∧ ps.length ≤ f ∧ splitT m l = ps ++ splitT m (l.drop f) ∧ (∀ j (hj : j < l.length), f ≤ j → j < pos → (l[j] == m) = false) ∧ wr.ownsRow (w.heap.size + 1) 9 1 v ps.length (strs ps) ∧ It wr w.heap.size ⟨l.toArray⟩ pos ∧ Below w.heap.size w wr ∧ w.heap.size + 1 ≤ wr.heap.size) (fun _ _ wr => l.length - itPos wr w.heap.size)
  case atStart => exact ⟨0, 0, [], rfl, by omega, by omega, by simp, rfl, fun j _ _ h => by omega, ⟨rfl, .inl ⟨rfl, rfl⟩⟩, heap_alloc_last _ _, bel1 _ _, by simp [World.iter]⟩
  case round =>
  obtain ⟨pos, f, ps, rfl, hf, hp, hpl, hsp, hno, hO, hI, hB, hsz⟩ := hrel
  obtain ⟨au, cu, rfl⟩ := own_shape hO
  by_cases hlt : pos < l.length
  · obtain ⟨c, q, nx, hq, hql, hc⟩ := it_step (P := Tryz.prog) hI hlt
    have HI := hide (it_to hI q)
    have HB := hide (it_below (s := ⟨l.toArray⟩) hB (Nat.le_refl _) q)
    have HO := hide (ownTo (s := ⟨l.toArray⟩) q hO (Nat.lt_succ_self _))
    have HP := hide (it_pos hI)
    have HN := hide hno
    have HSp := hide hsp
    have hsz2 : w.heap.size + 1 ≤ (World.itTo wr w.heap.size ⟨l.toArray⟩ q).heap.size := by rw [itTo_size]; exact hsz
    have HC := hide hc
    clear hc hI hB hno hO hsp
    generalize World.itTo wr w.heap.size ⟨l.toArray⟩ q = W at *
    by_cases hcm : c = m.toNat
    · have HQ : Hid (q = pos + 1 ∧ l[pos] = m) := hide (by
        rcases HC.out with ⟨_, h1, h2⟩ | ⟨h1, _⟩
        · exact ⟨h2, UInt8.toNat_inj.1 (h1.symm.trans hcm)⟩
        · omega)
      have HP2 : Hid (splitT m l = (ps ++ [(l.take pos).drop f]) ++ splitT m (l.drop (pos + 1))) := hide (by
        rw [HSp.out, piece_eq hf hlt, HQ.out.2, split_mark m _ _ (piece_no HN.out)]
        simp)
      have e1 := ext_mk l f pos
      have hcm2 : ((c : Int) == (m.toNat : Int)) = true := by simp; omega
      clear HC HSp hcm
      go_upto_region 8 with (at_builtin; refine wpList_append_own _ rfl _ _ 47 rfl (w.heap.size + 1) 9 i9 (.string ⟨#[]⟩) 1 16 Tryz.underlying47 hi hz hs hb rfl (by decide) _ _ _ rfl (HO.out.alloc _) ⟨_, 0, none⟩ 1 1 [.string ⟨((l.take pos).drop f).toArray⟩] rfl rfl (cell_one_new _ _ _) (by simp [Value.oneCell']) (by unfold maxLen; omega) (by omega) (by simp; omega) ?_; intro v2 w2 ho2 hg2 _; obtain ⟨a2, c2, rfl⟩ := own_shape ho2)
      have HO2 : Hid (w2.ownsRow (w.heap.size + 1) 9 1 (.slice a2 (ps.length + 1) c2) (ps ++ [(l.take pos).drop f]).length (strs (ps ++ [(l.take pos).drop f]))) := hide (by simpa [strs] using ho2)
      have HBx : Hid (Below (w.heap.size + 1) W w2) := hide (((Below.refl _ W).alloc hsz2 _).grown hg2 (by simp; omega) (fun j hj => (HO.out.lt j hj).1))
      have HI2 := hide (it_under HI.out HBx.out (Nat.lt_succ_self _))
      have HB2 := hide (HB.out.trans (HBx.out.mono (Nat.le_succ _)))
      have hsz3 := Nat.le_trans hsz2 HBx.out.size
      clear ho2 hg2 HO HI HB HBx
      go_wp2
      refine ⟨⟨q, pos + 1, ps ++ [(l.take pos).drop f], by simp, by have := HQ.out.1; omega, hql, by simp; omega, HP2.out, fun j hj h1 h2 => by have := HQ.out.1; omega, HO2.out, HI2.out, HB2.out, hsz3⟩, ?_⟩
      rw [it_pos HI2.out, HP.out]
      omega
    · have hcm2 : ((c : Int) == (m.toNat : Int)) = false := by simp; omega
      have HN2 : Hid (∀ j (hj : j < l.length), f ≤ j → j < q → (l[j] == m) = false) := hide (fun j hj h1 h2 => by
        by_cases hjp : j < pos
        · exact HN.out j hj h1 hjp
        · rcases HC.out with ⟨_, h3, h4⟩ | ⟨_, _, h3⟩
          · obtain rfl : j = pos := by omega
            rw [beq_eq_false_iff_ne]
            intro e
            exact hcm (by rw [h3, e])
          · have h5 := h3 j hj (by omega) h2
            rw [beq_eq_false_iff_ne]
            intro e
            rw [e] at h5
            omega)
      clear HC HN hcm
      go_wp2
      refine ⟨⟨q, f, ps, rfl, by omega, hql, hpl, HSp.out, HN2.out, HO.out, HI.out, HB.out, hsz2⟩, ?_⟩
      rw [it_pos HI.out, HP.out]
      omega
  · have nx := it_stop (P := Tryz.prog) hI hlt
    obtain rfl : pos = l.length := by omega
    have HB := hide hB
    have HO := hide hO
    have HSe : Hid (splitT m l = ps ++ [l.drop f]) := hide (by
      rw [hsp, split_end m (l.drop f) (fun x hx => by
        have := piece_no (l := l) (f := f) (pos := l.length) hno
        rw [List.take_length] at this
        exact this x hx)])
    have e1 := ext_mk l f l.length
    rw [List.take_length] at e1
    clear hI hB hno hO hsp
    go_wp2_with (at_builtin; refine wpList_append_own _ rfl _ _ 47 rfl (w.heap.size + 1) 9 i9 (.string ⟨#[]⟩) 1 16 Tryz.underlying47 hi hz hs hb rfl (by decide) _ _ _ rfl (HO.out.alloc _) ⟨_, 0, none⟩ 1 1 [.string ⟨(l.drop f).toArray⟩] rfl rfl (cell_one_new _ _ _) (by simp [Value.oneCell']) (by unfold maxLen; omega) (by omega) (by simp; omega) ?_; intro v2 w2 ho2 hg2 _; obtain ⟨a2, c2, rfl⟩ := own_shape ho2)
    have HO2 : Hid (w2.ownsRow (w.heap.size + 1) 9 1 (.slice a2 (ps.length + 1) c2) (splitT m l).length (strs (splitT m l))) := hide (by rw [HSe.out]; simpa [strs] using ho2)
    have HBx : Hid (Below (w.heap.size + 1) wr w2) := hide (((Below.refl _ wr).alloc hsz _).grown hg2 (by simp; omega) (fun j hj => (HO.out.lt j hj).1))
    have HB2 := hide (HB.out.trans (HBx.out.mono (Nat.le_succ _)))
    clear ho2 hg2 HO HB HBx
    go_wp2
    go_ret
    exact ⟨_, rfl, HO2.out, HB2.out⟩
end
end Go.Proofs.YtiafodeabdhcoaaGreatDoor

namespace Go.Proofs.YtiafodeabdhcoaaGreatDoor
open Go.RowKit
theorem own_mono {w : World} {base base' : Nat} {e : TypeId} {size : Nat} {v : Value} {n : Nat} {xs : List Value} (h : w.ownsRow base e size v n xs) (hb : base' ≤ base) : w.ownsRow base' e size v n xs := by
  obtain ⟨h1, h2 | ⟨g, cap, cur, h2, h3, h4⟩⟩ := h
  · exact ⟨h1, .inl h2⟩
  · exact ⟨h1, .inr ⟨g, cap, cur, h2, by omega, h4⟩⟩
/-- an own row that holds something: its block, and what a store at one place does -/
theorem own_block {w : World} {base : Nat} {e : TypeId} {v : Value} {n : Nat} {xs : List Value} (h : w.ownsRow base e 1 v n xs) (hn : 0 < n) : ∃ g cap, v = .slice (some ⟨g, 0, none⟩) n cap ∧ base ≤ g ∧ g < w.heap.size ∧ (∀ j x, xs[j]? = some x → w.cell? ⟨g, j, none⟩ = some x) ∧ (∀ j, w.frozen? ⟨g, j, none⟩ = false) ∧
    ∀ j x, j < n → (w.setCell ⟨g, j, none⟩ x).ownsRow base e 1 v n (xs.set j x) := by
  obtain ⟨h1, ⟨_, h2⟩ | ⟨g, cap, cur, h2, h3, h4, h5, h6, h7, h8⟩⟩ := h
  · omega
  · refine ⟨g, cap, h2, h3, (Array.getElem?_eq_some_iff.1 h4).1, fun j x hx => ?_, fun j => Lib.frozen_of_heap h4 j, fun j x hj => ⟨by simpa using h1, .inr ⟨g, cap, cur.setIfInBounds j x, h2, h3, heap_setCell_same w g j _ _ x h4, h5, h6, by simpa using h7, ?_⟩⟩⟩
    · rw [Lib.cell_of_heap h4]
      rw [← h8, List.getElem?_take] at hx
      split at hx
      · rw [← Array.getElem?_toList]; exact hx
      · simp at hx
    · rw [Array.toList_setIfInBounds, List.take_set, h8]
theorem own_keep {w w' : World} {base : Nat} {e : TypeId} {size : Nat} {v : Value} {n : Nat} {xs : List Value} (h : w.ownsRow base e size v n xs) (hb : Below w.heap.size w w') : w'.ownsRow base e size v n xs := by
  obtain ⟨h1, h2 | ⟨g, cap, cur, h2, h3, h4, h5⟩⟩ := h
  · exact ⟨h1, .inl h2⟩
  · exact ⟨h1, .inr ⟨g, cap, cur, h2, h3, (hb.block g (Array.getElem?_eq_some_iff.1 h4).1).trans h4, h5⟩⟩
theorem set_mid : ∀ (A B : List Value) (x y : Value) (j : Nat), A.length = j → (A ++ x :: B).set j y = A ++ y :: B
  | [], B, x, y, j, h => by subst h; rfl
  | a :: A, B, x, y, j, h => by
    subst h
    simp only [List.length_cons, List.cons_append, List.set_cons_succ]
    rw [set_mid A B x y A.length rfl]
theorem strs_mid (A R : List Tx) (p : Tx) : strs (A ++ p :: R) = strs A ++ .string ⟨p.toArray⟩ :: strs R := by simp [strs]
theorem trimT_len (s : Tx) : (trimT s).length ≤ s.length := by
  unfold trimT Lib.trimS Lib.trimLeftS Lib.trimRightS
  have h1 := (List.dropWhile_sublist (l := ((s.reverse.dropWhile (([32, 9] : Tx).contains ·)).reverse)) (p := (([32, 9] : Tx).contains ·))).length_le
  have h2 := (List.dropWhile_sublist (l := s.reverse) (p := (([32, 9] : Tx).contains ·))).length_le
  simp only [List.length_reverse] at h1 h2
  omega
theorem split_len (m : UInt8) : ∀ (s p : Tx), p ∈ splitT m s → p.length ≤ s.length
  | [], p, h => by simp [splitT] at h; subst h; simp
  | c :: r, p, h => by
    simp only [splitT] at h
    split at h
    · rcases List.mem_cons.1 h with e | e
      · subst e; simp
      · have := split_len m r p e; simp; omega
    · split at h
      · next e => exact absurd e (split_ne m r)
      · next q qs e =>
        rcases List.mem_cons.1 h with e2 | e2
        · subst e2
          have := split_len m r q (by rw [e]; simp)
          simp; omega
        · have := split_len m r p (by rw [e]; simp [e2])
          simp; omega
theorem split_count (m : UInt8) : ∀ (s : Tx), (splitT m s).length ≤ s.length + 1
  | [] => by simp [splitT]
  | c :: r => by
    have ih := split_count m r
    simp only [splitT]
    split
    · simp; omega
    · split
      · simp
      · next q qs e => rw [e] at ih; simp at ih ⊢; omega
section
variable (w : World)
theorem trim_any (l : Tx) (hl : l.length ≤ 16384) : Calls Tryz.prog 102 #[.string ⟨l.toArray⟩, .string ⟨#[32, 9]⟩] w fun e w' => e = .returned (.string ⟨(trimT l).toArray⟩) ∧ Below w.heap.size w w' := Tryz.trims l w (by omega)
set_option maxRecDepth 100000 in
set_option maxHeartbeats 1000000 in
theorem sf_any (l : Tx) (hl : l.length ≤ 16384) : Calls Tryz.prog 137 #[.string ⟨l.toArray⟩] w fun e w' => ∃ v, e = .returned v ∧ w'.ownsRow w.heap.size 9 1 v (sfT l).length (strs (sfT l)) ∧ Below w.heap.size w w' := by
  have hT := trim_any w l hl
  have hl2 := trimT_len l
  by_cases h0 : trimT l = []
  · have HV : Hid (sfT l = []) := hide (by simp [sfT, h0])
    rw [h0] at hT
    have HT := hide hT
    clear hT h0 hl2
    go_enter Tryz.func137, Tryz.ntmps137
    go_wp2_with fail
    refine HT.out.mono ?_
    rintro e w1 ⟨rfl, hb⟩
    go_wp2
    go_ret
    exact ⟨_, rfl, by rw [HV.out]; exact ⟨rfl, .inl ⟨rfl, rfl⟩⟩, hb⟩
  · have HV : Hid (sfT l = (splitT 44 (trimT l)).map trimT) := hide (by simp [sfT, h0])
    have he : List.isEmpty (trimT l) = false := by simpa using h0
    have HT := hide hT
    clear hT h0
    generalize trimT l = t at *
    go_enter Tryz.func137, Tryz.ntmps137
    go_wp2_with fail
    refine HT.out.mono ?_
    rintro e w1 ⟨rfl, hb1⟩
    go_wp2_with fail
    refine (cutAll_any w1 t 44 (by decide) (by omega)).mono ?_
    rintro e w2 ⟨v, rfl, hO, hb2⟩
    have hlen := split_count 44 t
    have hne : 0 < (splitT 44 t).length := List.length_pos_iff.2 (split_ne 44 t)
    have HPl : Hid (∀ p ∈ splitT 44 t, p.length ≤ 16384) := hide (fun p hp => by have := split_len 44 t p hp; omega)
    have hs1 := hb1.size
    have HO := hide (own_mono hO (by omega : w.heap.size ≤ w1.heap.size + 1))
    have HB := hide (hb1.trans (hb2.mono hs1))
    obtain ⟨au, cu, rfl⟩ := own_shape hO
    clear hO hb1 hb2 HT
    generalize splitT 44 t = ps at *
    go_upto_region 6 with fail
    go_loopw [14] (fun u wr => ∃ j : Nat, u = .int .i64 (j : Int) ∧ j ≤ ps.length ∧ wr.ownsRow w.heap.size 9 1 (.slice au ps.length cu) ps.length (strs ((ps.take j).map trimT ++ ps.drop j)) ∧ Below w.heap.size w wr) (fun u _ => ps.length - (intOf u).toNat)
    case atStart => exact ⟨0, rfl, by omega, HO.out, HB.out⟩
    case round =>
    obtain ⟨j, rfl, hj, hO, hB⟩ := hrel
    clear HO HB
    by_cases hlt : j < ps.length
    · obtain ⟨g, cap, ev, hg, hgs, hcell, hfz, hset⟩ := own_block hO (by omega)
      cases ev
      have hd : (j : Int) < (ps.length : Int) := by omega
      have c0 := hcell j (.string ⟨ps[j].toArray⟩) (by
        unfold strs
        rw [List.getElem?_map, List.getElem?_append_right (by simp; omega)]
        simp [hlt, Nat.min_eq_left hj])
      have hpl := HPl.out ps[j] (List.getElem_mem hlt)
      have HE : Hid ((strs ((ps.take j).map trimT ++ ps.drop j)).set j (.string ⟨(trimT ps[j]).toArray⟩) = strs ((ps.take (j + 1)).map trimT ++ ps.drop (j + 1))) := hide (by
        rw [List.drop_eq_getElem_cons hlt, strs_mid, set_mid _ _ _ _ j (by simp [strs]; omega), ← strs_mid, List.take_succ_eq_append_getElem hlt, List.map_append, List.append_assoc]
        rfl)
      have HB := hide hB
      have hsz := hB.size
      clear hB hcell
      generalize ps[j] = p at *
      go_wp2_with fail
      refine (trim_any _ p hpl).mono ?_
      rintro e w3 ⟨rfl, hb3⟩
      have hO3 := own_keep hO hb3
      obtain ⟨g', cap', ev', hg', hgs', hcell', hfz', hset'⟩ := own_block hO3 (by omega)
      cases ev'
      obtain ⟨x0, c3⟩ : ∃ x, w3.cell? ⟨g, j, none⟩ = some x := ⟨_, by rw [hb3.cell (p := ⟨g, j, none⟩) hgs]; exact c0⟩
      have f3 := hfz' j
      have HO4 := hide (hset' j (.string ⟨(trimT p).toArray⟩) hlt)
      rw [HE.out] at HO4
      have HB4 := hide ((HB.out.trans (hb3.mono hsz)).setCell (p := ⟨g, j, none⟩) hg (.string ⟨(trimT p).toArray⟩))
      clear hb3 hO3 hcell' hfz' hset' hO hset HB HE c0 hfz
      go_wp2
      refine ⟨⟨j + 1, by simp, by omega, HO4.out, HB4.out⟩, ?_⟩
      simp [intOf]
      omega
    · obtain rfl : j = ps.length := by omega
      rw [List.take_length, List.drop_length, List.append_nil] at hO
      have HO := hide hO
      have HB := hide hB
      clear hO hB
      go_wp2
      go_ret
      exact ⟨_, rfl, by rw [HV.out, List.length_map]; exact HO.out, HB.out⟩
end
end Go.Proofs.YtiafodeabdhcoaaGreatDoor
