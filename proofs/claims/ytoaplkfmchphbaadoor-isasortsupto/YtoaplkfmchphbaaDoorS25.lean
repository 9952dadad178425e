import Derived.OneCell
import Derived.ArgAppend
import Derived.Deep.DeepAppendRoom
import Derived.Test.YtoaplkfmchphbaaDoorS18
import Derived.Test.YtoaplkfmchphbaaDoorS19
import Derived.Test.YtoaplkfmchphbaaDoorS20
import Derived.Test.YtoaplkfmchphbaaDoorS21
import Derived.Test.YtoaplkfmchphbaaDoorS22
import Derived.Test.YtoaplkfmchphbaaDoorS24
namespace Go.Proofs.YtoaplkfmchphbaaDoor
open Go.RowKit
/-- the registers of the law -/
def r8 : Nat → Nat := fun i => i + 1
theorem r8_ok {i : Nat} (h : i < 512) : RgOk r8 i := ⟨fun j hj => by unfold r8; omega, by omega⟩
theorem jI_isI {i : Nat} {z : Int} (h1 : -32768 ≤ z) (h2 : z ≤ 32767) : isI (jI i z) = true := by
  rw [isn]
  unfold jI
  split
  · exact ⟨by show (1 : Int) ≤ 25; decide, by show (25 : Int) < 27; decide, by rfl, by rfl, h1, h2⟩
  · exact ⟨by show (1 : Int) ≤ 21; decide, by show (21 : Int) < 27; decide, by rfl, by rfl, h1, h2⟩
theorem jW_lt {i t : Nat} (hi : i < 512) (ht : t < 512) : jW i t < 4294967296 := by
  have h := jI_isI (i := i) (z := (t : Int) - ((i : Int) + 1)) (by omega) (by omega)
  unfold jW encW
  rw [if_pos h]
  exact word_lt (isn.1 h)
theorem jump_to {i t : Nat} (hi : i < 512) (ht : t < 512) : (nx i + im ((t : Int) - ((i : Int) + 1))) % 4294967296 = t := by
  unfold nx im
  omega
theorem below_drw {N : Nat} {w w' : World} (h : Below N w w') (n : Nat) : Below N w (w'.drewN n) := ⟨h.os, h.tape, h.output, h.size, h.block⟩
section
variable (w : World)
def c5 (i : Nat) : Nat := if i % 2 = 1 then i + 1 else 6
theorem exec_j (i t : Nat) (hi : i < 512) (ht : t < 512) (hO : Ops w) : Calls Tryd.prog 11 #[.agg #[.int .u32 1, .int .u32 2, .int .u32 3, .int .u32 4, .int .u32 5, .int .u32 6, .int .u32 7, .int .u32 8, .int .u32 (i : Nat)], .int .u32 (jW i t : Nat)] w fun e w' => e = .returned (.tuple #[.agg #[.int .u32 1, .int .u32 2, .int .u32 3, .int .u32 4, .int .u32 5, .int .u32 (c5 i : Nat), .int .u32 7, .int .u32 8, .int .u32 (t : Nat)], .agg #[.int .i64 0, .int .u32 0, .int .i64 0, .int .u32 0, .int .i64 0]]) ∧ Below w.heap.size w w' := by
  have h := jI_isI (i := i) (z := (t : Int) - ((i : Int) + 1)) (by omega) (by omega)
  have hl := jW_lt hi ht
  have hp : parts (jW i t) = jI i ((t : Int) - ((i : Int) + 1)) := by unfold jW encW; rw [if_pos h, parts_word (isn.1 h)]
  have ht2 := jump_to hi ht
  have hn : nx i = i + 1 := by unfold nx; omega
  generalize jW i t = n at *
  generalize (t : Int) - ((i : Int) + 1) = z at *
  unfold c5
  unfold jI at h hp
  by_cases hd : i % 2 = 1
  · rw [if_pos hd] at h hp
    rw [if_pos hd]
    have key := exec_call w r8 i n 25 5 0 z hl hp h hO (by decide) (r8_ok hi) rfl
    rw [show tgt 25 (r8 5) (im z) (nx i) = t by unfold tgt; rw [if_neg (by decide), if_pos (by simp)]; exact ht2, hn] at key
    exact key
  · rw [if_neg hd] at h hp
    rw [if_neg hd]
    have key := exec_op w r8 i n 21 0 0 z hl hp h hO (by decide) (by decide) (r8_ok hi) ⟨by decide, by decide, by decide, by decide, by decide, by decide⟩
    rw [show tgt 21 (r8 0) (im z) (nx i) = t by unfold tgt; rw [if_neg (by decide), if_pos (by simp)]; exact ht2, show res 21 (r8 0) (r8 0) (im z) = r8 0 from rfl, put_same] at key
    exact key
/-- two strings joined -/
theorem wp_cat {P : Program} {ops : Array Oper} {rest : List Oper} {op : Oper} {a : Act} {w : World} {Q : Exit → Act → World → Prop} (hw : Region.wanted op (yielded ops a.tmps) = true) {t t' : TypeId} (x y : Operand) (ho : op.op = .binOp .add t x y t') {A B Y : Tx}
    (hx : a.eval x = .string ⟨A.toArray⟩) (hy : a.eval y = .string ⟨B.toArray⟩) (hY : A ++ B = Y) (hl : Y.length ≤ 9223372036854775807) (h : wpList P ops Q rest (a.put op.dst (.string ⟨Y.toArray⟩)) w) : wpList P ops Q (op :: rest) a w :=
  BigFrame.wpList_want hw fun _ hK => by
    have hs := run_string_add_sum (P := P) w (⟨A.toArray⟩ : ByteArray) ⟨B.toArray⟩ (by
      have e := congrArg List.length hY
      rw [List.length_append] at e
      simp [ByteArray.size]
      omega)
    rw [cat_eq hY] at hs
    have hr : (execOp a.eval op).run P w = .ok (.value (.string ⟨Y.toArray⟩)) w := by
      unfold execOp
      rw [ho]
      simp [hx, hy, binOp, eqGuard, hs]
    unfold Oper.wp
    rw [hr]
    exact hK _ _ h
/-- the target of line i -/
def tgN (ks : List Int) (n i : Nat) : Nat := (ks.getD i 0 % 18446744073709551616).toNat % n
set_option maxRecDepth 100000 in
set_option maxHeartbeats 2000000 in
theorem jumps_walk (ao : Option Addr) (cap : Nat) (ks : List Int) (hk : ks.length ≤ 140737488351232) (hS : Sd w ao ks) (hT : Tb w) : Calls Tryd.prog 3 #[.slice ao ks.length cap] w fun e w' => e = .returned (.bool true) ∧ Below w.heap.size w w' := by
  obtain ⟨n, hn⟩ : ∃ n, n = min ks.length 512 := ⟨_, rfl⟩
  have hn5 : n ≤ 512 := by omega
  have hnk : n ≤ ks.length := by omega
  obtain ⟨T, hTe⟩ : ∃ T, T = tgN ks n := ⟨_, rfl⟩
  have HT2 : Hid (∀ i, i < n → T i < n) := hide (fun i hi => by rw [hTe]; exact Nat.mod_lt _ (by omega))
  have HTe := hide hTe
  have HS := hide hS
  have HT := hide hT
  clear hS hT hTe
  by_cases h5 : 512 < ks.length
  · have h5I : (512 : Int) < (ks.length : Int) := by omega
    have hnI : (n : Int) = 512 := by omega
    have HN := hide hnI
    clear hnI hn
    go_enter Tryd.func3, Tryd.ntmps3
    go_upto_region 5 with fail
    rw [← HN.out]
    clear h5I h5 HN
    go_upto_region 6 with fail
    go_loopw [4, 5] (fun tv iv wr => ∃ i : Nat, iv = .int .i64 (i : Int) ∧ tv = .string ⟨(jL T (List.range i)).toArray⟩ ∧ i ≤ n ∧ Below w.heap.size w wr) (fun _ iv _ => n - (intOf iv).toNat)
    case atStart => exact ⟨0, rfl, rfl, by omega, Below.refl _ _⟩
    case round =>
      obtain ⟨i, rfl, rfl, hi, hB⟩ := hrel
      have HB := hide hB
      clear hB
      by_cases hlt : i < n
      · have hltI : (i : Int) < (n : Int) := by omega
        have hli : i < ks.length := by omega
        have hliI : (i : Int) < (ks.length : Int) := by omega
        obtain ⟨a, rfl, hc0⟩ := (HS.out.below HB.out) i hli
        obtain ⟨z, hz⟩ : ∃ z, ks[i] = z := ⟨_, rfl⟩
        rw [hz] at hc0
        have hn0 : ¬ (n : Int) = 0 := by omega
        obtain ⟨t, ht⟩ : ∃ t, T i = t := ⟨_, rfl⟩
        have htn : t < n := by rw [← ht]; exact HT2.out i hlt
        have hq : (IntKind.u64.wrap z).tmod (n : Int) = (t : Int) := by
          obtain ⟨y, hy⟩ : ∃ y : Nat, z % 18446744073709551616 = (y : Int) := ⟨(z % 18446744073709551616).toNat, by omega⟩
          rw [IntKind.wrap_u64, Int.tmod_eq_emod_of_nonneg (by omega), ← ht, HTe.out]
          unfold tgN
          rw [List.getD_eq_getElem?_getD, List.getElem?_eq_getElem hli, hz, Option.getD_some, hy]
          rfl
        have hlen := jL_len T (List.range i) (fun j hj => by have := List.mem_range.1 hj; have := HT2.out j (by omega); omega)
        have HJ := hide (jL_snoc T i)
        rw [List.length_range] at hlen
        generalize jL T (List.range i) = J at *
        clear hz
        have htI : (t : Int) < (n : Int) := by omega
        have hw2 : wrap64 (t : Int) = (t : Int) := by unfold wrap64; omega
        have HI1 := hide (fun W (h : Below w.heap.size w W) => Tryd.itoa (t : Int) (by omega) (by omega) W (tabIs_below HT.out.pw h))
        have HI2 := hide (fun W (h : Below w.heap.size w W) => Tryd.itoa (i : Int) (by omega) (by omega) W (tabIs_below HT.out.pw h))
        rw [Lib.itoa_nonneg] at HI1 HI2
        go_wp2_with fail
        refine (HI1.out _ HB.out).mono ?_
        rintro e w1 ⟨rfl, hb1⟩
        have HB1 := hide (HB.out.trans (hb1.mono HB.out.size))
        clear hb1 HB HI1
        have hl1 : (Lib.decDigits t).length ≤ 3 := dec_len3 (by omega)
        have hl2 : (Lib.decDigits i).length ≤ 3 := dec_len3 (by omega)
        by_cases hodd : i % 2 = 1
        · have hd : ((i : Int) % 2 == 1) = true := by rw [beq_iff_eq]; omega
          have HJ2 : Hid (jL T (List.range (i + 1)) = J ++ [108] ++ Lib.decDigits i ++ [58, 32] ++ [99, 97, 108, 108, 32, 114, 53, 44, 32, 108] ++ Lib.decDigits t ++ [10]) := hide (by rw [HJ.out, ht]; unfold jTx jNm jFs; rw [if_pos hodd, if_pos hodd]; simp [lab, jn])
          obtain ⟨Y1, hY1⟩ : ∃ Y, J ++ [108] = Y := ⟨_, rfl⟩
          have l1 : Y1.length = J.length + 1 := by rw [← hY1, List.length_append]; rfl
          obtain ⟨Y2, hY2⟩ : ∃ Y, Y1 ++ Lib.decDigits i = Y := ⟨_, rfl⟩
          have l2 : Y2.length = Y1.length + (Lib.decDigits i).length := by rw [← hY2, List.length_append]
          obtain ⟨Y3, hY3⟩ : ∃ Y, Y2 ++ [58, 32] = Y := ⟨_, rfl⟩
          have l3 : Y3.length = Y2.length + 2 := by rw [← hY3, List.length_append]; rfl
          obtain ⟨Y4, hY4⟩ : ∃ Y, Y3 ++ [99, 97, 108, 108, 32, 114, 53, 44, 32, 108] = Y := ⟨_, rfl⟩
          have l4 : Y4.length = Y3.length + 10 := by rw [← hY4, List.length_append]; rfl
          obtain ⟨Y5, hY5⟩ : ∃ Y, Y4 ++ Lib.decDigits t = Y := ⟨_, rfl⟩
          have l5 : Y5.length = Y4.length + (Lib.decDigits t).length := by rw [← hY5, List.length_append]
          obtain ⟨Y6, hY6⟩ : ∃ Y, Y5 ++ [10] = Y := ⟨_, rfl⟩
          have l6 : Y6.length = Y5.length + 1 := by rw [← hY6, List.length_append]; rfl
          rw [hY1, hY2, hY3, hY4, hY5, hY6] at HJ2
          clear HJ hodd
          go_wp2_with (first | (refine wp_cat (by rfl) (.tmp 37) _ rfl rfl rfl hY1 (by omega) ?_))
          refine (HI2.out _ HB1.out).mono ?_
          rintro e w2 ⟨rfl, hb2⟩
          have HB2 := hide (HB1.out.trans (hb2.mono HB1.out.size))
          clear hb2 HB1 HI2
          go_wp2_with (first | (refine wp_cat (by rfl) (.tmp 38) _ rfl rfl rfl hY2 (by omega) ?_) | (refine wp_cat (by rfl) (.tmp 41) _ rfl rfl rfl hY3 (by omega) ?_) | (refine wp_cat (by rfl) (.tmp 42) _ rfl rfl rfl hY4 (by omega) ?_) | (refine wp_cat (by rfl) (.tmp 44) _ rfl rfl rfl hY5 (by omega) ?_) | (refine wp_cat (by rfl) (.tmp 46) _ rfl rfl rfl hY6 (by omega) ?_))
          refine ⟨⟨i + 1, by simp, by rw [HJ2.out], by omega, HB2.out⟩, ?_⟩
          simp [intOf]
          omega
        · have hd : ((i : Int) % 2 == 1) = false := by rw [beq_eq_false_iff_ne]; omega
          have HJ2 : Hid (jL T (List.range (i + 1)) = J ++ [108] ++ Lib.decDigits i ++ [58, 32] ++ [106, 109, 112, 32, 108] ++ Lib.decDigits t ++ [10]) := hide (by rw [HJ.out, ht]; unfold jTx jNm jFs; rw [if_neg hodd, if_neg hodd]; simp [lab, jn])
          obtain ⟨Y1, hY1⟩ : ∃ Y, J ++ [108] = Y := ⟨_, rfl⟩
          have l1 : Y1.length = J.length + 1 := by rw [← hY1, List.length_append]; rfl
          obtain ⟨Y2, hY2⟩ : ∃ Y, Y1 ++ Lib.decDigits i = Y := ⟨_, rfl⟩
          have l2 : Y2.length = Y1.length + (Lib.decDigits i).length := by rw [← hY2, List.length_append]
          obtain ⟨Y3, hY3⟩ : ∃ Y, Y2 ++ [58, 32] = Y := ⟨_, rfl⟩
          have l3 : Y3.length = Y2.length + 2 := by rw [← hY3, List.length_append]; rfl
          obtain ⟨Y4, hY4⟩ : ∃ Y, Y3 ++ [106, 109, 112, 32, 108] = Y := ⟨_, rfl⟩
          have l4 : Y4.length = Y3.length + 5 := by rw [← hY4, List.length_append]; rfl
          obtain ⟨Y5, hY5⟩ : ∃ Y, Y4 ++ Lib.decDigits t = Y := ⟨_, rfl⟩
          have l5 : Y5.length = Y4.length + (Lib.decDigits t).length := by rw [← hY5, List.length_append]
          obtain ⟨Y6, hY6⟩ : ∃ Y, Y5 ++ [10] = Y := ⟨_, rfl⟩
          have l6 : Y6.length = Y5.length + 1 := by rw [← hY6, List.length_append]; rfl
          rw [hY1, hY2, hY3, hY4, hY5, hY6] at HJ2
          clear HJ hodd
          go_wp2_with (first | (refine wp_cat (by rfl) (.tmp 37) _ rfl rfl rfl hY1 (by omega) ?_))
          refine (HI2.out _ HB1.out).mono ?_
          rintro e w2 ⟨rfl, hb2⟩
          have HB2 := hide (HB1.out.trans (hb2.mono HB1.out.size))
          clear hb2 HB1 HI2
          go_wp2_with (first | (refine wp_cat (by rfl) (.tmp 38) _ rfl rfl rfl hY2 (by omega) ?_) | (refine wp_cat (by rfl) (.tmp 41) _ rfl rfl rfl hY3 (by omega) ?_) | (refine wp_cat (by rfl) (.tmp 42) _ rfl rfl rfl hY4 (by omega) ?_) | (refine wp_cat (by rfl) (.tmp 44) _ rfl rfl rfl hY5 (by omega) ?_) | (refine wp_cat (by rfl) (.tmp 46) _ rfl rfl rfl hY6 (by omega) ?_))
          refine ⟨⟨i + 1, by simp, by rw [HJ2.out], by omega, HB2.out⟩, ?_⟩
          simp [intOf]
          omega
      · have hltI : ¬ (i : Int) < (n : Int) := by omega
        obtain rfl : i = n := by omega
        have hlen := jL_len T (List.range i) (fun j hj => by have := List.mem_range.1 hj; have := HT2.out j (by omega); omega)
        rw [List.length_range] at hlen
        have HA := hide (fun W h => asm_any W (jL T (List.range i)) (by omega) h)
        rw [asm_j T hn5 HT2.out] at HA
        obtain ⟨ws, hws⟩ : ∃ ws, (List.range i).map (fun i => jW i (T i)) = ws := ⟨_, rfl⟩
        have hwl : ws.length = i := by rw [← hws]; simp
        have HWS := hide hws
        rw [hws] at HA
        clear hws hlen
        generalize jL T (List.range i) = J at *
        go_wp2_with fail
        refine (HA.out _ (HT.out.ops.below HB.out)).mono ?_
        rintro e w1 ⟨v, rfl, hO1, hb1⟩
        obtain ⟨mo, cm, rfl, hW1⟩ := Wd.of hO1
        have HB1 := hide (HB.out.trans (hb1.mono HB.out.size))
        have HW1 := hide hW1
        clear hb1 hW1 hO1 HA HB
        rw [hwl]
        go_upto_region 17 with fail
        go_loopw [11] (fun jv wr => ∃ j : Nat, jv = .int .i64 (j : Int) ∧ j ≤ i ∧ Below w1.heap.size w1 wr) (fun jv _ => i - (intOf jv).toNat)
        case atStart => exact ⟨0, rfl, by omega, Below.refl _ _⟩
        case round =>
          obtain ⟨j, rfl, hj, hB⟩ := hrel
          have HB := hide hB
          clear hB
          by_cases hjt : j < i
          · have hjI : (j : Int) < (i : Int) := by omega
            obtain ⟨b, rfl, hc1⟩ := (HW1.out.below HB.out) j (by omega)
            have e1 : ws[j]'(by omega) = jW j (T j) := by
              have := HWS.out
              subst this
              simp
            rw [e1] at hc1
            have HE := hide (fun W h => exec_j W j (T j) (by omega) (by have := HT2.out j hjt; omega) h)
            generalize jW j (T j) = x at *
            clear e1
            have hw3 : IntKind.u32.wrap (j : Int) = (j : Int) := by rw [IntKind.wrap_u32]; omega
            have htj := HT2.out j hjt
            generalize ht : T j = t at *
            go_wp2_with fail
            refine (HE.out _ (HT.out.ops.below (HB1.out.trans (HB.out.mono HB1.out.size)))).mono ?_
            rintro e w2 ⟨rfl, hb2⟩
            have HB2 := hide (HB.out.trans (hb2.mono HB.out.size))
            clear hb2 HE HB
            generalize hc : c5 j = c at *
            go_upto_region 20 with fail
            have HB3 := hide ((HB2.out.alloc HB2.out.size (.cells #[.int .u32 1, .int .u32 2, .int .u32 3, .int .u32 4, .int .u32 5, .int .u32 (c : Nat), .int .u32 7, .int .u32 8, .int .u32 (t : Nat)] 32)).alloc (by have := HB2.out.size; simp; omega) (.cells #[.int .i64 0, .int .u32 0, .int .i64 0, .int .u32 0, .int .i64 0] 34))
            have q1 := heap_alloc_last (w2.alloc (.cells #[.int .u32 1, .int .u32 2, .int .u32 3, .int .u32 4, .int .u32 5, .int .u32 (c : Nat), .int .u32 7, .int .u32 8, .int .u32 (t : Nat)] 32)) (.cells #[.int .i64 0, .int .u32 0, .int .i64 0, .int .u32 0, .int .i64 0] 34)
            have q2 := (bel1 (w2.alloc (.cells #[.int .u32 1, .int .u32 2, .int .u32 3, .int .u32 4, .int .u32 5, .int .u32 (c : Nat), .int .u32 7, .int .u32 8, .int .u32 (t : Nat)] 32)) (.cells #[.int .i64 0, .int .u32 0, .int .i64 0, .int .u32 0, .int .i64 0] 34)).block w2.heap.size (by simp)
            rw [heap_alloc_last] at q2
            rw [show (w2.alloc (.cells #[.int .u32 1, .int .u32 2, .int .u32 3, .int .u32 4, .int .u32 5, .int .u32 (c : Nat), .int .u32 7, .int .u32 8, .int .u32 (t : Nat)] 32)).heap.size = w2.heap.size + 1 by simp] at q1
            generalize (w2.alloc (.cells #[.int .u32 1, .int .u32 2, .int .u32 3, .int .u32 4, .int .u32 5, .int .u32 (c : Nat), .int .u32 7, .int .u32 8, .int .u32 (t : Nat)] 32)).alloc (.cells #[.int .i64 0, .int .u32 0, .int .i64 0, .int .u32 0, .int .i64 0] 34) = w3 at *
            have x0 : w3.cell? ⟨w2.heap.size, 0, none⟩ = some (.int .u32 1) := by rw [cell_of_row _ _ _ _ _ _ q2]; rfl
            have x5 : w3.cell? ⟨w2.heap.size, 5, none⟩ = some (.int .u32 (c : Nat)) := by rw [cell_of_row _ _ _ _ _ _ q2]; rfl
            have x8 : w3.cell? ⟨w2.heap.size, 8, none⟩ = some (.int .u32 (t : Nat)) := by rw [cell_of_row _ _ _ _ _ _ q2]; rfl
            have y0 : w3.cell? ⟨w2.heap.size + 1, 0, none⟩ = some (.int .i64 0) := by rw [cell_of_row _ _ _ _ _ _ q1]; rfl
            have y1 : w3.cell? ⟨w2.heap.size + 1, 1, none⟩ = some (.int .u32 0) := by rw [cell_of_row _ _ _ _ _ _ q1]; rfl
            have y2 : w3.cell? ⟨w2.heap.size + 1, 2, none⟩ = some (.int .i64 0) := by rw [cell_of_row _ _ _ _ _ _ q1]; rfl
            have y3 : w3.cell? ⟨w2.heap.size + 1, 3, none⟩ = some (.int .u32 0) := by rw [cell_of_row _ _ _ _ _ _ q1]; rfl
            have y4 : w3.cell? ⟨w2.heap.size + 1, 4, none⟩ = some (.int .i64 0) := by rw [cell_of_row _ _ _ _ _ _ q1]; rfl
            generalize w2.heap.size = g2 at *
            clear q1 q2 HB2
            obtain ⟨a, rfl, hcT⟩ := (HS.out.below (HB1.out.trans (HB3.out.mono HB1.out.size))) j (by omega)
            obtain ⟨z, hz⟩ : ∃ z, ks[j]'(by omega) = z := ⟨_, rfl⟩
            rw [hz] at hcT
            have hq : (IntKind.u64.wrap z).tmod (i : Int) = (t : Int) := by
              obtain ⟨y, hy⟩ : ∃ y : Nat, z % 18446744073709551616 = (y : Int) := ⟨(z % 18446744073709551616).toNat, by omega⟩
              rw [IntKind.wrap_u64, Int.tmod_eq_emod_of_nonneg (by omega), ← ht, HTe.out]
              unfold tgN
              rw [List.getD_eq_getElem?_getD, List.getElem?_eq_getElem (by omega), hz, Option.getD_some, hy]
              rfl
            clear hz
            have HTT := hide ht
            clear ht
            have hn0 : ¬ (i : Int) = 0 := by omega
            have hw4 : wrap64 (t : Int) = (t : Int) := by unfold wrap64; omega
            have hjk : (j : Int) < (ks.length : Int) := by omega
            by_cases hodd : j % 2 = 1
            · have hd : ((j : Int) % 2 == 1) = true := by rw [beq_iff_eq]; omega
              have hcc : c = j + 1 := by rw [← hc, c5, if_pos hodd]
              subst hcc
              have HH := hide hc
              clear hc
              have hw5 : IntKind.u32.wrap ((j : Int) + 1) = (j : Int) + 1 := by rw [IntKind.wrap_u32]; omega
              go_wp2
              go_quiet (fail)
              go_wp2
              refine ⟨⟨j + 1, by simp, by omega, below_drw HB3.out _⟩, ?_⟩
              simp [intOf]
              omega
            · have hd : ((j : Int) % 2 == 1) = false := by rw [beq_eq_false_iff_ne]; omega
              have hcc : c = 6 := by rw [← hc, c5, if_neg hodd]
              subst hcc
              have HH := hide hc
              clear hc
              go_wp2
              go_quiet (fail)
              go_wp2
              refine ⟨⟨j + 1, by simp, by omega, below_drw HB3.out _⟩, ?_⟩
              simp [intOf]
              omega
          · have hjI : ¬ (j : Int) < (i : Int) := by omega
            have HB4 := hide (HB1.out.trans (HB.out.mono HB1.out.size))
            go_wp2_with fail
            refine (known_any _ (HT.out.ops.below HB4.out)).mono ?_
            rintro e w2 ⟨rfl, hb2⟩
            have HB5 := hide (HB4.out.trans (hb2.mono HB4.out.size))
            go_wp2
            go_ret
            exact ⟨rfl, HB5.out⟩
  · have h5I : ¬ (512 : Int) < (ks.length : Int) := by omega
    have hnI : (ks.length : Int) = (n : Int) := by omega
    have HN := hide hnI
    clear hnI hn
    go_enter Tryd.func3, Tryd.ntmps3
    go_upto_region 5 with fail
    rw [HN.out]
    clear h5I h5 HN
    go_upto_region 6 with fail
    go_loopw [4, 5] (fun tv iv wr => ∃ i : Nat, iv = .int .i64 (i : Int) ∧ tv = .string ⟨(jL T (List.range i)).toArray⟩ ∧ i ≤ n ∧ Below w.heap.size w wr) (fun _ iv _ => n - (intOf iv).toNat)
    case atStart => exact ⟨0, rfl, rfl, by omega, Below.refl _ _⟩
    case round =>
      obtain ⟨i, rfl, rfl, hi, hB⟩ := hrel
      have HB := hide hB
      clear hB
      by_cases hlt : i < n
      · have hltI : (i : Int) < (n : Int) := by omega
        have hli : i < ks.length := by omega
        have hliI : (i : Int) < (ks.length : Int) := by omega
        obtain ⟨a, rfl, hc0⟩ := (HS.out.below HB.out) i hli
        obtain ⟨z, hz⟩ : ∃ z, ks[i] = z := ⟨_, rfl⟩
        rw [hz] at hc0
        have hn0 : ¬ (n : Int) = 0 := by omega
        obtain ⟨t, ht⟩ : ∃ t, T i = t := ⟨_, rfl⟩
        have htn : t < n := by rw [← ht]; exact HT2.out i hlt
        have hq : (IntKind.u64.wrap z).tmod (n : Int) = (t : Int) := by
          obtain ⟨y, hy⟩ : ∃ y : Nat, z % 18446744073709551616 = (y : Int) := ⟨(z % 18446744073709551616).toNat, by omega⟩
          rw [IntKind.wrap_u64, Int.tmod_eq_emod_of_nonneg (by omega), ← ht, HTe.out]
          unfold tgN
          rw [List.getD_eq_getElem?_getD, List.getElem?_eq_getElem hli, hz, Option.getD_some, hy]
          rfl
        have hlen := jL_len T (List.range i) (fun j hj => by have := List.mem_range.1 hj; have := HT2.out j (by omega); omega)
        have HJ := hide (jL_snoc T i)
        rw [List.length_range] at hlen
        generalize jL T (List.range i) = J at *
        clear hz
        have htI : (t : Int) < (n : Int) := by omega
        have hw2 : wrap64 (t : Int) = (t : Int) := by unfold wrap64; omega
        have HI1 := hide (fun W (h : Below w.heap.size w W) => Tryd.itoa (t : Int) (by omega) (by omega) W (tabIs_below HT.out.pw h))
        have HI2 := hide (fun W (h : Below w.heap.size w W) => Tryd.itoa (i : Int) (by omega) (by omega) W (tabIs_below HT.out.pw h))
        rw [Lib.itoa_nonneg] at HI1 HI2
        go_wp2_with fail
        refine (HI1.out _ HB.out).mono ?_
        rintro e w1 ⟨rfl, hb1⟩
        have HB1 := hide (HB.out.trans (hb1.mono HB.out.size))
        clear hb1 HB HI1
        have hl1 : (Lib.decDigits t).length ≤ 3 := dec_len3 (by omega)
        have hl2 : (Lib.decDigits i).length ≤ 3 := dec_len3 (by omega)
        by_cases hodd : i % 2 = 1
        · have hd : ((i : Int) % 2 == 1) = true := by rw [beq_iff_eq]; omega
          have HJ2 : Hid (jL T (List.range (i + 1)) = J ++ [108] ++ Lib.decDigits i ++ [58, 32] ++ [99, 97, 108, 108, 32, 114, 53, 44, 32, 108] ++ Lib.decDigits t ++ [10]) := hide (by rw [HJ.out, ht]; unfold jTx jNm jFs; rw [if_pos hodd, if_pos hodd]; simp [lab, jn])
          obtain ⟨Y1, hY1⟩ : ∃ Y, J ++ [108] = Y := ⟨_, rfl⟩
          have l1 : Y1.length = J.length + 1 := by rw [← hY1, List.length_append]; rfl
          obtain ⟨Y2, hY2⟩ : ∃ Y, Y1 ++ Lib.decDigits i = Y := ⟨_, rfl⟩
          have l2 : Y2.length = Y1.length + (Lib.decDigits i).length := by rw [← hY2, List.length_append]
          obtain ⟨Y3, hY3⟩ : ∃ Y, Y2 ++ [58, 32] = Y := ⟨_, rfl⟩
          have l3 : Y3.length = Y2.length + 2 := by rw [← hY3, List.length_append]; rfl
          obtain ⟨Y4, hY4⟩ : ∃ Y, Y3 ++ [99, 97, 108, 108, 32, 114, 53, 44, 32, 108] = Y := ⟨_, rfl⟩
          have l4 : Y4.length = Y3.length + 10 := by rw [← hY4, List.length_append]; rfl
          obtain ⟨Y5, hY5⟩ : ∃ Y, Y4 ++ Lib.decDigits t = Y := ⟨_, rfl⟩
          have l5 : Y5.length = Y4.length + (Lib.decDigits t).length := by rw [← hY5, List.length_append]
          obtain ⟨Y6, hY6⟩ : ∃ Y, Y5 ++ [10] = Y := ⟨_, rfl⟩
          have l6 : Y6.length = Y5.length + 1 := by rw [← hY6, List.length_append]; rfl
          rw [hY1, hY2, hY3, hY4, hY5, hY6] at HJ2
          clear HJ hodd
          go_wp2_with (first | (refine wp_cat (by rfl) (.tmp 37) _ rfl rfl rfl hY1 (by omega) ?_))
          refine (HI2.out _ HB1.out).mono ?_
          rintro e w2 ⟨rfl, hb2⟩
          have HB2 := hide (HB1.out.trans (hb2.mono HB1.out.size))
          clear hb2 HB1 HI2
          go_wp2_with (first | (refine wp_cat (by rfl) (.tmp 38) _ rfl rfl rfl hY2 (by omega) ?_) | (refine wp_cat (by rfl) (.tmp 41) _ rfl rfl rfl hY3 (by omega) ?_) | (refine wp_cat (by rfl) (.tmp 42) _ rfl rfl rfl hY4 (by omega) ?_) | (refine wp_cat (by rfl) (.tmp 44) _ rfl rfl rfl hY5 (by omega) ?_) | (refine wp_cat (by rfl) (.tmp 46) _ rfl rfl rfl hY6 (by omega) ?_))
          refine ⟨⟨i + 1, by simp, by rw [HJ2.out], by omega, HB2.out⟩, ?_⟩
          simp [intOf]
          omega
        · have hd : ((i : Int) % 2 == 1) = false := by rw [beq_eq_false_iff_ne]; omega
          have HJ2 : Hid (jL T (List.range (i + 1)) = J ++ [108] ++ Lib.decDigits i ++ [58, 32] ++ [106, 109, 112, 32, 108] ++ Lib.decDigits t ++ [10]) := hide (by rw [HJ.out, ht]; unfold jTx jNm jFs; rw [if_neg hodd, if_neg hodd]; simp [lab, jn])
          obtain ⟨Y1, hY1⟩ : ∃ Y, J ++ [108] = Y := ⟨_, rfl⟩
          have l1 : Y1.length = J.length + 1 := by rw [← hY1, List.length_append]; rfl
          obtain ⟨Y2, hY2⟩ : ∃ Y, Y1 ++ Lib.decDigits i = Y := ⟨_, rfl⟩
          have l2 : Y2.length = Y1.length + (Lib.decDigits i).length := by rw [← hY2, List.length_append]
          obtain ⟨Y3, hY3⟩ : ∃ Y, Y2 ++ [58, 32] = Y := ⟨_, rfl⟩
          have l3 : Y3.length = Y2.length + 2 := by rw [← hY3, List.length_append]; rfl
          obtain ⟨Y4, hY4⟩ : ∃ Y, Y3 ++ [106, 109, 112, 32, 108] = Y := ⟨_, rfl⟩
          have l4 : Y4.length = Y3.length + 5 := by rw [← hY4, List.length_append]; rfl
          obtain ⟨Y5, hY5⟩ : ∃ Y, Y4 ++ Lib.decDigits t = Y := ⟨_, rfl⟩
          have l5 : Y5.length = Y4.length + (Lib.decDigits t).length := by rw [← hY5, List.length_append]
          obtain ⟨Y6, hY6⟩ : ∃ Y, Y5 ++ [10] = Y := ⟨_, rfl⟩
          have l6 : Y6.length = Y5.length + 1 := by rw [← hY6, List.length_append]; rfl
          rw [hY1, hY2, hY3, hY4, hY5, hY6] at HJ2
          clear HJ hodd
          go_wp2_with (first | (refine wp_cat (by rfl) (.tmp 37) _ rfl rfl rfl hY1 (by omega) ?_))
          refine (HI2.out _ HB1.out).mono ?_
          rintro e w2 ⟨rfl, hb2⟩
          have HB2 := hide (HB1.out.trans (hb2.mono HB1.out.size))
          clear hb2 HB1 HI2
          go_wp2_with (first | (refine wp_cat (by rfl) (.tmp 38) _ rfl rfl rfl hY2 (by omega) ?_) | (refine wp_cat (by rfl) (.tmp 41) _ rfl rfl rfl hY3 (by omega) ?_) | (refine wp_cat (by rfl) (.tmp 42) _ rfl rfl rfl hY4 (by omega) ?_) | (refine wp_cat (by rfl) (.tmp 44) _ rfl rfl rfl hY5 (by omega) ?_) | (refine wp_cat (by rfl) (.tmp 46) _ rfl rfl rfl hY6 (by omega) ?_))
          refine ⟨⟨i + 1, by simp, by rw [HJ2.out], by omega, HB2.out⟩, ?_⟩
          simp [intOf]
          omega
      · have hltI : ¬ (i : Int) < (n : Int) := by omega
        obtain rfl : i = n := by omega
        have hlen := jL_len T (List.range i) (fun j hj => by have := List.mem_range.1 hj; have := HT2.out j (by omega); omega)
        rw [List.length_range] at hlen
        have HA := hide (fun W h => asm_any W (jL T (List.range i)) (by omega) h)
        rw [asm_j T hn5 HT2.out] at HA
        obtain ⟨ws, hws⟩ : ∃ ws, (List.range i).map (fun i => jW i (T i)) = ws := ⟨_, rfl⟩
        have hwl : ws.length = i := by rw [← hws]; simp
        have HWS := hide hws
        rw [hws] at HA
        clear hws hlen
        generalize jL T (List.range i) = J at *
        go_wp2_with fail
        refine (HA.out _ (HT.out.ops.below HB.out)).mono ?_
        rintro e w1 ⟨v, rfl, hO1, hb1⟩
        obtain ⟨mo, cm, rfl, hW1⟩ := Wd.of hO1
        have HB1 := hide (HB.out.trans (hb1.mono HB.out.size))
        have HW1 := hide hW1
        clear hb1 hW1 hO1 HA HB
        rw [hwl]
        go_upto_region 17 with fail
        go_loopw [11] (fun jv wr => ∃ j : Nat, jv = .int .i64 (j : Int) ∧ j ≤ i ∧ Below w1.heap.size w1 wr) (fun jv _ => i - (intOf jv).toNat)
        case atStart => exact ⟨0, rfl, by omega, Below.refl _ _⟩
        case round =>
          obtain ⟨j, rfl, hj, hB⟩ := hrel
          have HB := hide hB
          clear hB
          by_cases hjt : j < i
          · have hjI : (j : Int) < (i : Int) := by omega
            obtain ⟨b, rfl, hc1⟩ := (HW1.out.below HB.out) j (by omega)
            have e1 : ws[j]'(by omega) = jW j (T j) := by
              have := HWS.out
              subst this
              simp
            rw [e1] at hc1
            have HE := hide (fun W h => exec_j W j (T j) (by omega) (by have := HT2.out j hjt; omega) h)
            generalize jW j (T j) = x at *
            clear e1
            have hw3 : IntKind.u32.wrap (j : Int) = (j : Int) := by rw [IntKind.wrap_u32]; omega
            have htj := HT2.out j hjt
            generalize ht : T j = t at *
            go_wp2_with fail
            refine (HE.out _ (HT.out.ops.below (HB1.out.trans (HB.out.mono HB1.out.size)))).mono ?_
            rintro e w2 ⟨rfl, hb2⟩
            have HB2 := hide (HB.out.trans (hb2.mono HB.out.size))
            clear hb2 HE HB
            generalize hc : c5 j = c at *
            go_upto_region 20 with fail
            have HB3 := hide ((HB2.out.alloc HB2.out.size (.cells #[.int .u32 1, .int .u32 2, .int .u32 3, .int .u32 4, .int .u32 5, .int .u32 (c : Nat), .int .u32 7, .int .u32 8, .int .u32 (t : Nat)] 32)).alloc (by have := HB2.out.size; simp; omega) (.cells #[.int .i64 0, .int .u32 0, .int .i64 0, .int .u32 0, .int .i64 0] 34))
            have q1 := heap_alloc_last (w2.alloc (.cells #[.int .u32 1, .int .u32 2, .int .u32 3, .int .u32 4, .int .u32 5, .int .u32 (c : Nat), .int .u32 7, .int .u32 8, .int .u32 (t : Nat)] 32)) (.cells #[.int .i64 0, .int .u32 0, .int .i64 0, .int .u32 0, .int .i64 0] 34)
            have q2 := (bel1 (w2.alloc (.cells #[.int .u32 1, .int .u32 2, .int .u32 3, .int .u32 4, .int .u32 5, .int .u32 (c : Nat), .int .u32 7, .int .u32 8, .int .u32 (t : Nat)] 32)) (.cells #[.int .i64 0, .int .u32 0, .int .i64 0, .int .u32 0, .int .i64 0] 34)).block w2.heap.size (by simp)
            rw [heap_alloc_last] at q2
            rw [show (w2.alloc (.cells #[.int .u32 1, .int .u32 2, .int .u32 3, .int .u32 4, .int .u32 5, .int .u32 (c : Nat), .int .u32 7, .int .u32 8, .int .u32 (t : Nat)] 32)).heap.size = w2.heap.size + 1 by simp] at q1
            generalize (w2.alloc (.cells #[.int .u32 1, .int .u32 2, .int .u32 3, .int .u32 4, .int .u32 5, .int .u32 (c : Nat), .int .u32 7, .int .u32 8, .int .u32 (t : Nat)] 32)).alloc (.cells #[.int .i64 0, .int .u32 0, .int .i64 0, .int .u32 0, .int .i64 0] 34) = w3 at *
            have x0 : w3.cell? ⟨w2.heap.size, 0, none⟩ = some (.int .u32 1) := by rw [cell_of_row _ _ _ _ _ _ q2]; rfl
            have x5 : w3.cell? ⟨w2.heap.size, 5, none⟩ = some (.int .u32 (c : Nat)) := by rw [cell_of_row _ _ _ _ _ _ q2]; rfl
            have x8 : w3.cell? ⟨w2.heap.size, 8, none⟩ = some (.int .u32 (t : Nat)) := by rw [cell_of_row _ _ _ _ _ _ q2]; rfl
            have y0 : w3.cell? ⟨w2.heap.size + 1, 0, none⟩ = some (.int .i64 0) := by rw [cell_of_row _ _ _ _ _ _ q1]; rfl
            have y1 : w3.cell? ⟨w2.heap.size + 1, 1, none⟩ = some (.int .u32 0) := by rw [cell_of_row _ _ _ _ _ _ q1]; rfl
            have y2 : w3.cell? ⟨w2.heap.size + 1, 2, none⟩ = some (.int .i64 0) := by rw [cell_of_row _ _ _ _ _ _ q1]; rfl
            have y3 : w3.cell? ⟨w2.heap.size + 1, 3, none⟩ = some (.int .u32 0) := by rw [cell_of_row _ _ _ _ _ _ q1]; rfl
            have y4 : w3.cell? ⟨w2.heap.size + 1, 4, none⟩ = some (.int .i64 0) := by rw [cell_of_row _ _ _ _ _ _ q1]; rfl
            generalize w2.heap.size = g2 at *
            clear q1 q2 HB2
            obtain ⟨a, rfl, hcT⟩ := (HS.out.below (HB1.out.trans (HB3.out.mono HB1.out.size))) j (by omega)
            obtain ⟨z, hz⟩ : ∃ z, ks[j]'(by omega) = z := ⟨_, rfl⟩
            rw [hz] at hcT
            have hq : (IntKind.u64.wrap z).tmod (i : Int) = (t : Int) := by
              obtain ⟨y, hy⟩ : ∃ y : Nat, z % 18446744073709551616 = (y : Int) := ⟨(z % 18446744073709551616).toNat, by omega⟩
              rw [IntKind.wrap_u64, Int.tmod_eq_emod_of_nonneg (by omega), ← ht, HTe.out]
              unfold tgN
              rw [List.getD_eq_getElem?_getD, List.getElem?_eq_getElem (by omega), hz, Option.getD_some, hy]
              rfl
            clear hz
            have HTT := hide ht
            clear ht
            have hn0 : ¬ (i : Int) = 0 := by omega
            have hw4 : wrap64 (t : Int) = (t : Int) := by unfold wrap64; omega
            have hjk : (j : Int) < (ks.length : Int) := by omega
            by_cases hodd : j % 2 = 1
            · have hd : ((j : Int) % 2 == 1) = true := by rw [beq_iff_eq]; omega
              have hcc : c = j + 1 := by rw [← hc, c5, if_pos hodd]
              subst hcc
              have HH := hide hc
              clear hc
              have hw5 : IntKind.u32.wrap ((j : Int) + 1) = (j : Int) + 1 := by rw [IntKind.wrap_u32]; omega
              go_wp2
              go_quiet (fail)
              go_wp2
              refine ⟨⟨j + 1, by simp, by omega, below_drw HB3.out _⟩, ?_⟩
              simp [intOf]
              omega
            · have hd : ((j : Int) % 2 == 1) = false := by rw [beq_eq_false_iff_ne]; omega
              have hcc : c = 6 := by rw [← hc, c5, if_neg hodd]
              subst hcc
              have HH := hide hc
              clear hc
              go_wp2
              go_quiet (fail)
              go_wp2
              refine ⟨⟨j + 1, by simp, by omega, below_drw HB3.out _⟩, ?_⟩
              simp [intOf]
              omega
          · have hjI : ¬ (j : Int) < (i : Int) := by omega
            have HB4 := hide (HB1.out.trans (HB.out.mono HB1.out.size))
            go_wp2_with fail
            refine (known_any _ (HT.out.ops.below HB4.out)).mono ?_
            rintro e w2 ⟨rfl, hb2⟩
            have HB5 := hide (HB4.out.trans (hb2.mono HB4.out.size))
            go_wp2
            go_ret
            exact ⟨rfl, HB5.out⟩
end
end Go.Proofs.YtoaplkfmchphbaaDoor

namespace Go.Proofs.YtoaplkfmchphbaaDoor
open Go.RowKit
theorem word_small : ∀ n ∈ eIs.map word, n < 4294967296 := by decide
theorem mcW_ok {ws : List Nat} (h : ∀ n ∈ ws, n < 4294967296) : MOk (mcW ws) := by
  refine ⟨fun i _ => ?_, fun i _ => by show 0 < 4294967296; decide, by show 0 < 4294967296; decide⟩
  show ws.getD i 0 < 4294967296
  rw [List.getD_eq_getElem?_getD]
  by_cases hi : i < ws.length
  · rw [List.getElem?_eq_getElem hi]; exact h _ (List.getElem_mem hi)
  · rw [List.getElem?_eq_none (by omega)]; decide
theorem eWs_ok {x y : Nat} (hx : x < 4294967296) (hy : y < 4294967296) : ∀ n ∈ eWs x y, n < 4294967296 := by
  intro n hn
  unfold eWs at hn
  rcases List.mem_append.1 hn with h | h
  · exact word_small n h
  · simp only [List.mem_cons, List.not_mem_nil, or_false] at h
    rcases h with rfl | rfl | rfl
    · exact hx
    · exact hy
    · decide
theorem eS_mcW (x y : Nat) : mcW (eWs x y) = eS x y 0 0 0 0 := by
  unfold mcW eS
  congr 1
  funext j
  simp [rr]
section
variable (w : World)
set_option maxRecDepth 100000 in
set_option maxHeartbeats 2000000 in
theorem euclid_walk (x : Nat) (hx : x < 4294967296) (y : Nat) (hy : y < 4294967296) (hT : Tb w) : Calls Tryd.prog 5 #[.int .u32 (x : Nat), .int .u32 (y : Nat)] w fun e w' => e = .returned (.bool true) ∧ Below w.heap.size w w' := by
  have HT := hide hT
  clear hT
  have HN1 := hide (fun W (h : Below w.heap.size w W) => num_any W x hx (tabIs_below HT.out.pw h))
  have HN2 := hide (fun W (h : Below w.heap.size w W) => num_any W y hy (tabIs_below HT.out.pw h))
  have hlx := dec_len10 hx
  have hly := dec_len10 hy
  have hC := eC1_len
  obtain ⟨Y1, hY1⟩ : ∃ Y, eC1 ++ Lib.decDigits x = Y := ⟨_, rfl⟩
  obtain ⟨Y2, hY2⟩ : ∃ Y, Y1 ++ [10, 121, 58, 32, 46, 119, 111, 114, 100, 32] = Y := ⟨_, rfl⟩
  obtain ⟨Y3, hY3⟩ : ∃ Y, Y2 ++ Lib.decDigits y = Y := ⟨_, rfl⟩
  obtain ⟨Y4, hY4⟩ : ∃ Y, Y3 ++ [10, 122, 58, 32, 46, 119, 111, 114, 100, 32, 48, 120, 102, 102, 102, 102, 102, 102, 102, 102, 10] = Y := ⟨_, rfl⟩
  have HY : Hid (Y4 = eTxt x y) := hide (by rw [eTxt_eq, ← hY4, ← hY3, ← hY2, ← hY1])
  have l1 : Y1.length = 131 + (Lib.decDigits x).length := by rw [← hY1, List.length_append, hC]
  have l2 : Y2.length = Y1.length + 10 := by rw [← hY2, List.length_append]; rfl
  have l3 : Y3.length = Y2.length + (Lib.decDigits y).length := by rw [← hY3, List.length_append]
  have l4 : Y4.length = Y3.length + 21 := by rw [← hY4, List.length_append]; rfl
  have m1 : Y1.length ≤ 9223372036854775807 := by omega
  have m2 : Y2.length ≤ 9223372036854775807 := by omega
  have m3 : Y3.length ≤ 9223372036854775807 := by omega
  have m4 : Y4.length ≤ 9223372036854775807 := by omega
  have M := hide (And.intro m1 (And.intro m2 (And.intro m3 m4)))
  have hY4l : Y4.length ≤ 1000000 := by omega
  have HL := hide (fun W h => loaded_any W Y4 (eWs x y) hY4l (by rw [HY.out]; exact eAsm hx hy) (by show (eIs.map word ++ [x, y, 4294967295]).length ≤ 512; simp [eIs]) h)
  clear hC l1 l2 l3 l4 m1 m2 m3 m4 hY4l hlx hly
  go_enter Tryd.func5, Tryd.ntmps5
  go_wp2_with fail
  refine (HN1.out _ (Below.refl _ _)).mono ?_
  rintro e w1 ⟨rfl, hb1⟩
  have HB1 := hide hb1
  clear hb1
  go_wp2_with (first | (refine wp_cat (by rfl) _ (.tmp 11) rfl (A := eC1) (by kernel_rfl) rfl hY1 M.out.1 ?_) | (refine wp_cat (by rfl) (.tmp 12) _ rfl rfl rfl hY2 M.out.2.1 ?_))
  refine (HN2.out _ HB1.out).mono ?_
  rintro e w2 ⟨rfl, hb2⟩
  have HB2 := hide (HB1.out.trans (hb2.mono HB1.out.size))
  clear hb2 HB1
  go_wp2_with (first | (refine wp_cat (by rfl) (.tmp 13) _ rfl rfl rfl hY3 M.out.2.2.1 ?_) | (refine wp_cat (by rfl) (.tmp 16) _ rfl rfl rfl hY4 M.out.2.2.2 ?_))
  refine (HL.out _ (HT.out.ops.below HB2.out)).mono ?_
  rintro e w3 ⟨N, rfl, hN, hM, hb3⟩
  have HB3 := hide (HB2.out.trans (hb3.mono HB2.out.size))
  have HNB : Hid (w.heap.size ≤ N) := hide (Nat.le_trans HB2.out.size hN)
  have HM3 := hide hM
  clear hb3 hM hN HB2 HL HN1 HN2 hY1 hY2 hY3 hY4 HY M
  obtain ⟨c', hrun⟩ := eAll x y hy
  have HR := hide (runs_any w w3 N (mcW (eWs x y)) (eE x y (Nat.gcd y x) c') 700 (by decide) HM3.out (mcW_ok (eWs_ok hx hy)) (by rw [eS_mcW]; exact hrun) HNB.out HT.out.ops HB3.out)
  clear hrun HM3 HB3
  go_wp2_with fail
  refine HR.out.mono ?_
  rintro e w4 ⟨rfl, hM4, hb4⟩
  have HM4 := hide hM4
  have HB4 := hide hb4
  clear hM4 hb4 HR
  generalize hE : eE x y (Nat.gcd y x) c' = E at *
  have hdn : E.dn = true := by rw [← hE]; rfl
  have HE := hide hE
  clear hE
  go_upto_region 6 with fail
  have HD := hide hdn
  clear hdn
  go_loopw [8, 9] (fun av bv wr => ∃ a b : Nat, av = .int .u32 (a : Nat) ∧ bv = .int .u32 (b : Nat) ∧ a < 4294967296 ∧ b < 4294967296 ∧ Hid (Nat.gcd b a = Nat.gcd y x) ∧ Hid (Mb wr N E) ∧ Hid (Below w.heap.size w wr)) (fun _ bv _ => (intOf bv).toNat)
  case atStart => exact ⟨x, y, rfl, rfl, hx, hy, hide rfl, HM4, HB4⟩
  case round =>
    obtain ⟨a, b, rfl, rfl, ha, hb, HG, HMr, HBr⟩ := hrel
    clear HM4 HB4
    by_cases h0 : b = 0
    · subst h0
      have hG : a = Nat.gcd y x := by have := HG.out; rwa [Nat.gcd_zero_left] at this
      have c12 : wr.cell? ⟨N, 12, none⟩ = some (.int .u32 (a : Nat)) := by have h := HMr.out.m (i := 12) (by decide); rw [← HE.out] at h; rw [hG]; exact h
      have c10 : wr.cell? ⟨N, 10, none⟩ = some (.int .u32 (x : Nat)) := by have h := HMr.out.m (i := 10) (by decide); rw [← HE.out] at h; exact h
      have c11 : wr.cell? ⟨N, 11, none⟩ = some (.int .u32 (y : Nat)) := by have h := HMr.out.m (i := 11) (by decide); rw [← HE.out] at h; exact h
      have cpc : wr.cell? ⟨N, 520, none⟩ = some (.int .u32 10) := by have h := HMr.out.pc; rw [← HE.out] at h; exact h
      clear hG HG
      go_wp2
      go_ret
      exact ⟨rfl, HBr.out⟩
    · have hb0 : ¬ (b : Int) = 0 := by omega
      have hbb : ((b : Int) == 0) = false := by rw [beq_eq_false_iff_ne]; exact hb0
      obtain ⟨r, hr⟩ : ∃ r, a % b = r := ⟨_, rfl⟩
      have hrb : r < b := by rw [← hr]; exact Nat.mod_lt _ (by omega)
      have hq : (a : Int).tmod (b : Int) = (r : Int) := by rw [Int.tmod_eq_emod_of_nonneg (by omega), ← hr]; rfl
      have HG2 : Hid (Nat.gcd r b = Nat.gcd y x) := hide (by rw [← HG.out, Nat.gcd_rec b a, hr])
      clear HG hr
      have hr32 : (r : Int) % 4294967296 = (r : Int) := by omega
      go_upto_region 7 with fail
      go_quiet (fail)
      go_wp2
      refine ⟨⟨b, r, rfl, rfl, hb, by omega, HG2, hide (HMr.out.keep rfl), hide (below_drw HBr.out _)⟩, ?_⟩
      simp [intOf]
      omega
end
end Go.Proofs.YtoaplkfmchphbaaDoor

namespace Go.Proofs.YtoaplkfmchphbaaDoor
open Go.RowKit
theorem cell_two_new (w : World) (t : TypeId) (a b : Value) : ∀ j v, [a, b][j]? = some v → (w.alloc (.cells #[a, b] t)).cell? ((⟨w.heap.size, 0, none⟩ : Addr).add j) = some v := by
  intro j v hv
  rw [add0, World.cell?_alloc_new]
  match j, hv with
  | 0, hv => exact hv
  | 1, hv => exact hv
  | j + 2, hv => simp at hv
theorem set_rep {c : Nat} {ns : List Nat} {j : Nat} (hj : j < ns.length) : (wds (List.replicate j c ++ ns.drop j)).set j (.int .u32 (c : Nat)) = wds (List.replicate (j + 1) c ++ ns.drop (j + 1)) := by
  unfold wds
  rw [← List.map_set]
  congr 1
  rw [List.set_append_right _ _ (by simp), List.length_replicate, Nat.sub_self, List.drop_eq_getElem_cons hj, List.set_cons_zero, List.replicate_succ', List.append_assoc]
  rfl
theorem ne_block {W : World} {B B' : Nat} {g m c n : Nat} {ys : List Value} {v : Value} {e : TypeId} (ha : ∀ k, (Value.slice (some ⟨g, 0, none⟩) m c).ownBlock = some k → B ≤ k ∧ k < B') (hb : W.ownsRow B' e 1 v n ys) : v.ownBlock ≠ some g := by
  intro h
  have h1 := (hb.lt g h).1
  have h2 := (ha g rfl).2
  omega
/-- an append that leaves what the old slice reads -/
theorem append_keeps {P : Program} {w : World} {ops : Array Oper} {rest : List Oper} {o : Oper} {a : Act} {Q : Exit → Act → World → Prop} (hgd : o.guard = none) (s x : Operand) (t : TypeId)
    (ho : o.op = .call { callee := .builtin .append, args := #[s, x], argTypes := #[t, t] })
    (base : Nat) (e : TypeId) (i : TypeInfo) (z : Value) (bytes : Nat) (ht : P.underlying t = some (.slice e)) (hi : P.info? e = some i) (hz : i.zero = some z)
    (hsize : i.size = 1) (hby : i.bytes = bytes) (hzs : z.cells.size = 1)
    (ao : Option Addr) (n cap : Nat) (xs : List Value) (hs : a.eval s = .slice ao n cap) (hown : w.ownsRow base e 1 (.slice ao n cap) n xs)
    (ad : Addr) (m c : Nat) (news : List Value) (hx : a.eval x = .slice (some ad) m c) (hl : news.length = m * 1) (hnews : ∀ j u, news[j]? = some u → w.cell? (ad.add j) = some u) (h1 : ∀ u ∈ news, u.oneCell' = true)
    (h63 : n + m ≤ maxLen) (hbytes : (n + m) * bytes ≤ 140737488355328) (hbase : base ≤ w.heap.size)
    (h : ∀ v' w', w'.ownsRow base e 1 v' (n + m) (xs ++ news) → w.grownBy w' (Value.slice ao n cap).ownBlock → (∀ g, ao = some ⟨g, 0, none⟩ → ∀ j u, xs[j]? = some u → w'.cell? ⟨g, j, none⟩ = some u) → wpList P ops Q rest (a.put o.dst v') w') : wpList P ops Q (o :: rest) a w := by
  have hxl := hown.1
  rcases hown.2 with ⟨h0, h00⟩ | ⟨g, cp, cur, h0, hb, h3, hc, _, _, h7⟩
  · cases h0
    exact wpList_append_own _ hgd s x t ho base e i z 1 bytes ht hi hz hsize hby hzs (by decide) _ _ xs hs hown ad m c news hx hl hnews h1 h63 hbytes hbase fun v' w' h2 h3 _ => h v' w' h2 h3 (fun g hg => by cases hg)
  · cases h0
    by_cases hr : n + m ≤ cap
    · refine wpList_append_own_spare _ hgd s x t ho base e i 1 ht hi hsize g n cap xs hs hown ad m c news hx hl hnews h1 hr fun w' h2 h3 => h _ w' h2 h3 ?_
      intro g' hg' j u hu
      cases hg'
      have hj : j < xs.length := (List.getElem?_eq_some_iff.1 hu).1
      rw [h2.cellAt j (by omega), List.getElem?_append_left hj]
      exact hu
    · refine wpList_append_grows w hgd s x t ho e i z 1 bytes ht hi hz hsize hby hzs (by decide) (some ⟨g, 0, none⟩) n cap xs hs (fun e => by cases e) hxl (fun b hb' => by cases hb'; exact hown.cells rfl) ad m c news hx hl hnews h1 (by omega) h63 hbytes fun v' w' r1 r2 => h v' w' (own_mono r1 hbase) ⟨r2.os, r2.tape, r2.output, r2.size, fun k hk _ => r2.block k hk (by simp)⟩ ?_
      intro g' hg' j u hu
      cases hg'
      have hj : j < xs.length := (List.getElem?_eq_some_iff.1 hu).1
      have hlt : g < w.heap.size := (Array.getElem?_eq_some_iff.1 h3).1
      rw [World.cell?_of_block (a := ⟨g, j, none⟩) (r2.block g hlt (by simp)), hown.cellAt j (by omega)]
      exact hu
/-- a row with two cells behind it -/
theorem own_room {W : World} {base : Nat} {v : Value} {ns : List Nat} {x y : Value} (h : W.ownsRow base 29 1 v (ns.length + 2) (wds ns ++ [x, y])) :
    ∃ g c, v = .slice (some ⟨g, 0, none⟩) (ns.length + 2) c ∧ ns.length + 2 ≤ c ∧ base ≤ g ∧ Wd W (some ⟨g, 0, none⟩) ns ∧ W.cell? ((⟨g, 0, none⟩ : Addr).add ns.length) = some x ∧ W.cell? ((⟨g, 0, none⟩ : Addr).add (ns.length + 1)) = some y := by
  have hl : (wds ns).length = ns.length := by simp [wds]
  rcases h.2 with ⟨_, h2⟩ | ⟨g, cap, cur, h1, hb, h3, hc, _, _, h7⟩
  · omega
  · have at' : ∀ j v, j < ns.length + 2 → (wds ns ++ [x, y])[j]? = some v → W.cell? ((⟨g, 0, none⟩ : Addr).add j) = some v := by
      intro j v hj e
      rw [add0, Lib.cell_of_heap h3]
      rw [← h7, List.getElem?_take] at e
      split at e
      · rw [← Array.getElem?_toList]; exact e
      · simp at e
    refine ⟨g, cap, h1, hc, hb, fun j hj => ⟨_, rfl, at' j _ (by omega) ?_⟩, at' _ _ (by omega) ?_, at' _ _ (by omega) ?_⟩
    · rw [List.getElem?_append_left (by omega)]; simp [wds, hj]
    · rw [List.getElem?_append_right (by omega), hl]; simp
    · rw [List.getElem?_append_right (by omega), hl, show ns.length + 1 - ns.length = 1 by omega]; rfl
theorem cell_keep {W W' : World} {a : Addr} {v : Value} (h : W.cell? a = some v) (hb : Below W.heap.size W W') : W'.cell? a = some v := by
  rw [hb.cell (addr_lt h)]; exact h
section
variable (w : World)
set_option maxRecDepth 100000 in
theorem words_own (ao : Option Addr) (cap : Nat) (ns : List Nat) (hl : ns.length ≤ 1048576) (hW : Wd w ao ns) (ha : ao = none → ns.length = 0 ∧ cap = 0) : Calls Tryd.prog 19 #[.slice ao ns.length cap] w fun e w' => ∃ v, e = .returned v ∧ w'.ownsRow w.heap.size 29 1 v ns.length (wds ns) ∧ Below w.heap.size w w' := by
  obtain ⟨i5, hi, hz, hs, hb⟩ := info_u32
  have h0 : w.ownsRow w.heap.size 29 1 (.slice none 0 0) 0 [] := ⟨rfl, .inl ⟨rfl, rfl⟩⟩
  cases ao with
  | none =>
    obtain ⟨e1, rfl⟩ := ha rfl
    obtain rfl := List.eq_nil_of_length_eq_zero e1
    go_enter Tryd.func19, Tryd.ntmps19
    go_wp2
    go_ret
    exact ⟨_, rfl, h0, Below.refl _ _⟩
  | some a =>
    have HN : Hid (∀ j u, (ns.map fun x => Value.int .u32 ((x : Nat) : Int))[j]? = some u → w.cell? (a.add j) = some u) := hide (by
      intro j u hu
      rw [List.getElem?_map] at hu
      by_cases hj : j < ns.length
      · obtain ⟨a', h1, h2⟩ := hW j hj
        cases h1
        rw [List.getElem?_eq_getElem hj] at hu
        simp at hu
        rw [h2, ← hu]
      · rw [List.getElem?_eq_none (by omega)] at hu
        simp at hu)
    clear hW ha
    go_enter Tryd.func19, Tryd.ntmps19
    go_upto_region 3 with (at_builtin; refine wpList_append_own _ rfl _ _ 25 rfl w.heap.size 29 i5 (.int .u32 0) 1 4 Tryd.underlying25 hi hz hs hb rfl (by decide) (.slice none 0 0) 0 [] rfl h0 a ns.length cap (ns.map fun x => Value.int .u32 (x : Nat)) rfl (by simp) HN.out (by intro u hu; simp at hu; obtain ⟨x, _, rfl⟩ := hu; rfl) (by unfold maxLen; omega) (by omega) (by omega) ?_; intro v2 w2 ho2 hg2 _; obtain ⟨a2, c2, rfl⟩ := own_shape ho2)
    have HB2 := hide ((Below.refl w.heap.size w).grown hg2 (by omega) (fun j hj => by simp [Value.ownBlock] at hj))
    have HW2 : Hid (w2.ownsRow w.heap.size 29 1 (.slice a2 ns.length c2) ns.length (wds ns)) := hide (by rw [Nat.zero_add] at ho2; exact ho2)
    clear ho2 hg2
    go_wp2
    go_ret
    exact ⟨_, rfl, HW2.out, HB2.out⟩
set_option maxRecDepth 100000 in
set_option maxHeartbeats 2000000 in
theorem apart_walk (ao : Option Addr) (cap : Nat) (ns : List Nat) (hn : ∀ x ∈ ns, x < 4294967296) (hW : Wd w ao ns) (ha : ao = none → ns.length = 0 ∧ cap = 0) (hT : Tb w) : Calls Tryd.prog 8 #[.slice ao ns.length cap] w fun e w' => e = .returned (.bool true) ∧ Below w.heap.size w w' := by
  obtain ⟨i5, hi, hz, hsz, hbt⟩ := info_u32
  have HN := hide hn
  have HW := hide hW
  have HT := hide hT
  clear hn hW hT
  by_cases h5 : ns.length ≤ 512
  rotate_left
  · have h5I : (512 : Int) < (ns.length : Int) := by omega
    go_enter Tryd.func8, Tryd.ntmps8
    go_wp2_with fail
    refine (known_any _ HT.out.ops).mono ?_
    rintro e w1 ⟨rfl, hb⟩
    have HB1 := hide hb
    clear hb
    go_wp2
    go_ret
    exact ⟨rfl, HB1.out⟩
  have hl : ns.length ≤ 1048576 := by omega
  have h5I : ¬ (512 : Int) < (ns.length : Int) := by omega
  go_enter Tryd.func8, Tryd.ntmps8
  go_wp2_with fail
  refine (known_any _ HT.out.ops).mono ?_
  rintro e w1 ⟨rfl, hb⟩
  have HB1 := hide hb
  clear hb
  go_wp2_with fail
  refine (words_own _ ao cap ns hl (HW.out.below HB1.out) ha).mono ?_
  rintro e w2 ⟨v2, rfl, hO2, hb2⟩
  have HB2 := hide (HB1.out.trans (hb2.mono HB1.out.size))
  have HO2 := hide hO2
  have hs2 := hb2.size
  obtain ⟨r2, c2, rfl⟩ := own_shape hO2
  clear hO2 hb2
  go_upto_region 7 with (at_builtin; refine wpList_append_own _ rfl _ _ 25 rfl w1.heap.size 29 i5 (.int .u32 0) 1 4 Tryd.underlying25 hi hz hsz hbt rfl (by decide) _ _ _ rfl (HO2.out.alloc _) ⟨_, 0, none⟩ 2 2 [.int .u32 2779096485, .int .u32 1515870810] rfl rfl (cell_two_new _ _ _ _) (by simp [Value.oneCell']) (by unfold maxLen; omega) (by omega) (by simp; omega) ?_; rintro v3 w3 ho3 hg3 -; obtain ⟨a3, c3, rfl⟩ := own_shape ho3)
  have HB3 := hide ((HB2.out.alloc HB2.out.size _).grown hg3 (by have := HB2.out.size; simp; omega) (fun k hk => Nat.le_trans HB1.out.size (HO2.out.lt k hk).1))
  obtain ⟨g3, d3, e3, hc3, hg3', hW3, hx3, hy3⟩ := own_room ho3
  cases e3
  have HW3 := hide hW3
  have HX3 := hide hx3
  have HY3 := hide hy3
  clear ho3 hg3 HO2 HB2 HB1 hW3 hx3 hy3 hs2 ha
  have hcI : (ns.length : Int) ≤ (c3 : Int) := by omega
  go_wp2_with fail
  refine (dis_any _ (some ⟨g3, 0, none⟩) c3 ns HN.out hl HW3.out (HT.out.below HB3.out)).mono ?_
  rintro e w4 ⟨rfl, hb4⟩
  have HB4 := hide (HB3.out.trans (hb4.mono HB3.out.size))
  have HW4 := hide (HW3.out.below hb4)
  have HX4 := hide (cell_keep HX3.out hb4)
  have HY4 := hide (cell_keep HY3.out hb4)
  have HA := hide (fun W h => asm_back W ns HN.out h5 h)
  clear hb4 HB3 HW3 HX3 HY3
  generalize tls ns = T at *
  go_wp2_with fail
  refine (same_any _ (some ⟨g3, 0, none⟩) ao c3 cap ns hl HW4.out (HW.out.below HB4.out)).mono ?_
  rintro e w5 ⟨rfl, hb5⟩
  have HB5 := hide (HB4.out.trans (hb5.mono HB4.out.size))
  have hx5 := cell_keep HX4.out hb5
  have hy5 := cell_keep HY4.out hb5
  rw [add0] at hx5 hy5
  clear hb5 HB4 HW4 HX4 HY4
  go_upto_region 10 with fail
  clear hx5 hy5
  go_wp2_with fail
  refine (HA.out _ (HT.out.below HB5.out).ops).mono ?_
  rintro e w6 ⟨va, rfl, hO6, hb6⟩
  have HB6 := hide (HB5.out.trans (hb6.mono HB5.out.size))
  have HO6 := hide hO6
  have hs6 := hb6.size
  clear hb6
  obtain ⟨ra, ca, rfl⟩ := own_shape hO6
  clear hO6
  go_wp2_with fail
  refine (HA.out _ (HT.out.below HB6.out).ops).mono ?_
  rintro e w7 ⟨vb, rfl, hO7, hb7⟩
  have HB7 := hide (HB6.out.trans (hb7.mono HB6.out.size))
  have HOb := hide hO7
  have HOa := hide (own_below HO6.out hb7)
  have HLa := hide (fun k hk => HO6.out.lt k hk)
  have hs7 := hb7.size
  clear hb7
  obtain ⟨rb, cb, rfl⟩ := own_shape hO7
  obtain ⟨mo, cm, em, hWb⟩ := Wd.of HOb.out
  cases em
  clear hO7 hWb HB6 HO6
  go_wp2_with fail
  obtain ⟨xo, xm, ex, hWa⟩ := Wd.of HOa.out
  cases ex
  refine (same_any _ ra ao ca cap ns hl hWa (HW.out.below HB7.out)).mono ?_
  rintro e w8 ⟨rfl, hb8⟩
  have HB8 := hide (HB7.out.trans (hb8.mono HB7.out.size))
  have HOa8 := hide (own_below HOa.out hb8)
  have HOb8 := hide (own_below HOb.out hb8)
  have hs8 : w6.heap.size ≤ w8.heap.size := Nat.le_trans hs7 hb8.size
  clear hb8 hWa HOa HOb HB7
  go_upto_region 15 with fail
  go_loopw [11] (fun k wr => ∃ j : Nat, j ≤ ns.length ∧ k = .int .i64 (j : Int) ∧ wr.ownsRow w5.heap.size 29 1 (.slice ra ns.length ca) ns.length (wds (List.replicate j 286331153 ++ ns.drop j)) ∧ wr.ownsRow w6.heap.size 29 1 (.slice rb ns.length cb) ns.length (wds ns) ∧ Below w.heap.size w wr ∧ w6.heap.size ≤ wr.heap.size) (fun k _ => ns.length - (intOf k).toNat)
  case atStart => exact ⟨0, by omega, rfl, by simpa using HOa8.out, HOb8.out, HB8.out, hs8⟩
  case round =>
  obtain ⟨j, hj, rfl, hoa, hob, hbw, hsw⟩ := hrel
  by_cases hlt : j < ns.length
  · obtain ⟨ga, rfl⟩ : ∃ ga, ra = some ⟨ga, 0, none⟩ := by
      rcases hoa.2 with ⟨_, h2⟩ | ⟨g, _, _, h1, _⟩
      · omega
      · cases h1; exact ⟨_, rfl⟩
    have c0 := hoa.cellAt j (by omega)
    rw [List.getElem?_eq_getElem (by simp [wds]; omega)] at c0
    have f0 := hoa.frozenAt j
    have HS := hide (hoa.stored j (.int .u32 286331153)).1
    have HG := hide (ownsRow_setCell_other (a := ⟨ga, j, none⟩) hob (ne_block HLa.out hob) (.int .u32 286331153))
    have HBw := hide hbw
    have hga := (HLa.out ga rfl).1
    have hI : (j : Int) < (ns.length : Int) := by omega
    generalize (wds (List.replicate j 286331153 ++ ns.drop j))[j]'(by simp [wds]; omega) = xj at *
    clear hoa hob hbw
    go_wp2
    refine ⟨⟨j + 1, by omega, by simp, by rw [← set_rep hlt]; exact HS.out, HG.out, HBw.out.setCell (by show w.heap.size ≤ ga; have := HB5.out.size; omega) _, by simpa [World.setCell] using hsw⟩, ?_⟩
    simp [intOf]
    omega
  · obtain rfl : j = ns.length := by omega
    have HOa9 : Hid (wr.ownsRow w5.heap.size 29 1 (.slice ra ns.length ca) ns.length (wds (List.replicate ns.length 286331153))) := hide (by simpa using hoa)
    have HOb9 := hide hob
    have HB9 := hide hbw
    clear hoa hob hbw
    obtain ⟨yo, ym, ey, hWb⟩ := Wd.of HOb9.out
    cases ey
    have HWb := hide hWb
    clear hWb
    go_upto_region 19 with fail
    go_wp2_with fail
    refine (same_any _ rb ao cb cap ns hl HWb.out (HW.out.below HB9.out)).mono ?_
    rintro e wa ⟨rfl, hba⟩
    have HBa := hide (HB9.out.trans (hba.mono HB9.out.size))
    have HOaa := hide (own_below HOa9.out hba)
    have HOba := hide (own_below HOb9.out hba)
    have hsa := Nat.le_trans hsw hba.size
    have hrl : (List.replicate ns.length 286331153).length = ns.length := by simp
    clear hba HOa9 HOb9 HB9 HWb
    go_upto_region 22 with (at_builtin; refine append_keeps rfl _ _ 25 rfl w5.heap.size 29 i5 (.int .u32 0) 4 Tryd.underlying25 hi hz hsz hbt rfl _ _ _ _ rfl (HOaa.out.alloc _) ⟨_, 0, none⟩ 2 2 [.int .u32 2, .int .u32 2] rfl rfl (cell_two_new _ _ _ _) (by simp [Value.oneCell']) (by unfold maxLen; omega) (by omega) (by simp; omega) ?_; rintro vc wc hoc hgc hkc; obtain ⟨rc, cc, rfl⟩ := own_shape hoc)
    have HBc := hide ((HBa.out.alloc HBa.out.size _).grown hgc (by have := HBa.out.size; simp; omega) (fun k hk => Nat.le_trans HB5.out.size (HLa.out k hk).1))
    have HObc := hide ((HOba.out.alloc (.cells #[.int .u32 2, .int .u32 2] 29)).kept hgc (by
      rcases h9 : (Value.slice rb ns.length cb).ownBlock with _ | kb
      · exact .inl rfl
      · refine .inr fun h8 => ?_
        have h1 := (HOba.out.lt kb h9).1
        have h2 := (HLa.out kb h8.symm).2
        omega))
    have HK : Hid (∀ j, j < ns.length → ∃ ga, ra = some ⟨ga, 0, none⟩ ∧ wc.cell? ⟨ga, j, none⟩ = some (.int .u32 286331153)) := hide (by
      intro j hj
      rcases HOaa.out.2 with ⟨_, h2⟩ | ⟨g, _, _, h1, _⟩
      · omega
      · cases h1
        exact ⟨_, rfl, hkc _ rfl j _ (by simp [wds, hj])⟩)
    clear hoc hgc hkc HOba HOaa HBa
    go_wp2_with fail
    refine (HA.out _ (HT.out.below HBc.out).ops).mono ?_
    rintro e wd ⟨vd, rfl, hOd, hbd⟩
    have HBd := hide (HBc.out.trans (hbd.mono HBc.out.size))
    have HObd := hide (own_below HObc.out hbd)
    have HKd : Hid (∀ j, j < ns.length → ∃ ga, ra = some ⟨ga, 0, none⟩ ∧ wd.cell? ⟨ga, j, none⟩ = some (.int .u32 286331153)) := hide (fun j hj => by
      obtain ⟨ga, h1, h2⟩ := HK.out j hj
      exact ⟨ga, h1, cell_keep h2 hbd⟩)
    obtain ⟨rd, cd, rfl, hWd⟩ := Wd.of hOd
    obtain ⟨yo, ym, ey, hWb⟩ := Wd.of HObd.out
    cases ey
    have HWb := hide hWb
    have HWd := hide hWd
    clear hbd hOd hWd hWb HBc HObc HK HObd HA HLa HB5
    go_upto_region 24 with fail
    go_loopw [16] (fun k wr => ∃ j : Nat, j ≤ ns.length ∧ k = .int .i64 (j : Int) ∧ ∃ d, wr = wd.drewN d) (fun k _ => ns.length - (intOf k).toNat)
    case atStart => exact ⟨0, by omega, rfl, 0, by rw [World.drewN_zero]⟩
    case round =>
    obtain ⟨j, hj, rfl, d, rfl⟩ := hrel
    by_cases hlt : j < ns.length
    · obtain ⟨ga, rfl, c0⟩ := HKd.out j hlt
      have hd : (j : Int) < (ns.length : Int) := by omega
      have e0 : ∀ n, (wd.drewN n).cell? ⟨ga, j, none⟩ = some (.int .u32 286331153) := fun n => by rw [World.cell?_drewN]; exact c0
      go_wp2
      refine ⟨⟨j + 1, by omega, by simp, d, rfl⟩, ?_⟩
      simp [intOf]
      omega
    · obtain rfl : j = ns.length := by omega
      have HBe := hide (show Below w.heap.size w (wd.drewN d) from ⟨HBd.out.os, HBd.out.tape, HBd.out.output, HBd.out.size, HBd.out.block⟩)
      have hWx : Below wd.heap.size wd (wd.drewN d) := ⟨rfl, rfl, rfl, Nat.le_refl _, fun _ _ => rfl⟩
      have HWb' := hide (HWb.out.below hWx)
      have HWd' := hide (HWd.out.below hWx)
      generalize wd.drewN d = we at *
      clear hWx HWb HWd HBd HKd
      go_wp2_with fail
      refine (same_any _ rb ao cb cap ns hl HWb'.out (HW.out.below HBe.out)).mono ?_
      rintro e wf ⟨rfl, hbf⟩
      have HBf := hide (HBe.out.trans (hbf.mono HBe.out.size))
      have HWf := hide (HWd'.out.below hbf)
      clear hbf HBe HWd' HWb'
      go_wp2_with fail
      refine (same_any _ rd ao cd cap ns hl HWf.out (HW.out.below HBf.out)).mono ?_
      rintro e wg ⟨rfl, hbg⟩
      have HBg := hide (HBf.out.trans (hbg.mono HBf.out.size))
      clear hbg HBf HWf
      go_wp2
      go_ret
      exact ⟨rfl, HBg.out⟩
end
end Go.Proofs.YtoaplkfmchphbaaDoor
