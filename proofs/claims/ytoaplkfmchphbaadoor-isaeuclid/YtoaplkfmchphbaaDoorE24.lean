import Derived.Test.YtoaplkfmchphbaaDoorE20
import Derived.Test.YtoaplkfmchphbaaDoorE21
import Derived.Test.YtoaplkfmchphbaaDoorE22
import Derived.Test.YtoaplkfmchphbaaDoorE23
namespace Go.Proofs.YtoaplkfmchphbaaDoor
open Go.RowKit
theorem asmL_len (ps : List (Tx × (Nat × Int))) : ∀ (ls : List Ln) (k : Nat) (ws : List Nat), ws.length ≤ 512 → (asmL ps ls k ws).1.length ≤ 512 ∧ (asmL ps ls k ws).2.1 ≤ k + ls.length
  | [], k, ws, h => ⟨h, by simp [asmL]⟩
  | l :: r, k, ws, h => by
    rw [asmL]
    by_cases e : fltT ps l k ws.length = 0
    · rw [if_pos e]
      have h1 := flt_room e
      have h2 := asmL_len ps r (k + 1) (ws ++ List.replicate l.words.toNat (wrdT ps l ws.length)) (by simp; omega)
      exact ⟨h2.1, by simp only [List.length_cons]; omega⟩
    · rw [if_neg e]
      exact ⟨by simp, by simp⟩
theorem asm_both (s : Tx) : (asmT s).1.length ≤ 512 ∧ (asmT s).2.1 ≤ 1048576 := by
  unfold asmT
  split
  · simp
  · have h := asmL_len (lbs (linesT s) (linesT s).length) (linesT s) 0 [] (by simp)
    have hc := split_count 10 s
    have hl : (linesT s).length = (splitT 10 s).length := by simp [linesT]
    exact ⟨h.1, by omega⟩
theorem asm_len (s : Tx) : (asmT s).1.length ≤ 512 := (asm_both s).1
theorem asm_line (s : Tx) : (asmT s).2.1 ≤ 1048576 := (asm_both s).2
theorem cat_eq {a b c : Tx} (h : a ++ b = c) : (⟨a.toArray⟩ : ByteArray) ++ ⟨b.toArray⟩ = ⟨c.toArray⟩ := ByteArray.ext (by subst h; simp [ByteArray.data_append])
theorem blanks_of : ∃ B R : Int → Tx, ∀ n, ((∀ c ∈ B n, bl c = true) ∧ (B n).length ≤ 4 ∧ ∀ w, Calls Tryd.prog 13 #[.int .i64 n] w fun e w' => e = .returned (.string ⟨(B n).toArray⟩) ∧ Below w.heap.size w w') ∧
    (isRem (R n) = true ∧ (∀ c ∈ R n, (c == (10 : UInt8)) = false) ∧ (R n).length ≤ 10 ∧ ∀ w, Calls Tryd.prog 14 #[.int .i64 n] w fun e w' => e = .returned (.string ⟨(R n).toArray⟩) ∧ Below w.heap.size w w') :=
  ⟨fun n => (blank_all n).choose, fun n => (remark_all n).choose, fun n => ⟨(blank_all n).choose_spec, (remark_all n).choose_spec⟩⟩
section
variable (w : World)
set_option maxRecDepth 100000 in
set_option maxHeartbeats 2000000 in
theorem blanks_walk (t : Tx) (ao : Option Addr) (cap : Nat) (ks : List Int) (ht : t.length ≤ 140737488351232) (hk : ks.length ≤ 140737488351232) (hS : Sd w ao ks) (hO : Ops w) : Calls Tryd.prog 4 #[.string ⟨t.toArray⟩, .slice ao ks.length cap] w fun e w' => e = .returned (.bool true) ∧ Below w.heap.size w w' := by
  obtain ⟨B, R, hBR⟩ := blanks_of
  have HBR := hide hBR
  have HO := hide hO
  have HS := hide hS
  clear hO hS hBR
  go_enter Tryd.func4, Tryd.ntmps4
  go_wp2_with fail
  refine (known_any _ HO.out).mono ?_
  rintro e w1 ⟨rfl, hb⟩
  have HB1 := hide hb
  clear hb
  go_upto_region 7 with fail
  go_loopw [5, 6, 7, 8] (fun m k f i wr => ∃ (M : Tx) (kn fn n : Nat) (xs : List Tx), m = .string ⟨(10 :: M).toArray⟩ ∧ k = .int .i64 (kn : Int) ∧ f = .int .i64 (fn : Int) ∧ i = .int .i64 (n : Int) ∧ n ≤ t.length + 1 ∧ kn ≤ n ∧ Bk t M fn n xs ∧ Below w.heap.size w wr) (fun _ _ _ i _ => t.length + 1 - (intOf i).toNat)
  case atStart => exact ⟨[], 0, 0, 0, [], rfl, rfl, rfl, rfl, by omega, by omega, Bk.start t, HB1.out⟩
  case round =>
  obtain ⟨M, kn, fn, n, xs, rfl, rfl, rfl, rfl, hn, hkn, hBk, hB⟩ := hrel
  have HK := hide hBk
  have HB := hide hB
  clear hB hBk HB1
  by_cases hle : n ≤ t.length
  · by_cases hlt : n < t.length
    · obtain ⟨c, hc⟩ : ∃ c, t[n] = c := ⟨_, rfl⟩
      have hg : (⟨t.toArray⟩ : ByteArray)[n]'hlt = c := hc
      by_cases h10 : c = 10
      · subst h10
        have h1 : (n : Int) ≤ (t.length : Int) := by omega
        have h2 : (n : Int) < (t.length : Int) := by omega
        have hf : fn ≤ n := by
          rcases HK.out.2.2 with h | h
          · exact h.2.1
          · omega
        have hfI : (fn : Int) ≤ (n : Int) := by omega
        have e1 : (⟨t.toArray⟩ : ByteArray).extract fn n = ⟨(pc t fn n).toArray⟩ := by rw [ext_mk, List.drop_take]; rfl
        by_cases hks : 0 < ks.length
        · obtain ⟨a, rfl, hc0⟩ := (HS.out.below HB.out) (kn % ks.length) (Nat.mod_lt _ hks)
          obtain ⟨z, hz⟩ : ∃ z, ks[kn % ks.length]'(Nat.mod_lt _ hks) = z := ⟨_, rfl⟩
          rw [hz] at hc0
          have hksI : (0 : Int) < (ks.length : Int) := by omega
          have hks0 : ¬ (ks.length : Int) = 0 := by omega
          have hq := Nat.mod_lt kn hks
          have hqe : (kn : Int).tmod (ks.length : Int) = ((kn % ks.length : Nat) : Int) := by rw [Int.tmod_eq_emod_of_nonneg (by omega)]; simp
          clear hz
          generalize kn % ks.length = q at *
          generalize ks.length = kl at *
          have hqI : (q : Int) < (kl : Int) := by omega
          go_upto_region 14 with fail
          obtain ⟨Y1, hY1⟩ : ∃ Y, (10 :: M) ++ B z = Y := ⟨_, rfl⟩
          obtain ⟨Y2, hY2⟩ : ∃ Y, Y1 ++ pc t fn n = Y := ⟨_, rfl⟩
          obtain ⟨Y3, hY3⟩ : ∃ Y, Y2 ++ B (IntKind.i64.wrap (z.tdiv 5)) = Y := ⟨_, rfl⟩
          obtain ⟨Y4, hY4⟩ : ∃ Y, Y3 ++ R (IntKind.i64.wrap (z.tdiv 25)) = Y := ⟨_, rfl⟩
          have b1 := (HBR.out z).1.2.1
          have b2 := (HBR.out (IntKind.i64.wrap (z.tdiv 5))).1.2.1
          have b3 := (HBR.out (IntKind.i64.wrap (z.tdiv 25))).2.2.2.1
          have b4 := pc_len hf hle
          have hM := HK.out.1
          have l1 : Y1.length = M.length + 1 + (B z).length := by rw [← hY1, List.length_append, List.length_cons]
          have l2 : Y2.length = Y1.length + (n - fn) := by rw [← hY2, List.length_append, b4]
          have l3 : Y3.length = Y2.length + (B (IntKind.i64.wrap (z.tdiv 5))).length := by rw [← hY3, List.length_append]
          have l4 : Y4.length = Y3.length + (R (IntKind.i64.wrap (z.tdiv 25))).length := by rw [← hY4, List.length_append]
          refine region_below (by kernel_rfl) (by kernel_rfl) ?_
          iterate 2 (refine wpQuiet_step (fun K hK => ?_); go_simp; refine ⟨_, fun _ _ => rfl, hK _ ?_⟩; clear hK K)
          refine wpQuiet_step (fun K hK => ?_)
          go_simp
          refine ⟨.string ⟨(B z).toArray⟩, fun w' hw' => calls_below hw' ((HBR.out z).1.2.2 w'), hK _ ?_⟩
          clear hK K
          refine wpQuiet_step (fun K hK => ?_)
          go_simp
          refine ⟨.string ⟨Y1.toArray⟩, fun w' hw' => ?_, hK _ ?_⟩
          · rw [if_neg (by omega)]; exact ⟨rfl, congrArg Value.string (cat_eq hY1)⟩
          clear hK K
          iterate 4 (refine wpQuiet_step (fun K hK => ?_); go_simp; refine ⟨_, fun _ _ => rfl, hK _ ?_⟩; clear hK K)
          refine wpQuiet_step (fun K hK => ?_)
          go_simp
          refine ⟨.string ⟨Y2.toArray⟩, fun w' hw' => ?_, hK _ ?_⟩
          · rw [if_neg (by omega)]; exact ⟨rfl, congrArg Value.string (cat_eq hY2)⟩
          clear hK K
          iterate 2 (refine wpQuiet_step (fun K hK => ?_); go_simp; refine ⟨_, fun _ _ => rfl, hK _ ?_⟩; clear hK K)
          refine wpQuiet_step (fun K hK => ?_)
          go_simp
          refine ⟨.string ⟨(B (IntKind.i64.wrap (z.tdiv 5))).toArray⟩, fun w' hw' => calls_below hw' ((HBR.out (IntKind.i64.wrap (z.tdiv 5))).1.2.2 w'), hK _ ?_⟩
          clear hK K
          refine wpQuiet_step (fun K hK => ?_)
          go_simp
          refine ⟨.string ⟨Y3.toArray⟩, fun w' hw' => ?_, hK _ ?_⟩
          · rw [if_neg (by omega)]; exact ⟨rfl, congrArg Value.string (cat_eq hY3)⟩
          clear hK K
          iterate 2 (refine wpQuiet_step (fun K hK => ?_); go_simp; refine ⟨_, fun _ _ => rfl, hK _ ?_⟩; clear hK K)
          refine wpQuiet_step (fun K hK => ?_)
          go_simp
          refine ⟨.string ⟨(R (IntKind.i64.wrap (z.tdiv 25))).toArray⟩, fun w' hw' => calls_below hw' ((HBR.out (IntKind.i64.wrap (z.tdiv 25))).2.2.2.2 w'), hK _ ?_⟩
          clear hK K
          refine wpQuiet_step (fun K hK => ?_)
          go_simp
          refine ⟨.string ⟨Y4.toArray⟩, fun w' hw' => ?_, hK _ ?_⟩
          · rw [if_neg (by omega)]; exact ⟨rfl, congrArg Value.string (cat_eq hY4)⟩
          clear hK K
          refine wpQuiet_step (fun K hK => ?_); go_simp; refine ⟨_, fun _ _ => rfl, hK _ ?_⟩; clear hK K
          refine wpQuiet_nil ?_
          intro w' hw'
          have HB2 := hide (HB.out.trans (hw'.mono HB.out.size))
          clear hw' HB
          obtain ⟨Y5, hY5⟩ : ∃ Y, Y4 ++ [10] = Y := ⟨_, rfl⟩
          have l5 : Y5.length = Y4.length + 1 := by rw [← hY5, List.length_append]; rfl
          have l6 : ¬ 9223372036854775807 < Y4.length + 1 := by omega
          have c5 : (⟨Y4.toArray⟩ : ByteArray) ++ ⟨#[10]⟩ = ⟨Y5.toArray⟩ := cat_eq hY5
          have HY : Hid (Y5 = 10 :: (M ++ B z ++ pc t fn n ++ B (IntKind.i64.wrap (z.tdiv 5)) ++ R (IntKind.i64.wrap (z.tdiv 25)) ++ [10])) := hide (by rw [← hY5, ← hY4, ← hY3, ← hY2, ← hY1]; simp)
          by_cases hbig : 16384 < Y5.length
          · have hbI : (16384 : Int) < (Y5.length : Int) := by omega
            clear HK HBR HS HO hY1 hY2 hY3 hY4 HY l1 l2 l3 l4 l5 hY5 b1 b2 b3 b4 e1
            go_wp2
            (try rw [Exit.noGoto_ret])
            go_ret
            exact ⟨rfl, HB2.out⟩
          · have hbI : ¬ (16384 : Int) < (Y5.length : Int) := by omega
            have HK2 := hide (HK.out.line hlt hc (HBR.out z).1.1 (HBR.out (IntKind.i64.wrap (z.tdiv 5))).1.1 (HBR.out (IntKind.i64.wrap (z.tdiv 25))).2.1 (HBR.out (IntKind.i64.wrap (z.tdiv 25))).2.2.1 (by
              have := congrArg List.length HY.out
              rw [List.length_cons] at this
              omega))
            clear HK HBR HS HO hY1 hY2 hY3 hY4 l1 l2 l3 l4 l5 hY5 b1 b2 b3 b4 e1
            go_wp2
            refine ⟨⟨_, kn + 1, n + 1, n + 1, _, by rw [HY.out], by simp, by simp, by simp, by omega, by omega, HK2.out, HB2.out⟩, ?_⟩
            simp [intOf] <;> omega
        · have hksI : ¬ (0 : Int) < (ks.length : Int) := by omega
          clear hk
          generalize ks.length = kl at *
          go_upto_region 14 with fail
          obtain ⟨Y1, hY1⟩ : ∃ Y, (10 :: M) ++ B 0 = Y := ⟨_, rfl⟩
          obtain ⟨Y2, hY2⟩ : ∃ Y, Y1 ++ pc t fn n = Y := ⟨_, rfl⟩
          obtain ⟨Y3, hY3⟩ : ∃ Y, Y2 ++ B 0 = Y := ⟨_, rfl⟩
          obtain ⟨Y4, hY4⟩ : ∃ Y, Y3 ++ R 0 = Y := ⟨_, rfl⟩
          have b1 := (HBR.out 0).1.2.1
          have b2 := (HBR.out 0).1.2.1
          have b3 := (HBR.out 0).2.2.2.1
          have b4 := pc_len hf hle
          have hM := HK.out.1
          have l1 : Y1.length = M.length + 1 + (B 0).length := by rw [← hY1, List.length_append, List.length_cons]
          have l2 : Y2.length = Y1.length + (n - fn) := by rw [← hY2, List.length_append, b4]
          have l3 : Y3.length = Y2.length + (B 0).length := by rw [← hY3, List.length_append]
          have l4 : Y4.length = Y3.length + (R 0).length := by rw [← hY4, List.length_append]
          refine region_below (by kernel_rfl) (by kernel_rfl) ?_
          iterate 2 (refine wpQuiet_step (fun K hK => ?_); go_simp; refine ⟨_, fun _ _ => rfl, hK _ ?_⟩; clear hK K)
          refine wpQuiet_step (fun K hK => ?_)
          go_simp
          refine ⟨.string ⟨(B 0).toArray⟩, fun w' hw' => calls_below hw' ((HBR.out 0).1.2.2 w'), hK _ ?_⟩
          clear hK K
          refine wpQuiet_step (fun K hK => ?_)
          go_simp
          refine ⟨.string ⟨Y1.toArray⟩, fun w' hw' => ?_, hK _ ?_⟩
          · rw [if_neg (by omega)]; exact ⟨rfl, congrArg Value.string (cat_eq hY1)⟩
          clear hK K
          iterate 4 (refine wpQuiet_step (fun K hK => ?_); go_simp; refine ⟨_, fun _ _ => rfl, hK _ ?_⟩; clear hK K)
          refine wpQuiet_step (fun K hK => ?_)
          go_simp
          refine ⟨.string ⟨Y2.toArray⟩, fun w' hw' => ?_, hK _ ?_⟩
          · rw [if_neg (by omega)]; exact ⟨rfl, congrArg Value.string (cat_eq hY2)⟩
          clear hK K
          iterate 2 (refine wpQuiet_step (fun K hK => ?_); go_simp; refine ⟨_, fun _ _ => rfl, hK _ ?_⟩; clear hK K)
          refine wpQuiet_step (fun K hK => ?_)
          go_simp
          refine ⟨.string ⟨(B 0).toArray⟩, fun w' hw' => calls_below hw' ((HBR.out 0).1.2.2 w'), hK _ ?_⟩
          clear hK K
          refine wpQuiet_step (fun K hK => ?_)
          go_simp
          refine ⟨.string ⟨Y3.toArray⟩, fun w' hw' => ?_, hK _ ?_⟩
          · rw [if_neg (by omega)]; exact ⟨rfl, congrArg Value.string (cat_eq hY3)⟩
          clear hK K
          iterate 2 (refine wpQuiet_step (fun K hK => ?_); go_simp; refine ⟨_, fun _ _ => rfl, hK _ ?_⟩; clear hK K)
          refine wpQuiet_step (fun K hK => ?_)
          go_simp
          refine ⟨.string ⟨(R 0).toArray⟩, fun w' hw' => calls_below hw' ((HBR.out 0).2.2.2.2 w'), hK _ ?_⟩
          clear hK K
          refine wpQuiet_step (fun K hK => ?_)
          go_simp
          refine ⟨.string ⟨Y4.toArray⟩, fun w' hw' => ?_, hK _ ?_⟩
          · rw [if_neg (by omega)]; exact ⟨rfl, congrArg Value.string (cat_eq hY4)⟩
          clear hK K
          refine wpQuiet_step (fun K hK => ?_); go_simp; refine ⟨_, fun _ _ => rfl, hK _ ?_⟩; clear hK K
          refine wpQuiet_nil ?_
          intro w' hw'
          have HB2 := hide (HB.out.trans (hw'.mono HB.out.size))
          clear hw' HB
          obtain ⟨Y5, hY5⟩ : ∃ Y, Y4 ++ [10] = Y := ⟨_, rfl⟩
          have l5 : Y5.length = Y4.length + 1 := by rw [← hY5, List.length_append]; rfl
          have l6 : ¬ 9223372036854775807 < Y4.length + 1 := by omega
          have c5 : (⟨Y4.toArray⟩ : ByteArray) ++ ⟨#[10]⟩ = ⟨Y5.toArray⟩ := cat_eq hY5
          have HY : Hid (Y5 = 10 :: (M ++ B 0 ++ pc t fn n ++ B 0 ++ R 0 ++ [10])) := hide (by rw [← hY5, ← hY4, ← hY3, ← hY2, ← hY1]; simp)
          by_cases hbig : 16384 < Y5.length
          · have hbI : (16384 : Int) < (Y5.length : Int) := by omega
            clear HK HBR HS HO hY1 hY2 hY3 hY4 HY l1 l2 l3 l4 l5 hY5 b1 b2 b3 b4 e1
            go_wp2
            (try rw [Exit.noGoto_ret])
            go_ret
            exact ⟨rfl, HB2.out⟩
          · have hbI : ¬ (16384 : Int) < (Y5.length : Int) := by omega
            have HK2 := hide (HK.out.line hlt hc (HBR.out 0).1.1 (HBR.out 0).1.1 (HBR.out 0).2.1 (HBR.out 0).2.2.1 (by
              have := congrArg List.length HY.out
              rw [List.length_cons] at this
              omega))
            clear HK HBR HS HO hY1 hY2 hY3 hY4 l1 l2 l3 l4 l5 hY5 b1 b2 b3 b4 e1
            go_wp2
            refine ⟨⟨_, kn, n + 1, n + 1, _, by rw [HY.out], by simp, by simp, by simp, by omega, by omega, HK2.out, HB2.out⟩, ?_⟩
            simp [intOf] <;> omega
      · have h10b : ((c.toNat : Int) == 10) = false := by
          rw [beq_eq_false_iff_ne]
          intro e
          exact h10 (UInt8.toNat_inj.1 (by have : c.toNat = 10 := by omega
                                           rw [this]; rfl))
        have HK2 := hide (HK.out.on hlt (by rw [hc, beq_eq_false_iff_ne]; exact h10))
        clear HK h10
        have h1 : (n : Int) ≤ (t.length : Int) := by omega
        have h2 : (n : Int) < (t.length : Int) := by omega
        go_wp2
        refine ⟨⟨M, kn, fn, n + 1, xs, rfl, rfl, rfl, by simp, by omega, by omega, HK2.out, HB.out⟩, ?_⟩
        simp [intOf]
        omega
    · obtain rfl : n = t.length := by omega
      have h1 : (t.length : Int) ≤ (t.length : Int) := by omega
      have h2 : ¬ (t.length : Int) < (t.length : Int) := by omega
      have hf : fn ≤ t.length := by
        rcases HK.out.2.2 with h | h
        · exact h.2.1
        · omega
      have hfI : (fn : Int) ≤ (t.length : Int) := by omega
      have e1 : (⟨t.toArray⟩ : ByteArray).extract fn t.length = ⟨(pc t fn t.length).toArray⟩ := by rw [ext_mk, List.drop_take]; rfl
      by_cases hks : 0 < ks.length
      · obtain ⟨a, rfl, hc0⟩ := (HS.out.below HB.out) (kn % ks.length) (Nat.mod_lt _ hks)
        obtain ⟨z, hz⟩ : ∃ z, ks[kn % ks.length]'(Nat.mod_lt _ hks) = z := ⟨_, rfl⟩
        rw [hz] at hc0
        have hksI : (0 : Int) < (ks.length : Int) := by omega
        have hks0 : ¬ (ks.length : Int) = 0 := by omega
        have hq := Nat.mod_lt kn hks
        have hqe : (kn : Int).tmod (ks.length : Int) = ((kn % ks.length : Nat) : Int) := by rw [Int.tmod_eq_emod_of_nonneg (by omega)]; simp
        clear hz
        generalize kn % ks.length = q at *
        generalize ks.length = kl at *
        have hqI : (q : Int) < (kl : Int) := by omega
        go_upto_region 14 with fail
        obtain ⟨Y1, hY1⟩ : ∃ Y, (10 :: M) ++ B z = Y := ⟨_, rfl⟩
        obtain ⟨Y2, hY2⟩ : ∃ Y, Y1 ++ pc t fn t.length = Y := ⟨_, rfl⟩
        obtain ⟨Y3, hY3⟩ : ∃ Y, Y2 ++ B (IntKind.i64.wrap (z.tdiv 5)) = Y := ⟨_, rfl⟩
        obtain ⟨Y4, hY4⟩ : ∃ Y, Y3 ++ R (IntKind.i64.wrap (z.tdiv 25)) = Y := ⟨_, rfl⟩
        have b1 := (HBR.out z).1.2.1
        have b2 := (HBR.out (IntKind.i64.wrap (z.tdiv 5))).1.2.1
        have b3 := (HBR.out (IntKind.i64.wrap (z.tdiv 25))).2.2.2.1
        have b4 := pc_len hf hle
        have hM := HK.out.1
        have l1 : Y1.length = M.length + 1 + (B z).length := by rw [← hY1, List.length_append, List.length_cons]
        have l2 : Y2.length = Y1.length + (t.length - fn) := by rw [← hY2, List.length_append, b4]
        have l3 : Y3.length = Y2.length + (B (IntKind.i64.wrap (z.tdiv 5))).length := by rw [← hY3, List.length_append]
        have l4 : Y4.length = Y3.length + (R (IntKind.i64.wrap (z.tdiv 25))).length := by rw [← hY4, List.length_append]
        refine region_below (by kernel_rfl) (by kernel_rfl) ?_
        iterate 2 (refine wpQuiet_step (fun K hK => ?_); go_simp; refine ⟨_, fun _ _ => rfl, hK _ ?_⟩; clear hK K)
        refine wpQuiet_step (fun K hK => ?_)
        go_simp
        refine ⟨.string ⟨(B z).toArray⟩, fun w' hw' => calls_below hw' ((HBR.out z).1.2.2 w'), hK _ ?_⟩
        clear hK K
        refine wpQuiet_step (fun K hK => ?_)
        go_simp
        refine ⟨.string ⟨Y1.toArray⟩, fun w' hw' => ?_, hK _ ?_⟩
        · rw [if_neg (by omega)]; exact ⟨rfl, congrArg Value.string (cat_eq hY1)⟩
        clear hK K
        iterate 4 (refine wpQuiet_step (fun K hK => ?_); go_simp; refine ⟨_, fun _ _ => rfl, hK _ ?_⟩; clear hK K)
        refine wpQuiet_step (fun K hK => ?_)
        go_simp
        refine ⟨.string ⟨Y2.toArray⟩, fun w' hw' => ?_, hK _ ?_⟩
        · rw [if_neg (by omega)]; exact ⟨rfl, congrArg Value.string (cat_eq hY2)⟩
        clear hK K
        iterate 2 (refine wpQuiet_step (fun K hK => ?_); go_simp; refine ⟨_, fun _ _ => rfl, hK _ ?_⟩; clear hK K)
        refine wpQuiet_step (fun K hK => ?_)
        go_simp
        refine ⟨.string ⟨(B (IntKind.i64.wrap (z.tdiv 5))).toArray⟩, fun w' hw' => calls_below hw' ((HBR.out (IntKind.i64.wrap (z.tdiv 5))).1.2.2 w'), hK _ ?_⟩
        clear hK K
        refine wpQuiet_step (fun K hK => ?_)
        go_simp
        refine ⟨.string ⟨Y3.toArray⟩, fun w' hw' => ?_, hK _ ?_⟩
        · rw [if_neg (by omega)]; exact ⟨rfl, congrArg Value.string (cat_eq hY3)⟩
        clear hK K
        iterate 2 (refine wpQuiet_step (fun K hK => ?_); go_simp; refine ⟨_, fun _ _ => rfl, hK _ ?_⟩; clear hK K)
        refine wpQuiet_step (fun K hK => ?_)
        go_simp
        refine ⟨.string ⟨(R (IntKind.i64.wrap (z.tdiv 25))).toArray⟩, fun w' hw' => calls_below hw' ((HBR.out (IntKind.i64.wrap (z.tdiv 25))).2.2.2.2 w'), hK _ ?_⟩
        clear hK K
        refine wpQuiet_step (fun K hK => ?_)
        go_simp
        refine ⟨.string ⟨Y4.toArray⟩, fun w' hw' => ?_, hK _ ?_⟩
        · rw [if_neg (by omega)]; exact ⟨rfl, congrArg Value.string (cat_eq hY4)⟩
        clear hK K
        refine wpQuiet_step (fun K hK => ?_); go_simp; refine ⟨_, fun _ _ => rfl, hK _ ?_⟩; clear hK K
        refine wpQuiet_nil ?_
        intro w' hw'
        have HB2 := hide (HB.out.trans (hw'.mono HB.out.size))
        clear hw' HB
        have HY : Hid (Y4 = 10 :: (M ++ B z ++ pc t fn t.length ++ B (IntKind.i64.wrap (z.tdiv 5)) ++ R (IntKind.i64.wrap (z.tdiv 25)))) := hide (by rw [← hY4, ← hY3, ← hY2, ← hY1]; simp)
        by_cases hbig : 16384 < Y4.length
        · have hbI : (16384 : Int) < (Y4.length : Int) := by omega
          clear HK HBR HS HO hY1 hY2 hY3 hY4 HY l1 l2 l3 l4 b1 b2 b3 b4 e1
          go_wp2
          (try rw [Exit.noGoto_ret])
          go_ret
          exact ⟨rfl, HB2.out⟩
        · have hbI : ¬ (16384 : Int) < (Y4.length : Int) := by omega
          have HK2 := hide (HK.out.last (HBR.out z).1.1 (HBR.out (IntKind.i64.wrap (z.tdiv 5))).1.1 (HBR.out (IntKind.i64.wrap (z.tdiv 25))).2.1 (HBR.out (IntKind.i64.wrap (z.tdiv 25))).2.2.1 (by
            have := congrArg List.length HY.out
            rw [List.length_cons] at this
            omega))
          clear HK HBR HS HO hY1 hY2 hY3 hY4 l1 l2 l3 l4 b1 b2 b3 b4 e1
          go_wp2
          refine ⟨⟨_, kn + 1, t.length + 1, t.length + 1, _, by rw [HY.out], by simp, by simp, by simp, by omega, by omega, HK2.out, HB2.out⟩, ?_⟩
          simp [intOf] <;> omega
      · have hksI : ¬ (0 : Int) < (ks.length : Int) := by omega
        clear hk
        generalize ks.length = kl at *
        go_upto_region 14 with fail
        obtain ⟨Y1, hY1⟩ : ∃ Y, (10 :: M) ++ B 0 = Y := ⟨_, rfl⟩
        obtain ⟨Y2, hY2⟩ : ∃ Y, Y1 ++ pc t fn t.length = Y := ⟨_, rfl⟩
        obtain ⟨Y3, hY3⟩ : ∃ Y, Y2 ++ B 0 = Y := ⟨_, rfl⟩
        obtain ⟨Y4, hY4⟩ : ∃ Y, Y3 ++ R 0 = Y := ⟨_, rfl⟩
        have b1 := (HBR.out 0).1.2.1
        have b2 := (HBR.out 0).1.2.1
        have b3 := (HBR.out 0).2.2.2.1
        have b4 := pc_len hf hle
        have hM := HK.out.1
        have l1 : Y1.length = M.length + 1 + (B 0).length := by rw [← hY1, List.length_append, List.length_cons]
        have l2 : Y2.length = Y1.length + (t.length - fn) := by rw [← hY2, List.length_append, b4]
        have l3 : Y3.length = Y2.length + (B 0).length := by rw [← hY3, List.length_append]
        have l4 : Y4.length = Y3.length + (R 0).length := by rw [← hY4, List.length_append]
        refine region_below (by kernel_rfl) (by kernel_rfl) ?_
        iterate 2 (refine wpQuiet_step (fun K hK => ?_); go_simp; refine ⟨_, fun _ _ => rfl, hK _ ?_⟩; clear hK K)
        refine wpQuiet_step (fun K hK => ?_)
        go_simp
        refine ⟨.string ⟨(B 0).toArray⟩, fun w' hw' => calls_below hw' ((HBR.out 0).1.2.2 w'), hK _ ?_⟩
        clear hK K
        refine wpQuiet_step (fun K hK => ?_)
        go_simp
        refine ⟨.string ⟨Y1.toArray⟩, fun w' hw' => ?_, hK _ ?_⟩
        · rw [if_neg (by omega)]; exact ⟨rfl, congrArg Value.string (cat_eq hY1)⟩
        clear hK K
        iterate 4 (refine wpQuiet_step (fun K hK => ?_); go_simp; refine ⟨_, fun _ _ => rfl, hK _ ?_⟩; clear hK K)
        refine wpQuiet_step (fun K hK => ?_)
        go_simp
        refine ⟨.string ⟨Y2.toArray⟩, fun w' hw' => ?_, hK _ ?_⟩
        · rw [if_neg (by omega)]; exact ⟨rfl, congrArg Value.string (cat_eq hY2)⟩
        clear hK K
        iterate 2 (refine wpQuiet_step (fun K hK => ?_); go_simp; refine ⟨_, fun _ _ => rfl, hK _ ?_⟩; clear hK K)
        refine wpQuiet_step (fun K hK => ?_)
        go_simp
        refine ⟨.string ⟨(B 0).toArray⟩, fun w' hw' => calls_below hw' ((HBR.out 0).1.2.2 w'), hK _ ?_⟩
        clear hK K
        refine wpQuiet_step (fun K hK => ?_)
        go_simp
        refine ⟨.string ⟨Y3.toArray⟩, fun w' hw' => ?_, hK _ ?_⟩
        · rw [if_neg (by omega)]; exact ⟨rfl, congrArg Value.string (cat_eq hY3)⟩
        clear hK K
        iterate 2 (refine wpQuiet_step (fun K hK => ?_); go_simp; refine ⟨_, fun _ _ => rfl, hK _ ?_⟩; clear hK K)
        refine wpQuiet_step (fun K hK => ?_)
        go_simp
        refine ⟨.string ⟨(R 0).toArray⟩, fun w' hw' => calls_below hw' ((HBR.out 0).2.2.2.2 w'), hK _ ?_⟩
        clear hK K
        refine wpQuiet_step (fun K hK => ?_)
        go_simp
        refine ⟨.string ⟨Y4.toArray⟩, fun w' hw' => ?_, hK _ ?_⟩
        · rw [if_neg (by omega)]; exact ⟨rfl, congrArg Value.string (cat_eq hY4)⟩
        clear hK K
        refine wpQuiet_step (fun K hK => ?_); go_simp; refine ⟨_, fun _ _ => rfl, hK _ ?_⟩; clear hK K
        refine wpQuiet_nil ?_
        intro w' hw'
        have HB2 := hide (HB.out.trans (hw'.mono HB.out.size))
        clear hw' HB
        have HY : Hid (Y4 = 10 :: (M ++ B 0 ++ pc t fn t.length ++ B 0 ++ R 0)) := hide (by rw [← hY4, ← hY3, ← hY2, ← hY1]; simp)
        by_cases hbig : 16384 < Y4.length
        · have hbI : (16384 : Int) < (Y4.length : Int) := by omega
          clear HK HBR HS HO hY1 hY2 hY3 hY4 HY l1 l2 l3 l4 b1 b2 b3 b4 e1
          go_wp2
          (try rw [Exit.noGoto_ret])
          go_ret
          exact ⟨rfl, HB2.out⟩
        · have hbI : ¬ (16384 : Int) < (Y4.length : Int) := by omega
          have HK2 := hide (HK.out.last (HBR.out 0).1.1 (HBR.out 0).1.1 (HBR.out 0).2.1 (HBR.out 0).2.2.1 (by
            have := congrArg List.length HY.out
            rw [List.length_cons] at this
            omega))
          clear HK HBR HS HO hY1 hY2 hY3 hY4 l1 l2 l3 l4 b1 b2 b3 b4 e1
          go_wp2
          refine ⟨⟨_, kn, t.length + 1, t.length + 1, _, by rw [HY.out], by simp, by simp, by simp, by omega, by omega, HK2.out, HB2.out⟩, ?_⟩
          simp [intOf] <;> omega
  · obtain rfl : n = t.length + 1 := by omega
    have HE : Hid (t.length ≤ 16383 ∧ M.length ≤ 16383 ∧ M = jl xs ∧ xs.map lineT = linesT t ∧ (∀ x ∈ xs, ∀ c ∈ x, (c == (10 : UInt8)) = false)) := hide (by
      obtain ⟨h1, h2, ⟨h3, _⟩ | ⟨_, h4, h5, h6⟩⟩ := HK.out
      · omega
      · exact ⟨by omega, h1, h5, h6, h2⟩)
    have HM : Hid (asmT (10 :: M) = ((asmT t).1, (if (asmT t).2.2 = 0 then 0 else (asmT t).2.1 + 1), (asmT t).2.2) ∧ (((asmT t).2.2 = 0 ∧ (asmT t).2.1 = 0) ∨ ((asmT t).2.2 ≠ 0 ∧ 1 ≤ (asmT t).2.1 ∧ (asmT t).1 = []))) := hide (by
      obtain ⟨a, b, c, d, e⟩ := HE.out
      rw [c]
      exact asm_more e d (by omega) (by rw [← c]; simp; omega))
    have hM := HE.out.2.1
    have HL := hide (asm_len t)
    have HU := hide (asm_line t)
    have HA := hide (fun W h => asm_any W t (by omega) h)
    have HA2 := hide (fun W h => asm_any W (10 :: M) (by simp; omega) h)
    clear HK HE HBR HS
    rw [HM.out.1] at HA2
    have HQ := hide HM.out.2
    clear HM
    obtain ⟨⟨ns, ln, er⟩, hX⟩ : ∃ X, asmT t = X := ⟨_, rfl⟩
    rw [hX] at HA HA2 HQ HL HU
    clear hX
    simp only at HA HA2 HQ HL HU
    have hle2 : ¬ ((t.length : Int) + 1) ≤ (t.length : Int) := by omega
    have hl5 := HL.out
    have hlu := HU.out
    go_wp2_with fail
    refine (HA.out _ (HO.out.below HB.out)).mono ?_
    rintro e w4 ⟨v, rfl, ho4, hb4⟩
    obtain ⟨mo, cm, rfl, hW4⟩ := Wd.of ho4
    have HB4 := hide (HB.out.trans (hb4.mono HB.out.size))
    have HW4 := hide hW4
    clear hb4 hW4 ho4 HB HA
    rcases HQ.out with ⟨rfl, rfl⟩ | ⟨he, h1, rfl⟩
    · rw [if_pos rfl] at HA2
      clear HQ
      go_wp2_with fail
      refine (HA2.out _ (HO.out.below HB4.out)).mono ?_
      rintro e w5 ⟨v, rfl, ho5, hb5⟩
      obtain ⟨m5, c5, rfl, hW5⟩ := Wd.of ho5
      have HB5 := hide (HB4.out.trans (hb5.mono HB4.out.size))
      have HW5 := hide hW5
      have HW45 := hide (HW4.out.below hb5)
      clear hb5 hW5 ho5 HB4 HA2 HW4
      go_wp2_with fail
      refine (same_any _ mo m5 cm c5 ns (by omega) HW45.out HW5.out).mono ?_
      rintro e w6 ⟨rfl, hb6⟩
      have HB6 := hide (HB5.out.trans (hb6.mono HB5.out.size))
      clear hb6 HB5
      go_wp2
      (try rw [Exit.noGoto_ret])
      go_ret
      exact ⟨rfl, HB6.out⟩
    · rw [if_neg he] at HA2
      have heb : (er == 0) = false := by simpa using he
      have h1I : (1 : Int) ≤ (ln : Int) := by omega
      clear HQ
      go_wp2_with fail
      refine (HA2.out _ (HO.out.below HB4.out)).mono ?_
      rintro e w5 ⟨v, rfl, ho5, hb5⟩
      obtain ⟨m5, c5, rfl, hW5⟩ := Wd.of ho5
      have HB5 := hide (HB4.out.trans (hb5.mono HB4.out.size))
      have HW5 := hide hW5
      have HW45 := hide (HW4.out.below hb5)
      clear hb5 hW5 ho5 HB4 HA2 HW4
      go_wp2_with fail
      refine (same_any _ mo m5 cm c5 [] (by simp) HW45.out HW5.out).mono ?_
      rintro e w6 ⟨rfl, hb6⟩
      have HB6 := hide (HB5.out.trans (hb6.mono HB5.out.size))
      clear hb6 HB5
      go_wp2
      (try rw [Exit.noGoto_ret])
      go_ret
      exact ⟨rfl, HB6.out⟩
end
end Go.Proofs.YtoaplkfmchphbaaDoor

namespace Go.Proofs.YtoaplkfmchphbaaDoor
open Go.RowKit
/-- the registers of the law -/
def r8 : Nat → Nat := fun i => i + 1
theorem r8_ok {i : Nat} (h : i < 512) : RgOk r8 i := ⟨fun j hj => by unfold r8; omega, by omega⟩
theorem jI_isI {i : Nat} {z : Int} (h1 : -32768 ≤ z) (h2 : z ≤ 32767) : isI (jI i z) = true := by
  rw [isn]
  unfold jI
  split
  · exact ⟨by show (1 : Int) ≤ 25; decide, by show (25 : Int) < 27; decide, by rfl, by rfl, h1, h2⟩
  · exact ⟨by show (1 : Int) ≤ 21; decide, by show (21 : Int) < 27; decide, by rfl, by rfl, h1, h2⟩
theorem jW_lt {i t : Nat} (hi : i < 512) (ht : t < 512) : jW i t < 4294967296 := by
  have h := jI_isI (i := i) (z := (t : Int) - ((i : Int) + 1)) (by omega) (by omega)
  unfold jW encW
  rw [if_pos h]
  exact word_lt (isn.1 h)
theorem jump_to {i t : Nat} (hi : i < 512) (ht : t < 512) : (nx i + im ((t : Int) - ((i : Int) + 1))) % 4294967296 = t := by
  unfold nx im
  omega
theorem below_drw {N : Nat} {w w' : World} (h : Below N w w') (n : Nat) : Below N w (w'.drewN n) := ⟨h.os, h.tape, h.output, h.size, h.block⟩
section
variable (w : World)
def c5 (i : Nat) : Nat := if i % 2 = 1 then i + 1 else 6
theorem exec_j (i t : Nat) (hi : i < 512) (ht : t < 512) (hO : Ops w) : Calls Tryd.prog 11 #[.agg #[.int .u32 1, .int .u32 2, .int .u32 3, .int .u32 4, .int .u32 5, .int .u32 6, .int .u32 7, .int .u32 8, .int .u32 (i : Nat)], .int .u32 (jW i t : Nat)] w fun e w' => e = .returned (.tuple #[.agg #[.int .u32 1, .int .u32 2, .int .u32 3, .int .u32 4, .int .u32 5, .int .u32 (c5 i : Nat), .int .u32 7, .int .u32 8, .int .u32 (t : Nat)], .agg #[.int .i64 0, .int .u32 0, .int .i64 0, .int .u32 0, .int .i64 0]]) ∧ Below w.heap.size w w' := by
  have h := jI_isI (i := i) (z := (t : Int) - ((i : Int) + 1)) (by omega) (by omega)
  have hl := jW_lt hi ht
  have hp : parts (jW i t) = jI i ((t : Int) - ((i : Int) + 1)) := by unfold jW encW; rw [if_pos h, parts_word (isn.1 h)]
  have ht2 := jump_to hi ht
  have hn : nx i = i + 1 := by unfold nx; omega
  generalize jW i t = n at *
  generalize (t : Int) - ((i : Int) + 1) = z at *
  unfold c5
  unfold jI at h hp
  by_cases hd : i % 2 = 1
  · rw [if_pos hd] at h hp
    rw [if_pos hd]
    have key := exec_call w r8 i n 25 5 0 z hl hp h hO (by decide) (r8_ok hi) rfl
    rw [show tgt 25 (r8 5) (im z) (nx i) = t by unfold tgt; rw [if_neg (by decide), if_pos (by simp)]; exact ht2, hn] at key
    exact key
  · rw [if_neg hd] at h hp
    rw [if_neg hd]
    have key := exec_op w r8 i n 21 0 0 z hl hp h hO (by decide) (by decide) (r8_ok hi) ⟨by decide, by decide, by decide, by decide, by decide, by decide⟩
    rw [show tgt 21 (r8 0) (im z) (nx i) = t by unfold tgt; rw [if_neg (by decide), if_pos (by simp)]; exact ht2, show res 21 (r8 0) (r8 0) (im z) = r8 0 from rfl, put_same] at key
    exact key
/-- two strings joined -/
theorem wp_cat {P : Program} {ops : Array Oper} {rest : List Oper} {op : Oper} {a : Act} {w : World} {Q : Exit → Act → World → Prop} (hw : Region.wanted op (yielded ops a.tmps) = true) {t t' : TypeId} (x y : Operand) (ho : op.op = .binOp .add t x y t') {A B Y : Tx}
    (hx : a.eval x = .string ⟨A.toArray⟩) (hy : a.eval y = .string ⟨B.toArray⟩) (hY : A ++ B = Y) (hl : Y.length ≤ 9223372036854775807) (h : wpList P ops Q rest (a.put op.dst (.string ⟨Y.toArray⟩)) w) : wpList P ops Q (op :: rest) a w :=
  BigFrame.wpList_want hw fun _ hK => by
    have hs := run_string_add_sum (P := P) w (⟨A.toArray⟩ : ByteArray) ⟨B.toArray⟩ (by
      have e := congrArg List.length hY
      rw [List.length_append] at e
      simp [ByteArray.size]
      omega)
    rw [cat_eq hY] at hs
    have hr : (execOp a.eval op).run P w = .ok (.value (.string ⟨Y.toArray⟩)) w := by
      unfold execOp
      rw [ho]
      simp [hx, hy, binOp, eqGuard, hs]
    unfold Oper.wp
    rw [hr]
    exact hK _ _ h
/-- the target of line i -/
def tgN (ks : List Int) (n i : Nat) : Nat := (ks.getD i 0 % 18446744073709551616).toNat % n
set_option maxRecDepth 100000 in
set_option maxHeartbeats 2000000 in
theorem jumps_walk (ao : Option Addr) (cap : Nat) (ks : List Int) (hk : ks.length ≤ 140737488351232) (hS : Sd w ao ks) (hT : Tb w) : Calls Tryd.prog 3 #[.slice ao ks.length cap] w fun e w' => e = .returned (.bool true) ∧ Below w.heap.size w w' := by
  obtain ⟨n, hn⟩ : ∃ n, n = min ks.length 512 := ⟨_, rfl⟩
  have hn5 : n ≤ 512 := by omega
  have hnk : n ≤ ks.length := by omega
  obtain ⟨T, hTe⟩ : ∃ T, T = tgN ks n := ⟨_, rfl⟩
  have HT2 : Hid (∀ i, i < n → T i < n) := hide (fun i hi => by rw [hTe]; exact Nat.mod_lt _ (by omega))
  have HTe := hide hTe
  have HS := hide hS
  have HT := hide hT
  clear hS hT hTe
  by_cases h5 : 512 < ks.length
  · have h5I : (512 : Int) < (ks.length : Int) := by omega
    have hnI : (n : Int) = 512 := by omega
    have HN := hide hnI
    clear hnI hn
    go_enter Tryd.func3, Tryd.ntmps3
    go_upto_region 5 with fail
    rw [← HN.out]
    clear h5I h5 HN
    go_upto_region 6 with fail
    go_loopw [4, 5] (fun tv iv wr => ∃ i : Nat, iv = .int .i64 (i : Int) ∧ tv = .string ⟨(jL T (List.range i)).toArray⟩ ∧ i ≤ n ∧ Below w.heap.size w wr) (fun _ iv _ => n - (intOf iv).toNat)
    case atStart => exact ⟨0, rfl, rfl, by omega, Below.refl _ _⟩
    case round =>
      obtain ⟨i, rfl, rfl, hi, hB⟩ := hrel
      have HB := hide hB
      clear hB
      by_cases hlt : i < n
      · have hltI : (i : Int) < (n : Int) := by omega
        have hli : i < ks.length := by omega
        have hliI : (i : Int) < (ks.length : Int) := by omega
        obtain ⟨a, rfl, hc0⟩ := (HS.out.below HB.out) i hli
        obtain ⟨z, hz⟩ : ∃ z, ks[i] = z := ⟨_, rfl⟩
        rw [hz] at hc0
        have hn0 : ¬ (n : Int) = 0 := by omega
        obtain ⟨t, ht⟩ : ∃ t, T i = t := ⟨_, rfl⟩
        have htn : t < n := by rw [← ht]; exact HT2.out i hlt
        have hq : (IntKind.u64.wrap z).tmod (n : Int) = (t : Int) := by
          obtain ⟨y, hy⟩ : ∃ y : Nat, z % 18446744073709551616 = (y : Int) := ⟨(z % 18446744073709551616).toNat, by omega⟩
          rw [IntKind.wrap_u64, Int.tmod_eq_emod_of_nonneg (by omega), ← ht, HTe.out]
          unfold tgN
          rw [List.getD_eq_getElem?_getD, List.getElem?_eq_getElem hli, hz, Option.getD_some, hy]
          rfl
        have hlen := jL_len T (List.range i) (fun j hj => by have := List.mem_range.1 hj; have := HT2.out j (by omega); omega)
        have HJ := hide (jL_snoc T i)
        rw [List.length_range] at hlen
        generalize jL T (List.range i) = J at *
        clear hz
        have htI : (t : Int) < (n : Int) := by omega
        have hw2 : wrap64 (t : Int) = (t : Int) := by unfold wrap64; omega
        have HI1 := hide (fun W (h : Below w.heap.size w W) => Tryd.itoa (t : Int) (by omega) (by omega) W (tabIs_below HT.out.pw h))
        have HI2 := hide (fun W (h : Below w.heap.size w W) => Tryd.itoa (i : Int) (by omega) (by omega) W (tabIs_below HT.out.pw h))
        rw [Lib.itoa_nonneg] at HI1 HI2
        go_wp2_with fail
        refine (HI1.out _ HB.out).mono ?_
        rintro e w1 ⟨rfl, hb1⟩
        have HB1 := hide (HB.out.trans (hb1.mono HB.out.size))
        clear hb1 HB HI1
        have hl1 : (Lib.decDigits t).length ≤ 3 := dec_len3 (by omega)
        have hl2 : (Lib.decDigits i).length ≤ 3 := dec_len3 (by omega)
        by_cases hodd : i % 2 = 1
        · have hd : ((i : Int) % 2 == 1) = true := by rw [beq_iff_eq]; omega
          have HJ2 : Hid (jL T (List.range (i + 1)) = J ++ [108] ++ Lib.decDigits i ++ [58, 32] ++ [99, 97, 108, 108, 32, 114, 53, 44, 32, 108] ++ Lib.decDigits t ++ [10]) := hide (by rw [HJ.out, ht]; unfold jTx jNm jFs; rw [if_pos hodd, if_pos hodd]; simp [lab, jn])
          obtain ⟨Y1, hY1⟩ : ∃ Y, J ++ [108] = Y := ⟨_, rfl⟩
          have l1 : Y1.length = J.length + 1 := by rw [← hY1, List.length_append]; rfl
          obtain ⟨Y2, hY2⟩ : ∃ Y, Y1 ++ Lib.decDigits i = Y := ⟨_, rfl⟩
          have l2 : Y2.length = Y1.length + (Lib.decDigits i).length := by rw [← hY2, List.length_append]
          obtain ⟨Y3, hY3⟩ : ∃ Y, Y2 ++ [58, 32] = Y := ⟨_, rfl⟩
          have l3 : Y3.length = Y2.length + 2 := by rw [← hY3, List.length_append]; rfl
          obtain ⟨Y4, hY4⟩ : ∃ Y, Y3 ++ [99, 97, 108, 108, 32, 114, 53, 44, 32, 108] = Y := ⟨_, rfl⟩
          have l4 : Y4.length = Y3.length + 10 := by rw [← hY4, List.length_append]; rfl
          obtain ⟨Y5, hY5⟩ : ∃ Y, Y4 ++ Lib.decDigits t = Y := ⟨_, rfl⟩
          have l5 : Y5.length = Y4.length + (Lib.decDigits t).length := by rw [← hY5, List.length_append]
          obtain ⟨Y6, hY6⟩ : ∃ Y, Y5 ++ [10] = Y := ⟨_, rfl⟩
          have l6 : Y6.length = Y5.length + 1 := by rw [← hY6, List.length_append]; rfl
          rw [hY1, hY2, hY3, hY4, hY5, hY6] at HJ2
          clear HJ hodd
          go_wp2_with (first | (refine wp_cat (by rfl) (.tmp 37) _ rfl rfl rfl hY1 (by omega) ?_))
          refine (HI2.out _ HB1.out).mono ?_
          rintro e w2 ⟨rfl, hb2⟩
          have HB2 := hide (HB1.out.trans (hb2.mono HB1.out.size))
          clear hb2 HB1 HI2
          go_wp2_with (first | (refine wp_cat (by rfl) (.tmp 38) _ rfl rfl rfl hY2 (by omega) ?_) | (refine wp_cat (by rfl) (.tmp 41) _ rfl rfl rfl hY3 (by omega) ?_) | (refine wp_cat (by rfl) (.tmp 42) _ rfl rfl rfl hY4 (by omega) ?_) | (refine wp_cat (by rfl) (.tmp 44) _ rfl rfl rfl hY5 (by omega) ?_) | (refine wp_cat (by rfl) (.tmp 46) _ rfl rfl rfl hY6 (by omega) ?_))
          refine ⟨⟨i + 1, by simp, by rw [HJ2.out], by omega, HB2.out⟩, ?_⟩
          simp [intOf]
          omega
        · have hd : ((i : Int) % 2 == 1) = false := by rw [beq_eq_false_iff_ne]; omega
          have HJ2 : Hid (jL T (List.range (i + 1)) = J ++ [108] ++ Lib.decDigits i ++ [58, 32] ++ [106, 109, 112, 32, 108] ++ Lib.decDigits t ++ [10]) := hide (by rw [HJ.out, ht]; unfold jTx jNm jFs; rw [if_neg hodd, if_neg hodd]; simp [lab, jn])
          obtain ⟨Y1, hY1⟩ : ∃ Y, J ++ [108] = Y := ⟨_, rfl⟩
          have l1 : Y1.length = J.length + 1 := by rw [← hY1, List.length_append]; rfl
          obtain ⟨Y2, hY2⟩ : ∃ Y, Y1 ++ Lib.decDigits i = Y := ⟨_, rfl⟩
          have l2 : Y2.length = Y1.length + (Lib.decDigits i).length := by rw [← hY2, List.length_append]
          obtain ⟨Y3, hY3⟩ : ∃ Y, Y2 ++ [58, 32] = Y := ⟨_, rfl⟩
          have l3 : Y3.length = Y2.length + 2 := by rw [← hY3, List.length_append]; rfl
          obtain ⟨Y4, hY4⟩ : ∃ Y, Y3 ++ [106, 109, 112, 32, 108] = Y := ⟨_, rfl⟩
          have l4 : Y4.length = Y3.length + 5 := by rw [← hY4, List.length_append]; rfl
          obtain ⟨Y5, hY5⟩ : ∃ Y, Y4 ++ Lib.decDigits t = Y := ⟨_, rfl⟩
          have l5 : Y5.length = Y4.length + (Lib.decDigits t).length := by rw [← hY5, List.length_append]
          obtain ⟨Y6, hY6⟩ : ∃ Y, Y5 ++ [10] = Y := ⟨_, rfl⟩
          have l6 : Y6.length = Y5.length + 1 := by rw [← hY6, List.length_append]; rfl
          rw [hY1, hY2, hY3, hY4, hY5, hY6] at HJ2
          clear HJ hodd
          go_wp2_with (first | (refine wp_cat (by rfl) (.tmp 37) _ rfl rfl rfl hY1 (by omega) ?_))
          refine (HI2.out _ HB1.out).mono ?_
          rintro e w2 ⟨rfl, hb2⟩
          have HB2 := hide (HB1.out.trans (hb2.mono HB1.out.size))
          clear hb2 HB1 HI2
          go_wp2_with (first | (refine wp_cat (by rfl) (.tmp 38) _ rfl rfl rfl hY2 (by omega) ?_) | (refine wp_cat (by rfl) (.tmp 41) _ rfl rfl rfl hY3 (by omega) ?_) | (refine wp_cat (by rfl) (.tmp 42) _ rfl rfl rfl hY4 (by omega) ?_) | (refine wp_cat (by rfl) (.tmp 44) _ rfl rfl rfl hY5 (by omega) ?_) | (refine wp_cat (by rfl) (.tmp 46) _ rfl rfl rfl hY6 (by omega) ?_))
          refine ⟨⟨i + 1, by simp, by rw [HJ2.out], by omega, HB2.out⟩, ?_⟩
          simp [intOf]
          omega
      · have hltI : ¬ (i : Int) < (n : Int) := by omega
        obtain rfl : i = n := by omega
        have hlen := jL_len T (List.range i) (fun j hj => by have := List.mem_range.1 hj; have := HT2.out j (by omega); omega)
        rw [List.length_range] at hlen
        have HA := hide (fun W h => asm_any W (jL T (List.range i)) (by omega) h)
        rw [asm_j T hn5 HT2.out] at HA
        obtain ⟨ws, hws⟩ : ∃ ws, (List.range i).map (fun i => jW i (T i)) = ws := ⟨_, rfl⟩
        have hwl : ws.length = i := by rw [← hws]; simp
        have HWS := hide hws
        rw [hws] at HA
        clear hws hlen
        generalize jL T (List.range i) = J at *
        go_wp2_with fail
        refine (HA.out _ (HT.out.ops.below HB.out)).mono ?_
        rintro e w1 ⟨v, rfl, hO1, hb1⟩
        obtain ⟨mo, cm, rfl, hW1⟩ := Wd.of hO1
        have HB1 := hide (HB.out.trans (hb1.mono HB.out.size))
        have HW1 := hide hW1
        clear hb1 hW1 hO1 HA HB
        rw [hwl]
        go_upto_region 17 with fail
        go_loopw [11] (fun jv wr => ∃ j : Nat, jv = .int .i64 (j : Int) ∧ j ≤ i ∧ Below w1.heap.size w1 wr) (fun jv _ => i - (intOf jv).toNat)
        case atStart => exact ⟨0, rfl, by omega, Below.refl _ _⟩
        case round =>
          obtain ⟨j, rfl, hj, hB⟩ := hrel
          have HB := hide hB
          clear hB
          by_cases hjt : j < i
          · have hjI : (j : Int) < (i : Int) := by omega
            obtain ⟨b, rfl, hc1⟩ := (HW1.out.below HB.out) j (by omega)
            have e1 : ws[j]'(by omega) = jW j (T j) := by
              have := HWS.out
              subst this
              simp
            rw [e1] at hc1
            have HE := hide (fun W h => exec_j W j (T j) (by omega) (by have := HT2.out j hjt; omega) h)
            generalize jW j (T j) = x at *
            clear e1
            have hw3 : IntKind.u32.wrap (j : Int) = (j : Int) := by rw [IntKind.wrap_u32]; omega
            have htj := HT2.out j hjt
            generalize ht : T j = t at *
            go_wp2_with fail
            refine (HE.out _ (HT.out.ops.below (HB1.out.trans (HB.out.mono HB1.out.size)))).mono ?_
            rintro e w2 ⟨rfl, hb2⟩
            have HB2 := hide (HB.out.trans (hb2.mono HB.out.size))
            clear hb2 HE HB
            generalize hc : c5 j = c at *
            go_upto_region 20 with fail
            have HB3 := hide ((HB2.out.alloc HB2.out.size (.cells #[.int .u32 1, .int .u32 2, .int .u32 3, .int .u32 4, .int .u32 5, .int .u32 (c : Nat), .int .u32 7, .int .u32 8, .int .u32 (t : Nat)] 32)).alloc (by have := HB2.out.size; simp; omega) (.cells #[.int .i64 0, .int .u32 0, .int .i64 0, .int .u32 0, .int .i64 0] 34))
            have q1 := heap_alloc_last (w2.alloc (.cells #[.int .u32 1, .int .u32 2, .int .u32 3, .int .u32 4, .int .u32 5, .int .u32 (c : Nat), .int .u32 7, .int .u32 8, .int .u32 (t : Nat)] 32)) (.cells #[.int .i64 0, .int .u32 0, .int .i64 0, .int .u32 0, .int .i64 0] 34)
            have q2 := (bel1 (w2.alloc (.cells #[.int .u32 1, .int .u32 2, .int .u32 3, .int .u32 4, .int .u32 5, .int .u32 (c : Nat), .int .u32 7, .int .u32 8, .int .u32 (t : Nat)] 32)) (.cells #[.int .i64 0, .int .u32 0, .int .i64 0, .int .u32 0, .int .i64 0] 34)).block w2.heap.size (by simp)
            rw [heap_alloc_last] at q2
            rw [show (w2.alloc (.cells #[.int .u32 1, .int .u32 2, .int .u32 3, .int .u32 4, .int .u32 5, .int .u32 (c : Nat), .int .u32 7, .int .u32 8, .int .u32 (t : Nat)] 32)).heap.size = w2.heap.size + 1 by simp] at q1
            generalize (w2.alloc (.cells #[.int .u32 1, .int .u32 2, .int .u32 3, .int .u32 4, .int .u32 5, .int .u32 (c : Nat), .int .u32 7, .int .u32 8, .int .u32 (t : Nat)] 32)).alloc (.cells #[.int .i64 0, .int .u32 0, .int .i64 0, .int .u32 0, .int .i64 0] 34) = w3 at *
            have x0 : w3.cell? ⟨w2.heap.size, 0, none⟩ = some (.int .u32 1) := by rw [cell_of_row _ _ _ _ _ _ q2]; rfl
            have x5 : w3.cell? ⟨w2.heap.size, 5, none⟩ = some (.int .u32 (c : Nat)) := by rw [cell_of_row _ _ _ _ _ _ q2]; rfl
            have x8 : w3.cell? ⟨w2.heap.size, 8, none⟩ = some (.int .u32 (t : Nat)) := by rw [cell_of_row _ _ _ _ _ _ q2]; rfl
            have y0 : w3.cell? ⟨w2.heap.size + 1, 0, none⟩ = some (.int .i64 0) := by rw [cell_of_row _ _ _ _ _ _ q1]; rfl
            have y1 : w3.cell? ⟨w2.heap.size + 1, 1, none⟩ = some (.int .u32 0) := by rw [cell_of_row _ _ _ _ _ _ q1]; rfl
            have y2 : w3.cell? ⟨w2.heap.size + 1, 2, none⟩ = some (.int .i64 0) := by rw [cell_of_row _ _ _ _ _ _ q1]; rfl
            have y3 : w3.cell? ⟨w2.heap.size + 1, 3, none⟩ = some (.int .u32 0) := by rw [cell_of_row _ _ _ _ _ _ q1]; rfl
            have y4 : w3.cell? ⟨w2.heap.size + 1, 4, none⟩ = some (.int .i64 0) := by rw [cell_of_row _ _ _ _ _ _ q1]; rfl
            generalize w2.heap.size = g2 at *
            clear q1 q2 HB2
            obtain ⟨a, rfl, hcT⟩ := (HS.out.below (HB1.out.trans (HB3.out.mono HB1.out.size))) j (by omega)
            obtain ⟨z, hz⟩ : ∃ z, ks[j]'(by omega) = z := ⟨_, rfl⟩
            rw [hz] at hcT
            have hq : (IntKind.u64.wrap z).tmod (i : Int) = (t : Int) := by
              obtain ⟨y, hy⟩ : ∃ y : Nat, z % 18446744073709551616 = (y : Int) := ⟨(z % 18446744073709551616).toNat, by omega⟩
              rw [IntKind.wrap_u64, Int.tmod_eq_emod_of_nonneg (by omega), ← ht, HTe.out]
              unfold tgN
              rw [List.getD_eq_getElem?_getD, List.getElem?_eq_getElem (by omega), hz, Option.getD_some, hy]
              rfl
            clear hz
            have HTT := hide ht
            clear ht
            have hn0 : ¬ (i : Int) = 0 := by omega
            have hw4 : wrap64 (t : Int) = (t : Int) := by unfold wrap64; omega
            have hjk : (j : Int) < (ks.length : Int) := by omega
            by_cases hodd : j % 2 = 1
            · have hd : ((j : Int) % 2 == 1) = true := by rw [beq_iff_eq]; omega
              have hcc : c = j + 1 := by rw [← hc, c5, if_pos hodd]
              subst hcc
              have HH := hide hc
              clear hc
              have hw5 : IntKind.u32.wrap ((j : Int) + 1) = (j : Int) + 1 := by rw [IntKind.wrap_u32]; omega
              go_wp2
              go_quiet (fail)
              go_wp2
              refine ⟨⟨j + 1, by simp, by omega, below_drw HB3.out _⟩, ?_⟩
              simp [intOf]
              omega
            · have hd : ((j : Int) % 2 == 1) = false := by rw [beq_eq_false_iff_ne]; omega
              have hcc : c = 6 := by rw [← hc, c5, if_neg hodd]
              subst hcc
              have HH := hide hc
              clear hc
              go_wp2
              go_quiet (fail)
              go_wp2
              refine ⟨⟨j + 1, by simp, by omega, below_drw HB3.out _⟩, ?_⟩
              simp [intOf]
              omega
          · have hjI : ¬ (j : Int) < (i : Int) := by omega
            have HB4 := hide (HB1.out.trans (HB.out.mono HB1.out.size))
            go_wp2_with fail
            refine (known_any _ (HT.out.ops.below HB4.out)).mono ?_
            rintro e w2 ⟨rfl, hb2⟩
            have HB5 := hide (HB4.out.trans (hb2.mono HB4.out.size))
            go_wp2
            go_ret
            exact ⟨rfl, HB5.out⟩
  · have h5I : ¬ (512 : Int) < (ks.length : Int) := by omega
    have hnI : (ks.length : Int) = (n : Int) := by omega
    have HN := hide hnI
    clear hnI hn
    go_enter Tryd.func3, Tryd.ntmps3
    go_upto_region 5 with fail
    rw [HN.out]
    clear h5I h5 HN
    go_upto_region 6 with fail
    go_loopw [4, 5] (fun tv iv wr => ∃ i : Nat, iv = .int .i64 (i : Int) ∧ tv = .string ⟨(jL T (List.range i)).toArray⟩ ∧ i ≤ n ∧ Below w.heap.size w wr) (fun _ iv _ => n - (intOf iv).toNat)
    case atStart => exact ⟨0, rfl, rfl, by omega, Below.refl _ _⟩
    case round =>
      obtain ⟨i, rfl, rfl, hi, hB⟩ := hrel
      have HB := hide hB
      clear hB
      by_cases hlt : i < n
      · have hltI : (i : Int) < (n : Int) := by omega
        have hli : i < ks.length := by omega
        have hliI : (i : Int) < (ks.length : Int) := by omega
        obtain ⟨a, rfl, hc0⟩ := (HS.out.below HB.out) i hli
        obtain ⟨z, hz⟩ : ∃ z, ks[i] = z := ⟨_, rfl⟩
        rw [hz] at hc0
        have hn0 : ¬ (n : Int) = 0 := by omega
        obtain ⟨t, ht⟩ : ∃ t, T i = t := ⟨_, rfl⟩
        have htn : t < n := by rw [← ht]; exact HT2.out i hlt
        have hq : (IntKind.u64.wrap z).tmod (n : Int) = (t : Int) := by
          obtain ⟨y, hy⟩ : ∃ y : Nat, z % 18446744073709551616 = (y : Int) := ⟨(z % 18446744073709551616).toNat, by omega⟩
          rw [IntKind.wrap_u64, Int.tmod_eq_emod_of_nonneg (by omega), ← ht, HTe.out]
          unfold tgN
          rw [List.getD_eq_getElem?_getD, List.getElem?_eq_getElem hli, hz, Option.getD_some, hy]
          rfl
        have hlen := jL_len T (List.range i) (fun j hj => by have := List.mem_range.1 hj; have := HT2.out j (by omega); omega)
        have HJ := hide (jL_snoc T i)
        rw [List.length_range] at hlen
        generalize jL T (List.range i) = J at *
        clear hz
        have htI : (t : Int) < (n : Int) := by omega
        have hw2 : wrap64 (t : Int) = (t : Int) := by unfold wrap64; omega
        have HI1 := hide (fun W (h : Below w.heap.size w W) => Tryd.itoa (t : Int) (by omega) (by omega) W (tabIs_below HT.out.pw h))
        have HI2 := hide (fun W (h : Below w.heap.size w W) => Tryd.itoa (i : Int) (by omega) (by omega) W (tabIs_below HT.out.pw h))
        rw [Lib.itoa_nonneg] at HI1 HI2
        go_wp2_with fail
        refine (HI1.out _ HB.out).mono ?_
        rintro e w1 ⟨rfl, hb1⟩
        have HB1 := hide (HB.out.trans (hb1.mono HB.out.size))
        clear hb1 HB HI1
        have hl1 : (Lib.decDigits t).length ≤ 3 := dec_len3 (by omega)
        have hl2 : (Lib.decDigits i).length ≤ 3 := dec_len3 (by omega)
        by_cases hodd : i % 2 = 1
        · have hd : ((i : Int) % 2 == 1) = true := by rw [beq_iff_eq]; omega
          have HJ2 : Hid (jL T (List.range (i + 1)) = J ++ [108] ++ Lib.decDigits i ++ [58, 32] ++ [99, 97, 108, 108, 32, 114, 53, 44, 32, 108] ++ Lib.decDigits t ++ [10]) := hide (by rw [HJ.out, ht]; unfold jTx jNm jFs; rw [if_pos hodd, if_pos hodd]; simp [lab, jn])
          obtain ⟨Y1, hY1⟩ : ∃ Y, J ++ [108] = Y := ⟨_, rfl⟩
          have l1 : Y1.length = J.length + 1 := by rw [← hY1, List.length_append]; rfl
          obtain ⟨Y2, hY2⟩ : ∃ Y, Y1 ++ Lib.decDigits i = Y := ⟨_, rfl⟩
          have l2 : Y2.length = Y1.length + (Lib.decDigits i).length := by rw [← hY2, List.length_append]
          obtain ⟨Y3, hY3⟩ : ∃ Y, Y2 ++ [58, 32] = Y := ⟨_, rfl⟩
          have l3 : Y3.length = Y2.length + 2 := by rw [← hY3, List.length_append]; rfl
          obtain ⟨Y4, hY4⟩ : ∃ Y, Y3 ++ [99, 97, 108, 108, 32, 114, 53, 44, 32, 108] = Y := ⟨_, rfl⟩
          have l4 : Y4.length = Y3.length + 10 := by rw [← hY4, List.length_append]; rfl
          obtain ⟨Y5, hY5⟩ : ∃ Y, Y4 ++ Lib.decDigits t = Y := ⟨_, rfl⟩
          have l5 : Y5.length = Y4.length + (Lib.decDigits t).length := by rw [← hY5, List.length_append]
          obtain ⟨Y6, hY6⟩ : ∃ Y, Y5 ++ [10] = Y := ⟨_, rfl⟩
          have l6 : Y6.length = Y5.length + 1 := by rw [← hY6, List.length_append]; rfl
          rw [hY1, hY2, hY3, hY4, hY5, hY6] at HJ2
          clear HJ hodd
          go_wp2_with (first | (refine wp_cat (by rfl) (.tmp 37) _ rfl rfl rfl hY1 (by omega) ?_))
          refine (HI2.out _ HB1.out).mono ?_
          rintro e w2 ⟨rfl, hb2⟩
          have HB2 := hide (HB1.out.trans (hb2.mono HB1.out.size))
          clear hb2 HB1 HI2
          go_wp2_with (first | (refine wp_cat (by rfl) (.tmp 38) _ rfl rfl rfl hY2 (by omega) ?_) | (refine wp_cat (by rfl) (.tmp 41) _ rfl rfl rfl hY3 (by omega) ?_) | (refine wp_cat (by rfl) (.tmp 42) _ rfl rfl rfl hY4 (by omega) ?_) | (refine wp_cat (by rfl) (.tmp 44) _ rfl rfl rfl hY5 (by omega) ?_) | (refine wp_cat (by rfl) (.tmp 46) _ rfl rfl rfl hY6 (by omega) ?_))
          refine ⟨⟨i + 1, by simp, by rw [HJ2.out], by omega, HB2.out⟩, ?_⟩
          simp [intOf]
          omega
        · have hd : ((i : Int) % 2 == 1) = false := by rw [beq_eq_false_iff_ne]; omega
          have HJ2 : Hid (jL T (List.range (i + 1)) = J ++ [108] ++ Lib.decDigits i ++ [58, 32] ++ [106, 109, 112, 32, 108] ++ Lib.decDigits t ++ [10]) := hide (by rw [HJ.out, ht]; unfold jTx jNm jFs; rw [if_neg hodd, if_neg hodd]; simp [lab, jn])
          obtain ⟨Y1, hY1⟩ : ∃ Y, J ++ [108] = Y := ⟨_, rfl⟩
          have l1 : Y1.length = J.length + 1 := by rw [← hY1, List.length_append]; rfl
          obtain ⟨Y2, hY2⟩ : ∃ Y, Y1 ++ Lib.decDigits i = Y := ⟨_, rfl⟩
          have l2 : Y2.length = Y1.length + (Lib.decDigits i).length := by rw [← hY2, List.length_append]
          obtain ⟨Y3, hY3⟩ : ∃ Y, Y2 ++ [58, 32] = Y := ⟨_, rfl⟩
          have l3 : Y3.length = Y2.length + 2 := by rw [← hY3, List.length_append]; rfl
          obtain ⟨Y4, hY4⟩ : ∃ Y, Y3 ++ [106, 109, 112, 32, 108] = Y := ⟨_, rfl⟩
          have l4 : Y4.length = Y3.length + 5 := by rw [← hY4, List.length_append]; rfl
          obtain ⟨Y5, hY5⟩ : ∃ Y, Y4 ++ Lib.decDigits t = Y := ⟨_, rfl⟩
          have l5 : Y5.length = Y4.length + (Lib.decDigits t).length := by rw [← hY5, List.length_append]
          obtain ⟨Y6, hY6⟩ : ∃ Y, Y5 ++ [10] = Y := ⟨_, rfl⟩
          have l6 : Y6.length = Y5.length + 1 := by rw [← hY6, List.length_append]; rfl
          rw [hY1, hY2, hY3, hY4, hY5, hY6] at HJ2
          clear HJ hodd
          go_wp2_with (first | (refine wp_cat (by rfl) (.tmp 37) _ rfl rfl rfl hY1 (by omega) ?_))
          refine (HI2.out _ HB1.out).mono ?_
          rintro e w2 ⟨rfl, hb2⟩
          have HB2 := hide (HB1.out.trans (hb2.mono HB1.out.size))
          clear hb2 HB1 HI2
          go_wp2_with (first | (refine wp_cat (by rfl) (.tmp 38) _ rfl rfl rfl hY2 (by omega) ?_) | (refine wp_cat (by rfl) (.tmp 41) _ rfl rfl rfl hY3 (by omega) ?_) | (refine wp_cat (by rfl) (.tmp 42) _ rfl rfl rfl hY4 (by omega) ?_) | (refine wp_cat (by rfl) (.tmp 44) _ rfl rfl rfl hY5 (by omega) ?_) | (refine wp_cat (by rfl) (.tmp 46) _ rfl rfl rfl hY6 (by omega) ?_))
          refine ⟨⟨i + 1, by simp, by rw [HJ2.out], by omega, HB2.out⟩, ?_⟩
          simp [intOf]
          omega
      · have hltI : ¬ (i : Int) < (n : Int) := by omega
        obtain rfl : i = n := by omega
        have hlen := jL_len T (List.range i) (fun j hj => by have := List.mem_range.1 hj; have := HT2.out j (by omega); omega)
        rw [List.length_range] at hlen
        have HA := hide (fun W h => asm_any W (jL T (List.range i)) (by omega) h)
        rw [asm_j T hn5 HT2.out] at HA
        obtain ⟨ws, hws⟩ : ∃ ws, (List.range i).map (fun i => jW i (T i)) = ws := ⟨_, rfl⟩
        have hwl : ws.length = i := by rw [← hws]; simp
        have HWS := hide hws
        rw [hws] at HA
        clear hws hlen
        generalize jL T (List.range i) = J at *
        go_wp2_with fail
        refine (HA.out _ (HT.out.ops.below HB.out)).mono ?_
        rintro e w1 ⟨v, rfl, hO1, hb1⟩
        obtain ⟨mo, cm, rfl, hW1⟩ := Wd.of hO1
        have HB1 := hide (HB.out.trans (hb1.mono HB.out.size))
        have HW1 := hide hW1
        clear hb1 hW1 hO1 HA HB
        rw [hwl]
        go_upto_region 17 with fail
        go_loopw [11] (fun jv wr => ∃ j : Nat, jv = .int .i64 (j : Int) ∧ j ≤ i ∧ Below w1.heap.size w1 wr) (fun jv _ => i - (intOf jv).toNat)
        case atStart => exact ⟨0, rfl, by omega, Below.refl _ _⟩
        case round =>
          obtain ⟨j, rfl, hj, hB⟩ := hrel
          have HB := hide hB
          clear hB
          by_cases hjt : j < i
          · have hjI : (j : Int) < (i : Int) := by omega
            obtain ⟨b, rfl, hc1⟩ := (HW1.out.below HB.out) j (by omega)
            have e1 : ws[j]'(by omega) = jW j (T j) := by
              have := HWS.out
              subst this
              simp
            rw [e1] at hc1
            have HE := hide (fun W h => exec_j W j (T j) (by omega) (by have := HT2.out j hjt; omega) h)
            generalize jW j (T j) = x at *
            clear e1
            have hw3 : IntKind.u32.wrap (j : Int) = (j : Int) := by rw [IntKind.wrap_u32]; omega
            have htj := HT2.out j hjt
            generalize ht : T j = t at *
            go_wp2_with fail
            refine (HE.out _ (HT.out.ops.below (HB1.out.trans (HB.out.mono HB1.out.size)))).mono ?_
            rintro e w2 ⟨rfl, hb2⟩
            have HB2 := hide (HB.out.trans (hb2.mono HB.out.size))
            clear hb2 HE HB
            generalize hc : c5 j = c at *
            go_upto_region 20 with fail
            have HB3 := hide ((HB2.out.alloc HB2.out.size (.cells #[.int .u32 1, .int .u32 2, .int .u32 3, .int .u32 4, .int .u32 5, .int .u32 (c : Nat), .int .u32 7, .int .u32 8, .int .u32 (t : Nat)] 32)).alloc (by have := HB2.out.size; simp; omega) (.cells #[.int .i64 0, .int .u32 0, .int .i64 0, .int .u32 0, .int .i64 0] 34))
            have q1 := heap_alloc_last (w2.alloc (.cells #[.int .u32 1, .int .u32 2, .int .u32 3, .int .u32 4, .int .u32 5, .int .u32 (c : Nat), .int .u32 7, .int .u32 8, .int .u32 (t : Nat)] 32)) (.cells #[.int .i64 0, .int .u32 0, .int .i64 0, .int .u32 0, .int .i64 0] 34)
            have q2 := (bel1 (w2.alloc (.cells #[.int .u32 1, .int .u32 2, .int .u32 3, .int .u32 4, .int .u32 5, .int .u32 (c : Nat), .int .u32 7, .int .u32 8, .int .u32 (t : Nat)] 32)) (.cells #[.int .i64 0, .int .u32 0, .int .i64 0, .int .u32 0, .int .i64 0] 34)).block w2.heap.size (by simp)
            rw [heap_alloc_last] at q2
            rw [show (w2.alloc (.cells #[.int .u32 1, .int .u32 2, .int .u32 3, .int .u32 4, .int .u32 5, .int .u32 (c : Nat), .int .u32 7, .int .u32 8, .int .u32 (t : Nat)] 32)).heap.size = w2.heap.size + 1 by simp] at q1
            generalize (w2.alloc (.cells #[.int .u32 1, .int .u32 2, .int .u32 3, .int .u32 4, .int .u32 5, .int .u32 (c : Nat), .int .u32 7, .int .u32 8, .int .u32 (t : Nat)] 32)).alloc (.cells #[.int .i64 0, .int .u32 0, .int .i64 0, .int .u32 0, .int .i64 0] 34) = w3 at *
            have x0 : w3.cell? ⟨w2.heap.size, 0, none⟩ = some (.int .u32 1) := by rw [cell_of_row _ _ _ _ _ _ q2]; rfl
            have x5 : w3.cell? ⟨w2.heap.size, 5, none⟩ = some (.int .u32 (c : Nat)) := by rw [cell_of_row _ _ _ _ _ _ q2]; rfl
            have x8 : w3.cell? ⟨w2.heap.size, 8, none⟩ = some (.int .u32 (t : Nat)) := by rw [cell_of_row _ _ _ _ _ _ q2]; rfl
            have y0 : w3.cell? ⟨w2.heap.size + 1, 0, none⟩ = some (.int .i64 0) := by rw [cell_of_row _ _ _ _ _ _ q1]; rfl
            have y1 : w3.cell? ⟨w2.heap.size + 1, 1, none⟩ = some (.int .u32 0) := by rw [cell_of_row _ _ _ _ _ _ q1]; rfl
            have y2 : w3.cell? ⟨w2.heap.size + 1, 2, none⟩ = some (.int .i64 0) := by rw [cell_of_row _ _ _ _ _ _ q1]; rfl
            have y3 : w3.cell? ⟨w2.heap.size + 1, 3, none⟩ = some (.int .u32 0) := by rw [cell_of_row _ _ _ _ _ _ q1]; rfl
            have y4 : w3.cell? ⟨w2.heap.size + 1, 4, none⟩ = some (.int .i64 0) := by rw [cell_of_row _ _ _ _ _ _ q1]; rfl
            generalize w2.heap.size = g2 at *
            clear q1 q2 HB2
            obtain ⟨a, rfl, hcT⟩ := (HS.out.below (HB1.out.trans (HB3.out.mono HB1.out.size))) j (by omega)
            obtain ⟨z, hz⟩ : ∃ z, ks[j]'(by omega) = z := ⟨_, rfl⟩
            rw [hz] at hcT
            have hq : (IntKind.u64.wrap z).tmod (i : Int) = (t : Int) := by
              obtain ⟨y, hy⟩ : ∃ y : Nat, z % 18446744073709551616 = (y : Int) := ⟨(z % 18446744073709551616).toNat, by omega⟩
              rw [IntKind.wrap_u64, Int.tmod_eq_emod_of_nonneg (by omega), ← ht, HTe.out]
              unfold tgN
              rw [List.getD_eq_getElem?_getD, List.getElem?_eq_getElem (by omega), hz, Option.getD_some, hy]
              rfl
            clear hz
            have HTT := hide ht
            clear ht
            have hn0 : ¬ (i : Int) = 0 := by omega
            have hw4 : wrap64 (t : Int) = (t : Int) := by unfold wrap64; omega
            have hjk : (j : Int) < (ks.length : Int) := by omega
            by_cases hodd : j % 2 = 1
            · have hd : ((j : Int) % 2 == 1) = true := by rw [beq_iff_eq]; omega
              have hcc : c = j + 1 := by rw [← hc, c5, if_pos hodd]
              subst hcc
              have HH := hide hc
              clear hc
              have hw5 : IntKind.u32.wrap ((j : Int) + 1) = (j : Int) + 1 := by rw [IntKind.wrap_u32]; omega
              go_wp2
              go_quiet (fail)
              go_wp2
              refine ⟨⟨j + 1, by simp, by omega, below_drw HB3.out _⟩, ?_⟩
              simp [intOf]
              omega
            · have hd : ((j : Int) % 2 == 1) = false := by rw [beq_eq_false_iff_ne]; omega
              have hcc : c = 6 := by rw [← hc, c5, if_neg hodd]
              subst hcc
              have HH := hide hc
              clear hc
              go_wp2
              go_quiet (fail)
              go_wp2
              refine ⟨⟨j + 1, by simp, by omega, below_drw HB3.out _⟩, ?_⟩
              simp [intOf]
              omega
          · have hjI : ¬ (j : Int) < (i : Int) := by omega
            have HB4 := hide (HB1.out.trans (HB.out.mono HB1.out.size))
            go_wp2_with fail
            refine (known_any _ (HT.out.ops.below HB4.out)).mono ?_
            rintro e w2 ⟨rfl, hb2⟩
            have HB5 := hide (HB4.out.trans (hb2.mono HB4.out.size))
            go_wp2
            go_ret
            exact ⟨rfl, HB5.out⟩
end
end Go.Proofs.YtoaplkfmchphbaaDoor

namespace Go.Proofs.YtoaplkfmchphbaaDoor
open Go.RowKit
theorem word_small : ∀ n ∈ eIs.map word, n < 4294967296 := by decide
theorem mcW_ok {ws : List Nat} (h : ∀ n ∈ ws, n < 4294967296) : MOk (mcW ws) := by
  refine ⟨fun i _ => ?_, fun i _ => by show 0 < 4294967296; decide, by show 0 < 4294967296; decide⟩
  show ws.getD i 0 < 4294967296
  rw [List.getD_eq_getElem?_getD]
  by_cases hi : i < ws.length
  · rw [List.getElem?_eq_getElem hi]; exact h _ (List.getElem_mem hi)
  · rw [List.getElem?_eq_none (by omega)]; decide
theorem eWs_ok {x y : Nat} (hx : x < 4294967296) (hy : y < 4294967296) : ∀ n ∈ eWs x y, n < 4294967296 := by
  intro n hn
  unfold eWs at hn
  rcases List.mem_append.1 hn with h | h
  · exact word_small n h
  · simp only [List.mem_cons, List.not_mem_nil, or_false] at h
    rcases h with rfl | rfl | rfl
    · exact hx
    · exact hy
    · decide
theorem eS_mcW (x y : Nat) : mcW (eWs x y) = eS x y 0 0 0 0 := by
  unfold mcW eS
  congr 1
  funext j
  simp [rr]
section
variable (w : World)
set_option maxRecDepth 100000 in
set_option maxHeartbeats 2000000 in
theorem euclid_walk (x : Nat) (hx : x < 4294967296) (y : Nat) (hy : y < 4294967296) (hT : Tb w) : Calls Tryd.prog 5 #[.int .u32 (x : Nat), .int .u32 (y : Nat)] w fun e w' => e = .returned (.bool true) ∧ Below w.heap.size w w' := by
  have HT := hide hT
  clear hT
  have HN1 := hide (fun W (h : Below w.heap.size w W) => num_any W x hx (tabIs_below HT.out.pw h))
  have HN2 := hide (fun W (h : Below w.heap.size w W) => num_any W y hy (tabIs_below HT.out.pw h))
  have hlx := dec_len10 hx
  have hly := dec_len10 hy
  have hC := eC1_len
  obtain ⟨Y1, hY1⟩ : ∃ Y, eC1 ++ Lib.decDigits x = Y := ⟨_, rfl⟩
  obtain ⟨Y2, hY2⟩ : ∃ Y, Y1 ++ [10, 121, 58, 32, 46, 119, 111, 114, 100, 32] = Y := ⟨_, rfl⟩
  obtain ⟨Y3, hY3⟩ : ∃ Y, Y2 ++ Lib.decDigits y = Y := ⟨_, rfl⟩
  obtain ⟨Y4, hY4⟩ : ∃ Y, Y3 ++ [10, 122, 58, 32, 46, 119, 111, 114, 100, 32, 48, 120, 102, 102, 102, 102, 102, 102, 102, 102, 10] = Y := ⟨_, rfl⟩
  have HY : Hid (Y4 = eTxt x y) := hide (by rw [eTxt_eq, ← hY4, ← hY3, ← hY2, ← hY1])
  have l1 : Y1.length = 131 + (Lib.decDigits x).length := by rw [← hY1, List.length_append, hC]
  have l2 : Y2.length = Y1.length + 10 := by rw [← hY2, List.length_append]; rfl
  have l3 : Y3.length = Y2.length + (Lib.decDigits y).length := by rw [← hY3, List.length_append]
  have l4 : Y4.length = Y3.length + 21 := by rw [← hY4, List.length_append]; rfl
  have m1 : Y1.length ≤ 9223372036854775807 := by omega
  have m2 : Y2.length ≤ 9223372036854775807 := by omega
  have m3 : Y3.length ≤ 9223372036854775807 := by omega
  have m4 : Y4.length ≤ 9223372036854775807 := by omega
  have M := hide (And.intro m1 (And.intro m2 (And.intro m3 m4)))
  have hY4l : Y4.length ≤ 1000000 := by omega
  have HL := hide (fun W h => loaded_any W Y4 (eWs x y) hY4l (by rw [HY.out]; exact eAsm hx hy) (by show (eIs.map word ++ [x, y, 4294967295]).length ≤ 512; simp [eIs]) h)
  clear hC l1 l2 l3 l4 m1 m2 m3 m4 hY4l hlx hly
  go_enter Tryd.func5, Tryd.ntmps5
  go_wp2_with fail
  refine (HN1.out _ (Below.refl _ _)).mono ?_
  rintro e w1 ⟨rfl, hb1⟩
  have HB1 := hide hb1
  clear hb1
  go_wp2_with (first | (refine wp_cat (by rfl) _ (.tmp 11) rfl (A := eC1) (by kernel_rfl) rfl hY1 M.out.1 ?_) | (refine wp_cat (by rfl) (.tmp 12) _ rfl rfl rfl hY2 M.out.2.1 ?_))
  refine (HN2.out _ HB1.out).mono ?_
  rintro e w2 ⟨rfl, hb2⟩
  have HB2 := hide (HB1.out.trans (hb2.mono HB1.out.size))
  clear hb2 HB1
  go_wp2_with (first | (refine wp_cat (by rfl) (.tmp 13) _ rfl rfl rfl hY3 M.out.2.2.1 ?_) | (refine wp_cat (by rfl) (.tmp 16) _ rfl rfl rfl hY4 M.out.2.2.2 ?_))
  refine (HL.out _ (HT.out.ops.below HB2.out)).mono ?_
  rintro e w3 ⟨N, rfl, hN, hM, hb3⟩
  have HB3 := hide (HB2.out.trans (hb3.mono HB2.out.size))
  have HNB : Hid (w.heap.size ≤ N) := hide (Nat.le_trans HB2.out.size hN)
  have HM3 := hide hM
  clear hb3 hM hN HB2 HL HN1 HN2 hY1 hY2 hY3 hY4 HY M
  obtain ⟨c', hrun⟩ := eAll x y hy
  have HR := hide (runs_any w w3 N (mcW (eWs x y)) (eE x y (Nat.gcd y x) c') 700 (by decide) HM3.out (mcW_ok (eWs_ok hx hy)) (by rw [eS_mcW]; exact hrun) HNB.out HT.out.ops HB3.out)
  clear hrun HM3 HB3
  go_wp2_with fail
  refine HR.out.mono ?_
  rintro e w4 ⟨rfl, hM4, hb4⟩
  have HM4 := hide hM4
  have HB4 := hide hb4
  clear hM4 hb4 HR
  generalize hE : eE x y (Nat.gcd y x) c' = E at *
  have hdn : E.dn = true := by rw [← hE]; rfl
  have HE := hide hE
  clear hE
  go_upto_region 6 with fail
  have HD := hide hdn
  clear hdn
  go_loopw [8, 9] (fun av bv wr => ∃ a b : Nat, av = .int .u32 (a : Nat) ∧ bv = .int .u32 (b : Nat) ∧ a < 4294967296 ∧ b < 4294967296 ∧ Hid (Nat.gcd b a = Nat.gcd y x) ∧ Hid (Mb wr N E) ∧ Hid (Below w.heap.size w wr)) (fun _ bv _ => (intOf bv).toNat)
  case atStart => exact ⟨x, y, rfl, rfl, hx, hy, hide rfl, HM4, HB4⟩
  case round =>
    obtain ⟨a, b, rfl, rfl, ha, hb, HG, HMr, HBr⟩ := hrel
    clear HM4 HB4
    by_cases h0 : b = 0
    · subst h0
      have hG : a = Nat.gcd y x := by have := HG.out; rwa [Nat.gcd_zero_left] at this
      have c12 : wr.cell? ⟨N, 12, none⟩ = some (.int .u32 (a : Nat)) := by have h := HMr.out.m (i := 12) (by decide); rw [← HE.out] at h; rw [hG]; exact h
      have c10 : wr.cell? ⟨N, 10, none⟩ = some (.int .u32 (x : Nat)) := by have h := HMr.out.m (i := 10) (by decide); rw [← HE.out] at h; exact h
      have c11 : wr.cell? ⟨N, 11, none⟩ = some (.int .u32 (y : Nat)) := by have h := HMr.out.m (i := 11) (by decide); rw [← HE.out] at h; exact h
      have cpc : wr.cell? ⟨N, 520, none⟩ = some (.int .u32 10) := by have h := HMr.out.pc; rw [← HE.out] at h; exact h
      clear hG HG
      go_wp2
      go_ret
      exact ⟨rfl, HBr.out⟩
    · have hb0 : ¬ (b : Int) = 0 := by omega
      have hbb : ((b : Int) == 0) = false := by rw [beq_eq_false_iff_ne]; exact hb0
      obtain ⟨r, hr⟩ : ∃ r, a % b = r := ⟨_, rfl⟩
      have hrb : r < b := by rw [← hr]; exact Nat.mod_lt _ (by omega)
      have hq : (a : Int).tmod (b : Int) = (r : Int) := by rw [Int.tmod_eq_emod_of_nonneg (by omega), ← hr]; rfl
      have HG2 : Hid (Nat.gcd r b = Nat.gcd y x) := hide (by rw [← HG.out, Nat.gcd_rec b a, hr])
      clear HG hr
      have hr32 : (r : Int) % 4294967296 = (r : Int) := by omega
      go_upto_region 7 with fail
      go_quiet (fail)
      go_wp2
      refine ⟨⟨b, r, rfl, rfl, hb, by omega, HG2, hide (HMr.out.keep rfl), hide (below_drw HBr.out _)⟩, ?_⟩
      simp [intOf]
      omega
end
end Go.Proofs.YtoaplkfmchphbaaDoor
