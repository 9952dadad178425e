import Derived.Test.YtoaplkfmchphbaaDoorB20
namespace Go.Proofs.YtoaplkfmchphbaaDoor
open Go.RowKit
theorem asmL_len (ps : List (Tx × (Nat × Int))) : ∀ (ls : List Ln) (k : Nat) (ws : List Nat), ws.length ≤ 512 → (asmL ps ls k ws).1.length ≤ 512 ∧ (asmL ps ls k ws).2.1 ≤ k + ls.length
  | [], k, ws, h => ⟨h, by simp [asmL]⟩
  | l :: r, k, ws, h => by
    rw [asmL]
    by_cases e : fltT ps l k ws.length = 0
    · rw [if_pos e]
      have h1 := flt_room e
      have h2 := asmL_len ps r (k + 1) (ws ++ List.replicate l.words.toNat (wrdT ps l ws.length)) (by simp; omega)
      exact ⟨h2.1, by simp only [List.length_cons]; omega⟩
    · rw [if_neg e]
      exact ⟨by simp, by simp⟩
theorem asm_both (s : Tx) : (asmT s).1.length ≤ 512 ∧ (asmT s).2.1 ≤ 1048576 := by
  unfold asmT
  split
  · simp
  · have h := asmL_len (lbs (linesT s) (linesT s).length) (linesT s) 0 [] (by simp)
    have hc := split_count 10 s
    have hl : (linesT s).length = (splitT 10 s).length := by simp [linesT]
    exact ⟨h.1, by omega⟩
theorem asm_len (s : Tx) : (asmT s).1.length ≤ 512 := (asm_both s).1
theorem asm_line (s : Tx) : (asmT s).2.1 ≤ 1048576 := (asm_both s).2
theorem cat_eq {a b c : Tx} (h : a ++ b = c) : (⟨a.toArray⟩ : ByteArray) ++ ⟨b.toArray⟩ = ⟨c.toArray⟩ := ByteArray.ext (by subst h; simp [ByteArray.data_append])
theorem blanks_of : ∃ B R : Int → Tx, ∀ n, ((∀ c ∈ B n, bl c = true) ∧ (B n).length ≤ 4 ∧ ∀ w, Calls Tryd.prog 13 #[.int .i64 n] w fun e w' => e = .returned (.string ⟨(B n).toArray⟩) ∧ Below w.heap.size w w') ∧
    (isRem (R n) = true ∧ (∀ c ∈ R n, (c == (10 : UInt8)) = false) ∧ (R n).length ≤ 10 ∧ ∀ w, Calls Tryd.prog 14 #[.int .i64 n] w fun e w' => e = .returned (.string ⟨(R n).toArray⟩) ∧ Below w.heap.size w w') :=
  ⟨fun n => (blank_all n).choose, fun n => (remark_all n).choose, fun n => ⟨(blank_all n).choose_spec, (remark_all n).choose_spec⟩⟩
section
variable (w : World)
set_option maxRecDepth 100000 in
set_option maxHeartbeats 2000000 in
theorem blanks_walk (t : Tx) (ao : Option Addr) (cap : Nat) (ks : List Int) (ht : t.length ≤ 140737488351232) (hk : ks.length ≤ 140737488351232) (hS : Sd w ao ks) (hO : Ops w) : Calls Tryd.prog 4 #[.string ⟨t.toArray⟩, .slice ao ks.length cap] w fun e w' => e = .returned (.bool true) ∧ Below w.heap.size w w' := by
  obtain ⟨B, R, hBR⟩ := blanks_of
  have HBR := hide hBR
  have HO := hide hO
  have HS := hide hS
  clear hO hS hBR
  go_enter Tryd.func4, Tryd.ntmps4
  go_wp2_with fail
  refine (known_any _ HO.out).mono ?_
  rintro e w1 ⟨rfl, hb⟩
  have HB1 := hide hb
  clear hb
  go_upto_region 7 with fail
  go_loopw [5, 6, 7, 8] (fun m k f i wr => ∃ (M : Tx) (kn fn n : Nat) (xs : List Tx), m = .string ⟨(10 :: M).toArray⟩ ∧ k = .int .i64 (kn : Int) ∧ f = .int .i64 (fn : Int) ∧ i = .int .i64 (n : Int) ∧ n ≤ t.length + 1 ∧ kn ≤ n ∧ Bk t M fn n xs ∧ Below w.heap.size w wr) (fun _ _ _ i _ => t.length + 1 - (intOf i).toNat)
  case atStart => exact ⟨[], 0, 0, 0, [], rfl, rfl, rfl, rfl, by omega, by omega, Bk.start t, HB1.out⟩
  case round =>
  obtain ⟨M, kn, fn, n, xs, rfl, rfl, rfl, rfl, hn, hkn, hBk, hB⟩ := hrel
  have HK := hide hBk
  have HB := hide hB
  clear hB hBk HB1
  by_cases hle : n ≤ t.length
  · by_cases hlt : n < t.length
    · obtain ⟨c, hc⟩ : ∃ c, t[n] = c := ⟨_, rfl⟩
      have hg : (⟨t.toArray⟩ : ByteArray)[n]'hlt = c := hc
      by_cases h10 : c = 10
      · subst h10
        have h1 : (n : Int) ≤ (t.length : Int) := by omega
        have h2 : (n : Int) < (t.length : Int) := by omega
        have hf : fn ≤ n := by
          rcases HK.out.2.2 with h | h
          · exact h.2.1
          · omega
        have hfI : (fn : Int) ≤ (n : Int) := by omega
        have e1 : (⟨t.toArray⟩ : ByteArray).extract fn n = ⟨(pc t fn n).toArray⟩ := by rw [ext_mk, List.drop_take]; rfl
        by_cases hks : 0 < ks.length
        · obtain ⟨a, rfl, hc0⟩ := (HS.out.below HB.out) (kn % ks.length) (Nat.mod_lt _ hks)
          obtain ⟨z, hz⟩ : ∃ z, ks[kn % ks.length]'(Nat.mod_lt _ hks) = z := ⟨_, rfl⟩
          rw [hz] at hc0
          have hksI : (0 : Int) < (ks.length : Int) := by omega
          have hks0 : ¬ (ks.length : Int) = 0 := by omega
          have hq := Nat.mod_lt kn hks
          have hqe : (kn : Int).tmod (ks.length : Int) = ((kn % ks.length : Nat) : Int) := by rw [Int.tmod_eq_emod_of_nonneg (by omega)]; simp
          clear hz
          generalize kn % ks.length = q at *
          generalize ks.length = kl at *
          have hqI : (q : Int) < (kl : Int) := by omega
          go_upto_region 14 with fail
          obtain ⟨Y1, hY1⟩ : ∃ Y, (10 :: M) ++ B z = Y := ⟨_, rfl⟩
          obtain ⟨Y2, hY2⟩ : ∃ Y, Y1 ++ pc t fn n = Y := ⟨_, rfl⟩
          obtain ⟨Y3, hY3⟩ : ∃ Y, Y2 ++ B (IntKind.i64.wrap (z.tdiv 5)) = Y := ⟨_, rfl⟩
          obtain ⟨Y4, hY4⟩ : ∃ Y, Y3 ++ R (IntKind.i64.wrap (z.tdiv 25)) = Y := ⟨_, rfl⟩
          have b1 := (HBR.out z).1.2.1
          have b2 := (HBR.out (IntKind.i64.wrap (z.tdiv 5))).1.2.1
          have b3 := (HBR.out (IntKind.i64.wrap (z.tdiv 25))).2.2.2.1
          have b4 := pc_len hf hle
          have hM := HK.out.1
          have l1 : Y1.length = M.length + 1 + (B z).length := by rw [← hY1, List.length_append, List.length_cons]
          have l2 : Y2.length = Y1.length + (n - fn) := by rw [← hY2, List.length_append, b4]
          have l3 : Y3.length = Y2.length + (B (IntKind.i64.wrap (z.tdiv 5))).length := by rw [← hY3, List.length_append]
          have l4 : Y4.length = Y3.length + (R (IntKind.i64.wrap (z.tdiv 25))).length := by rw [← hY4, List.length_append]
          refine region_below (by kernel_rfl) (by kernel_rfl) ?_
          iterate 2 (refine wpQuiet_step (fun K hK => ?_); go_simp; refine ⟨_, fun _ _ => rfl, hK _ ?_⟩; clear hK K)
          refine wpQuiet_step (fun K hK => ?_)
          go_simp
          refine ⟨.string ⟨(B z).toArray⟩, fun w' hw' => calls_below hw' ((HBR.out z).1.2.2 w'), hK _ ?_⟩
          clear hK K
          refine wpQuiet_step (fun K hK => ?_)
          go_simp
          refine ⟨.string ⟨Y1.toArray⟩, fun w' hw' => ?_, hK _ ?_⟩
          · rw [if_neg (by omega)]; exact ⟨rfl, congrArg Value.string (cat_eq hY1)⟩
          clear hK K
          iterate 4 (refine wpQuiet_step (fun K hK => ?_); go_simp; refine ⟨_, fun _ _ => rfl, hK _ ?_⟩; clear hK K)
          refine wpQuiet_step (fun K hK => ?_)
          go_simp
          refine ⟨.string ⟨Y2.toArray⟩, fun w' hw' => ?_, hK _ ?_⟩
          · rw [if_neg (by omega)]; exact ⟨rfl, congrArg Value.string (cat_eq hY2)⟩
          clear hK K
          iterate 2 (refine wpQuiet_step (fun K hK => ?_); go_simp; refine ⟨_, fun _ _ => rfl, hK _ ?_⟩; clear hK K)
          refine wpQuiet_step (fun K hK => ?_)
          go_simp
          refine ⟨.string ⟨(B (IntKind.i64.wrap (z.tdiv 5))).toArray⟩, fun w' hw' => calls_below hw' ((HBR.out (IntKind.i64.wrap (z.tdiv 5))).1.2.2 w'), hK _ ?_⟩
          clear hK K
          refine wpQuiet_step (fun K hK => ?_)
          go_simp
          refine ⟨.string ⟨Y3.toArray⟩, fun w' hw' => ?_, hK _ ?_⟩
          · rw [if_neg (by omega)]; exact ⟨rfl, congrArg Value.string (cat_eq hY3)⟩
          clear hK K
          iterate 2 (refine wpQuiet_step (fun K hK => ?_); go_simp; refine ⟨_, fun _ _ => rfl, hK _ ?_⟩; clear hK K)
          refine wpQuiet_step (fun K hK => ?_)
          go_simp
          refine ⟨.string ⟨(R (IntKind.i64.wrap (z.tdiv 25))).toArray⟩, fun w' hw' => calls_below hw' ((HBR.out (IntKind.i64.wrap (z.tdiv 25))).2.2.2.2 w'), hK _ ?_⟩
          clear hK K
          refine wpQuiet_step (fun K hK => ?_)
          go_simp
          refine ⟨.string ⟨Y4.toArray⟩, fun w' hw' => ?_, hK _ ?_⟩
          · rw [if_neg (by omega)]; exact ⟨rfl, congrArg Value.string (cat_eq hY4)⟩
          clear hK K
          refine wpQuiet_step (fun K hK => ?_); go_simp; refine ⟨_, fun _ _ => rfl, hK _ ?_⟩; clear hK K
          refine wpQuiet_nil ?_
          intro w' hw'
          have HB2 := hide (HB.out.trans (hw'.mono HB.out.size))
          clear hw' HB
          obtain ⟨Y5, hY5⟩ : ∃ Y, Y4 ++ [10] = Y := ⟨_, rfl⟩
          have l5 : Y5.length = Y4.length + 1 := by rw [← hY5, List.length_append]; rfl
          have l6 : ¬ 9223372036854775807 < Y4.length + 1 := by omega
          have c5 : (⟨Y4.toArray⟩ : ByteArray) ++ ⟨#[10]⟩ = ⟨Y5.toArray⟩ := cat_eq hY5
          have HY : Hid (Y5 = 10 :: (M ++ B z ++ pc t fn n ++ B (IntKind.i64.wrap (z.tdiv 5)) ++ R (IntKind.i64.wrap (z.tdiv 25)) ++ [10])) := hide (by rw [← hY5, ← hY4, ← hY3, ← hY2, ← hY1]; simp)
          by_cases hbig : 16384 < Y5.length
          · have hbI : (16384 : Int) < (Y5.length : Int) := by omega
            clear HK HBR HS HO hY1 hY2 hY3 hY4 HY l1 l2 l3 l4 l5 hY5 b1 b2 b3 b4 e1
            go_wp2
            (try rw [Exit.noGoto_ret])
            go_ret
            exact ⟨rfl, HB2.out⟩
          · have hbI : ¬ (16384 : Int) < (Y5.length : Int) := by omega
            have HK2 := hide (HK.out.line hlt hc (HBR.out z).1.1 (HBR.out (IntKind.i64.wrap (z.tdiv 5))).1.1 (HBR.out (IntKind.i64.wrap (z.tdiv 25))).2.1 (HBR.out (IntKind.i64.wrap (z.tdiv 25))).2.2.1 (by
              have := congrArg List.length HY.out
              rw [List.length_cons] at this
              omega))
            clear HK HBR HS HO hY1 hY2 hY3 hY4 l1 l2 l3 l4 l5 hY5 b1 b2 b3 b4 e1
            go_wp2
            refine ⟨⟨_, kn + 1, n + 1, n + 1, _, by rw [HY.out], by simp, by simp, by simp, by omega, by omega, HK2.out, HB2.out⟩, ?_⟩
            simp [intOf] <;> omega
        · have hksI : ¬ (0 : Int) < (ks.length : Int) := by omega
          clear hk
          generalize ks.length = kl at *
          go_upto_region 14 with fail
          obtain ⟨Y1, hY1⟩ : ∃ Y, (10 :: M) ++ B 0 = Y := ⟨_, rfl⟩
          obtain ⟨Y2, hY2⟩ : ∃ Y, Y1 ++ pc t fn n = Y := ⟨_, rfl⟩
          obtain ⟨Y3, hY3⟩ : ∃ Y, Y2 ++ B 0 = Y := ⟨_, rfl⟩
          obtain ⟨Y4, hY4⟩ : ∃ Y, Y3 ++ R 0 = Y := ⟨_, rfl⟩
          have b1 := (HBR.out 0).1.2.1
          have b2 := (HBR.out 0).1.2.1
          have b3 := (HBR.out 0).2.2.2.1
          have b4 := pc_len hf hle
          have hM := HK.out.1
          have l1 : Y1.length = M.length + 1 + (B 0).length := by rw [← hY1, List.length_append, List.length_cons]
          have l2 : Y2.length = Y1.length + (n - fn) := by rw [← hY2, List.length_append, b4]
          have l3 : Y3.length = Y2.length + (B 0).length := by rw [← hY3, List.length_append]
          have l4 : Y4.length = Y3.length + (R 0).length := by rw [← hY4, List.length_append]
          refine region_below (by kernel_rfl) (by kernel_rfl) ?_
          iterate 2 (refine wpQuiet_step (fun K hK => ?_); go_simp; refine ⟨_, fun _ _ => rfl, hK _ ?_⟩; clear hK K)
          refine wpQuiet_step (fun K hK => ?_)
          go_simp
          refine ⟨.string ⟨(B 0).toArray⟩, fun w' hw' => calls_below hw' ((HBR.out 0).1.2.2 w'), hK _ ?_⟩
          clear hK K
          refine wpQuiet_step (fun K hK => ?_)
          go_simp
          refine ⟨.string ⟨Y1.toArray⟩, fun w' hw' => ?_, hK _ ?_⟩
          · rw [if_neg (by omega)]; exact ⟨rfl, congrArg Value.string (cat_eq hY1)⟩
          clear hK K
          iterate 4 (refine wpQuiet_step (fun K hK => ?_); go_simp; refine ⟨_, fun _ _ => rfl, hK _ ?_⟩; clear hK K)
          refine wpQuiet_step (fun K hK => ?_)
          go_simp
          refine ⟨.string ⟨Y2.toArray⟩, fun w' hw' => ?_, hK _ ?_⟩
          · rw [if_neg (by omega)]; exact ⟨rfl, congrArg Value.string (cat_eq hY2)⟩
          clear hK K
          iterate 2 (refine wpQuiet_step (fun K hK => ?_); go_simp; refine ⟨_, fun _ _ => rfl, hK _ ?_⟩; clear hK K)
          refine wpQuiet_step (fun K hK => ?_)
          go_simp
          refine ⟨.string ⟨(B 0).toArray⟩, fun w' hw' => calls_below hw' ((HBR.out 0).1.2.2 w'), hK _ ?_⟩
          clear hK K
          refine wpQuiet_step (fun K hK => ?_)
          go_simp
          refine ⟨.string ⟨Y3.toArray⟩, fun w' hw' => ?_, hK _ ?_⟩
          · rw [if_neg (by omega)]; exact ⟨rfl, congrArg Value.string (cat_eq hY3)⟩
          clear hK K
          iterate 2 (refine wpQuiet_step (fun K hK => ?_); go_simp; refine ⟨_, fun _ _ => rfl, hK _ ?_⟩; clear hK K)
          refine wpQuiet_step (fun K hK => ?_)
          go_simp
          refine ⟨.string ⟨(R 0).toArray⟩, fun w' hw' => calls_below hw' ((HBR.out 0).2.2.2.2 w'), hK _ ?_⟩
          clear hK K
          refine wpQuiet_step (fun K hK => ?_)
          go_simp
          refine ⟨.string ⟨Y4.toArray⟩, fun w' hw' => ?_, hK _ ?_⟩
          · rw [if_neg (by omega)]; exact ⟨rfl, congrArg Value.string (cat_eq hY4)⟩
          clear hK K
          refine wpQuiet_step (fun K hK => ?_); go_simp; refine ⟨_, fun _ _ => rfl, hK _ ?_⟩; clear hK K
          refine wpQuiet_nil ?_
          intro w' hw'
          have HB2 := hide (HB.out.trans (hw'.mono HB.out.size))
          clear hw' HB
          obtain ⟨Y5, hY5⟩ : ∃ Y, Y4 ++ [10] = Y := ⟨_, rfl⟩
          have l5 : Y5.length = Y4.length + 1 := by rw [← hY5, List.length_append]; rfl
          have l6 : ¬ 9223372036854775807 < Y4.length + 1 := by omega
          have c5 : (⟨Y4.toArray⟩ : ByteArray) ++ ⟨#[10]⟩ = ⟨Y5.toArray⟩ := cat_eq hY5
          have HY : Hid (Y5 = 10 :: (M ++ B 0 ++ pc t fn n ++ B 0 ++ R 0 ++ [10])) := hide (by rw [← hY5, ← hY4, ← hY3, ← hY2, ← hY1]; simp)
          by_cases hbig : 16384 < Y5.length
          · have hbI : (16384 : Int) < (Y5.length : Int) := by omega
            clear HK HBR HS HO hY1 hY2 hY3 hY4 HY l1 l2 l3 l4 l5 hY5 b1 b2 b3 b4 e1
            go_wp2
            (try rw [Exit.noGoto_ret])
            go_ret
            exact ⟨rfl, HB2.out⟩
          · have hbI : ¬ (16384 : Int) < (Y5.length : Int) := by omega
            have HK2 := hide (HK.out.line hlt hc (HBR.out 0).1.1 (HBR.out 0).1.1 (HBR.out 0).2.1 (HBR.out 0).2.2.1 (by
              have := congrArg List.length HY.out
              rw [List.length_cons] at this
              omega))
            clear HK HBR HS HO hY1 hY2 hY3 hY4 l1 l2 l3 l4 l5 hY5 b1 b2 b3 b4 e1
            go_wp2
            refine ⟨⟨_, kn, n + 1, n + 1, _, by rw [HY.out], by simp, by simp, by simp, by omega, by omega, HK2.out, HB2.out⟩, ?_⟩
            simp [intOf] <;> omega
      · have h10b : ((c.toNat : Int) == 10) = false := by
          rw [beq_eq_false_iff_ne]
          intro e
          exact h10 (UInt8.toNat_inj.1 (by have : c.toNat = 10 := by omega
                                           rw [this]; rfl))
        have HK2 := hide (HK.out.on hlt (by rw [hc, beq_eq_false_iff_ne]; exact h10))
        clear HK h10
        have h1 : (n : Int) ≤ (t.length : Int) := by omega
        have h2 : (n : Int) < (t.length : Int) := by omega
        go_wp2
        refine ⟨⟨M, kn, fn, n + 1, xs, rfl, rfl, rfl, by simp, by omega, by omega, HK2.out, HB.out⟩, ?_⟩
        simp [intOf]
        omega
    · obtain rfl : n = t.length := by omega
      have h1 : (t.length : Int) ≤ (t.length : Int) := by omega
      have h2 : ¬ (t.length : Int) < (t.length : Int) := by omega
      have hf : fn ≤ t.length := by
        rcases HK.out.2.2 with h | h
        · exact h.2.1
        · omega
      have hfI : (fn : Int) ≤ (t.length : Int) := by omega
      have e1 : (⟨t.toArray⟩ : ByteArray).extract fn t.length = ⟨(pc t fn t.length).toArray⟩ := by rw [ext_mk, List.drop_take]; rfl
      by_cases hks : 0 < ks.length
      · obtain ⟨a, rfl, hc0⟩ := (HS.out.below HB.out) (kn % ks.length) (Nat.mod_lt _ hks)
        obtain ⟨z, hz⟩ : ∃ z, ks[kn % ks.length]'(Nat.mod_lt _ hks) = z := ⟨_, rfl⟩
        rw [hz] at hc0
        have hksI : (0 : Int) < (ks.length : Int) := by omega
        have hks0 : ¬ (ks.length : Int) = 0 := by omega
        have hq := Nat.mod_lt kn hks
        have hqe : (kn : Int).tmod (ks.length : Int) = ((kn % ks.length : Nat) : Int) := by rw [Int.tmod_eq_emod_of_nonneg (by omega)]; simp
        clear hz
        generalize kn % ks.length = q at *
        generalize ks.length = kl at *
        have hqI : (q : Int) < (kl : Int) := by omega
        go_upto_region 14 with fail
        obtain ⟨Y1, hY1⟩ : ∃ Y, (10 :: M) ++ B z = Y := ⟨_, rfl⟩
        obtain ⟨Y2, hY2⟩ : ∃ Y, Y1 ++ pc t fn t.length = Y := ⟨_, rfl⟩
        obtain ⟨Y3, hY3⟩ : ∃ Y, Y2 ++ B (IntKind.i64.wrap (z.tdiv 5)) = Y := ⟨_, rfl⟩
        obtain ⟨Y4, hY4⟩ : ∃ Y, Y3 ++ R (IntKind.i64.wrap (z.tdiv 25)) = Y := ⟨_, rfl⟩
        have b1 := (HBR.out z).1.2.1
        have b2 := (HBR.out (IntKind.i64.wrap (z.tdiv 5))).1.2.1
        have b3 := (HBR.out (IntKind.i64.wrap (z.tdiv 25))).2.2.2.1
        have b4 := pc_len hf hle
        have hM := HK.out.1
        have l1 : Y1.length = M.length + 1 + (B z).length := by rw [← hY1, List.length_append, List.length_cons]
        have l2 : Y2.length = Y1.length + (t.length - fn) := by rw [← hY2, List.length_append, b4]
        have l3 : Y3.length = Y2.length + (B (IntKind.i64.wrap (z.tdiv 5))).length := by rw [← hY3, List.length_append]
        have l4 : Y4.length = Y3.length + (R (IntKind.i64.wrap (z.tdiv 25))).length := by rw [← hY4, List.length_append]
        refine region_below (by kernel_rfl) (by kernel_rfl) ?_
        iterate 2 (refine wpQuiet_step (fun K hK => ?_); go_simp; refine ⟨_, fun _ _ => rfl, hK _ ?_⟩; clear hK K)
        refine wpQuiet_step (fun K hK => ?_)
        go_simp
        refine ⟨.string ⟨(B z).toArray⟩, fun w' hw' => calls_below hw' ((HBR.out z).1.2.2 w'), hK _ ?_⟩
        clear hK K
        refine wpQuiet_step (fun K hK => ?_)
        go_simp
        refine ⟨.string ⟨Y1.toArray⟩, fun w' hw' => ?_, hK _ ?_⟩
        · rw [if_neg (by omega)]; exact ⟨rfl, congrArg Value.string (cat_eq hY1)⟩
        clear hK K
        iterate 4 (refine wpQuiet_step (fun K hK => ?_); go_simp; refine ⟨_, fun _ _ => rfl, hK _ ?_⟩; clear hK K)
        refine wpQuiet_step (fun K hK => ?_)
        go_simp
        refine ⟨.string ⟨Y2.toArray⟩, fun w' hw' => ?_, hK _ ?_⟩
        · rw [if_neg (by omega)]; exact ⟨rfl, congrArg Value.string (cat_eq hY2)⟩
        clear hK K
        iterate 2 (refine wpQuiet_step (fun K hK => ?_); go_simp; refine ⟨_, fun _ _ => rfl, hK _ ?_⟩; clear hK K)
        refine wpQuiet_step (fun K hK => ?_)
        go_simp
        refine ⟨.string ⟨(B (IntKind.i64.wrap (z.tdiv 5))).toArray⟩, fun w' hw' => calls_below hw' ((HBR.out (IntKind.i64.wrap (z.tdiv 5))).1.2.2 w'), hK _ ?_⟩
        clear hK K
        refine wpQuiet_step (fun K hK => ?_)
        go_simp
        refine ⟨.string ⟨Y3.toArray⟩, fun w' hw' => ?_, hK _ ?_⟩
        · rw [if_neg (by omega)]; exact ⟨rfl, congrArg Value.string (cat_eq hY3)⟩
        clear hK K
        iterate 2 (refine wpQuiet_step (fun K hK => ?_); go_simp; refine ⟨_, fun _ _ => rfl, hK _ ?_⟩; clear hK K)
        refine wpQuiet_step (fun K hK => ?_)
        go_simp
        refine ⟨.string ⟨(R (IntKind.i64.wrap (z.tdiv 25))).toArray⟩, fun w' hw' => calls_below hw' ((HBR.out (IntKind.i64.wrap (z.tdiv 25))).2.2.2.2 w'), hK _ ?_⟩
        clear hK K
        refine wpQuiet_step (fun K hK => ?_)
        go_simp
        refine ⟨.string ⟨Y4.toArray⟩, fun w' hw' => ?_, hK _ ?_⟩
        · rw [if_neg (by omega)]; exact ⟨rfl, congrArg Value.string (cat_eq hY4)⟩
        clear hK K
        refine wpQuiet_step (fun K hK => ?_); go_simp; refine ⟨_, fun _ _ => rfl, hK _ ?_⟩; clear hK K
        refine wpQuiet_nil ?_
        intro w' hw'
        have HB2 := hide (HB.out.trans (hw'.mono HB.out.size))
        clear hw' HB
        have HY : Hid (Y4 = 10 :: (M ++ B z ++ pc t fn t.length ++ B (IntKind.i64.wrap (z.tdiv 5)) ++ R (IntKind.i64.wrap (z.tdiv 25)))) := hide (by rw [← hY4, ← hY3, ← hY2, ← hY1]; simp)
        by_cases hbig : 16384 < Y4.length
        · have hbI : (16384 : Int) < (Y4.length : Int) := by omega
          clear HK HBR HS HO hY1 hY2 hY3 hY4 HY l1 l2 l3 l4 b1 b2 b3 b4 e1
          go_wp2
          (try rw [Exit.noGoto_ret])
          go_ret
          exact ⟨rfl, HB2.out⟩
        · have hbI : ¬ (16384 : Int) < (Y4.length : Int) := by omega
          have HK2 := hide (HK.out.last (HBR.out z).1.1 (HBR.out (IntKind.i64.wrap (z.tdiv 5))).1.1 (HBR.out (IntKind.i64.wrap (z.tdiv 25))).2.1 (HBR.out (IntKind.i64.wrap (z.tdiv 25))).2.2.1 (by
            have := congrArg List.length HY.out
            rw [List.length_cons] at this
            omega))
          clear HK HBR HS HO hY1 hY2 hY3 hY4 l1 l2 l3 l4 b1 b2 b3 b4 e1
          go_wp2
          refine ⟨⟨_, kn + 1, t.length + 1, t.length + 1, _, by rw [HY.out], by simp, by simp, by simp, by omega, by omega, HK2.out, HB2.out⟩, ?_⟩
          simp [intOf] <;> omega
      · have hksI : ¬ (0 : Int) < (ks.length : Int) := by omega
        clear hk
        generalize ks.length = kl at *
        go_upto_region 14 with fail
        obtain ⟨Y1, hY1⟩ : ∃ Y, (10 :: M) ++ B 0 = Y := ⟨_, rfl⟩
        obtain ⟨Y2, hY2⟩ : ∃ Y, Y1 ++ pc t fn t.length = Y := ⟨_, rfl⟩
        obtain ⟨Y3, hY3⟩ : ∃ Y, Y2 ++ B 0 = Y := ⟨_, rfl⟩
        obtain ⟨Y4, hY4⟩ : ∃ Y, Y3 ++ R 0 = Y := ⟨_, rfl⟩
        have b1 := (HBR.out 0).1.2.1
        have b2 := (HBR.out 0).1.2.1
        have b3 := (HBR.out 0).2.2.2.1
        have b4 := pc_len hf hle
        have hM := HK.out.1
        have l1 : Y1.length = M.length + 1 + (B 0).length := by rw [← hY1, List.length_append, List.length_cons]
        have l2 : Y2.length = Y1.length + (t.length - fn) := by rw [← hY2, List.length_append, b4]
        have l3 : Y3.length = Y2.length + (B 0).length := by rw [← hY3, List.length_append]
        have l4 : Y4.length = Y3.length + (R 0).length := by rw [← hY4, List.length_append]
        refine region_below (by kernel_rfl) (by kernel_rfl) ?_
        iterate 2 (refine wpQuiet_step (fun K hK => ?_); go_simp; refine ⟨_, fun _ _ => rfl, hK _ ?_⟩; clear hK K)
        refine wpQuiet_step (fun K hK => ?_)
        go_simp
        refine ⟨.string ⟨(B 0).toArray⟩, fun w' hw' => calls_below hw' ((HBR.out 0).1.2.2 w'), hK _ ?_⟩
        clear hK K
        refine wpQuiet_step (fun K hK => ?_)
        go_simp
        refine ⟨.string ⟨Y1.toArray⟩, fun w' hw' => ?_, hK _ ?_⟩
        · rw [if_neg (by omega)]; exact ⟨rfl, congrArg Value.string (cat_eq hY1)⟩
        clear hK K
        iterate 4 (refine wpQuiet_step (fun K hK => ?_); go_simp; refine ⟨_, fun _ _ => rfl, hK _ ?_⟩; clear hK K)
        refine wpQuiet_step (fun K hK => ?_)
        go_simp
        refine ⟨.string ⟨Y2.toArray⟩, fun w' hw' => ?_, hK _ ?_⟩
        · rw [if_neg (by omega)]; exact ⟨rfl, congrArg Value.string (cat_eq hY2)⟩
        clear hK K
        iterate 2 (refine wpQuiet_step (fun K hK => ?_); go_simp; refine ⟨_, fun _ _ => rfl, hK _ ?_⟩; clear hK K)
        refine wpQuiet_step (fun K hK => ?_)
        go_simp
        refine ⟨.string ⟨(B 0).toArray⟩, fun w' hw' => calls_below hw' ((HBR.out 0).1.2.2 w'), hK _ ?_⟩
        clear hK K
        refine wpQuiet_step (fun K hK => ?_)
        go_simp
        refine ⟨.string ⟨Y3.toArray⟩, fun w' hw' => ?_, hK _ ?_⟩
        · rw [if_neg (by omega)]; exact ⟨rfl, congrArg Value.string (cat_eq hY3)⟩
        clear hK K
        iterate 2 (refine wpQuiet_step (fun K hK => ?_); go_simp; refine ⟨_, fun _ _ => rfl, hK _ ?_⟩; clear hK K)
        refine wpQuiet_step (fun K hK => ?_)
        go_simp
        refine ⟨.string ⟨(R 0).toArray⟩, fun w' hw' => calls_below hw' ((HBR.out 0).2.2.2.2 w'), hK _ ?_⟩
        clear hK K
        refine wpQuiet_step (fun K hK => ?_)
        go_simp
        refine ⟨.string ⟨Y4.toArray⟩, fun w' hw' => ?_, hK _ ?_⟩
        · rw [if_neg (by omega)]; exact ⟨rfl, congrArg Value.string (cat_eq hY4)⟩
        clear hK K
        refine wpQuiet_step (fun K hK => ?_); go_simp; refine ⟨_, fun _ _ => rfl, hK _ ?_⟩; clear hK K
        refine wpQuiet_nil ?_
        intro w' hw'
        have HB2 := hide (HB.out.trans (hw'.mono HB.out.size))
        clear hw' HB
        have HY : Hid (Y4 = 10 :: (M ++ B 0 ++ pc t fn t.length ++ B 0 ++ R 0)) := hide (by rw [← hY4, ← hY3, ← hY2, ← hY1]; simp)
        by_cases hbig : 16384 < Y4.length
        · have hbI : (16384 : Int) < (Y4.length : Int) := by omega
          clear HK HBR HS HO hY1 hY2 hY3 hY4 HY l1 l2 l3 l4 b1 b2 b3 b4 e1
          go_wp2
          (try rw [Exit.noGoto_ret])
          go_ret
          exact ⟨rfl, HB2.out⟩
        · have hbI : ¬ (16384 : Int) < (Y4.length : Int) := by omega
          have HK2 := hide (HK.out.last (HBR.out 0).1.1 (HBR.out 0).1.1 (HBR.out 0).2.1 (HBR.out 0).2.2.1 (by
            have := congrArg List.length HY.out
            rw [List.length_cons] at this
            omega))
          clear HK HBR HS HO hY1 hY2 hY3 hY4 l1 l2 l3 l4 b1 b2 b3 b4 e1
          go_wp2
          refine ⟨⟨_, kn, t.length + 1, t.length + 1, _, by rw [HY.out], by simp, by simp, by simp, by omega, by omega, HK2.out, HB2.out⟩, ?_⟩
          simp [intOf] <;> omega
  · obtain rfl : n = t.length + 1 := by omega
    have HE : Hid (t.length ≤ 16383 ∧ M.length ≤ 16383 ∧ M = jl xs ∧ xs.map lineT = linesT t ∧ (∀ x ∈ xs, ∀ c ∈ x, (c == (10 : UInt8)) = false)) := hide (by
      obtain ⟨h1, h2, ⟨h3, _⟩ | ⟨_, h4, h5, h6⟩⟩ := HK.out
      · omega
      · exact ⟨by omega, h1, h5, h6, h2⟩)
    have HM : Hid (asmT (10 :: M) = ((asmT t).1, (if (asmT t).2.2 = 0 then 0 else (asmT t).2.1 + 1), (asmT t).2.2) ∧ (((asmT t).2.2 = 0 ∧ (asmT t).2.1 = 0) ∨ ((asmT t).2.2 ≠ 0 ∧ 1 ≤ (asmT t).2.1 ∧ (asmT t).1 = []))) := hide (by
      obtain ⟨a, b, c, d, e⟩ := HE.out
      rw [c]
      exact asm_more e d (by omega) (by rw [← c]; simp; omega))
    have hM := HE.out.2.1
    have HL := hide (asm_len t)
    have HU := hide (asm_line t)
    have HA := hide (fun W h => asm_any W t (by omega) h)
    have HA2 := hide (fun W h => asm_any W (10 :: M) (by simp; omega) h)
    clear HK HE HBR HS
    rw [HM.out.1] at HA2
    have HQ := hide HM.out.2
    clear HM
    obtain ⟨⟨ns, ln, er⟩, hX⟩ : ∃ X, asmT t = X := ⟨_, rfl⟩
    rw [hX] at HA HA2 HQ HL HU
    clear hX
    simp only at HA HA2 HQ HL HU
    have hle2 : ¬ ((t.length : Int) + 1) ≤ (t.length : Int) := by omega
    have hl5 := HL.out
    have hlu := HU.out
    go_wp2_with fail
    refine (HA.out _ (HO.out.below HB.out)).mono ?_
    rintro e w4 ⟨v, rfl, ho4, hb4⟩
    obtain ⟨mo, cm, rfl, hW4⟩ := Wd.of ho4
    have HB4 := hide (HB.out.trans (hb4.mono HB.out.size))
    have HW4 := hide hW4
    clear hb4 hW4 ho4 HB HA
    rcases HQ.out with ⟨rfl, rfl⟩ | ⟨he, h1, rfl⟩
    · rw [if_pos rfl] at HA2
      clear HQ
      go_wp2_with fail
      refine (HA2.out _ (HO.out.below HB4.out)).mono ?_
      rintro e w5 ⟨v, rfl, ho5, hb5⟩
      obtain ⟨m5, c5, rfl, hW5⟩ := Wd.of ho5
      have HB5 := hide (HB4.out.trans (hb5.mono HB4.out.size))
      have HW5 := hide hW5
      have HW45 := hide (HW4.out.below hb5)
      clear hb5 hW5 ho5 HB4 HA2 HW4
      go_wp2_with fail
      refine (same_any _ mo m5 cm c5 ns (by omega) HW45.out HW5.out).mono ?_
      rintro e w6 ⟨rfl, hb6⟩
      have HB6 := hide (HB5.out.trans (hb6.mono HB5.out.size))
      clear hb6 HB5
      go_wp2
      (try rw [Exit.noGoto_ret])
      go_ret
      exact ⟨rfl, HB6.out⟩
    · rw [if_neg he] at HA2
      have heb : (er == 0) = false := by simpa using he
      have h1I : (1 : Int) ≤ (ln : Int) := by omega
      clear HQ
      go_wp2_with fail
      refine (HA2.out _ (HO.out.below HB4.out)).mono ?_
      rintro e w5 ⟨v, rfl, ho5, hb5⟩
      obtain ⟨m5, c5, rfl, hW5⟩ := Wd.of ho5
      have HB5 := hide (HB4.out.trans (hb5.mono HB4.out.size))
      have HW5 := hide hW5
      have HW45 := hide (HW4.out.below hb5)
      clear hb5 hW5 ho5 HB4 HA2 HW4
      go_wp2_with fail
      refine (same_any _ mo m5 cm c5 [] (by simp) HW45.out HW5.out).mono ?_
      rintro e w6 ⟨rfl, hb6⟩
      have HB6 := hide (HB5.out.trans (hb6.mono HB5.out.size))
      clear hb6 HB5
      go_wp2
      (try rw [Exit.noGoto_ret])
      go_ret
      exact ⟨rfl, HB6.out⟩
end
end Go.Proofs.YtoaplkfmchphbaaDoor
