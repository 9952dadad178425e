import Derived.Test.YteloomlcaimlaaaH1
namespace Go.Proofs.Yteloomlcaimlaaa
open Go.RowKit
theorem u32_some (a : Int) : ∃ y : Nat, IntKind.u32.wrap a = (y : Int) ∧ y < 4294967296 := by
  refine ⟨(a % 4294967296).toNat, ?_, by omega⟩
  simp [IntKind.wrap, IntKind.signed, IntKind.bits]
  omega
theorem u8_some (a : Int) : ∃ y : Nat, IntKind.u8.wrap a = (y : Int) ∧ y < 256 := by
  refine ⟨(a % 256).toNat, ?_, by omega⟩
  simp [IntKind.wrap, IntKind.signed, IntKind.bits]
  omega
theorem five_new (w : World) (a b c d e : Nat) : Ow (w.alloc (.cells #[.int .u8 (a : Nat), .int .u8 (b : Nat), .int .u8 (c : Nat), .int .u8 (d : Nat), .int .u8 (e : Nat)] 5)) w.heap.size (.slice (some ⟨w.heap.size, 0, none⟩) 5 5) [a, b, c, d, e] :=
  ⟨rfl, .inr ⟨_, _, _, rfl, Nat.le_refl _, heap_alloc_last _ _, Nat.le_refl _, by unfold maxLen; omega, rfl, rfl⟩⟩
section
variable (w : World)
set_option maxRecDepth 100000 in
set_option maxHeartbeats 2000000 in
theorem much_walk (ov : Int) (c : Nat) (st : Bool) (_h1 : -9223372036854775808 ≤ ov) (_h2 : ov ≤ 9223372036854775807) (hc : c < 256) :
    Calls Try.prog 5 #[.int .i64 ov, .int .u8 (c : Nat), .bool st] w fun e w' => e = .returned (.bool true) ∧ Below w.heap.size w w' := by
  obtain ⟨i5, hi5, hz5, hsz5, hb5⟩ := info5'
  by_cases ho1 : ov < -300
  · go_enter Try.func5, Try.ntmps5
    go_wp2
    go_ret
    exact ⟨rfl, Below.refl _ _⟩
  by_cases ho2 : 300 < ov
  · go_enter Try.func5, Try.ntmps5
    go_wp2
    go_ret
    exact ⟨rfl, Below.refl _ _⟩
  obtain ⟨m, hm⟩ := Int.eq_ofNat_of_zero_le (show 0 ≤ 65536 + ov by omega)
  have hm2 : m ≤ 65836 := by omega
  have hwc := wu c (by omega)
  go_enter Try.func5, Try.ntmps5
  go_upto_region 4 with (refine wpList_make_full _ rfl _ _ 22 rfl w.heap.size 5 i5 (.int .u8 0) 1 Try.underlying22 hi5 hz5 hsz5 .i64 .i64 _ _ m rfl rfl rfl rfl (by rw [hb5]; omega) (by unfold maxLen; omega) (Nat.le_refl _) ?_; intro w2 ho hg)
  have HO2 : Hid (Ow w2 w.heap.size (.slice (some ⟨w.heap.size, 0, none⟩) m m) (List.replicate m 0)) := hide (by
    unfold Ow
    rw [made_bytes] at ho
    simpa using ho)
  have HB2 := hide ((Below.refl w.heap.size w).grown hg (Nat.le_refl _) (fun k hk => by cases hk))
  have HMo := hide hm
  clear ho hg hm
  go_upto_region 6 with fail
  go_loopw [8, 9] (fun xv iv wr => ∃ (X i : Nat) (zs : List Nat), xv = .int .u32 (X : Nat) ∧ X < 4294967296 ∧ iv = .int .i64 (i : Nat) ∧ i ≤ m ∧ zs.length = m ∧ Bys zs ∧ Ow wr w.heap.size (.slice (some ⟨w.heap.size, 0, none⟩) m m) zs ∧ Below w.heap.size w wr) (fun _ iv _ => m - (intOf iv).toNat)
  case atStart => exact ⟨c, 0, _, rfl, by omega, rfl, Nat.zero_le _, by simp, bys_rep (by omega), HO2.out, HB2.out⟩
  case round =>
    obtain ⟨X, i, zs, rfl, hX, rfl, hi, hzl, hzy, hO, hB⟩ := hrel
    have HZy := hide hzy
    have HZl := hide hzl
    clear HO2 HB2 hzy
    by_cases hlt : i < m
    · have hiI : (i : Int) < (m : Int) := by omega
      obtain ⟨d1, d2⟩ := hO.cell (j := i) (by omega)
      have HO3 := hide (hO.set (j := i) (z := c))
      have HB3 := hide (hB.setCell (p := ⟨w.heap.size, i, none⟩) (Nat.le_refl _) (.int .u8 (c : Nat)))
      have HZ3 := hide (bys_set (i := i) HZy.out hc)
      have HZ3l : Hid ((zs.set i c).length = m) := hide (by rw [List.length_set]; exact HZl.out)
      clear hO hB hzl
      generalize zs.getD i 0 = old at *
      go_upto_region 9 with fail
      generalize wr.setCell ⟨w.heap.size, i, none⟩ (.int .u8 (c : Nat)) = w3 at *
      clear d1 d2
      cases st with
      | false =>
        go_wp2
        go_roundw
        case rel => exact ⟨X, i + 1, _, rfl, hX, by go_num, by omega, HZ3l.out, HZ3.out, HO3.out, HB3.out⟩
        case measure => simp [intOf]; omega
      | true =>
        obtain ⟨d1, d2⟩ := HO3.out.cell (j := i) (by rw [HZ3l.out]; exact hlt)
        generalize (zs.set i c).getD i 0 = old2 at *
        have htm : (i : Int).tmod 3000 = ((i % 3000 : Nat) : Int) := (Int.ofNat_tmod i 3000).symm ▸ rfl
        by_cases h3 : i % 3000 = 0
        · have h3I : (i : Int).tmod 3000 = 0 := by rw [htm, h3]; rfl
          clear htm
          obtain ⟨Y, hY, hYl⟩ := u32_some ((c : Int) * 1103515245)
          obtain ⟨Z, hZ, hZl⟩ := u32_some ((Y : Int) + 12345)
          have hY2 : (c : Int) * 1103515245 % 4294967296 = (Y : Nat) := by rw [← hY, IntKind.wrap_u32']
          have hZ2 : ((Y : Int) + 12345) % 4294967296 = (Z : Nat) := by rw [← hZ, IntKind.wrap_u32']
          have hZ3 : ((c : Int) * 1103515245 + 12345) % 4294967296 = (Z : Nat) := by rw [← hZ2, ← hY2]; omega
          obtain ⟨q, hq⟩ : ∃ q, Z / 65536 = q := ⟨_, rfl⟩
          have hqI : (Z : Int) / 65536 = (q : Nat) := by omega
          obtain ⟨t, ht, htl⟩ := u8_some (q : Int)
          have ht2 : (q : Int) % 256 = (t : Nat) := by rw [← ht]; simp [IntKind.wrap, IntKind.signed, IntKind.bits]
          have HO4 := hide (HO3.out.set (j := i) (z := t))
          have HB4 := hide (HB3.out.setCell (p := ⟨w.heap.size, i, none⟩) (Nat.le_refl _) (.int .u8 (t : Nat)))
          have HZ4 := hide (bys_set (i := i) HZ3.out htl)
          have HZ4l : Hid (((zs.set i c).set i t).length = m) := hide (by rw [List.length_set]; exact HZ3l.out)
          clear hq h3 HO3 HB3
          go_wp2
          refine ⟨⟨Z, i + 1, _, rfl, hZl, by go_num, by omega, HZ4l.out, HZ4.out, HO4.out, HB4.out⟩, ?_⟩
          simp [intOf]; omega
        · obtain ⟨r3, hr3⟩ : ∃ r, i % 3000 = r := ⟨_, rfl⟩
          rw [hr3] at htm
          have hr3l : r3 < 3000 := by omega
          have h3I : ((r3 : Int) == 0) = false := by simp; omega
          clear hr3
          obtain ⟨Y, hY, hYl⟩ := u32_some ((X : Int) * 1103515245)
          obtain ⟨Z, hZ, hZl⟩ := u32_some ((Y : Int) + 12345)
          have hY2 : (X : Int) * 1103515245 % 4294967296 = (Y : Nat) := by rw [← hY, IntKind.wrap_u32']
          have hZ2 : ((Y : Int) + 12345) % 4294967296 = (Z : Nat) := by rw [← hZ, IntKind.wrap_u32']
          have hZ3 : ((X : Int) * 1103515245 + 12345) % 4294967296 = (Z : Nat) := by rw [← hZ2, ← hY2]; omega
          obtain ⟨q, hq⟩ : ∃ q, Z / 65536 = q := ⟨_, rfl⟩
          have hqI : (Z : Int) / 65536 = (q : Nat) := by omega
          obtain ⟨t, ht, htl⟩ := u8_some (q : Int)
          have ht2 : (q : Int) % 256 = (t : Nat) := by rw [← ht]; simp [IntKind.wrap, IntKind.signed, IntKind.bits]
          have HO4 := hide (HO3.out.set (j := i) (z := t))
          have HB4 := hide (HB3.out.setCell (p := ⟨w.heap.size, i, none⟩) (Nat.le_refl _) (.int .u8 (t : Nat)))
          have HZ4 := hide (bys_set (i := i) HZ3.out htl)
          have HZ4l : Hid (((zs.set i c).set i t).length = m) := hide (by rw [List.length_set]; exact HZ3l.out)
          clear hq h3 HO3 HB3
          go_wp2
          refine ⟨⟨Z, i + 1, _, rfl, hZl, by go_num, by omega, HZ4l.out, HZ4.out, HO4.out, HB4.out⟩, ?_⟩
          simp [intOf]; omega
    · obtain rfl : i = m := by omega
      have HO := hide hO
      have HB := hide hB
      have hsr := hB.size
      clear hO hB hzl
      have hnil := fun W => eq_nil Try.prog W (.none) 0 0 22 5 Try.underlying22
      by_cases hpos : 0 < ov
      · obtain ⟨o, rfl⟩ := Int.eq_ofNat_of_zero_le (show 0 ≤ ov by omega)
        have hbig : ¬ zs.length ≤ 65536 := by have := HMo.out; rw [HZl.out]; omega
        go_wp2_with fail
        refine (Pack_big wr _ zs _ HO.out.rb hbig).mono ?_
        rintro e w4 ⟨rfl, rfl⟩
        by_cases h255 : 255 < o
        · have h255I : (255 : Int) < (o : Int) := by omega
          obtain ⟨t, ht, htl⟩ := u8_some (o : Int)
          obtain ⟨y, hyy⟩ : ∃ y, o - 256 = y := ⟨_, rfl⟩
          have hw8 : IntKind.u8.wrap ((o : Int) - 256) = (y : Nat) := by rw [show ((o : Int) - 256) = (y : Nat) by omega]; exact wb y (by omega)
          have HY : Hid (65536 < four [y, 1, 1, 0, 0]) := hide (by
            show 65536 < y + 256 * 1 + 65536 * 1 + 16777216 * 0
            omega)
          have hyl : y < 256 := by omega
          clear hyy
          have HBy : Hid (Bys [y, 1, 1, 0, 0]) := hide (by intro c hc; simp at hc; omega)
          have HU := hide (un_long (p := [y, 1, 1, 0, 0]) (by simp) HY.out)
          go_wp2_with fail
          have HO6 := hide (five_new w4 y 1 1 0 0)
          have HB5 := hide (HB.out.alloc hsr (.cells #[.int .u8 (y : Nat), .int .u8 ((1 : Nat) : Int), .int .u8 ((1 : Nat) : Int), .int .u8 ((0 : Nat) : Int), .int .u8 ((0 : Nat) : Int)] 5))
          have hs5 := HB5.out.size
          refine (Unpack_any _ _ [y, 1, 1, 0, 0] HO6.out.rb HBy.out (by simp)).mono ?_
          rintro e w6 ⟨r6, rfl, hO6, hr6, hb6⟩
          rw [HU.out] at hr6 ⊢
          obtain rfl := hr6 (by simp)
          have HB6 := hide (HB5.out.trans (hb6.mono hs5))
          clear hO6 hr6 hb6
          go_wp2
          go_ret
          exact ⟨rfl, HB6.out⟩
        · have h255I : ¬ (255 : Int) < (o : Int) := by omega
          have hw8 : IntKind.u8.wrap (o : Int) = (o : Nat) := wb o (by omega)
          have HY : Hid (65536 < four [o, 0, 1, 0, 0]) := hide (by
            show 65536 < o + 256 * 0 + 65536 * 1 + 16777216 * 0
            omega)
          have HBy : Hid (Bys [o, 0, 1, 0, 0]) := hide (by intro c hc; simp at hc; omega)
          have HU := hide (un_long (p := [o, 0, 1, 0, 0]) (by simp) HY.out)
          go_wp2_with fail
          have HO5 := hide (five_new w4 o 0 1 0 0)
          have HB5 := hide (HB.out.alloc hsr (.cells #[.int .u8 (o : Nat), .int .u8 ((0 : Nat) : Int), .int .u8 ((1 : Nat) : Int), .int .u8 ((0 : Nat) : Int), .int .u8 ((0 : Nat) : Int)] 5))
          have hs5 := HB5.out.size
          refine (Unpack_any _ _ [o, 0, 1, 0, 0] HO5.out.rb HBy.out (by simp)).mono ?_
          rintro e w6 ⟨r6, rfl, hO6, hr6, hb6⟩
          rw [HU.out] at hr6 ⊢
          obtain rfl := hr6 (by simp)
          have HB6 := hide (HB5.out.trans (hb6.mono hs5))
          clear hO6 hr6 hb6
          go_wp2
          go_ret
          exact ⟨rfl, HB6.out⟩
      · have hsm : zs.length ≤ 65536 := by have := HMo.out; rw [HZl.out]; omega
        go_wp2_with fail
        refine (Pack_ok wr _ zs HO.out.rb HZy.out hsm).mono ?_
        rintro e w4 ⟨r4, rfl, hO4, hb4⟩
        have HO4 := hide hO4
        have HB4 := hide (HB.out.trans (hb4.mono hsr))
        have HZ4 := hide (HO.out.keep hb4 (Nat.le_refl _))
        have hs4 := HB4.out.size
        obtain ⟨a4, k4, c4, rfl, HK4, _⟩ := hO4.len2
        clear hO4 hb4 HO HB
        go_wp2_with fail
        refine (Unpack_pkd w4 _ zs HO4.out.rb HZy.out hsm).mono ?_
        rintro e w5 ⟨r5, rfl, hO5, hb5⟩
        have HO5 := hide hO5
        have HB5 := hide (HB4.out.trans (hb5.mono hs4))
        have HZ5 := hide (HZ4.out.keep hb5 (Nat.le_refl _))
        have HO45 := hide (HO4.out.keep hb5 (Nat.le_refl _))
        have hs5 := HB5.out.size
        obtain ⟨a5, k5, c5, rfl, HK5, _⟩ := hO5.len2
        clear hO5 hb5 HO4 HB4 HZ4
        go_wp2_with fail
        refine (Size_pkd w5 _ zs HO45.out.rb HZy.out hsm).mono ?_
        rw [HZl.out]
        rintro e w6 ⟨rfl, hb6⟩
        have HB6 := hide (HB5.out.trans (hb6.mono hs5))
        have HZ6 := hide (HZ5.out.keep hb6 (Nat.le_refl _))
        have HO56 := hide (HO5.out.keep hb6 (Nat.le_refl _))
        have hs6 := HB6.out.size
        clear hb6 HO45 HB5 HZ5 HO5
        go_wp2_with fail
        refine (same_true w6 _ _ zs _ _ HO56.out.rb HZ6.out.rb (by omega)).mono ?_
        rintro e w7 ⟨rfl, hb7⟩
        have HB7 := hide (HB6.out.trans (hb7.mono hs6))
        clear hb7
        go_wp2
        go_ret
        exact ⟨rfl, HB7.out⟩
end
end Go.Proofs.Yteloomlcaimlaaa
