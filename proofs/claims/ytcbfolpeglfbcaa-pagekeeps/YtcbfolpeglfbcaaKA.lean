import Derived.Test.YtcbfolpeglfbcaaGE
namespace Go.Proofs.Ytcbfolpeglfbcaa
open Go.RowKit
set_option maxRecDepth 100000 in
set_option maxHeartbeats 4000000 in
theorem keeps_walk (a : Option Addr) (len cap : Nat) (Z : Nat → Ost) (w : World) (hl : len ≤ maxLen) (hz : IsOps w a len Z) :
    Calls Try.prog 6 #[.slice a len cap] w fun e w' => e = .returned (.bool true) ∧ Below w.heap.size w w' := by
  have HZ := hide hz
  have hl' : len ≤ 9223372036854775807 := hl
  clear hz
  go_enter Try.func6, Try.ntmps6
  go_wp2_with fail
  refine (first_any w).mono ?_
  rintro e w1 ⟨rfl, h1, hb1⟩
  have HS1 : Hid (Ts w w1 w.heap.size (upd nil 3 (some (7, false)))) := hide ⟨h1, first_sm, hb1, Nat.le_refl _⟩
  clear h1 hb1
  obtain ⟨B, hB⟩ : ∃ B, w.heap.size = B := ⟨_, rfl⟩
  rw [hB] at HS1 ⊢
  go_upto_region 5 with fail
  go_loopw [4] (fun i wr => ∃ (k : Nat) (m : Nat → E), k ≤ len ∧ i = .int .i64 (k : Int) ∧ Ts w wr B m) (fun i _ => len - (intOf i).toNat)
  case atStart => exact ⟨0, _, by omega, rfl, HS1.out⟩
  case round =>
    obtain ⟨k, m, hk, rfl, hS⟩ := hrel
    clear HS1
    by_cases hlt : k < len
    · have hd : decide (k < len) = true := by simp; omega
      obtain ⟨x, hx, ho⟩ := (HZ.out.below hS.b) k hlt
      subst hx
      obtain ⟨o, ho0⟩ : ∃ o, Z k = o := ⟨_, rfl⟩
      rw [ho0] at ho
      have hc : ∀ (j : Nat) (v : Value), [Value.int .i64 o.kd, .int .i64 o.t, .int .i64 o.v, .int .i64 o.s, .bool o.b, .int .u32 (o.ad : Nat), .slice o.la o.ll o.lc][j]? = some v → wr.cell? ((x.add (k * 7)).add j) = some v := ho.c
      have hN : Ob (wr.alloc (.cells #[.int .i64 o.kd, .int .i64 o.t, .int .i64 o.v, .int .i64 o.s, .bool o.b, .int .u32 (o.ad : Nat), .slice o.la o.ll o.lc] 31)) wr.heap.size o := Ob.new wr o
      have hb1 : Below wr.heap.size wr (wr.alloc (.cells #[.int .i64 o.kd, .int .i64 o.t, .int .i64 o.v, .int .i64 o.s, .bool o.b, .int .u32 (o.ad : Nat), .slice o.la o.ll o.lc] 31)) := (Below.refl _ _).alloc (Nat.le_refl _) _
      have HC := hide hc
      have HO := hide (And.intro (ho.z.below hb1) ho.l)
      have HX := hide (And.intro (hS.below hb1) hN)
      have hBM : B ≠ wr.heap.size := by have := hS.t.lt; omega
      clear ho hS hc hN hb1
      go_upto_region 8 with (refine load_st 31 _ Try.underlying31 rfl [.int .i64 o.kd, .int .i64 o.t, .int .i64 o.v, .int .i64 o.s, .bool o.b, .int .u32 (o.ad : Nat), .slice o.la o.ll o.lc] info31 rfl _ rfl (x.add (k * 7)) rfl HC.out ?_)
      generalize wr.alloc (.cells #[.int .i64 o.kd, .int .i64 o.t, .int .i64 o.v, .int .i64 o.s, .bool o.b, .int .u32 (o.ad : Nat), .slice o.la o.ll o.lc] 31) = w2 at *
      generalize wr.heap.size = M at *
      have o0 : w2.cell? ⟨M, 0, none⟩ = some (.int .i64 o.kd) := HX.out.2.get rfl
      clear HC
      by_cases hkd : o.kd = 1 ∨ o.kd = 2 ∨ o.kd = 3 ∨ o.kd = 6
      · have d1 : decide (o.kd < 1) = false := by simp; omega
        have d2 : decide (6 < o.kd) = false := by simp; omega
        have d3 : (o.kd == 4) = false := by simp; omega
        have d4 : (o.kd == 5) = false := by simp; omega
        have HK := hide hkd
        clear hkd
        go_upto_region 9 with fail
        clear d1 d2 d3 d4
        go_wp2_with fail
        refine (seen_any w2 B m HX.out.1.t).mono ?_
        rintro e w3 ⟨rfl, hb3⟩
        obtain ⟨hn, hb4⟩ := seen_new w3 m
        have hBN : B ≠ w3.heap.size := by have := (HX.out.1.below hb3).t.lt; omega
        have HY := hide (And.intro ((HX.out.1.below hb3).below hb4) (And.intro ((HX.out.2.below hb3).below hb4) (And.intro hn ((HO.out.1.below hb3).below hb4))))
        rw [sc_nil] at HY
        clear hn hb4 hb3
        go_upto_region 10 with (refine wpList_store_row rfl 35 _ _ rfl w3.heap.size (sc m).toArray rfl rfl 35 _ (heap_alloc_last w3 _) (by simp only [List.size_toArray, sc_len]; exact info35) (by simp only [List.size_toArray, sc_len]; rfl) (all_oneCell_toArray (sc_one m)) ?_)
        generalize (w3.alloc (.cells _ 35)).setRow w3.heap.size (sc m).toArray = w4 at *
        generalize w3.heap.size = N at *
        have hi35 : ∀ m : Nat → E, (Try.prog.info? 35).map (·.size) = some (sc m).length := fun m => by rw [sc_len]; exact info35
        clear HX o0
        go_wp2_with (refine load_st 31 _ Try.underlying31 rfl o.cells info31 rfl _ rfl ⟨M, 0, none⟩ rfl (fun j v hv => by rw [add0]; exact HY.out.2.1.get hv) ?_)
        refine (done_any w4 B m o HY.out.1.t HY.out.2.2.2 HO.out.2).mono ?_
        rintro e w5 ⟨c, m', rfl, hst, hg⟩
        have HS := hide hst
        have HW := hide (And.intro (HY.out.1.go hg (hst.sm HY.out.1.s)) (And.intro (HY.out.2.1.mod hg.2 (fun e => hBM e.symm)) (HY.out.2.2.1.mod hg.2 (fun e => hBN e.symm))))
        clear hst hg HY HO
        go_wp2_with fail
        refine (seen_any w5 B m' HW.out.1.t).mono ?_
        rintro e w6 ⟨rfl, hb6⟩
        obtain ⟨hn, hb7⟩ := seen_new w6 m'
        have HV := hide (And.intro ((HW.out.1.below hb6).below hb7) (And.intro ((HW.out.2.1.below hb6).below hb7) (And.intro ((HW.out.2.2.below hb6).below hb7) hn)))
        rw [sc_nil] at HV
        clear hn hb7 hb6 HW
        go_upto_region 12 with (refine wpList_store_row rfl 35 _ _ rfl w6.heap.size (sc m').toArray rfl rfl 35 _ (heap_alloc_last w6 _) (by simp only [List.size_toArray, sc_len]; exact info35) (by simp only [List.size_toArray, sc_len]; rfl) (all_oneCell_toArray (sc_one m')) ?_)
        generalize (w6.alloc (.cells _ 35)).setRow w6.heap.size (sc m').toArray = w7 at *
        generalize w6.heap.size = N2 at *
        go_wp2_with (first
          | refine load_st 35 _ Try.underlying35 rfl (sc m) (hi35 m) rfl _ rfl ⟨N, 0, none⟩ rfl (fun j v hv => by rw [add0]; exact HV.out.2.2.1.get hv) ?_
          | refine load_st 31 _ Try.underlying31 rfl o.cells info31 rfl _ rfl ⟨M, 0, none⟩ rfl (fun j v hv => by rw [add0]; exact HV.out.2.1.get hv) ?_)
        refine (must_any w7 m o c m' HS.out HK.out).mono ?_
        rintro e w8 ⟨rfl, hb8⟩
        have HU := hide (And.intro (HV.out.1.below hb8) (And.intro (HV.out.2.1.below hb8) (And.intro (HV.out.2.2.1.below hb8) (HV.out.2.2.2.below hb8))))
        clear HV hb8
        go_wp2_with (first
          | refine load_st 35 _ Try.underlying35 rfl (sc m) (hi35 m) rfl _ rfl ⟨N, 0, none⟩ rfl (fun j v hv => by rw [add0]; exact HU.out.2.2.1.get hv) ?_
          | refine load_st 35 _ Try.underlying35 rfl (sc m') (hi35 m') rfl _ rfl ⟨N2, 0, none⟩ rfl (fun j v hv => by rw [add0]; exact HU.out.2.2.2.get hv) ?_
          | refine load_st 31 _ Try.underlying31 rfl o.cells info31 rfl _ rfl ⟨M, 0, none⟩ rfl (fun j v hv => by rw [add0]; exact HU.out.2.1.get hv) ?_)
        refine (stepped_any w8 m o c m' HS.out HK.out).mono ?_
        rintro e w9 ⟨rfl, hb9⟩
        have HT := hide (HU.out.1.below hb9)
        clear HU hb9 HS
        go_wp2
        go_roundw
        case rel => exact ⟨k + 1, m', by omega, by go_num, HT.out⟩
        case measure => simp [intOf]; omega
      · have hx : o.kd < 1 ∨ (¬ o.kd < 1 ∧ 6 < o.kd) ∨ o.kd = 4 ∨ o.kd = 5 := by omega
        clear hkd HO
        rcases hx with hx | ⟨hx, hx2⟩ | hx | hx
        · go_wp2
          go_roundw
          case rel => exact ⟨k + 1, m, by omega, by go_num, HX.out.1⟩
          case measure => simp [intOf]; omega
        · go_wp2
          go_roundw
          case rel => exact ⟨k + 1, m, by omega, by go_num, HX.out.1⟩
          case measure => simp [intOf]; omega
        · rw [hx] at o0
          go_wp2
          go_roundw
          case rel => exact ⟨k + 1, m, by omega, by go_num, HX.out.1⟩
          case measure => simp [intOf]; omega
        · rw [hx] at o0
          go_wp2
          go_roundw
          case rel => exact ⟨k + 1, m, by omega, by go_num, HX.out.1⟩
          case measure => simp [intOf]; omega
    · have hd : decide (k < len) = false := by simp; omega
      have HB := hide hS.b
      clear hS
      go_wp2
      go_ret
      exact ⟨rfl, HB.out⟩
end Go.Proofs.Ytcbfolpeglfbcaa
