import Derived.ProofKit
import Derived.OpenShut
import Derived.Lib.LaidTab
import Derived.Shelf.Vars
import Derived.Deep.Slices
import Derived.Test.YtiafodeabdhcoaaGreatDoorM00
import Derived.Test.YtiafodeabdhcoaaGreatDoorM02
import Derived.Test.YtiafodeabdhcoaaGreatDoorM19
namespace Go.Proofs.YtiafodeabdhcoaaGreatDoor
open Go.RowKit
set_option maxHeartbeats 16000000 in
set_option maxRecDepth 100000 in
theorem rests_some (w : World) (s : Tx) (answers : List Nat) (ad : Addr) (cap : Nat) (less more : Int) (hs : s.length ≤ 4000000000000000000) (hG : Lg w) (h9 : 9 ≤ w.heap.size) (hA : AnIn w (.slice (some ad) answers.length cap) answers) (ha : ∀ x ∈ answers, x ≤ 4294967295) (hal : answers.length ≤ 35184372087808) : Calls Tryz.prog 3 #[.string ⟨s.toArray⟩, .slice (some ad) answers.length cap, .int .i64 less, .int .i64 more] w fun e w' => e = .returned (.bool true) ∧ Below w.heap.size w w' := by
  obtain ⟨i5, hi, hz, hsz, hbt⟩ := info_w32
  have HA := hide hA
  have Ha := hide ha
  clear hA ha
  have HL := hide (lives_any w hG h9)
  have HG := hide hG
  clear hG
  go_enter Tryz.func3, Tryz.ntmps3
  go_wp2_with fail
  refine HL.out.mono ?_
  rintro e w1 ⟨rfl, hb1⟩
  have HB1 := hide hb1
  clear hb1 HL
  by_cases c1 : less < 0
  · go_wp2
    go_ret
    exact ⟨rfl, HB1.out⟩
  by_cases c2 : more < less
  · go_wp2
    go_ret
    exact ⟨rfl, HB1.out⟩
  by_cases c3 : 5000 < more
  · go_wp2
    go_ret
    exact ⟨rfl, HB1.out⟩
  obtain ⟨nl, rfl⟩ := Int.eq_ofNat_of_zero_le (show 0 ≤ less by omega)
  obtain ⟨nm, rfl⟩ := Int.eq_ofNat_of_zero_le (show 0 ≤ more by omega)
  obtain ⟨A, B, ln, er, hA, hB, hqA, hqB, hF⟩ := ev_two s answers Ha.out nl nm (by omega) (by omega)
  have HEA := hide hA
  have HEB := hide hB
  have HQA := hide hqA
  have HQB := hide hqB
  have HF := hide hF
  clear hA hB hqA hqB hF
  have HNw2 := hide (an_cells (HA.out.keep HB1.out))
  have h0w2 : w1.ownsRow w1.heap.size 30 1 (.slice none 0 0) 0 [] := ⟨rfl, .inl ⟨rfl, rfl⟩⟩
  go_upto_region 7 with (at_builtin; refine wpList_append_own _ rfl _ _ 22 rfl w1.heap.size 30 i5 (.int .u32 0) 1 4 Tryz.underlying22 hi hz hsz hbt rfl (by decide) (.slice none 0 0) 0 [] rfl h0w2 ad answers.length cap (answers.map fun x => Value.int .u32 (x : Nat)) rfl (by simp) HNw2.out (by intro u hu; simp at hu; obtain ⟨x, _, rfl⟩ := hu; rfl) (by unfold maxLen; omega) (by omega) (Nat.le_refl _) ?_; intro vw2 w2 how2 hgw2 _; obtain ⟨aw2, cw2, rfl, hww2⟩ := an_own how2)
  have HXw2 : Hid (Below w1.heap.size w1 w2) := hide ((Below.refl w1.heap.size w1).grown hgw2 (Nat.le_refl _) (fun j hj => by simp [Value.ownBlock] at hj))
  have HB2 := hide (HB1.out.trans (((Below.refl w1.heap.size w1).grown hgw2 (Nat.le_refl _) (fun j hj => by simp [Value.ownBlock] at hj)).mono HB1.out.size))
  have HIw2 := hide hww2
  clear how2 hgw2 hww2 HNw2 h0w2
  refine (eval_at w2 s _ answers _ A ln er HEA.out HQA.out hs (HG.out.below HB2.out) (by have := HB2.out.size; omega) HIw2.out Ha.out).mono ?_
  rintro e w3 ⟨aA, cA, rfl, hO, hb⟩
  have hbp : Below w3.heap.size w3 (putB (w3.alloc (.cells #[.slice none 0 0, .int .i64 0, .int .i64 0, .int .i64 0, .int .i64 0] 26)) w3.heap.size [.slice aA A.outs.length cA, .int .i64 (A.state : Nat), .int .i64 (A.code : Nat), .int .i64 (A.taken : Nat), .int .i64 (A.used : Nat)] 26) := putB_below ((Below.refl _ _).alloc (Nat.le_refl _) _) (Nat.le_refl _) _ _
  have HZ1 : Hid (Blk (w3.alloc (.cells #[.slice none 0 0, .int .i64 0, .int .i64 0, .int .i64 0, .int .i64 0] 26)) w3.heap.size 26 meZ) := hide ⟨heap_alloc_last _ _⟩
  have HK1 := hide (HZ1.out.put [.slice aA A.outs.length cA, .int .i64 (A.state : Nat), .int .i64 (A.code : Nat), .int .i64 (A.taken : Nat), .int .i64 (A.used : Nat)])
  have HO1 := hide (hO.keep hbp)
  have HB4 := hide (HB2.out.trans ((hb.trans (hbp.mono hb.size)).mono HB2.out.size))
  clear hO hb hbp
  go_upto_region 7 with (refine storeB [.slice aA A.outs.length cA, .int .i64 (A.state : Nat), .int .i64 (A.code : Nat), .int .i64 (A.taken : Nat), .int .i64 (A.used : Nat)] info_me rfl rfl _ _ rfl w3.heap.size rfl rfl _ HZ1.out rfl ?_)
  generalize hw4 : putB (w3.alloc (.cells #[.slice none 0 0, .int .i64 0, .int .i64 0, .int .i64 0, .int .i64 0] 26)) w3.heap.size [.slice aA A.outs.length cA, .int .i64 (A.state : Nat), .int .i64 (A.code : Nat), .int .i64 (A.taken : Nat), .int .i64 (A.used : Nat)] 26 = w4 at *
  clear hw4 HZ1
  have HNw5 := hide (an_cells (HA.out.keep HB4.out))
  have h0w5 : w4.ownsRow w4.heap.size 30 1 (.slice none 0 0) 0 [] := ⟨rfl, .inl ⟨rfl, rfl⟩⟩
  go_upto_region 8 with (at_builtin; refine wpList_append_own _ rfl _ _ 22 rfl w4.heap.size 30 i5 (.int .u32 0) 1 4 Tryz.underlying22 hi hz hsz hbt rfl (by decide) (.slice none 0 0) 0 [] rfl h0w5 ad answers.length cap (answers.map fun x => Value.int .u32 (x : Nat)) rfl (by simp) HNw5.out (by intro u hu; simp at hu; obtain ⟨x, _, rfl⟩ := hu; rfl) (by unfold maxLen; omega) (by omega) (Nat.le_refl _) ?_; intro vw5 w5 how5 hgw5 _; obtain ⟨aw5, cw5, rfl, hww5⟩ := an_own how5)
  have HXw5 : Hid (Below w4.heap.size w4 w5) := hide ((Below.refl w4.heap.size w4).grown hgw5 (Nat.le_refl _) (fun j hj => by simp [Value.ownBlock] at hj))
  have HB5 := hide (HB4.out.trans (((Below.refl w4.heap.size w4).grown hgw5 (Nat.le_refl _) (fun j hj => by simp [Value.ownBlock] at hj)).mono HB4.out.size))
  have HIw5 := hide hww5
  clear how5 hgw5 hww5 HNw5 h0w5
  refine (eval_at w5 s _ answers _ B ln er HEB.out HQB.out hs (HG.out.below HB5.out) (by have := HB5.out.size; omega) HIw5.out Ha.out).mono ?_
  rintro e w6 ⟨aB, cB, rfl, hO, hb⟩
  have HO1b := hide (HO1.out.keep (HXw5.out.trans (hb.mono HXw5.out.size)))
  have HK1b := hide (HK1.out.below (HXw5.out.trans (hb.mono HXw5.out.size)) HK1.out.lt)
  have hbp : Below w6.heap.size w6 (putB (w6.alloc (.cells #[.slice none 0 0, .int .i64 0, .int .i64 0, .int .i64 0, .int .i64 0] 26)) w6.heap.size [.slice aB B.outs.length cB, .int .i64 (B.state : Nat), .int .i64 (B.code : Nat), .int .i64 (B.taken : Nat), .int .i64 (B.used : Nat)] 26) := putB_below ((Below.refl _ _).alloc (Nat.le_refl _) _) (Nat.le_refl _) _ _
  have HZ2 : Hid (Blk (w6.alloc (.cells #[.slice none 0 0, .int .i64 0, .int .i64 0, .int .i64 0, .int .i64 0] 26)) w6.heap.size 26 meZ) := hide ⟨heap_alloc_last _ _⟩
  have HK2 := hide (HZ2.out.put [.slice aB B.outs.length cB, .int .i64 (B.state : Nat), .int .i64 (B.code : Nat), .int .i64 (B.taken : Nat), .int .i64 (B.used : Nat)])
  have HO2 := hide (hO.keep hbp)
  have HO1c := hide (HO1b.out.keep hbp)
  have HK1c := hide (HK1b.out.below hbp HK1b.out.lt)
  have HB7 := hide (HB5.out.trans ((hb.trans (hbp.mono hb.size)).mono HB5.out.size))
  clear hO hb hbp
  go_upto_region 8 with (refine storeB [.slice aB B.outs.length cB, .int .i64 (B.state : Nat), .int .i64 (B.code : Nat), .int .i64 (B.taken : Nat), .int .i64 (B.used : Nat)] info_me rfl rfl _ _ rfl w6.heap.size rfl rfl _ HZ2.out rfl ?_)
  generalize hw7 : putB (w6.alloc (.cells #[.slice none 0 0, .int .i64 0, .int .i64 0, .int .i64 0, .int .i64 0] 26)) w6.heap.size [.slice aB B.outs.length cB, .int .i64 (B.state : Nat), .int .i64 (B.code : Nat), .int .i64 (B.taken : Nat), .int .i64 (B.used : Nat)] 26 = w7 at *
  clear hw7 HZ2
  obtain ⟨ma, hma⟩ : ∃ n, A.outs.length = n := ⟨_, rfl⟩
  obtain ⟨mb, hmb⟩ : ∃ n, B.outs.length = n := ⟨_, rfl⟩
  have HLA := hide hma
  have HLB := hide hmb
  clear HO1 HO1b HK1 HK1b HEA HEB HQA HQB HXw2 HXw5 HG
  rw [hma] at HO1c HK1c
  rw [hmb] at HO2 HK2
  rw [hma, hmb]
  clear hma hmb
  by_cases he : er = 0
  · subst he
    have HR := hide (HF.out rfl)
    have i1 : ¬ (nl : Int) < (A.used : Nat) := by have := HR.out.ul; omega
    have i2 : ¬ (nm : Int) < (B.used : Nat) := by have := HR.out.um; omega
    have i3 : ¬ (mb : Int) < (ma : Nat) := by obtain ⟨tl, h⟩ := HR.out.o; have h2 := congrArg List.length h; rw [List.length_append, HLA.out, HLB.out] at h2; omega
    have i4 : ¬ (B.taken : Int) < (A.taken : Nat) := by have := HR.out.t; omega
    have j5 : ¬ (answers.length : Int) < (A.taken : Nat) := by have := HR.out.ta; simp at this ⊢; omega
    have hma : ma ≤ mb := by omega
    have hmb : mb ≤ 1000000 := by have := HR.out.ol; rw [HLB.out] at this; exact this
    have b0 := HK1c.out.get (j := 0) rfl
    have b1 := HK1c.out.get (j := 1) rfl
    have b3 := HK1c.out.get (j := 3) rfl
    have b4 := HK1c.out.get (j := 4) rfl
    have d0 := HK2.out.get (j := 0) rfl
    have d3 := HK2.out.get (j := 3) rfl
    have d4 := HK2.out.get (j := 4) rfl
    go_upto_region 13 with fail
    clear b0 b1 b3 b4 d0 d3 d4
    clear i1 i2 i3 i4 j5
    go_loopw [16] (fun i wr => ∃ k : Nat, k ≤ ma ∧ i = .int .i64 (k : Nat) ∧ ∃ d, wr = w7.drewN d) (fun i _ => ma - (RowKit.intOf i).toNat)
    case atStart => exact ⟨0, by omega, rfl, 0, by rw [World.drewN_zero]⟩
    case round =>
      obtain ⟨k, hk, rfl, d, hd⟩ := hrel
      have k1 := HK1c.out.drew d
      have k2 := HK2.out.drew d
      have k3 := HO1c.out.drew d
      have k4 := HO2.out.drew d
      have HBr : Hid (Below w.heap.size w (w7.drewN d)) := hide (HB7.out.trans ⟨rfl, rfl, rfl, Nat.le_refl _, fun _ _ => rfl⟩)
      rw [← hd] at k1 k2 k3 k4 HBr
      have HD : Hid (∃ d, wr = w7.drewN d) := hide ⟨d, hd⟩
      clear hd
      have b0 := k1.get (j := 0) rfl
      have d0 := k2.get (j := 0) rfl
      by_cases hlt : k < ma
      · obtain ⟨x, hx⟩ : ∃ x, A.outs[k]? = some x := ⟨A.outs[k]'(by rw [HLA.out]; exact hlt), List.getElem?_eq_getElem _⟩
        have hx2 : B.outs[k]? = some x := by obtain ⟨tl, h⟩ := HR.out.o; rw [h, List.getElem?_append_left (by rw [HLA.out]; exact hlt)]; exact hx
        obtain ⟨y, rfl, a0, a1⟩ := k3.at hx
        obtain ⟨y2, rfl, f0, f1⟩ := k4.at hx2
        have hki : (k : Int) < ma := by omega
        have hkj : (k : Int) < mb := by omega
        obtain ⟨xs, xw⟩ := x
        dsimp only at a0 a1 f0 f1
        clear hx hx2 k1 k2 k3 k4
        go_upto_region 15 with fail
        go_quiet (fail)
        go_wp2
        go_roundw
        case rel => exact ⟨k + 1, by omega, by go_num, by obtain ⟨d, rfl⟩ := HD.out; exact ⟨_, World.drewN_drewN _ _ _⟩⟩
        case measure => simp [RowKit.intOf]; omega
      · obtain rfl : k = ma := by omega
        have b1 := k1.get (j := 1) rfl
        have b2 := k1.get (j := 2) rfl
        have b3 := k1.get (j := 3) rfl
        have b4 := k1.get (j := 4) rfl
        have d1 := k2.get (j := 1) rfl
        have d2 := k2.get (j := 2) rfl
        have d3 := k2.get (j := 3) rfl
        have d4 := k2.get (j := 4) rfl
        rcases HR.out.c with ⟨q1, q2, q3⟩ | ⟨q1, q2, q3⟩
        · have hst : ((A.state : Int) != 1) = true := by simp; omega
          have HSM := hide (sameMeaning_any wr A (.slice aA k cA) (.slice aB mb cB) k3 (by rw [← q2]; exact k4) (by rw [HLA.out]; omega))
          rw [← q3 (.slice aB mb cB)] at HSM
          have HKa := hide k1.cells
          have HKb := hide k2.cells
          clear q1 q2 q3 k1 k2 k3 k4
          clear b2 b3 b4 d0 d1 d2 d3 d4
          go_upto_region 18 with fail
          clear b0 b1
          go_wp2_with (first | (refine loadT Tryz.underlying26 rfl [.slice aA k cA, .int .i64 (A.state : Nat), .int .i64 (A.code : Nat), .int .i64 (A.taken : Nat), .int .i64 (A.used : Nat)] info_me rfl _ rfl ⟨w3.heap.size, 0, none⟩ rfl HKa.out ?_) | (refine loadT Tryz.underlying26 rfl [.slice aB mb cB, .int .i64 (B.state : Nat), .int .i64 (B.code : Nat), .int .i64 (B.taken : Nat), .int .i64 (B.used : Nat)] info_me rfl _ rfl ⟨w6.heap.size, 0, none⟩ rfl HKb.out ?_))
          refine HSM.out.mono ?_
          rintro e w8 ⟨rfl, hb8⟩
          have HB8 := hide (HBr.out.trans (hb8.mono HBr.out.size))
          clear hb8
          go_wp2
          go_ret
          exact ⟨rfl, HB8.out⟩
        · clear k1 k2 k3 k4
          rw [q1] at b1
          rw [q2] at b2
          rw [q3] at b4
          clear q1 q2 q3
          go_wp2
          go_ret
          exact ⟨rfl, HBr.out⟩
  · have hei : ((er : Int) != 0) = true := by simp; omega
    clear he
    go_wp2
    go_ret
    exact ⟨rfl, HB7.out⟩
set_option maxHeartbeats 16000000 in
set_option maxRecDepth 100000 in
theorem rests_none (w : World) (s : Tx) (less more : Int) (hs : s.length ≤ 4000000000000000000) (hG : Lg w) (h9 : 9 ≤ w.heap.size) : Calls Tryz.prog 3 #[.string ⟨s.toArray⟩, .slice none 0 0, .int .i64 less, .int .i64 more] w fun e w' => e = .returned (.bool true) ∧ Below w.heap.size w w' := by
  have HA : Hid (∀ w' : World, AnIn w' (.slice none 0 0) []) := hide (fun w' => ⟨none, 0, rfl, Nat.le_refl _, fun i hi => absurd hi (Nat.not_lt_zero _)⟩)
  have Ha : Hid (∀ x ∈ ([] : List Nat), x ≤ 4294967295) := hide (fun x hx => by cases hx)
  have HL := hide (lives_any w hG h9)
  have HG := hide hG
  clear hG
  go_enter Tryz.func3, Tryz.ntmps3
  go_wp2_with fail
  refine HL.out.mono ?_
  rintro e w1 ⟨rfl, hb1⟩
  have HB1 := hide hb1
  clear hb1 HL
  by_cases c1 : less < 0
  · go_wp2
    go_ret
    exact ⟨rfl, HB1.out⟩
  by_cases c2 : more < less
  · go_wp2
    go_ret
    exact ⟨rfl, HB1.out⟩
  by_cases c3 : 5000 < more
  · go_wp2
    go_ret
    exact ⟨rfl, HB1.out⟩
  obtain ⟨nl, rfl⟩ := Int.eq_ofNat_of_zero_le (show 0 ≤ less by omega)
  obtain ⟨nm, rfl⟩ := Int.eq_ofNat_of_zero_le (show 0 ≤ more by omega)
  obtain ⟨A, B, ln, er, hA, hB, hqA, hqB, hF⟩ := ev_two s [] Ha.out nl nm (by omega) (by omega)
  have HEA := hide hA
  have HEB := hide hB
  have HQA := hide hqA
  have HQB := hide hqB
  have HF := hide hF
  clear hA hB hqA hqB hF
  have HXw2 := hide (Below.refl w1.heap.size w1)
  go_wp2_with fail
  refine (eval_at w1 s _ [] _ A ln er HEA.out HQA.out hs (HG.out.below HB1.out) (by have := HB1.out.size; omega) (HA.out w1) Ha.out).mono ?_
  rintro e w3 ⟨aA, cA, rfl, hO, hb⟩
  have hbp : Below w3.heap.size w3 (putB (w3.alloc (.cells #[.slice none 0 0, .int .i64 0, .int .i64 0, .int .i64 0, .int .i64 0] 26)) w3.heap.size [.slice aA A.outs.length cA, .int .i64 (A.state : Nat), .int .i64 (A.code : Nat), .int .i64 (A.taken : Nat), .int .i64 (A.used : Nat)] 26) := putB_below ((Below.refl _ _).alloc (Nat.le_refl _) _) (Nat.le_refl _) _ _
  have HZ1 : Hid (Blk (w3.alloc (.cells #[.slice none 0 0, .int .i64 0, .int .i64 0, .int .i64 0, .int .i64 0] 26)) w3.heap.size 26 meZ) := hide ⟨heap_alloc_last _ _⟩
  have HK1 := hide (HZ1.out.put [.slice aA A.outs.length cA, .int .i64 (A.state : Nat), .int .i64 (A.code : Nat), .int .i64 (A.taken : Nat), .int .i64 (A.used : Nat)])
  have HO1 := hide (hO.keep hbp)
  have HB4 := hide (HB1.out.trans ((hb.trans (hbp.mono hb.size)).mono HB1.out.size))
  clear hO hb hbp
  go_upto_region 7 with (refine storeB [.slice aA A.outs.length cA, .int .i64 (A.state : Nat), .int .i64 (A.code : Nat), .int .i64 (A.taken : Nat), .int .i64 (A.used : Nat)] info_me rfl rfl _ _ rfl w3.heap.size rfl rfl _ HZ1.out rfl ?_)
  generalize hw4 : putB (w3.alloc (.cells #[.slice none 0 0, .int .i64 0, .int .i64 0, .int .i64 0, .int .i64 0] 26)) w3.heap.size [.slice aA A.outs.length cA, .int .i64 (A.state : Nat), .int .i64 (A.code : Nat), .int .i64 (A.taken : Nat), .int .i64 (A.used : Nat)] 26 = w4 at *
  clear hw4 HZ1
  have HXw5 := hide (Below.refl w4.heap.size w4)
  go_wp2_with fail
  refine (eval_at w4 s _ [] _ B ln er HEB.out HQB.out hs (HG.out.below HB4.out) (by have := HB4.out.size; omega) (HA.out w4) Ha.out).mono ?_
  rintro e w6 ⟨aB, cB, rfl, hO, hb⟩
  have HO1b := hide (HO1.out.keep (HXw5.out.trans (hb.mono HXw5.out.size)))
  have HK1b := hide (HK1.out.below (HXw5.out.trans (hb.mono HXw5.out.size)) HK1.out.lt)
  have hbp : Below w6.heap.size w6 (putB (w6.alloc (.cells #[.slice none 0 0, .int .i64 0, .int .i64 0, .int .i64 0, .int .i64 0] 26)) w6.heap.size [.slice aB B.outs.length cB, .int .i64 (B.state : Nat), .int .i64 (B.code : Nat), .int .i64 (B.taken : Nat), .int .i64 (B.used : Nat)] 26) := putB_below ((Below.refl _ _).alloc (Nat.le_refl _) _) (Nat.le_refl _) _ _
  have HZ2 : Hid (Blk (w6.alloc (.cells #[.slice none 0 0, .int .i64 0, .int .i64 0, .int .i64 0, .int .i64 0] 26)) w6.heap.size 26 meZ) := hide ⟨heap_alloc_last _ _⟩
  have HK2 := hide (HZ2.out.put [.slice aB B.outs.length cB, .int .i64 (B.state : Nat), .int .i64 (B.code : Nat), .int .i64 (B.taken : Nat), .int .i64 (B.used : Nat)])
  have HO2 := hide (hO.keep hbp)
  have HO1c := hide (HO1b.out.keep hbp)
  have HK1c := hide (HK1b.out.below hbp HK1b.out.lt)
  have HB7 := hide (HB4.out.trans ((hb.trans (hbp.mono hb.size)).mono HB4.out.size))
  clear hO hb hbp
  go_upto_region 8 with (refine storeB [.slice aB B.outs.length cB, .int .i64 (B.state : Nat), .int .i64 (B.code : Nat), .int .i64 (B.taken : Nat), .int .i64 (B.used : Nat)] info_me rfl rfl _ _ rfl w6.heap.size rfl rfl _ HZ2.out rfl ?_)
  generalize hw7 : putB (w6.alloc (.cells #[.slice none 0 0, .int .i64 0, .int .i64 0, .int .i64 0, .int .i64 0] 26)) w6.heap.size [.slice aB B.outs.length cB, .int .i64 (B.state : Nat), .int .i64 (B.code : Nat), .int .i64 (B.taken : Nat), .int .i64 (B.used : Nat)] 26 = w7 at *
  clear hw7 HZ2
  obtain ⟨ma, hma⟩ : ∃ n, A.outs.length = n := ⟨_, rfl⟩
  obtain ⟨mb, hmb⟩ : ∃ n, B.outs.length = n := ⟨_, rfl⟩
  have HLA := hide hma
  have HLB := hide hmb
  clear HO1 HO1b HK1 HK1b HEA HEB HQA HQB HXw2 HXw5 HG
  rw [hma] at HO1c HK1c
  rw [hmb] at HO2 HK2
  rw [hma, hmb]
  clear hma hmb
  by_cases he : er = 0
  · subst he
    have HR := hide (HF.out rfl)
    have i1 : ¬ (nl : Int) < (A.used : Nat) := by have := HR.out.ul; omega
    have i2 : ¬ (nm : Int) < (B.used : Nat) := by have := HR.out.um; omega
    have i3 : ¬ (mb : Int) < (ma : Nat) := by obtain ⟨tl, h⟩ := HR.out.o; have h2 := congrArg List.length h; rw [List.length_append, HLA.out, HLB.out] at h2; omega
    have i4 : ¬ (B.taken : Int) < (A.taken : Nat) := by have := HR.out.t; omega
    have j5 : ¬ (0 : Int) < (A.taken : Nat) := by have := HR.out.ta; simp at this ⊢; omega
    have hma : ma ≤ mb := by omega
    have hmb : mb ≤ 1000000 := by have := HR.out.ol; rw [HLB.out] at this; exact this
    have b0 := HK1c.out.get (j := 0) rfl
    have b1 := HK1c.out.get (j := 1) rfl
    have b3 := HK1c.out.get (j := 3) rfl
    have b4 := HK1c.out.get (j := 4) rfl
    have d0 := HK2.out.get (j := 0) rfl
    have d3 := HK2.out.get (j := 3) rfl
    have d4 := HK2.out.get (j := 4) rfl
    go_upto_region 13 with fail
    clear b0 b1 b3 b4 d0 d3 d4
    clear i1 i2 i3 i4 j5
    go_loopw [16] (fun i wr => ∃ k : Nat, k ≤ ma ∧ i = .int .i64 (k : Nat) ∧ ∃ d, wr = w7.drewN d) (fun i _ => ma - (RowKit.intOf i).toNat)
    case atStart => exact ⟨0, by omega, rfl, 0, by rw [World.drewN_zero]⟩
    case round =>
      obtain ⟨k, hk, rfl, d, hd⟩ := hrel
      have k1 := HK1c.out.drew d
      have k2 := HK2.out.drew d
      have k3 := HO1c.out.drew d
      have k4 := HO2.out.drew d
      have HBr : Hid (Below w.heap.size w (w7.drewN d)) := hide (HB7.out.trans ⟨rfl, rfl, rfl, Nat.le_refl _, fun _ _ => rfl⟩)
      rw [← hd] at k1 k2 k3 k4 HBr
      have HD : Hid (∃ d, wr = w7.drewN d) := hide ⟨d, hd⟩
      clear hd
      have b0 := k1.get (j := 0) rfl
      have d0 := k2.get (j := 0) rfl
      by_cases hlt : k < ma
      · obtain ⟨x, hx⟩ : ∃ x, A.outs[k]? = some x := ⟨A.outs[k]'(by rw [HLA.out]; exact hlt), List.getElem?_eq_getElem _⟩
        have hx2 : B.outs[k]? = some x := by obtain ⟨tl, h⟩ := HR.out.o; rw [h, List.getElem?_append_left (by rw [HLA.out]; exact hlt)]; exact hx
        obtain ⟨y, rfl, a0, a1⟩ := k3.at hx
        obtain ⟨y2, rfl, f0, f1⟩ := k4.at hx2
        have hki : (k : Int) < ma := by omega
        have hkj : (k : Int) < mb := by omega
        obtain ⟨xs, xw⟩ := x
        dsimp only at a0 a1 f0 f1
        clear hx hx2 k1 k2 k3 k4
        go_upto_region 15 with fail
        go_quiet (fail)
        go_wp2
        go_roundw
        case rel => exact ⟨k + 1, by omega, by go_num, by obtain ⟨d, rfl⟩ := HD.out; exact ⟨_, World.drewN_drewN _ _ _⟩⟩
        case measure => simp [RowKit.intOf]; omega
      · obtain rfl : k = ma := by omega
        have b1 := k1.get (j := 1) rfl
        have b2 := k1.get (j := 2) rfl
        have b3 := k1.get (j := 3) rfl
        have b4 := k1.get (j := 4) rfl
        have d1 := k2.get (j := 1) rfl
        have d2 := k2.get (j := 2) rfl
        have d3 := k2.get (j := 3) rfl
        have d4 := k2.get (j := 4) rfl
        rcases HR.out.c with ⟨q1, q2, q3⟩ | ⟨q1, q2, q3⟩
        · have hst : ((A.state : Int) != 1) = true := by simp; omega
          have HSM := hide (sameMeaning_any wr A (.slice aA k cA) (.slice aB mb cB) k3 (by rw [← q2]; exact k4) (by rw [HLA.out]; omega))
          rw [← q3 (.slice aB mb cB)] at HSM
          have HKa := hide k1.cells
          have HKb := hide k2.cells
          clear q1 q2 q3 k1 k2 k3 k4
          clear b2 b3 b4 d0 d1 d2 d3 d4
          go_upto_region 18 with fail
          clear b0 b1
          go_wp2_with (first | (refine loadT Tryz.underlying26 rfl [.slice aA k cA, .int .i64 (A.state : Nat), .int .i64 (A.code : Nat), .int .i64 (A.taken : Nat), .int .i64 (A.used : Nat)] info_me rfl _ rfl ⟨w3.heap.size, 0, none⟩ rfl HKa.out ?_) | (refine loadT Tryz.underlying26 rfl [.slice aB mb cB, .int .i64 (B.state : Nat), .int .i64 (B.code : Nat), .int .i64 (B.taken : Nat), .int .i64 (B.used : Nat)] info_me rfl _ rfl ⟨w6.heap.size, 0, none⟩ rfl HKb.out ?_))
          refine HSM.out.mono ?_
          rintro e w8 ⟨rfl, hb8⟩
          have HB8 := hide (HBr.out.trans (hb8.mono HBr.out.size))
          clear hb8
          go_wp2
          go_ret
          exact ⟨rfl, HB8.out⟩
        · clear k1 k2 k3 k4
          rw [q1] at b1
          rw [q2] at b2
          rw [q3] at b4
          clear q1 q2 q3
          go_wp2
          go_ret
          exact ⟨rfl, HBr.out⟩
  · have hei : ((er : Int) != 0) = true := by simp; omega
    clear he
    go_wp2
    go_ret
    exact ⟨rfl, HB7.out⟩
end Go.Proofs.YtiafodeabdhcoaaGreatDoor

namespace Go.Proofs.YtiafodeabdhcoaaGreatDoor
open Go.ChangeShapes Go.WideShapes Go.ChangeAt Go.RowKit
/-- the datum of one operation, as the row lists it -/
def opData (n : Nat) : DataW Unit := .agg [.lit (.string (nm n)), .lit (.bool (uA n)), .lit (.bool (uB n)), .lit (.int .i64 (kd n : Nat))]
/-- the table's cells, as its text lays them -/
def opCells : Array Value := ((List.range 27).flatMap fun n => [.string ⟨(nm n).toArray⟩, .bool (uA n), .bool (uB n), .int .i64 (kd n : Nat)]).toArray
theorem laid_ops : (Rows.laid_amber_isa_operations : DataW Unit) = .agg ((List.range 27).map opData) := rfl
theorem gOps : Tryz.prog.globalNamed "amber/isa.operations" = some 5 := by kernel_rfl
theorem gOpsType : (Tryz.prog.globals[5]?).map (·.type) = some 207 := by kernel_rfl
theorem cellsOp : Tryz.prog.cellsOf 206 = 4 := by kernel_rfl
theorem cells1 : Tryz.prog.cellsOf 9 = 1 ∧ Tryz.prog.cellsOf 4 = 1 ∧ Tryz.prog.cellsOf 3 = 1 := ⟨by kernel_rfl, by kernel_rfl, by kernel_rfl⟩
section
variable {w : World} {base : Nat} {spare : Nat → Bool} {held : Bool}
set_option maxRecDepth 100000 in
theorem op_cells {n fuel : Nat} {cs : List Value} {p : List MemPlace} (h : DataW.trod (fun _ => ()) Tryz.prog w base spare held fuel 206 cs = some (opData n, p)) :
    ∃ s : ByteArray, cs = [.string s, .bool (uA n), .bool (uB n), .int .i64 (kd n : Nat)] ∧ s.data.toList = nm n := by
  obtain ⟨xs, m, _, hx, hl, hxl, hf⟩ := DataW.trod_struct Tryz.underlying206 h
  rw [cellsOp] at hl
  obtain ⟨k1, k2, k3⟩ := cells1
  match xs, hxl, cs, hl with
  | [y0, y1, y2, y3], _, [c0, c1, c2, c3], _ =>
    have g0 : DataW.trod (fun _ => ()) Tryz.prog w base spare held m 9 (([c0, c1, c2, c3].drop 0).take (Tryz.prog.cellsOf 9)) = some y0 := hf 0 _ rfl
    rw [k1] at g0
    have g1 : DataW.trod (fun _ => ()) Tryz.prog w base spare held m 4 (([c0, c1, c2, c3].drop 1).take (Tryz.prog.cellsOf 4)) = some y1 := hf 1 _ rfl
    rw [k2] at g1
    have g2 : DataW.trod (fun _ => ()) Tryz.prog w base spare held m 4 (([c0, c1, c2, c3].drop 2).take (Tryz.prog.cellsOf 4)) = some y2 := hf 2 _ rfl
    rw [k2] at g2
    have g3 : DataW.trod (fun _ => ()) Tryz.prog w base spare held m 3 (([c0, c1, c2, c3].drop 3).take (Tryz.prog.cellsOf 3)) = some y3 := hf 3 _ rfl
    rw [k3] at g3
    obtain ⟨s, e0, rfl, _⟩ := DataW.trod_string Tryz.underlying9 g0
    obtain ⟨b1, e1, rfl⟩ := DataW.trod_bool Tryz.underlying4 g1
    obtain ⟨b2, e2, rfl⟩ := DataW.trod_bool Tryz.underlying4 g2
    obtain ⟨z, e3, rfl, _⟩ := DataW.trod_int Tryz.underlying3 g3
    have hx1 := congrArg Prod.fst hx
    simp [opData] at hx1 e0 e1 e2 e3
    obtain ⟨f0, f1, f2, f3⟩ := hx1
    exact ⟨s, by rw [e0, e1, e2, e3, f1, f2, f3], f0.symm⟩
end
set_option maxRecDepth 100000 in
theorem ops_of {W : World} {l : List (String × DataW Unit)} (hm : ("amber/isa.operations", (Rows.laid_amber_isa_operations : DataW Unit)) ∈ l) (h : laidMet Tryz.prog l W) : Ops W := by
  obtain ⟨ps, hv, _⟩ := h
  have reads : ∀ {l : List (String × DataW Unit)} {ps : List MemPlace}, DataW.LaidVars Tryz.prog W l ps → ∀ n d, (n, d) ∈ l → ∃ g t cs fuel p, Tryz.prog.globalNamed n = some g ∧ (Tryz.prog.globals[g]?).map (·.type) = some t ∧ W.var? Tryz.prog n = some cs ∧ DataW.trod (fun _ => ()) Tryz.prog W 0 (fun _ => true) false fuel t cs.toList = some (d, p) := by
    intro l
    induction l with
    | nil => intro ps _ n d hm; cases hm
    | cons x r ih =>
      intro ps h n d hm
      obtain ⟨n', d'⟩ := x
      obtain ⟨g, t, cs, fuel, p, q, h1, h2, h3, h4, h5, _⟩ := h
      rcases List.mem_cons.1 hm with e | e
      · cases e
        exact ⟨g, t, cs, fuel, p, h1, h2, h3, h4⟩
      · exact ih h5 n d e
  obtain ⟨g, t, cs, fuel, p, h1, h2, h3, h4⟩ := reads hv _ _ hm
  obtain rfl := Option.some.inj (gOps.symm.trans h1)
  obtain rfl := Option.some.inj (gOpsType.symm.trans h2)
  obtain ⟨xs, m, _, hx, hl, hxl, hf⟩ := DataW.trod_array Tryz.underlying207 h4
  rw [laid_ops] at hx
  have hx1 : (List.range 27).map opData = xs.map (·.1) := by
    have := congrArg Prod.fst hx
    simpa using this
  have key : ∀ n, n < 27 → ∃ s : ByteArray, (cs.toList.drop (n * 4)).take 4 = [.string s, .bool (uA n), .bool (uB n), .int .i64 (kd n : Nat)] ∧ s.data.toList = nm n := by
    intro n hn
    have hn' := hf n hn
    rw [cellsOp] at hn'
    obtain ⟨y, hy⟩ : ∃ y, xs[n]? = some y := ⟨_, List.getElem?_eq_getElem (by omega)⟩
    have e1 := congrArg (·[n]?) hx1
    simp [hy, hn] at e1
    rw [hy] at hn'
    obtain ⟨d, q⟩ := y
    simp only at e1
    subst e1
    exact op_cells hn'
  have hc : ∀ n, n < 27 → ∀ j, j < 4 → ∀ v, ((cs.toList.drop (n * 4)).take 4)[j]? = some v → W.cell? ⟨5, n * 4 + j, none⟩ = some v := by
    intro n hn j hj v hv
    have e := World.var?_cell gOps h3 (n * 4 + j)
    rw [List.getElem?_take_of_lt hj, List.getElem?_drop] at hv
    rw [e]; simpa using hv
  refine ⟨fun n hn => ?_, fun n hn => ?_, fun n hn => ?_, fun n hn => ?_⟩
  · obtain ⟨s, e, f⟩ := key n hn
    exact ⟨s, hc n hn 0 (by omega) _ (by rw [e]; rfl), f⟩
  · obtain ⟨s, e, f⟩ := key n hn
    exact hc n hn 1 (by omega) _ (by rw [e]; rfl)
  · obtain ⟨s, e, f⟩ := key n hn
    exact hc n hn 2 (by omega) _ (by rw [e]; rfl)
  · obtain ⟨s, e, f⟩ := key n hn
    exact hc n hn 3 (by omega) _ (by rw [e]; rfl)
end Go.Proofs.YtiafodeabdhcoaaGreatDoor

namespace Go.Proofs.YtiafodeabdhcoaaGreatDoor
open Go.ChangeShapes Go.WideShapes Go.ChangeAt Go.RowKit
theorem laid_reads {P : Program} {W : World} : ∀ {l : List (String × DataW Unit)} {ps : List MemPlace}, DataW.LaidVars P W l ps → ∀ n d, (n, d) ∈ l → ∃ g t cs fuel p, P.globalNamed n = some g ∧ (P.globals[g]?).map (·.type) = some t ∧ W.var? P n = some cs ∧ DataW.trod (fun _ => ()) P W 0 (fun _ => true) false fuel t cs.toList = some (d, p)
  | [], _, _, n, d, hm => by cases hm
  | (n', d') :: r, _, h, n, d, hm => by
    obtain ⟨g, t, cs, fuel, p, q, h1, h2, h3, h4, h5, _⟩ := h
    rcases List.mem_cons.1 hm with e | e
    · cases e
      exact ⟨g, t, cs, fuel, p, h1, h2, h3, h4⟩
    · exact laid_reads h5 n d e
theorem tabIs_of {P : Program} {W : World} {l : List (String × DataW Unit)} {name : String} {k : IntKind} {zs : List Int} {g : Nat} {t e : TypeId} {n : Nat} (hm : (name, Lib.tabData k zs) ∈ l)
    (hg : P.globalNamed name = some g) (hty : (P.globals[g]?).map (·.type) = some t) (ht : P.underlying t = some (.array n e)) (he : P.underlying e = some (.int k)) (hce : P.cellsOf e = 1) (hct : P.cellsOf t = n)
    (h : laidMet P l W) : Lib.TabIs P W name k zs := by
  obtain ⟨ps, hv, _⟩ := h
  obtain ⟨g', t', cs, fuel, p, hg', ht', hvar, hd⟩ := laid_reads hv _ _ hm
  obtain rfl := Option.some.inj (hg.symm.trans hg')
  obtain rfl := Option.some.inj (hty.symm.trans ht')
  unfold Lib.TabIs
  rw [hvar, ← Lib.cells_of_tab ht he hce hct hd]
theorem gPow : Tryz.prog.globalNamed "internal/strconv.uint64pow10" = some 0 := by kernel_rfl
theorem gTz : Tryz.prog.globalNamed "math/bits.deBruijn64tab" = some 3 := by kernel_rfl
theorem laid_pow : (Rows.laid_internal_strconv_uint64pow10 : DataW Unit) = Lib.tabData .u64 Lib.pow10Tab := rfl
/-- the table of the last bits, as the row lists it -/
def dbT : List Int := [0, 1, 56, 2, 57, 49, 28, 3, 61, 58, 42, 50, 38, 29, 17, 4, 62, 47, 59, 36, 45, 43, 51, 22, 53, 39, 33, 30, 24, 18, 12, 5, 63, 55, 48, 27, 60, 41, 37, 16, 46, 35, 44, 21, 52, 32, 23, 11, 54, 26, 40, 15, 34, 20, 31, 10, 25, 14, 19, 9, 13, 8, 7, 6]
theorem laid_tz : (Rows.laid_math_bits_deBruijn64tab : DataW Unit) = Lib.tabData .u8 dbT := rfl
set_option maxRecDepth 100000 in
theorem tb_of {W : World} {l : List (String × DataW Unit)} (m1 : ("amber/isa.operations", (Rows.laid_amber_isa_operations : DataW Unit)) ∈ l) (m2 : ("math/bits.deBruijn64tab", (Rows.laid_math_bits_deBruijn64tab : DataW Unit)) ∈ l) (m3 : ("internal/strconv.uint64pow10", (Rows.laid_internal_strconv_uint64pow10 : DataW Unit)) ∈ l) (h : laidMet Tryz.prog l W) : Tb W := by
  refine ⟨ops_of m1 h, ?_, ?_⟩
  · have e := tabIs_of (l := l) (zs := dbT) (by rw [← laid_tz]; exact m2) gTz (by kernel_rfl) Tryz.underlying178 Tryz.underlying5 (by kernel_rfl) (by kernel_rfl) h
    exact e.cell gTz 15 (by decide)
  · exact tabIs_of (l := l) (by rw [← laid_pow]; exact m3) gPow (by kernel_rfl) Tryz.underlying131 Tryz.underlying97 (by kernel_rfl) (by kernel_rfl) h
/-- the tables laid, for a witness's world -/
def lay (cs : Array Value) (o : Obj) : Obj :=
  match o with
  | .cells _ t frozen => .cells cs t frozen
  | o => o
def db32 : List Int := [0, 1, 28, 2, 29, 14, 24, 3, 30, 22, 20, 15, 25, 17, 4, 8, 31, 27, 13, 23, 21, 19, 16, 7, 26, 12, 18, 6, 11, 5, 10, 9]
def accT : List Int := [128, 191, 160, 191, 128, 159, 144, 191, 128, 143, 0, 0, 0, 0, 0, 0, 0, 0, 0, 0, 0, 0, 0, 0, 0, 0, 0, 0, 0, 0, 0, 0]
def layAll (h : Array Obj) : Array Obj :=
  (((((h.modify 5 (lay opCells)).modify 0 (lay (Lib.pow10Tab.map fun z => Value.int .u64 z).toArray)).modify 3 (lay (dbT.map fun z => Value.int .u8 z).toArray)).modify 2 (lay (db32.map fun z => Value.int .u8 z).toArray)).modify 8 (lay (accT.map fun z => Value.int .u8 z).toArray)).modify 7 (lay (Go.Pinned.utf8FirstZ.map fun z => Value.int .u8 (z : Nat)).toArray)
end Go.Proofs.YtiafodeabdhcoaaGreatDoor

namespace Go.Proofs.YtiafodeabdhcoaaGreatDoor
open Go.ChangeShapes Go.WideShapes Go.ChangeAt Go.RowKit
def orD (n : Nat) : DataW Unit := .agg [.lit (.string (opN n)), .lit (.int .i64 (opV n : Nat)), .lit (.string (opC n))]
theorem laid_ors : (Rows.laid_amber_tongue_operators : DataW Unit) = .agg ((List.range 18).map orD) := rfl
theorem laid_wds : (Rows.laid_amber_tongue_languageWords : DataW Unit) = .agg ((List.range 10).map fun n => .lit (.string (wdN n))) := rfl
theorem gOrs : Tryz.prog.globalNamed "amber/tongue.operators" = some 1 := by kernel_rfl
theorem gOrsT : (Tryz.prog.globals[1]?).map (·.type) = some 168 := by kernel_rfl
theorem gWds : Tryz.prog.globalNamed "amber/tongue.languageWords" = some 4 := by kernel_rfl
theorem gWdsT : (Tryz.prog.globals[4]?).map (·.type) = some 191 := by kernel_rfl
theorem cellsOr : Tryz.prog.cellsOf 167 = 3 := by kernel_rfl
theorem opG_rg : (List.range 54).map (fun j => opG[j]?) = (List.range 54).map (fun j => [Value.string ⟨(opN (j / 3)).toArray⟩, .int .i64 (opV (j / 3) : Nat), .string ⟨(opC (j / 3)).toArray⟩][j % 3]?) := by kernel_rfl
theorem wdG_rg : (List.range 10).map (fun j => wdG[j]?) = (List.range 10).map (fun j => some (.string ⟨(wdN j).toArray⟩)) := by kernel_rfl
theorem ba_eq {s : ByteArray} {l : Tx} (h : s.data.toList = l) : s = ⟨l.toArray⟩ := by
  subst h
  obtain ⟨d⟩ := s
  simp
section
variable {w : World} {base : Nat} {spare : Nat → Bool} {held : Bool}
set_option maxRecDepth 100000 in
theorem or_cells {n fuel : Nat} {cs : List Value} {p : List MemPlace} (h : DataW.trod (fun _ => ()) Tryz.prog w base spare held fuel 167 cs = some (orD n, p)) :
    cs = [.string ⟨(opN n).toArray⟩, .int .i64 (opV n : Nat), .string ⟨(opC n).toArray⟩] := by
  obtain ⟨xs, m, _, hx, hl, hxl, hf⟩ := DataW.trod_struct Tryz.underlying167 h
  rw [cellsOr] at hl
  obtain ⟨k1, _, k3⟩ := cells1
  match xs, hxl, cs, hl with
  | [y0, y1, y2], _, [c0, c1, c2], _ =>
    have g0 : DataW.trod (fun _ => ()) Tryz.prog w base spare held m 9 (([c0, c1, c2].drop 0).take (Tryz.prog.cellsOf 9)) = some y0 := hf 0 _ rfl
    rw [k1] at g0
    have g1 : DataW.trod (fun _ => ()) Tryz.prog w base spare held m 3 (([c0, c1, c2].drop 1).take (Tryz.prog.cellsOf 3)) = some y1 := hf 1 _ rfl
    rw [k3] at g1
    have g2 : DataW.trod (fun _ => ()) Tryz.prog w base spare held m 9 (([c0, c1, c2].drop 2).take (Tryz.prog.cellsOf 9)) = some y2 := hf 2 _ rfl
    rw [k1] at g2
    obtain ⟨s, e0, rfl, _⟩ := DataW.trod_string Tryz.underlying9 g0
    obtain ⟨z, e1, rfl, _⟩ := DataW.trod_int Tryz.underlying3 g1
    obtain ⟨s2, e2, rfl, _⟩ := DataW.trod_string Tryz.underlying9 g2
    have hx1 := congrArg Prod.fst hx
    simp [orD] at hx1 e0 e1 e2
    obtain ⟨f0, f1, f2⟩ := hx1
    rw [e0, e1, e2, f1, ba_eq f0.symm, ba_eq f2.symm]
end
set_option maxRecDepth 100000 in
theorem lg_of {W : World} {l : List (String × DataW Unit)} (m1 : ("amber/isa.operations", (Rows.laid_amber_isa_operations : DataW Unit)) ∈ l) (m2 : ("amber/tongue.operators", (Rows.laid_amber_tongue_operators : DataW Unit)) ∈ l) (m3 : ("amber/tongue.languageWords", (Rows.laid_amber_tongue_languageWords : DataW Unit)) ∈ l) (m4 : ("internal/strconv.uint64pow10", (Rows.laid_internal_strconv_uint64pow10 : DataW Unit)) ∈ l) (h : laidMet Tryz.prog l W) (hM : ∃ m : Int, W.cell? ⟨6, 0, none⟩ = some (.int .i64 m)) : Lg W := by
  refine ⟨?_, ?_, hM, ops_of m1 h, tabIs_of (l := l) (by rw [← laid_pow]; exact m4) gPow (by kernel_rfl) Tryz.underlying131 Tryz.underlying97 (by kernel_rfl) (by kernel_rfl) h⟩
  · obtain ⟨ps, hv, _⟩ := h
    obtain ⟨g, t, cs, fuel, p, h1, h2, h3, h4⟩ := laid_reads hv _ _ m2
    obtain rfl := Option.some.inj (gOrs.symm.trans h1)
    obtain rfl := Option.some.inj (gOrsT.symm.trans h2)
    obtain ⟨xs, m, _, hx, hl, hxl, hf⟩ := DataW.trod_array Tryz.underlying168 h4
    rw [laid_ors] at hx
    have hx1 : (List.range 18).map orD = xs.map (·.1) := by
      have := congrArg Prod.fst hx
      simpa using this
    have key : ∀ n, n < 18 → (cs.toList.drop (n * 3)).take 3 = [.string ⟨(opN n).toArray⟩, .int .i64 (opV n : Nat), .string ⟨(opC n).toArray⟩] := by
      intro n hn
      have hn' := hf n hn
      rw [cellsOr] at hn'
      obtain ⟨y, hy⟩ : ∃ y, xs[n]? = some y := ⟨_, List.getElem?_eq_getElem (by omega)⟩
      have e1 := congrArg (·[n]?) hx1
      simp [hy, hn] at e1
      rw [hy] at hn'
      obtain ⟨d, q⟩ := y
      simp only at e1
      subst e1
      exact or_cells hn'
    have hc : ∀ n, n < 18 → ∀ j, j < 3 → ∀ v, ((cs.toList.drop (n * 3)).take 3)[j]? = some v → W.cell? ⟨1, n * 3 + j, none⟩ = some v := by
      intro n hn j hj v hv
      have e := World.var?_cell gOrs h3 (n * 3 + j)
      rw [List.getElem?_take_of_lt hj, List.getElem?_drop] at hv
      rw [e]; simpa using hv
    intro j v hv
    have hj : j < 54 := by
      have := (List.getElem?_eq_some_iff.1 hv).1
      have e : opG.length = 54 := rfl
      omega
    have e2 : opG[j]? = [Value.string ⟨(opN (j / 3)).toArray⟩, .int .i64 (opV (j / 3) : Nat), .string ⟨(opC (j / 3)).toArray⟩][j % 3]? := by
      exact List.map_inj_left.1 opG_rg j (List.mem_range.2 hj)
    rw [add0]
    have := hc (j / 3) (by omega) (j % 3) (by omega) v (by rw [key _ (by omega), ← e2]; exact hv)
    rw [show j / 3 * 3 + j % 3 = j by omega] at this
    exact this
  · obtain ⟨ps, hv, _⟩ := h
    obtain ⟨g, t, cs, fuel, p, h1, h2, h3, h4⟩ := laid_reads hv _ _ m3
    obtain rfl := Option.some.inj (gWds.symm.trans h1)
    obtain rfl := Option.some.inj (gWdsT.symm.trans h2)
    obtain ⟨xs, m, _, hx, hl, hxl, hf⟩ := DataW.trod_array Tryz.underlying191 h4
    rw [laid_wds] at hx
    have hx1 : (List.range 10).map (fun n => (DataW.lit (.string (wdN n)) : DataW Unit)) = xs.map (·.1) := by
      have := congrArg Prod.fst hx
      simpa using this
    intro j v hv
    have hj : j < 10 := by
      have := (List.getElem?_eq_some_iff.1 hv).1
      have e : wdG.length = 10 := rfl
      omega
    have e2 : wdG[j]? = some (.string ⟨(wdN j).toArray⟩) := by
      exact List.map_inj_left.1 wdG_rg j (List.mem_range.2 hj)
    rw [e2] at hv
    cases hv
    have hn' := hf j hj
    rw [cells1.1] at hn'
    obtain ⟨y, hy⟩ : ∃ y, xs[j]? = some y := ⟨_, List.getElem?_eq_getElem (by omega)⟩
    have e1 := congrArg (·[j]?) hx1
    simp [hy, hj] at e1
    rw [hy] at hn'
    obtain ⟨d, q⟩ := y
    simp only at e1
    subst e1
    obtain ⟨s, f0, f1, _⟩ := DataW.trod_string Tryz.underlying9 hn'
    have e := World.var?_cell gWds h3 j
    have hh : (cs.toList.drop (j * 1))[0]? = some (.string s) := by
      have := congrArg (·[0]?) f0
      rw [List.getElem?_take_of_lt (by omega)] at this
      simpa using this
    rw [add0, e]
    rw [List.getElem?_drop, Nat.mul_one, Nat.add_zero, ba_eq (s := s) (l := wdN j) (by simp at f1; exact f1.1.symm)] at hh
    simpa using hh
end Go.Proofs.YtiafodeabdhcoaaGreatDoor

namespace Go.Proofs.YtiafodeabdhcoaaGreatDoor
open Go.ChangeShapes Go.WideShapes Go.ChangeAt Go.RowKit Go.Deep
theorem gAcc : Tryz.prog.globalNamed "unicode/utf8.acceptRanges" = some 8 := by kernel_rfl
theorem gAccT : (Tryz.prog.globals[8]?).map (·.type) = some 218 := by kernel_rfl
theorem cellsAcc : Tryz.prog.cellsOf 218 = 32 := by kernel_rfl
theorem nine_of {W : World} {l : List (String × DataW Unit)} (m1 : ("unicode/utf8.acceptRanges", (Rows.laid_unicode_utf8_acceptRanges : DataW Unit)) ∈ l) (h : laidMet Tryz.prog l W) : 9 ≤ W.heap.size := by
  obtain ⟨ps, hv, _⟩ := h
  obtain ⟨g, t, cs, fuel, p, h1, h2, h3, h4⟩ := laid_reads hv _ _ m1
  obtain rfl := Option.some.inj (gAcc.symm.trans h1)
  obtain rfl := Option.some.inj (gAccT.symm.trans h2)
  obtain ⟨xs, m, _, hx, hl, hxl, hf⟩ := DataW.trod_array Tryz.underlying218 h4
  rw [cellsAcc] at hl
  have e := World.var?_cell gAcc h3 0
  have hs : 0 < cs.size := by simp at hl; omega
  rw [Array.getElem?_eq_getElem hs] at e
  exact cell_lt e
section
variable {H : Type} {enc : TypeId × Value → H} {P : Program} {w : World} {base : Nat} {spare : Nat → Bool} {held : Bool}
theorem w32_cell {t : TypeId} {n : Nat} {v : Value} {y : DataW H × List MemPlace} (ht : P.underlying t = some (.int .u32)) (h : DataW.trod enc P w base spare held n t [v] = some y) : ∃ z : Nat, v = .int .u32 (z : Nat) ∧ z ≤ 4294967295 := by
  obtain ⟨z, h1, _, h2⟩ := DataW.trod_int ht h
  have h3 : 0 ≤ z ∧ z ≤ 4294967295 := by simpa [Lit.wf, IntKind.min, IntKind.max, IntKind.signed, IntKind.bits] using h2
  obtain ⟨k, rfl⟩ := Int.eq_ofNat_of_zero_le h3.1
  exact ⟨k, by simpa using h1, by omega⟩
/-- a slice of words that came in -/
theorem open_an {t e : TypeId} {fuel : Nat} {cs : List Value} {x : DataW H × List MemPlace} (ht : P.underlying t = some (.slice e)) (he : P.underlying e = some (.int .u32)) (ce : P.cellsOf e = 1)
    (h : DataW.trod enc P w base spare held fuel t cs = some x) : cs = [.slice none 0 0] ∨ ∃ (a : Addr) (cap : Nat) (ns : List Nat), cs = [.slice (some a) ns.length cap] ∧ (∃ el sp, x.1 = .slice el sp ∧ ns.length ≤ el.length) ∧ AnIn w (.slice (some a) ns.length cap) ns ∧ ∀ y ∈ ns, y ≤ 4294967295 := by
  rcases open_slice1 ht ce h with ⟨rfl, _⟩ | ⟨a, len, cap, m, n, V, D, Pl, rfl, hb, hl, hm, hmm, rfl, hx⟩
  · exact .inl rfl
  have hlm : len ≤ m := by rw [hmm]; split <;> omega
  have each : ∀ i, i < len → ∃ z : Nat, V i = .int .u32 (z : Nat) ∧ z ≤ 4294967295 := fun i hi => w32_cell he (hx i (by omega)).2
  obtain ⟨Z, hZ⟩ := choose_lt each
  refine .inr ⟨a, cap, (List.range len).map Z, by simp, ⟨_, _, rfl, by simp⟩, ⟨some a, cap, by simp, by simpa using hl, fun k hk => ⟨a, rfl, ?_⟩⟩, fun y hy => ?_⟩
  · have hk' : k < len := by simpa using hk
    rw [(hx k (by omega)).1, (hZ k hk').1]
    simp
  · simp at hy
    obtain ⟨k, hk, rfl⟩ := hy
    exact (hZ k hk).2
end
def layAll2 (h : Array Obj) : Array Obj := ((layAll h).modify 1 (lay opG.toArray)).modify 4 (lay wdG.toArray)
end Go.Proofs.YtiafodeabdhcoaaGreatDoor
