import Derived.Test.YtemkmjeioghofaaA1
namespace Go.Proofs.Ytemkmjeioghofaa
open Go.RowKit

set_option maxRecDepth 100000 in
set_option maxHeartbeats 4000000 in
theorem armed_0 (a : Option Addr) (ln cp : Nat) (O : Nat → Opr) (a1 : Option Addr) (len cap : Nat) (Z : Nat → Int × Nat)  (w : World) (hln : ln ≤ 1048576) (hO : IsOps w a ln O) (hlen : len ≤ 1048576) (hZ : IsPuts w a1 len Z) :
    Calls Try.prog 6 #[.slice a ln cp, .slice a1 len cap, .int .i64 0] w fun e w' => e = .returned (.bool true) ∧ Below w.heap.size w w' := by
  have HZ := hide hZ
  clear hZ
  have hd00 : decide ((len : Int) < 0) = false := by simp
  go_enter Try.func6, Try.ntmps6
  go_wp2_with fail
  refine (fresh_any a ln cp O w hln hO).mono ?_
  rintro e w1 ⟨B, M, A, rfl, h1, hA⟩
  obtain ⟨F0, hd0, hF0, hn0⟩ := h1.call1
  have H0 := hide (And.intro h1.bel (And.intro hF0 hn0))
  have HD0 := hide hd0
  clear h1 hd0 hF0 hn0 hO
  go_wp2_with fail
  refine (arm_ok HD0.out len (by omega) rfl).mono ?_
  rintro e w2 ⟨rfl, hd2, hx2⟩
  have Q2 := hide (And.intro hd2 hx2)
  clear hd2 hx2 HD0
  go_wp2_with fail
  refine (acts_any Q2.out.1).mono ?_
  rw [show ((cln M A).arm len).acts = A from rfl]
  rintro e w3 ⟨rfl, rfl⟩
  go_wp2
  go_loopw [10] (fun i wr => ∃ k : Nat, k ≤ len ∧ i = .int .i64 (k : Int) ∧ ∃ Dk F1, DkA B Dk wr F1 ∧ Ext F0 w1 F1 wr ∧ Stp Dk A len k) (fun i _ => len - (intOf i).toNat)
  case atStart => exact ⟨0, Nat.zero_le _, rfl, _, F0, Q2.out.1, Q2.out.2, ⟨rfl, rfl, by show A = _; split <;> omega, by show false = _; simp, Nat.zero_le _⟩⟩
  case round =>
    obtain ⟨k, hk, rfl, Dk, F1, hD, hX, hT⟩ := hrel
    by_cases hlt : k < len
    · have hd1 : decide (k < len) = true := by simp; omega
      have hb1 : Below w.heap.size w wr := H0.out.1.trans (hX.mod.below H0.out.2.1 H0.out.1.size)
      have HF1 := hide (hX.low H0.out.2.1 H0.out.1.size)
      have HBd : Hid (Below w.heap.size w wr.drew) := hb1.drew
      obtain ⟨x, hx, hb8, hp⟩ := HZ.out.at hlt
      subst hx
      generalize Z k = z at hp hb8
      obtain ⟨c0, c1⟩ := hp _ hb1
      have HP := hide hp
      have HA2 : Hid (Dk.acts < 1152921504606846976) := by have := hT.acts; split at this <;> (show _ < _; omega)
      have HD := hide hD
      have HX := hide hX
      have HT := hide hT
      clear hp hb1 hD hX hT
      by_cases hkn : k < len
      · have hd2 : decide (k < len) = true := by simp; omega
        have hd3 : decide (len ≤ k) = false := by simp; omega
        have hd4 : decide ((k : Int) < (len : Int)) = true := by simp; omega
        have hd5 : decide ((len : Int) ≤ (k : Int)) = false := by simp; omega
        by_cases hz0 : z.2 = 0
        · rw [hz0] at c1
          go_wp2_with fail
          refine (flush_ok HD.out (HT.out.ok hkn).1 (HT.out.ok hkn).2 HA2.out).mono ?_
          rintro e w4 ⟨rfl, F', hd4, hx4⟩
          have hs4 : Stp (Dk.acted.settled yes) A len (k + 1) := HT.out.acted hkn (Nat.zero_le _)
          have Q4 := hide (And.intro (show (Dk.acted.settled yes).down = false by rw [hs4.down]; simp; omega) (And.intro hd4 (And.intro (HX.out.trans hx4) hs4)))
          clear hd4 hx4 hs4 HD HX HT c0 c1
          go_wp2_with fail
          refine (down_any Q4.out.2.1).mono ?_
          rw [Q4.out.1]
          rintro e w5 ⟨rfl, rfl⟩
          go_wp2
          go_roundw
          case rel => exact ⟨k + 1, by omega, by go_num, _, _, Q4.out.2.1, Q4.out.2.2.1, Q4.out.2.2.2⟩
          case measure => simp [intOf]; omega
        · have hdz : decide (z.2 = 0) = false := by simp; omega
          have hdz2 : (((z.2 : Int)) == 0) = false := by simp; omega
          have HW15 : Hid (∀ w3 r, Below wr.drew.heap.size wr.drew w3 → Ow w3 wr.drew.heap.size r (List.replicate 128 z.2) → Calls Try.prog 15 #[dp B, .int .i64 (pl z.1 : Nat), r] w3 fun e w4 => e = .returned (.int .i64 0) ∧ ∃ D' F', DkA B D' w4 F' ∧ Ext F1 w3 F' w4 ∧ Stp D' A len (k + 1) ∧ D'.down = false) := by
            intro w3 r h3 hr
            refine (write_ok ((good_dk _ _).below HD.out.drew h3) (pl z.1) r _ (pl_lt _) hr.rd (sec_rep _ hb8) (own_farD hr HD.out.drew) (HT.out.ok hkn).1 (HT.out.ok hkn).2 HA2.out (by have := HT.out.c; omega)).mono ?_
            rintro e w4 ⟨rfl, F', hd4, hx4⟩
            have hs4 : Stp (Dk.acted.put (pl z.1) (List.replicate 128 z.2)) A len (k + 1) := HT.out.acted hkn (by have := HT.out.c; show (Dk.c ++ [_]).length ≤ _; simp; omega)
            exact ⟨rfl, _, F', hd4, hx4, hs4, by rw [hs4.down]; simp; omega⟩
          go_wp2
          go_region_held (fun W => W.cell? (x.add (k * 2)) = some (.int .i64 z.1) ∧ W.cell? ⟨(x.add (k * 2)).block, (x.add (k * 2)).off + 1, none⟩ = some (.int .u8 (z.2 : Int)))
            (first | assumption | exact q4 | exact q3 | exact And.intro c0 c1)
            (first
              | (go_at_call 12; refine (place_any z.1 _).mono ?_; rintro e w' ⟨rfl, rfl⟩)
              | (go_at_call 16; refine (full_any z.2 _).mono ?_; rintro e w3 ⟨r, rfl, hr, hb⟩
                 have Q3 := hide (And.intro hr hb)
                 have q3 := HP.out _ (HBd.out.trans (hb.mono HBd.out.size))
                 clear hr hb)
              | (go_at_call 15; refine (HW15.out _ _ Q3.out.2 Q3.out.1).mono ?_
                 rintro e w4 ⟨rfl, D', F', hd4, hx4, hs4, hn4⟩
                 have q4 := HP.out _ ((HBd.out.trans (Q3.out.2.mono HBd.out.size)).trans (hx4.mod.below HF1.out (Nat.le_trans HBd.out.size Q3.out.2.size)))
                 have Q4 := hide (And.intro hn4 (And.intro hd4 (And.intro ((HX.out.trans (Ext.of_below (Below.of_drew Q3.out.2))).trans hx4) hs4)))
                 clear hd4 hx4 hs4 hn4))
          clear q3 q4 c0 c1 HD HX HT
          go_wp2_with fail
          refine (down_any Q4.out.2.1).mono ?_
          rw [Q4.out.1]
          rintro e w5 ⟨rfl, rfl⟩
          go_wp2
          go_roundw
          case rel => exact ⟨k + 1, by omega, by go_num, _, _, Q4.out.2.1, Q4.out.2.2.1, Q4.out.2.2.2⟩
          case measure => simp [intOf]; omega
      · exact absurd hlt hkn
    · obtain rfl : k = len := by omega
      have HD := hide hD
      have HX := hide hX
      have HT := hide hT
      clear hD hX hT
      have HNO := hide (HT.out.no (by omega))
      have HDF : Hid (Dk.down = false) := by have := HT.out.down; rw [this]; show decide _ = false; simp
      have HAC : Hid ((Dk.off.acts : Int) = (A : Int) + k) := by have := HT.out.acts; rw [if_neg (by omega)] at this; show (Dk.acts : Int) = _; omega
      have HDW : Hid (Dk.off.down = true) := rfl
      go_wp2_with fail
      refine (down_any HD.out).mono ?_
      rw [HDF.out]
      rintro e w30 ⟨rfl, rfl⟩
      go_wp2_with fail
      refine (flush_no HD.out HNO.out).mono ?_
      rintro e w31 ⟨rfl, hd31, hx31⟩
      have HD' := hide hd31
      have HX' := hide (HX.out.trans hx31)
      clear HD HX hd31 hx31
      have HD := hide HD'.out
      have HX := hide HX'.out
      clear HD' HX'
      go_wp2_with fail
      refine (acts_any HD.out).mono ?_
      rw [show _ = _ from HAC.out]
      rintro e w4 ⟨rfl, rfl⟩
      go_wp2_with fail
      refine (downed_any HD.out HDW.out).mono ?_
      rintro e w5 ⟨rfl, hd5, hx5⟩
      have Q5 := hide (And.intro hd5 (HX.out.trans hx5))
      clear hd5 hx5 HD HX
      go_wp2_with fail
      refine (acts_any Q5.out.1).mono ?_
      rw [show _ = _ from HAC.out]
      rintro e w6 ⟨rfl, rfl⟩
      go_wp2_with fail
      refine (crash_nil Q5.out.1).mono ?_
      rintro e w7 ⟨rfl, F7, hd7, hx7⟩
      have hAC := HAC.out
      have hd7' : DkA B (wait Dk.off.M [] (A + k)) w7 F7 := by
        have e : Dk.off.acts = A + k := by have := HAC.out; omega
        rw [← e]; exact hd7
      generalize Dk.off.M = M7 at hd7'
      have Q7 := hide (And.intro hd7' (Q5.out.2.trans hx7))
      clear hd7 hx7 Q5 hAC hd7'
      go_wp2_with fail
      refine (down_any Q7.out.1).mono ?_
      rw [show (wait M7 [] (A + k)).down = false from rfl]
      rintro e w8 ⟨rfl, rfl⟩
      go_wp2_with fail
      refine (laid_any Q7.out.1 (H0.out.1.trans (Q7.out.2.mod.below H0.out.2.1 H0.out.1.size)) (Q7.out.2.low H0.out.2.1 H0.out.1.size) a1 k cap Z (by omega) HZ.out (by omega) (by simp)).mono ?_
      rintro e w9 ⟨rfl, F9, hd9, hx9⟩
      have Q9 := hide (And.intro hd9 (Q7.out.2.trans hx9))
      clear hd9 hx9 Q7
      go_wp2_with fail
      refine (flush_ok Q9.out.1 rfl (fun h => by cases h) (by show A + k + k < _; omega)).mono ?_
      rintro e w10 ⟨rfl, F10, hd10, hx10⟩
      have Q10 := hide (And.intro hd10 (Q9.out.2.trans hx10))
      clear hd10 hx10 Q9
      go_wp2_with fail
      refine (acts_any Q10.out.1).mono ?_
      rw [show (((wait M7 ([] ++ puts Z k) (A + k + k)).acted.settled yes).acts : Int) = (A : Int) + k + k + 1 by show ((A + k + k + 1 : Nat) : Int) = _; omega]
      rintro e w11 ⟨rfl, rfl⟩
      have HE := hide (H0.out.2.2 _ _ _ Q10.out.1 Q10.out.2)
      clear Q10
      go_wp2
      go_ret
      exact ⟨by simp, HE.out.bel⟩
end Go.Proofs.Ytemkmjeioghofaa
