import Derived.Test.YtoddadohmnaolaaEL
namespace Go.Proofs.Ytoddadohmnaolaa
open Go.RowKit

def IsInts (w : World) (a : Option Addr) (len : Nat) (Z : Nat → Int) : Prop := ∀ k, k < len → ∃ x, a = some x ∧ w.cell? (x.add k) = some (.int .i64 (Z k))
theorem IsInts.below {w w' : World} {a : Option Addr} {len : Nat} {Z : Nat → Int} (h : IsInts w a len Z) (hb : Below w.heap.size w w') : IsInts w' a len Z := by
  intro k hk
  obtain ⟨x, h1, h2⟩ := h k hk
  exact ⟨x, h1, by rw [hb.cell (World.block_lt_of_cell? w _ h2)]; exact h2⟩
/-- the law's state between rounds -/
structure Lw (w wr : World) (F : Nat → Prop) (T : Nat) (hv : Nat) (stops : Bool) : Prop where
  ex : ∃ r, Nt r hv stops ∧ Et wr F T (rsN r) 3
  low : ∀ b, F b → w.heap.size ≤ b
  bel : Below w.heap.size w wr
set_option maxRecDepth 8000 in
set_option maxHeartbeats 6400000 in
theorem notices_walk (a : Option Addr) (len cap : Nat) (Z : Nat → Int) (w : World) (hl : len ≤ maxLen) (h : IsInts w a len Z) :
    Calls Try.prog 3 #[.slice a len cap] w fun e w' => e = .returned (.bool true) ∧ Below w.heap.size w w' := by
  have HI := hide h
  clear h
  go_enter Try.func3, Try.ntmps3
  go_wp2_with fail
  refine (first_any w).mono ?_
  rintro x1 w1 ⟨T, B, rfl, hB, hlB, F, hE, hFB, hF, hb1⟩
  have HS := hide (setState_any w1 F T rs3 3 hE 1 e1 rfl 1 0 (by decide) (by decide))
  have HF := hide hF
  have HB1 := hide hb1
  clear hB hlB hE hFB hF hb1
  go_wp2_with fail
  refine HS.out.mono ?_
  rintro x1 w2 ⟨rfl, hE2, hM2⟩
  have HM2 := hide hM2
  have HR := hide (setRegs_any w2 F T _ 3 hE2 1 { e1 with st := 1, co := 0 } rfl (fun _ => 9) 77)
  clear hE2 hM2 HS
  go_wp2_with fail
  refine HR.out.mono ?_
  rintro x1 w3 ⟨rfl, hE3, hM3⟩
  have HL3 : Hid (Lw w w3 F T 0 false) := hide ⟨⟨{ e1 with st := 1, co := 0, rg := fun _ => 9, pc := 77 }, ⟨rfl, rfl, rfl, rfl, rfl, by decide, rfl, fun _ => rfl⟩, hE3⟩, HF.out, HB1.out.trans ((HM2.out.trans hM3).below HF.out HB1.out.size)⟩
  clear hE3 hM3 HM2 HR HB1 HF
  go_wp2_with fail
  go_loopw [5, 6, 7] (fun hv st x wr => ∃ (k h : Nat) (s : Bool), k ≤ len ∧ hv = .int .i64 (h : Int) ∧ st = .bool s ∧ x = .int .i64 (k : Int) ∧ Hid (Lw w wr F T h s)) (fun _ _ x _ => len - (intOf x).toNat)
  case atStart => exact ⟨0, 0, false, by omega, rfl, rfl, rfl, HL3⟩
  case round =>
  obtain ⟨k, hv, s, hk, rfl, rfl, rfl, K1⟩ := hrel
  clear HL3
  by_cases hlt : k < len
  · have hd : decide ((k : Int) < (len : Int)) = true := by simp; omega
    have hkb : k < 9223372036854775807 := by unfold maxLen at hl; omega
    obtain ⟨x, rfl, hx⟩ := HI.out.below K1.out.bel k hlt
    obtain ⟨r, hN, hE⟩ := K1.out.ex
    have HN := hide hN
    have hbi := hN.bi
    obtain ⟨z, hz⟩ : ∃ z, Z k = z := ⟨_, rfl⟩
    rw [hz] at hx
    clear hz
    by_cases hneg : z < 0
    · have HW := hide (waitSome_any wr F T (rsN r) 3 hE 1 r rfl)
      rw [hbi, rsN_set] at HW
      clear hbi hE hN
      go_upto_region 13 with fail
      go_wp2_with fail
      refine HW.out.mono ?_
      rintro x1 w4 ⟨rfl, hE4, hM4⟩
      have HN4 := hide HN.out.waited
      have HRu := hide (runs_any w4 F T _ 3 hE4 1 (waited r) rfl _ (rsN_line HN4.out.pa) (by decide))
      rw [rsN_any HN4.out.fz, HN4.out.st] at HRu
      have HE4 := hide hE4
      have HB4 : Hid (Below w.heap.size w w4) := hide (K1.out.bel.trans (hM4.below K1.out.low K1.out.bel.size))
      have HLo : Hid (∀ b, F b → w.heap.size ≤ b) := hide K1.out.low
      clear hE4 hM4
      by_cases h0 : hv = 0
      · subst h0
        have HLn : Hid (Lw w w4 F T 0 true) := hide ⟨⟨waited r, by have h9 := HN4.out; simpa using h9, HE4.out⟩, HLo.out, HB4.out⟩
        have HRf : Hid (Calls Try.prog 13 #[.pointer (some ⟨T, 0, none⟩), .int .i64 1] w4 fun x w' => x = .returned (.bool false) ∧ Below w4.heap.size w4 w') := hide (by have h9 := HRu.out; simpa using h9)
        clear HRu HN4 HE4
        cases s
        · go_wp2_with fail
          refine HRf.out.mono ?_
          rintro x1 w5 ⟨rfl, hb5⟩
          have HLn : Hid (Lw w w5 F T 0 true) := hide ⟨by obtain ⟨r9, n9, e9⟩ := HLn.out.ex; exact ⟨r9, n9, e9.below hb5⟩, HLo.out, HB4.out.trans (hb5.mono HB4.out.size)⟩
          clear hb5
          go_wp2
          go_roundw
          case rel =>
            first
              | exact ⟨k + 1, 0, true, by omega, by rfl, by rfl, by go_num, HLn⟩
              | ((repeat apply Exists.intro); refine ⟨?_, rfl⟩; exact ⟨k + 1, 0, true, by omega, by rfl, by rfl, by go_num, HLn⟩)
          case measure => simp [intOf]; omega
        · go_wp2_with fail
          refine HRf.out.mono ?_
          rintro x1 w5 ⟨rfl, hb5⟩
          have HLn : Hid (Lw w w5 F T 0 true) := hide ⟨by obtain ⟨r9, n9, e9⟩ := HLn.out.ex; exact ⟨r9, n9, e9.below hb5⟩, HLo.out, HB4.out.trans (hb5.mono HB4.out.size)⟩
          clear hb5
          go_wp2
          go_roundw
          case rel =>
            first
              | exact ⟨k + 1, 0, true, by omega, by rfl, by rfl, by go_num, HLn⟩
              | ((repeat apply Exists.intro); refine ⟨?_, rfl⟩; exact ⟨k + 1, 0, true, by omega, by rfl, by rfl, by go_num, HLn⟩)
          case measure => simp [intOf]; omega
      · have hs : s = false := by cases s; rfl; exact absurd (HN.out.zero rfl) h0
        subst hs
        have HLn : Hid (Lw w w4 F T 0 false) := hide ⟨⟨waited r, by have h9 := HN4.out; simpa [h0] using h9, HE4.out⟩, HLo.out, HB4.out⟩
        have HRf : Hid (Calls Try.prog 13 #[.pointer (some ⟨T, 0, none⟩), .int .i64 1] w4 fun x w' => x = .returned (.bool true) ∧ Below w4.heap.size w4 w') := hide (by have h9 := HRu.out; simpa [h0] using h9)
        have hvb : ((hv : Int) == 0) = false := by simp [h0]
        clear HRu HN4 HE4
        · go_wp2_with fail
          refine HRf.out.mono ?_
          rintro x1 w5 ⟨rfl, hb5⟩
          have HLn : Hid (Lw w w5 F T 0 false) := hide ⟨by obtain ⟨r9, n9, e9⟩ := HLn.out.ex; exact ⟨r9, n9, e9.below hb5⟩, HLo.out, HB4.out.trans (hb5.mono HB4.out.size)⟩
          clear hb5
          go_wp2
          go_roundw
          case rel =>
            first
              | exact ⟨k + 1, 0, false, by omega, by rfl, by rfl, by go_num, HLn⟩
              | ((repeat apply Exists.intro); refine ⟨?_, rfl⟩; exact ⟨k + 1, 0, false, by omega, by rfl, by rfl, by go_num, HLn⟩)
          case measure => simp [intOf]; omega
    · have hnn : ¬ z < 0 := hneg
      by_cases hbig : 4294967295 < z
      · have HW := hide (notifyBad_any wr F T (rsN r) 3 hE 1 r rfl z (by omega))
        have HLn := K1
        clear hbi hE hN
        go_upto_region 18 with fail
        go_wp2_with fail
        refine HW.out.mono ?_
        rintro x1 w4 ⟨rfl, rfl⟩
        go_wp2
        go_roundw
        case rel =>
          first
            | exact ⟨k + 1, hv, s, by omega, by rfl, by rfl, by go_num, HLn⟩
            | ((repeat apply Exists.intro); refine ⟨?_, rfl⟩; exact ⟨k + 1, hv, s, by omega, by rfl, by rfl, by go_num, HLn⟩)
        case measure => simp [intOf]; omega
      · obtain ⟨n, rfl⟩ : ∃ n : Nat, z = (n : Int) := ⟨z.toNat, by omega⟩
        have hn : n < 4294967296 := by omega
        have hor : bits .or .i64 (hv : Int) (n : Int) = ((hv ||| n : Nat) : Int) := bits_or_i64 _ _ hN.lt hn
        have hol := or_lt hv n hN.lt hn
        have HW := hide (notify_any wr F T (rsN r) 3 hE 1 r rfl (n : Int) (by omega) (by rw [hbi, hor]; omega))
        rw [rsN_set] at HW
        have HNo := hide (hN.noticed n hn)
        obtain ⟨O, hO⟩ : ∃ O, hv ||| n = O := ⟨_, rfl⟩
        rw [hO] at hor hol HNo
        clear hbi hE hN hO
        generalize noticed r (n : Int) = r' at *
        go_upto_region 18 with fail
        go_wp2_with fail
        refine HW.out.mono ?_
        rintro x1 w4 ⟨rfl, hE4, hM4⟩
        have HB4 : Hid (Below w.heap.size w w4) := hide (K1.out.bel.trans (hM4.below K1.out.low K1.out.bel.size))
        have HLo : Hid (∀ b, F b → w.heap.size ≤ b) := hide K1.out.low
        have HIn := hide (info_any w4 F T _ 3 hE4 1 r' rfl)
        have HE4 := hide hE4
        clear hE4 hM4 HW K1
        go_upto_region 23 with fail
        go_wp2_with fail
        refine HIn.out.mono ?_
        rintro x1 w5 ⟨rfl, hb5⟩
        have HE5 := hide (HE4.out.below hb5)
        have HB5 := hide (HB4.out.trans (hb5.mono HB4.out.size))
        clear hb5 HE4 HB4 HIn
        obtain ⟨t, ht⟩ : ∃ t, r'.told = t := ⟨_, rfl⟩
        rw [ht]
        have HT := hide ht
        clear ht
        have hz : Eb (w5.alloc (.cells Er.nil.head.toArray 41)) w5.heap.size Er.nil := Eb.new _ _
        have HEb := hide (freshE_eb w5 t)
        have HB6 : Hid (Below w.heap.size w (freshE w5 t)) := hide (HB5.out.trans ((freshE_below w5 t).mono HB5.out.size))
        have HE6 := hide (HE5.out.below (freshE_below w5 t))
        clear HE5 HB5
        go_upto_region 24 with (refine storeE t ?nw _ _ rfl w5.heap.size Er.nil ?nx ?ny ?nz ?_; rotate_left 4; change wpList _ _ _ _ _ (freshE w5 t); generalize freshE w5 t = w6 at *)
        try (case nw => rfl)
        try (case nx => rfl)
        try (case ny => rfl)
        case nz => exact hz
        clear hz
        have ht := HT.out
        subst ht
        generalize w5.heap.size = M at *
        have g2 : w6.cell? ⟨M, 2, none⟩ = some (.int .i64 r'.st) := HEb.out.get (j := 2) rfl
        have g4 : w6.cell? ⟨M, 4, none⟩ = some (.int .i64 r'.bi) := HEb.out.get (j := 4) rfl
        have g6 : w6.cell? ⟨M, 6, none⟩ = some (.int .u32 (r'.rg 0 : Nat)) := HEb.out.get (j := 6) rfl
        have g7 : w6.cell? ⟨M, 7, none⟩ = some (.int .u32 (r'.rg 1 : Nat)) := HEb.out.get (j := 7) rfl
        have g8 : w6.cell? ⟨M, 8, none⟩ = some (.int .u32 (r'.rg 2 : Nat)) := HEb.out.get (j := 8) rfl
        have g14 : w6.cell? ⟨M, 14, none⟩ = some (.int .u32 (r'.pc : Nat)) := HEb.out.get (j := 14) rfl
        clear HT HEb HN hx
        by_cases hcs : s = true ∧ O ≠ 0
        · obtain ⟨a1, a2, a3, a4, a5⟩ := HNo.out.1 hcs
          obtain ⟨rfl, hO0⟩ := hcs
          have HLn : Hid (Lw w w6 F T 0 false) := hide ⟨⟨r', a5, HE6.out⟩, HLo.out, HB6.out⟩
          rw [a1] at g2
          rw [a2] at g4
          rw [a3] at g6
          rw [a4] at g7
          rw [a5.r2] at g8
          rw [a5.pc] at g14
          have hOb : ((O : Int) == 0) = false := by simp [hO0]
          have hOz : ¬ (O : Int) = 0 := by omega
          clear a1 a2 a3 a4 a5 HNo HE6 HB6
          go_wp2
          go_roundw
          case rel =>
            first
              | exact ⟨k + 1, 0, false, by omega, by rfl, by rfl, by go_num, HLn⟩
              | ((repeat apply Exists.intro); refine ⟨?_, rfl⟩; exact ⟨k + 1, 0, false, by omega, by rfl, by rfl, by go_num, HLn⟩)
          case measure => simp [intOf]; omega
        · have a5 := HNo.out.2 hcs
          have HLn : Hid (Lw w w6 F T O s) := hide ⟨⟨r', a5, HE6.out⟩, HLo.out, HB6.out⟩
          have a1 := a5.st
          rw [a5.bi] at g4
          rw [a5.r2] at g8
          rw [a5.pc] at g14
          rw [a1] at g2
          have a6 := a5.zero
          clear a1 a5 HNo HE6 HB6 hcs
          cases s
          · clear a6
            simp only [Bool.false_eq_true, if_false] at g2
            go_wp2
            go_roundw
            case rel =>
              first
                | exact ⟨k + 1, O, false, by omega, by rfl, by rfl, by go_num, HLn⟩
                | ((repeat apply Exists.intro); refine ⟨?_, rfl⟩; exact ⟨k + 1, O, false, by omega, by rfl, by rfl, by go_num, HLn⟩)
            case measure => simp [intOf]; omega
          · obtain rfl := a6 rfl
            simp only [if_true] at g2
            go_wp2
            go_roundw
            case rel =>
              first
                | exact ⟨k + 1, 0, true, by omega, by rfl, by rfl, by go_num, HLn⟩
                | ((repeat apply Exists.intro); refine ⟨?_, rfl⟩; exact ⟨k + 1, 0, true, by omega, by rfl, by rfl, by go_num, HLn⟩)
            case measure => simp [intOf]; omega
  · have hd : decide ((k : Int) < (len : Int)) = false := by simp; omega
    have HB := hide K1.out.bel
    go_wp2
    go_ret
    exact ⟨rfl, HB.out⟩
end Go.Proofs.Ytoddadohmnaolaa
