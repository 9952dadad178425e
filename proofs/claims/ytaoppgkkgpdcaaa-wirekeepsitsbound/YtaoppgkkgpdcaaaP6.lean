import Derived.Test.YtaoppgkkgpdcaaaP5
namespace Go.Proofs.Ytaoppgkkgpdcaaa
open Go.RowKit

theorem tmod64 (z : Int) : ∃ m : Nat, m < 64 ∧ (z.tmod 64 = (m : Int) ∨ z.tmod 64 = -(m : Int) ∧ 0 < m) := by
  have h1 := Int.tmod_lt_of_pos z (show (0 : Int) < 64 by omega)
  have h2 := Int.tmod_lt_of_pos (-z) (show (0 : Int) < 64 by omega)
  rw [Int.neg_tmod] at h2
  exact ⟨(z.tmod 64).natAbs, by omega, by omega⟩
theorem tmod256 (d : Nat) : (d : Int).tmod 256 = ((d % 256 : Nat) : Int) := by
  rw [Int.tmod_eq_emod_of_nonneg (by omega)]; omega
theorem made_one (m : Nat) : ∀ u ∈ (madeCells #[Value.int .u8 0] m).toList, u = .int .u8 0 := by
  intro u hu
  simp [madeCells] at hu
  obtain ⟨i, _, rfl⟩ := hu
  rw [Nat.mod_one]; rfl
theorem made_src (w : World) (m : Nat) : Src (w.alloc (.cells (madeCells #[.int .u8 0] m) 5)) w.heap.size m (madeCells #[.int .u8 0] m).toList := by
  refine ⟨by simp [size_madeCells], ?_, ?_⟩
  · intro u hu
    rw [made_one m u hu]; rfl
  · intro j u hu
    have e : (⟨w.heap.size, 0, none⟩ : Addr).add j = ⟨w.heap.size, j, none⟩ := by unfold Addr.add; split <;> simp_all
    rw [e]
    exact cell_of (heap_alloc_last _ _) j u (by simpa using hu)
theorem St.alloc {w : World} {B n L e : Nat} (h : St w B n L e) (o : Obj) : St (w.alloc o) B n L e := by
  obtain ⟨v, hw, xs, hown, h1⟩ := h
  exact ⟨v, hw.at (Below.heap_alloc _ _ _ hw.lt), xs, hown.alloc o, h1⟩
set_option maxHeartbeats 800000 in
theorem bound_walk (w : World) (b len cap : Nat) (ao : Option Addr) (hb : b ≤ 4096) (hlen : len ≤ 9223372036854775807) (hi : ∀ x, ao = some x → ∀ k, k < len → ∃ z : Int, w.cell? (x.add k) = some (.int .i64 z)) (hn : ao = none → len = 0) :
    Calls Try.prog 3 #[.int .i64 (b : Int), .slice ao len cap] w fun e w' => e = .returned (.bool true) ∧ Below w.heap.size w w' := by
  obtain ⟨i5, hi5, hz5, hs5, hb5⟩ := info5'
  have hmk : ∀ (W : World) (n : Nat), n < 64 → (Instr.makeSlice 26 (.int .i64 (n : Int)) (.int .i64 (n : Int))).run Try.prog W = .ok (.slice (some ⟨W.heap.size, 0, none⟩) n n) (W.alloc (.cells (madeCells #[Value.int .u8 0] n) 5)) := by
    intro W n h
    have := run_make (P := Try.prog) W 26 5 i5 (.int .u8 0) Try.underlying26 hi5 hz5 .i64 .i64 n n (by omega) (Int.le_refl _) (by rw [hb5]; omega) (by omega)
    simpa [hs5, show (Value.int .u8 0).cells = #[Value.int .u8 0] from rfl] using this
  have HM := hide hmk
  have HI := hide hi
  have HN := hide hn
  clear hi hn hmk hi5 hz5 hs5 hb5
  go_enter Try.func3, Try.ntmps3
  go_wp2_with fail
  refine (new_any w b hb).mono ?_
  rintro e w1 ⟨rfl, hs1, hb1⟩
  have HS1 := hide hs1
  clear hs1
  go_wp2
  go_loopw [6, 7] (fun l i wr => ∃ (k d : Nat), k ≤ len ∧ d ≤ b ∧ l = .int .i64 d ∧ i = .int .i64 k ∧ Hid (St wr w.heap.size (b - d) b 0) ∧ Below w.heap.size w wr) (fun _ i _ => len - (intOf i).toNat)
  case atStart => exact ⟨0, b, by omega, by omega, rfl, rfl, hide (by rw [Nat.sub_self]; exact HS1.out), hb1⟩
  case round =>
    obtain ⟨k, d, hk, hd, rfl, rfl, HS, hbel⟩ := hrel
    by_cases hlt : k < len
    · obtain ⟨x, hx⟩ : ∃ x, ao = some x := by
        cases ao with
        | none => have := HN.out rfl; omega
        | some x => exact ⟨x, rfl⟩
      subst hx
      obtain ⟨z, hz⟩ := HI.out x rfl k hlt
      have hz' : wr.cell? (x.add k) = some (.int .i64 z) := (hbel.cell (World.block_lt_of_cell? w _ hz)).trans hz
      obtain ⟨m, hm, hs⟩ := tmod64 z
      have hmk := HM.out wr m hm
      clear hz
      by_cases hmd : m ≤ d
      · have HU := hide (block_yes _ w.heap.size wr.heap.size m (b - d) b _ (HS.out.alloc _) hb (by omega) (made_src wr m))
        rcases hs with hs | ⟨hs, hs0⟩
        all_goals
          go_wp2_with fail
          refine HU.out.mono ?_
          rintro e w2 ⟨rfl, ⟨v, hw, hv⟩, h2⟩
          rw [show b - d + m = b - (d - m) by omega] at hv
          have HE := hide (err_any w2 w.heap.size v b 0 hw)
          have HL := hide (len_any w2 w.heap.size v (b - (d - m)) b 0 hw hv)
          have H2 := hide (show St w2 w.heap.size (b - (d - m)) b 0 from ⟨v, hw, hv⟩)
          have HB := hide ((hbel.alloc hbel.size _).trans h2)
          clear hw hv h2 HU
          go_wp2_with fail
          refine HE.out.mono ?_
          rintro e w3 ⟨rfl, rfl⟩
          go_wp2_with fail
          refine HL.out.mono ?_
          rintro e w3 ⟨rfl, rfl⟩
          go_wp2
          go_roundw
          case rel => exact ⟨k + 1, d - m, by omega, by omega, by go_num, by go_num, H2, HB.out⟩
          case measure => simp [intOf]; omega
      · have g1 : decide (d < m) = true := by simp; omega
        rcases hs with hs | ⟨hs, hs0⟩
        all_goals
          go_wp2
          go_loopw [6] (fun l wr => ∃ (d : Nat), d ≤ b ∧ l = .int .i64 d ∧ Hid (St wr w.heap.size (b - d) b 0) ∧ Below w.heap.size w wr) (fun l _ => (intOf l).toNat)
          case atStart => exact ⟨d, hd, rfl, HS, hbel⟩
          case round =>
            clear HS hbel hd
            obtain ⟨d, hd, rfl, HS, hbel⟩ := hrel
            by_cases hp : 0 < d
            · have hr := tmod256 d
              have HU := hide (u8_yes _ w.heap.size (d % 256) (b - d) b HS.out hb (by omega) (by omega))
              go_wp2_with fail
              refine HU.out.mono ?_
              rintro e w2 ⟨rfl, h1, h2⟩
              have H1 := hide h1
              clear h1 HU
              go_wp2
              go_roundw
              case rel =>
                first
                  | exact ⟨d - 1, by omega, by go_num, hide (by rw [show b - (d - 1) = b - d + 1 by omega]; exact H1.out), hbel.trans h2⟩
                  | ((repeat apply Exists.intro); refine ⟨?_, rfl⟩; exact ⟨d - 1, by omega, by go_num, hide (by rw [show b - (d - 1) = b - d + 1 by omega]; exact H1.out), hbel.trans h2⟩)
              case measure => simp [intOf]; omega
            · obtain rfl : d = 0 := by omega
              have HU := hide (out_yes _ w.heap.size b b HS.out hb)
              go_wp2_with fail
              refine HU.out.mono ?_
              rintro e w2 ⟨ao2, cap2, rfl, ⟨v, hw, hv⟩, h2⟩
              have HL := hide (len_any w2 w.heap.size v b b 0 hw hv)
              have HN := hide (u8_no w2 w.heap.size b ⟨v, hw, hv⟩ hb)
              clear hw hv HU
              go_wp2_with fail
              refine HL.out.mono ?_
              rintro e w3 ⟨rfl, rfl⟩
              clear HL
              go_wp2_with fail
              refine HN.out.mono ?_
              rintro e w4 ⟨rfl, hs4, h4⟩
              have HO := hide (out_no w4 w.heap.size b b hs4)
              obtain ⟨v4, hw4, hv4⟩ := hs4
              have HE := hide (err_any w4.drew w.heap.size v4 b 2 hw4)
              have HL := hide (len_any w4.drew w.heap.size v4 b b 2 hw4 hv4)
              clear hw4 hv4 HN
              go_wp2_with fail
              refine HO.out.mono ?_
              rintro e w5 ⟨rfl, rfl⟩
              go_wp2_with fail
              refine HE.out.mono ?_
              rintro e w5 ⟨rfl, rfl⟩
              go_wp2_with fail
              refine HL.out.mono ?_
              rintro e w5 ⟨rfl, rfl⟩
              go_wp2
              go_ret
              exact ⟨rfl, ((hbel.trans h2).trans h4).drew⟩
    · go_wp2
      go_loopw [6] (fun l wr => ∃ (d : Nat), d ≤ b ∧ l = .int .i64 d ∧ Hid (St wr w.heap.size (b - d) b 0) ∧ Below w.heap.size w wr) (fun l _ => (intOf l).toNat)
      case atStart => exact ⟨d, hd, rfl, HS, hbel⟩
      case round =>
        clear HS hbel hd
        obtain ⟨d, hd, rfl, HS, hbel⟩ := hrel
        by_cases hp : 0 < d
        · have hr := tmod256 d
          have HU := hide (u8_yes _ w.heap.size (d % 256) (b - d) b HS.out hb (by omega) (by omega))
          go_wp2_with fail
          refine HU.out.mono ?_
          rintro e w2 ⟨rfl, h1, h2⟩
          have H1 := hide h1
          clear h1 HU
          go_wp2
          go_roundw
          case rel =>
            first
              | exact ⟨d - 1, by omega, by go_num, hide (by rw [show b - (d - 1) = b - d + 1 by omega]; exact H1.out), hbel.trans h2⟩
              | ((repeat apply Exists.intro); refine ⟨?_, rfl⟩; exact ⟨d - 1, by omega, by go_num, hide (by rw [show b - (d - 1) = b - d + 1 by omega]; exact H1.out), hbel.trans h2⟩)
          case measure => simp [intOf]; omega
        · obtain rfl : d = 0 := by omega
          have HU := hide (out_yes _ w.heap.size b b HS.out hb)
          go_wp2_with fail
          refine HU.out.mono ?_
          rintro e w2 ⟨ao2, cap2, rfl, ⟨v, hw, hv⟩, h2⟩
          have HL := hide (len_any w2 w.heap.size v b b 0 hw hv)
          have HN := hide (u8_no w2 w.heap.size b ⟨v, hw, hv⟩ hb)
          clear hw hv HU
          go_wp2_with fail
          refine HL.out.mono ?_
          rintro e w3 ⟨rfl, rfl⟩
          clear HL
          go_wp2_with fail
          refine HN.out.mono ?_
          rintro e w4 ⟨rfl, hs4, h4⟩
          have HO := hide (out_no w4 w.heap.size b b hs4)
          obtain ⟨v4, hw4, hv4⟩ := hs4
          have HE := hide (err_any w4.drew w.heap.size v4 b 2 hw4)
          have HL := hide (len_any w4.drew w.heap.size v4 b b 2 hw4 hv4)
          clear hw4 hv4 HN
          go_wp2_with fail
          refine HO.out.mono ?_
          rintro e w5 ⟨rfl, rfl⟩
          go_wp2_with fail
          refine HE.out.mono ?_
          rintro e w5 ⟨rfl, rfl⟩
          go_wp2_with fail
          refine HL.out.mono ?_
          rintro e w5 ⟨rfl, rfl⟩
          go_wp2
          go_ret
          exact ⟨rfl, ((hbel.trans h2).trans h4).drew⟩
set_option maxHeartbeats 400000 in
theorem out_walk (w : World) (b : Int) (len cap : Nat) (ao : Option Addr) (hb : b < 0 ∨ 4096 < b) :
    Calls Try.prog 3 #[.int .i64 b, .slice ao len cap] w fun e w' => e = .returned (.bool true) ∧ Below w.heap.size w w' := by
  by_cases h1 : b < 0
  · go_enter Try.func3, Try.ntmps3
    go_wp2
    go_ret
    exact ⟨rfl, Below.refl _ _⟩
  · have h2 : 4096 < b := by omega
    go_enter Try.func3, Try.ntmps3
    go_wp2
    go_ret
    exact ⟨rfl, Below.refl _ _⟩
theorem law_walk (w : World) (b : Int) (len cap : Nat) (ao : Option Addr) (hlen : len ≤ 9223372036854775807) (hi : ∀ x, ao = some x → ∀ k, k < len → ∃ z : Int, w.cell? (x.add k) = some (.int .i64 z)) (hn : ao = none → len = 0) :
    Calls Try.prog 3 #[.int .i64 b, .slice ao len cap] w fun e w' => e = .returned (.bool true) ∧ Below w.heap.size w w' := by
  by_cases h : b < 0 ∨ 4096 < b
  · exact out_walk w b len cap ao h
  · obtain ⟨n, rfl⟩ := Int.eq_ofNat_of_zero_le (show 0 ≤ b by omega)
    exact bound_walk w n len cap ao (by omega) hlen hi hn
end Go.Proofs.Ytaoppgkkgpdcaaa
