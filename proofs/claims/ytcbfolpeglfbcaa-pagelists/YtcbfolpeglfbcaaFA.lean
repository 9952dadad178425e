import Derived.Test.YtcbfolpeglfbcaaGB
namespace Go.Proofs.Ytcbfolpeglfbcaa
open Go.RowKit
theorem addp (x : Addr) {n : Nat} (h : n ≠ 0) : x.add n = ⟨x.block, x.off + n, none⟩ := by unfold Addr.add; rw [if_neg h]
theorem cell_up {w W : World} {p : Addr} {v : Value} (h : w.cell? p = some v) (hb : Below w.heap.size w W) : W.cell? p = some v := by
  rw [hb.cell (World.block_lt_of_cell? w _ h)]; exact h
set_option maxRecDepth 100000 in
set_option maxHeartbeats 4000000 in
theorem found_walk (a : Option Addr) (len cap : Nat) (Z : Nat → Ost) (w : World) (hl : len ≤ maxLen) (hz : IsOps w a len Z) :
    Calls Try.prog 5 #[.slice a len cap] w fun e w' => e = .returned (.bool true) ∧ Below w.heap.size w w' := by
  have HZ := hide hz
  have hl' : len ≤ 9223372036854775807 := hl
  clear hz
  go_enter Try.func5, Try.ntmps5
  go_wp2_with fail
  refine (first_any w).mono ?_
  rintro e w1 ⟨rfl, h1, hb1⟩
  have HS1 : Hid (Ts w w1 w.heap.size (upd nil 3 (some (7, false)))) := hide ⟨h1, first_sm, hb1, Nat.le_refl _⟩
  clear h1 hb1
  obtain ⟨B, hB⟩ : ∃ B, w.heap.size = B := ⟨_, rfl⟩
  rw [hB] at HS1 ⊢
  go_upto_region 5 with fail
  go_loopw [4] (fun i wr => ∃ (k : Nat) (m : Nat → E), k ≤ len ∧ i = .int .i64 (k : Int) ∧ Ts w wr B m) (fun i _ => len - (intOf i).toNat)
  case atStart => exact ⟨0, _, by omega, rfl, HS1.out⟩
  case round =>
    obtain ⟨k, m, hk, rfl, hS⟩ := hrel
    clear HS1
    by_cases hlt : k < len
    · have hd : decide (k < len) = true := by simp; omega
      obtain ⟨x, hx, ho⟩ := (HZ.out.below hS.b) k hlt
      subst hx
      have HO := hide ho
      have HS := hide hS
      clear ho hS
      go_wp2_with (refine load_st 31 _ Try.underlying31 rfl (Z k).cells info31 ?hwA _ rfl (x.add (k * 7)) rfl HO.out.c ?_)
      refine (done_any wr B m (Z k) HS.out.t HO.out.z HO.out.l).mono ?_
      rintro e w2 ⟨c, m', rfl, hst, hg⟩
      have HS2 := hide (HS.out.go hg (hst.sm HS.out.s))
      clear hst hg HS HO
      go_wp2
      go_roundw
      case rel => exact ⟨k + 1, m', by omega, by go_num, HS2.out⟩
      case measure => simp [intOf]; omega
    · have hd : decide (k < len) = false := by simp; omega
      have HS := hide hS
      clear hS
      go_wp2_with fail
      refine (seen_any wr B m HS.out.t).mono ?_
      rintro e w2 ⟨rfl, hb2⟩
      have hS2 := HS.out.below hb2
      obtain ⟨hn, hb3⟩ := seen_new w2 m
      have hS3 := hS2.below hb3
      rw [sc_nil] at hn hS3 hb3
      have HH := hide (And.intro hn hS3)
      clear hn hS3 hb3 hS2 hb2 HS
      go_upto_region 9 with (refine wpList_store_row rfl 35 _ _ rfl w2.heap.size (sc m).toArray rfl rfl 35 _ (heap_alloc_last w2 _) (by simp only [List.size_toArray, sc_len]; exact info35) (by simp only [List.size_toArray, sc_len]; rfl) (all_oneCell_toArray (sc_one m)) ?_)
      generalize (w2.alloc (.cells _ 35)).setRow w2.heap.size (sc m).toArray = w3 at *
      generalize w2.heap.size = N at *
      clear hd hlt
      have hi35 : (Try.prog.info? 35).map (·.size) = some (sc m).length := by rw [sc_len]; exact info35
      have hu35 := Try.underlying35
      go_upto_region 10 with fail
      go_loopw [6] (fun i wr => ∃ j : Nat, j ≤ len ∧ i = .int .i64 (j : Int) ∧ Ts w wr B m ∧ Sn wr N m) (fun i _ => len - (intOf i).toNat)
      case atStart => exact ⟨0, by omega, rfl, HH.out.2, HH.out.1⟩
      case round =>
        obtain ⟨j, hj, rfl, hT, hN⟩ := hrel
        clear HH
        by_cases hlt : j < len
        · have hd : decide (j < len) = true := by simp; omega
          obtain ⟨x, hx, ho⟩ := (HZ.out.below hT.b) j hlt
          subst hx
          have c5 : wr.cell? ⟨(x.add (j * 7)).block, (x.add (j * 7)).off + 5, none⟩ = some (.int .u32 ((Z j).ad : Nat)) := by rw [← addp _ (by decide)]; exact ho.c 5 _ rfl
          have had := ho.a
          have hr := hN.all
          have HT := hide (And.intro hT hN)
          clear ho hT hN
          go_upto_region 12 with fail
          go_region_held (fun W => W.rangeAt N 0 (sc m) ∧ W.cell? ⟨(x.add (j * 7)).block, (x.add (j * 7)).off + 5, none⟩ = some (.int .u32 ((Z j).ad : Nat)))
            (first | exact ⟨hr, c5⟩ | exact ⟨(HT.out.2.drew.below hb4).all, cell_up (w := wr.drew) c5 hb4⟩)
            ((refine (found_any _ B m (Z j).ad HT.out.1.t.drew had).mono ?_; rintro e w4 ⟨rfl, hb4⟩))
          rename_i hHeld
          have HT2 := hide (And.intro (HT.out.1.drew.below hb4) (HT.out.2.drew.below hb4))
          clear hHeld hr c5 HT hb4
          go_wp2
          go_roundw
          case rel => exact ⟨j + 1, by omega, by go_num, HT2.out⟩
          case measure => simp [intOf]; omega
        · have hd : decide (j < len) = false := by simp; omega
          have HT := hide (And.intro hT hN)
          clear hT hN HZ
          go_upto_region 15 with fail
          clear hd hlt
          go_loopw [7] (fun i wr => ∃ v : Nat, v ≤ 17 ∧ i = .int .i64 (v : Int) ∧ Ts w wr B m ∧ Sn wr N m) (fun i _ => 17 - (intOf i).toNat)
          case atStart => exact ⟨0, by omega, rfl, HT.out⟩
          case round =>
            obtain ⟨v, hv, rfl, hT, hN⟩ := hrel
            clear HT
            by_cases hlt : v < 17
            · have hd : decide ((v : Int) ≤ 16) = true := by simp; omega
              obtain ⟨q, hq⟩ : ∃ q, v * 32 = q := ⟨_, rfl⟩
              have hqi : (v : Int) * 32 = (q : Int) := by omega
              have hq5 : q ≤ 512 := by omega
              have hw1 : IntKind.i64.wrap (q : Int) = (q : Int) := by rw [IntKind.wrap_i64]; omega
              have hw2 : IntKind.u32.wrap (q : Int) = (q : Int) := by rw [IntKind.wrap_u32]; omega
              have hw3 : IntKind.u32.wrap ((q : Int) + 32) = (q : Int) + 32 := by rw [IntKind.wrap_u32]; omega
              have hw4 : IntKind.u32.wrap ((q : Int) + 31) = (q : Int) + 31 := by rw [IntKind.wrap_u32]; omega
              have hw5 : IntKind.u32.wrap ((q : Int) + 32 - 1) = ((q + 31 : Nat) : Int) := by rw [IntKind.wrap_u32]; omega
              clear hq
              have HT := hide (And.intro hT hN)
              clear hT hN
              go_wp2_with (refine load_st 35 _ Try.underlying35 rfl (sc m) hi35 ?hwB _ rfl ⟨N, 0, none⟩ rfl (fun j v hv => by rw [add0]; exact HT.out.2.get hv) ?_)
              refine (found_any _ B m q HT.out.1.t (by omega)).mono ?_
              rintro e w4 ⟨rfl, hb4⟩
              have HT2 := hide (And.intro (HT.out.1.below hb4) (HT.out.2.below hb4))
              clear HT hb4
              go_wp2_with (refine load_st 35 _ Try.underlying35 rfl (sc m) hi35 ?hwC _ rfl ⟨N, 0, none⟩ rfl (fun j v hv => by rw [add0]; exact HT2.out.2.get hv) ?_)
              refine (found_any _ B m (q + 31) HT2.out.1.t (by omega)).mono ?_
              rintro e w5 ⟨rfl, hb5⟩
              have HT3 := hide (And.intro (HT2.out.1.below hb5) (HT2.out.2.below hb5))
              clear HT2 hb5
              go_wp2
              go_roundw
              case rel => exact ⟨v + 1, by omega, by go_num, HT3.out⟩
              case measure => simp [intOf]; omega
            · have hd : decide ((v : Int) ≤ 16) = false := by simp; omega
              have HT := hide hT.b
              clear hT hN
              go_wp2
              go_ret
              exact ⟨rfl, HT.out⟩
end Go.Proofs.Ytcbfolpeglfbcaa
