import Derived.Test.YtcbfolpeglfbcaaGC
namespace Go.Proofs.Ytcbfolpeglfbcaa
open Go.RowKit
/-- two tables of the law's own -/
structure Tw (w wr : World) (B C : Nat) (m m' : Nat → E) : Prop where
  t : Tb wr B m
  t' : Tb wr C m'
  s : Sm m
  s' : Sm m'
  b : Below w.heap.size w wr
  l : w.heap.size ≤ B
  l' : w.heap.size ≤ C
  ne : B ≠ C
section
variable {w wr w' : World} {B C : Nat} {m m' m1 : Nat → E}
theorem Tw.below (h : Tw w wr B C m m') (hb : Below wr.heap.size wr w') : Tw w w' B C m m' := ⟨h.t.below hb, h.t'.below hb, h.s, h.s', h.b.trans (hb.mono h.b.size), h.l, h.l', h.ne⟩
theorem Tw.go (h : Tw w wr B C m m') (hg : TGo wr w' B m1) (hs : Sm m1) : Tw w w' B C m1 m' :=
  ⟨hg.1, h.t'.mod hg.2 (fun e => h.ne e.symm), hs, h.s', h.b.trans (hg.2.below (fun b hb => by rw [hb]; exact h.l) h.b.size), h.l, h.l', h.ne⟩
theorem Tw.swap (h : Tw w wr B C m m') : Tw w wr C B m' m := ⟨h.t', h.t, h.s', h.s, h.b, h.l', h.l, fun e => h.ne e.symm⟩
end
theorem same_refl (m : Nat → E) : same m m = true := same_iff.2 fun _ _ => rfl
set_option maxRecDepth 100000 in
set_option maxHeartbeats 4000000 in
theorem equal_walk (a : Option Addr) (len cap : Nat) (Z : Nat → Ost) (a' : Option Addr) (len' cap' : Nat) (Z' : Nat → Ost) (w : World) (hl : len ≤ maxLen) (hz : IsOps w a len Z) (hl2 : len' ≤ maxLen) (hz' : IsOps w a' len' Z') :
    Calls Try.prog 3 #[.slice a len cap, .slice a' len' cap'] w fun e w' => e = .returned (.bool true) ∧ Below w.heap.size w w' := by
  have HZ := hide (And.intro hz hz')
  have hl' : len ≤ 9223372036854775807 := hl
  have hl2' : len' ≤ 9223372036854775807 := hl2
  clear hz hz'
  go_enter Try.func3, Try.ntmps3
  go_wp2_with fail
  refine (first_any w).mono ?_
  rintro e w1 ⟨rfl, h1, hb1⟩
  have H1 := hide (And.intro h1 hb1)
  clear h1 hb1
  go_wp2_with fail
  refine (first_any w1).mono ?_
  rintro e w2 ⟨rfl, h2, hb2⟩
  have HS1 : Hid (Tw w w2 w.heap.size w1.heap.size (upd nil 3 (some (7, false))) (upd nil 3 (some (7, false)))) := hide ⟨H1.out.1.below hb2, h2, first_sm, first_sm, H1.out.2.trans (hb2.mono H1.out.2.size), Nat.le_refl _, H1.out.2.size, by have := H1.out.1.lt; omega⟩
  clear h2 hb2 H1
  obtain ⟨B, hB⟩ : ∃ B, w.heap.size = B := ⟨_, rfl⟩
  obtain ⟨C, hC⟩ : ∃ C, w1.heap.size = C := ⟨_, rfl⟩
  rw [hB, hC] at HS1 ⊢
  have hsr := same_refl (upd nil 3 (some (7, false)))
  generalize upd nil 3 (some (7, false)) = m0 at *
  go_wp2_with fail
  refine (equal_any w2 B C m0 m0 HS1.out.t HS1.out.t').mono ?_
  rw [hsr]
  rintro e w3 ⟨rfl, hb3⟩
  have HS2 := hide (HS1.out.below hb3)
  clear HS1 hb3
  go_wp2_with fail
  refine (equal_any w3 B B m0 m0 HS2.out.t HS2.out.t).mono ?_
  rw [hsr]
  rintro e w4 ⟨rfl, hb4⟩
  have HS3 := hide (HS2.out.below hb4)
  clear HS2 hb4
  go_wp2_with fail
  refine (equal_nil w4 B).mono ?_
  rintro e w5 ⟨rfl, rfl⟩
  go_upto_region 8 with fail
  go_loopw [7] (fun i wr => ∃ (k : Nat) (m : Nat → E), k ≤ len ∧ i = .int .i64 (k : Int) ∧ Tw w wr B C m m0) (fun i _ => len - (intOf i).toNat)
  case atStart => exact ⟨0, _, by omega, rfl, HS3.out⟩
  case round =>
    obtain ⟨k, m, hk, rfl, hS⟩ := hrel
    clear HS3
    by_cases hlt : k < len
    · have hd : decide (k < len) = true := by simp; omega
      obtain ⟨x, hx, ho⟩ := (HZ.out.1.below hS.b) k hlt
      subst hx
      have HO := hide ho
      have HS := hide hS
      clear ho hS
      go_wp2_with (refine load_st 31 _ Try.underlying31 rfl (Z k).cells info31 ?hwA _ rfl (x.add (k * 7)) rfl HO.out.c ?_)
      refine (done_any wr B m (Z k) HS.out.t HO.out.z HO.out.l).mono ?_
      rintro e w2 ⟨c, m', rfl, hst, hg⟩
      have HS2 := hide (HS.out.go hg (hst.sm HS.out.s))
      clear hst hg HS HO
      go_wp2
      go_roundw
      case rel => exact ⟨k + 1, m', by omega, by go_num, HS2.out⟩
      case measure => simp [intOf]; omega
    · have hd : decide (k < len) = false := by simp; omega
      have HS := hide hS
      clear hS
      go_upto_region 12 with fail
      clear hd hlt
      go_loopw [8] (fun i wr => ∃ (j : Nat) (m' : Nat → E), j ≤ len' ∧ i = .int .i64 (j : Int) ∧ Tw w wr B C m m') (fun i _ => len' - (intOf i).toNat)
      case atStart => exact ⟨0, _, by omega, rfl, HS.out⟩
      case round =>
        obtain ⟨j, m', hj, rfl, hS⟩ := hrel
        clear HS
        by_cases hlt : j < len'
        · have hd : decide (j < len') = true := by simp; omega
          obtain ⟨x, hx, ho⟩ := (HZ.out.2.below hS.b) j hlt
          subst hx
          have HO := hide ho
          have HS := hide hS
          clear ho hS
          go_wp2_with (refine load_st 31 _ Try.underlying31 rfl (Z' j).cells info31 ?hwB _ rfl (x.add (j * 7)) rfl HO.out.c ?_)
          refine (done_any wr C m' (Z' j) HS.out.t' HO.out.z HO.out.l).mono ?_
          rintro e w2 ⟨c, m2, rfl, hst, hg⟩
          have HS2 := hide (HS.out.swap.go hg (hst.sm HS.out.s')).swap
          clear hst hg HS HO
          go_wp2
          go_roundw
          case rel => exact ⟨j + 1, m2, by omega, by go_num, HS2.out⟩
          case measure => simp [intOf]; omega
        · have hd : decide (j < len') = false := by simp; omega
          have HS := hide hS
          clear hS HZ
          go_wp2_with fail
          refine (seen_any wr B m HS.out.t).mono ?_
          rintro e w3 ⟨rfl, hb3⟩
          have HS2 := hide (HS.out.below hb3)
          clear HS hb3
          go_wp2_with fail
          refine (seen_any w3 C m' HS2.out.t').mono ?_
          rintro e w4 ⟨rfl, hb4⟩
          have HS3 := hide (HS2.out.below hb4)
          clear HS2 hb4
          have he := eq35 m m'
          have hc1 := equal_any (m := m) (m' := m') (B := B) (C := C)
          have hc2 := equal_any (m := m') (m' := m) (B := C) (C := B)
          rw [same_comm m' m] at hc2
          have HC := hide (And.intro hc1 hc2)
          clear hc1 hc2
          generalize same m m' = b at *
          go_wp2_with fail
          refine (HC.out.1 w4 HS3.out.t HS3.out.t').mono ?_
          rintro e w5 ⟨rfl, hb5⟩
          have HS4 := hide (HS3.out.below hb5)
          clear HS3 hb5 he
          cases b
          · go_wp2_with fail
            refine (HC.out.2 w5 HS4.out.t' HS4.out.t).mono ?_
            rintro e w6 ⟨rfl, hb6⟩
            have HB := hide (HS4.out.below hb6).b
            clear HS4 hb6
            go_wp2
            go_ret
            exact ⟨rfl, HB.out⟩
          · go_wp2_with fail
            refine (HC.out.2 w5 HS4.out.t' HS4.out.t).mono ?_
            rintro e w6 ⟨rfl, hb6⟩
            have HB := hide (HS4.out.below hb6).b
            clear HS4 hb6
            go_wp2
            go_ret
            exact ⟨rfl, HB.out⟩
end Go.Proofs.Ytcbfolpeglfbcaa
