import Derived.Test.YtmdcmpkjhflgpaaRD
namespace Go.Proofs.Ytmdcmpkjhflgpaa
open Go.RowKit

section
variable (w : World) (B G n c : Nat) (a : Option Addr) (m : Nat → Fr)
set_option maxHeartbeats 400000 in
theorem rcopy_off (f g : Int) (h : RfAt w B G n c a m) (hu : Off m n f ∨ Off m n g) :
    Calls Try.prog 36 #[.pointer (some ⟨B, 0, none⟩), .int .i64 f, .int .i64 g] w fun e w' => e = .returned (.int .i64 50) ∧ w' = w := by
  rcases on_or_off m n f with h1 | ⟨k, rfl, h1⟩
  · go_enter Try.func36, Try.ntmps36
    go_wp2_with fail
    refine (used_no _ B G n c a m f h h1).mono ?_
    rintro e w1 ⟨rfl, rfl⟩
    go_wp2
    go_ret
    simp
  · have h2 : Off m n g := by
      rcases hu with h2 | h2
      · have := h2 k rfl h1.1; have := h1.2; omega
      · exact h2
    go_enter Try.func36, Try.ntmps36
    go_wp2_with fail
    refine (used_yes _ B G n c a m k h h1).mono ?_
    rintro e w1 ⟨rfl, rfl⟩
    go_wp2_with fail
    refine (used_no _ B G n c a m g h h2).mono ?_
    rintro e w1 ⟨rfl, rfl⟩
    go_wp2
    go_ret
    simp
set_option maxHeartbeats 800000 in
theorem rcopy_on (k t : Nat) (h : RfAt w B G n c a m) (hu : On m n k) (ht : On m n t) :
    Calls Try.prog 36 #[.pointer (some ⟨B, 0, none⟩), .int .i64 (k : Int), .int .i64 (t : Int)] w fun e w' => e = .returned (.int .i64 0) ∧ RGo w w' B G n c a (upd m t { m t with d := true, w := (m k).w }) := by
  go_enter Try.func36, Try.ntmps36
  go_wp2_with fail
  refine (used_yes _ B G n c a m k h hu).mono ?_
  rintro e w1 ⟨rfl, rfl⟩
  go_wp2_with fail
  refine (used_yes _ B G n c a m t h ht).mono ?_
  rintro e w1 ⟨rfl, rfl⟩
  go_wp2_with fail
  refine (rpage_on w1 B G n c a m k h hu).mono ?_
  rintro e w5 ⟨rfl, hb⟩
  have h5 := h.below hb
  have h6 := h5.below (fresh_below w5 (m k).w)
  have hb6 := hb.trans ((fresh_below w5 (m k).w).mono hb.size)
  have r2 := (fresh_pg w5 (m k).w).range
  clear h h5 hb
  have hz : Pg (w5.alloc (.cells (page (fun _ => 0)).toArray 29)) w5.heap.size (fun _ => 0) := ⟨heap_alloc_last _ _⟩
  rw [← page_zero] at hz
  go_upto_region 4 with (refine store24 ?hw _ _ rfl w5.heap.size (m k).w (fun _ => 0) ?hx ?hy ?hz ?_)
  case hx => rfl
  case hy => rfl
  case hz => exact hz
  simp only [page_zero]
  show Code.wp _ _ _ _ (fresh w5 (m k).w)
  clear hz
  generalize fresh w5 (m k).w = w6 at *
  generalize w5.heap.size = N5 at *
  go_wp2_with (refine load24 rfl _ rfl N5 0 rfl _ r2 ?_)
  refine (rsetPage_on w6 B G n c a m t (m k).w h6 ht).mono ?_
  rintro e w7 ⟨rfl, hg⟩
  have HR : Hid (RGo w1 w7 B G n c a (upd m t { m t with d := true, w := (m k).w })) := hide ⟨hg.1, (Mod.of_below hb6).trans hg.2⟩
  clear hg h6 hb6 r2 hu ht
  go_wp2
  go_ret
  exact ⟨rfl, HR.out⟩
set_option maxHeartbeats 400000 in
theorem rsame_off (f g : Int) (h : RfAt w B G n c a m) (hu : Off m n f ∨ Off m n g) :
    Calls Try.prog 13 #[.pointer (some ⟨B, 0, none⟩), .int .i64 f, .int .i64 g] w fun e w' => e = .returned (.tuple #[.bool false, .int .i64 50]) ∧ w' = w := by
  rcases on_or_off m n f with h1 | ⟨k, rfl, h1⟩
  · go_enter Try.func13, Try.ntmps13
    go_wp2_with fail
    refine (used_no _ B G n c a m f h h1).mono ?_
    rintro e w1 ⟨rfl, rfl⟩
    go_wp2
    go_ret2
    simp
  · have h2 : Off m n g := by
      rcases hu with h2 | h2
      · have := h2 k rfl h1.1; have := h1.2; omega
      · exact h2
    go_enter Try.func13, Try.ntmps13
    go_wp2_with fail
    refine (used_yes _ B G n c a m k h h1).mono ?_
    rintro e w1 ⟨rfl, rfl⟩
    go_wp2_with fail
    refine (used_no _ B G n c a m g h h2).mono ?_
    rintro e w1 ⟨rfl, rfl⟩
    go_wp2
    go_ret2
    simp
set_option maxHeartbeats 800000 in
theorem rsame_on (k t : Nat) (h : RfAt w B G n c a m) (hu : On m n k) (ht : On m n t) :
    Calls Try.prog 13 #[.pointer (some ⟨B, 0, none⟩), .int .i64 (k : Int), .int .i64 (t : Int)] w fun e w' => e = .returned (.tuple #[.bool (eqP (m k).w (m t).w), .int .i64 0]) ∧ Below w.heap.size w w' := by
  go_enter Try.func13, Try.ntmps13
  go_wp2_with fail
  refine (used_yes _ B G n c a m k h hu).mono ?_
  rintro e w1 ⟨rfl, rfl⟩
  go_wp2_with fail
  refine (used_yes _ B G n c a m t h ht).mono ?_
  rintro e w1 ⟨rfl, rfl⟩
  have hk := hu.1
  have hk2 := ht.1
  have HH := hide h
  clear h hu ht
  go_wp2
  go_loopw [8] (fun i wr => ∃ j : Nat, j ≤ 32 ∧ i = .int .i64 (j : Int) ∧ (∀ x, x < j → (m k).w x = (m t).w x) ∧ Below w1.heap.size w1 wr) (fun i _ => 32 - (intOf i).toNat)
  case atStart => exact ⟨0, by omega, rfl, fun x hx => by omega, Below.refl _ _⟩
  case round =>
    obtain ⟨j, hj, rfl, he, hb⟩ := hrel
    have hR := HH.out.below hb
    have HB := hide hb
    have HE := hide he
    clear hb he
    by_cases hlt : j < 32
    · have hd : decide ((j : Int) < 32) = true := by simp; omega
      have c0 := hR.hds hk
      have c1 := hR.word hk hlt
      have c2 := hR.word hk2 hlt
      clear hR
      generalize hx : (m k).w j = x at *
      generalize hy : (m t).w j = y at *
      have HX := hide (And.intro hx hy)
      clear hx hy
      go_wp2
      go_region
      by_cases hxy : x = y
      · subst hxy
        go_wp2
        go_roundw
        case rel => exact ⟨j + 1, by omega, by go_num, fun z hz => by
                      by_cases e : z = j
                      · subst e; rw [HX.out.1, HX.out.2]
                      · exact HE.out z (by omega), HB.out.drew⟩
        case measure => simp [intOf]; omega
      · have hd2 : decide ((x : Int) = (y : Int)) = false := by simp; omega
        go_wp2
        go_ret2
        refine ⟨?_, HB.out.drew⟩
        have : eqP (m k).w (m t).w = false := by
          rw [Bool.eq_false_iff]; intro h; have := (eqP_iff _ _).1 h j hlt; rw [HX.out.1, HX.out.2] at this; exact hxy this
        rw [this]
        rfl
    · obtain rfl : j = 32 := by omega
      clear hR
      go_wp2
      go_ret2
      refine ⟨?_, HB.out⟩
      rw [(eqP_iff _ _).2 HE.out]
      rfl
end
end Go.Proofs.Ytmdcmpkjhflgpaa
