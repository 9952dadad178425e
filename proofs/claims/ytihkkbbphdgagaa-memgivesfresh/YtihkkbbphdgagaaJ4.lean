import Derived.Test.YtihkkbbphdgagaaJ3
namespace Go.Proofs.Ytihkkbbphdgagaa
open Go.RowKit

/-- frame 0 with h holds, the words p; frame 1 in use, frame 2 free -/
structure Fs (m : Nat → Fr) (h : Nat) (d : Bool) (p : Nat → Nat) : Prop where
  h : (m 0).h = h
  d : (m 0).d = d
  w : (m 0).w = p
  one : 0 < (m 1).h
  two : (m 2).h = 0
theorem Fs.on {m : Nat → Fr} {h : Nat} {d : Bool} {p : Nat → Nat} (f : Fs m h d p) (hp : 0 < h) : On m 3 0 := ⟨by omega, by rw [f.h]; exact hp⟩
theorem Fs.held {m : Nat → Fr} {h : Nat} {d : Bool} {p : Nat → Nat} (f : Fs m h d p) (h2 : Nat) : Fs (upd m 0 { m 0 with h := h2 }) h2 d p :=
  ⟨by simp [upd], by simp [upd, f.d], by simp [upd, f.w], by simp [upd, f.one], by simp [upd, f.two]⟩
theorem eq_zero (w : World) : (Op.equalIn 10000 24 (.agg (page (fun _ => 0)).toArray) (.agg #[.int .u32 0, .int .u32 0, .int .u32 0, .int .u32 0, .int .u32 0, .int .u32 0, .int .u32 0, .int .u32 0, .int .u32 0, .int .u32 0, .int .u32 0, .int .u32 0, .int .u32 0, .int .u32 0, .int .u32 0, .int .u32 0, .int .u32 0, .int .u32 0, .int .u32 0, .int .u32 0, .int .u32 0, .int .u32 0, .int .u32 0, .int .u32 0, .int .u32 0, .int .u32 0, .int .u32 0, .int .u32 0, .int .u32 0, .int .u32 0, .int .u32 0, .int .u32 0])).run Try.prog w = .ok true w := by
  have := eq24 (fun _ => 0) (fun _ => 0) w
  rw [eqP_refl] at this
  exact this
set_option maxRecDepth 100000 in
set_option maxHeartbeats 2000000 in
theorem fresh_walk (p : Nat → Nat) (hs : Int) (sr : Int) (w : World) :
    Calls Try.prog 8 #[.agg (page p).toArray, .int .i64 hs, .int .i64 sr] w fun e w' => e = .returned (.bool true) ∧ Below w.heap.size w w' := by
  go_enter Try.func8, Try.ntmps8
  by_cases g0 : hs < 0
  · go_wp2
    go_ret
    exact ⟨rfl, (Below.refl _ _).alloc (Nat.le_refl _) _⟩
  by_cases g1 : 1000 < hs
  · go_wp2
    go_ret
    exact ⟨rfl, (Below.refl _ _).alloc (Nat.le_refl _) _⟩
  by_cases g2 : sr < 3
  · have d1 : decide (1000 < hs) = false := by simp; omega
    go_wp2
    go_ret
    exact ⟨rfl, (Below.refl _ _).alloc (Nat.le_refl _) _⟩
  by_cases g3 : 4611686018427387903 < sr
  · have d1 : decide (1000 < hs) = false := by simp; omega
    have d2 : decide (sr < 3) = false := by simp; omega
    go_wp2
    go_ret
    exact ⟨rfl, (Below.refl _ _).alloc (Nat.le_refl _) _⟩
  obtain ⟨H, rfl⟩ := Int.eq_ofNat_of_zero_le (show 0 ≤ hs by omega)
  have hH : H ≤ 1000 := by omega
  have d0 : decide ((H : Int) < 0) = false := by simp
  have d1 : decide (1000 < (H : Int)) = false := by simp; omega
  have d2 : decide (sr < 3) = false := by simp; omega
  have d3 : decide (4611686018427387903 < sr) = false := by simp; omega
  have hs1 : 1 ≤ sr := by omega
  have hs2 : sr ≤ 4611686018427387903 := by omega
  clear g0 g1 g2 g3
  have hp0 : Pg (w.alloc (.cells (page p).toArray 24)) w.heap.size p := ⟨heap_alloc_last _ _⟩
  have hb0 : Below w.heap.size w (w.alloc (.cells (page p).toArray 24)) := (Below.refl _ _).alloc (Nat.le_refl _) _
  go_wp2_with fail
  generalize w.alloc (.cells (page p).toArray 24) = w0 at *
  refine (two_any w0 3 (by omega) (by omega)).mono ?_
  rintro e w1 ⟨B, G, rfl, hM, hB, hG, hb1⟩
  have hp1 := hp0.up hb1
  have hNG : w.heap.size ≠ G := by have := hp0.lt; omega
  have h1 : Sx w w1 B G 3 two := ⟨hM, Nat.le_trans hb0.size hB, Nat.le_trans hb0.size hG, hb0.trans (hb1.mono hb0.size)⟩
  clear hM hB hG hb1 hp0 hb0
  have r1 := hp1.range
  go_wp2_with (refine load24 rfl _ rfl w.heap.size 0 rfl _ r1 ?_)
  refine (setPage_on w1 B G 3 two 0 p h1.mem ⟨by omega, by simp [two, upd, Fr.new]⟩).mono ?_
  rintro e w2 ⟨rfl, hg⟩
  have h2 := h1.go hg
  have hp2 := hp1.go hg hNG
  clear h1 hp1 hg r1
  have hf2 : Fs (upd two 0 { two 0 with d := true, w := p }) 1 true p := ⟨by simp [two, upd, Fr.new], by simp [upd], by simp [upd], by simp [two, upd, Fr.new], by simp [two, upd, Fr.nil]⟩
  have H2 := hide (And.intro h2 (And.intro hp2 hf2))
  clear h2 hp2 hf2
  go_wp2
  go_loopw [8] (fun i wr => ∃ (k : Nat) (m : Nat → Fr), k ≤ H ∧ i = .int .i64 (k : Int) ∧ Sx w wr B G 3 m ∧ Pg wr w.heap.size p ∧ Fs m (1 + k) true p) (fun i _ => 1001 - (intOf i).toNat)
  case atStart => exact ⟨0, _, by omega, rfl, H2.out⟩
  case round =>
    obtain ⟨k, m, hk, rfl, hS, hP, hF⟩ := hrel
    by_cases hlt : k < H
    · have hd : decide ((k : Int) < (H : Int)) = true := by simp; omega
      go_wp2_with fail
      refine (hold_on wr B G 3 m 0 hS.mem (hF.on (by omega)) (by rw [hF.h]; omega)).mono ?_
      rintro e w3 ⟨rfl, hg⟩
      have HS := hide (And.intro (hS.go hg) (And.intro (hP.go hg hNG) (hF.held ((m 0).h + 1))))
      rw [show (m 0).h + 1 = 1 + (k + 1) by rw [hF.h]; omega] at HS
      clear hS hP hF hg
      go_wp2
      go_roundw
      case rel => exact ⟨k + 1, _, by omega, by go_num, HS.out⟩
      case measure => simp [intOf]; omega
    · have hd : decide ((k : Int) < (H : Int)) = false := by simp; omega
      have hkH : k = H := by omega
      clear H2 hlt
      go_wp2_with fail
      refine (clean_yes wr B G 3 m 0 9 hS.mem (hF.on (by omega)) (by decide) (by decide) hF.d).mono ?_
      rintro e w3 ⟨rfl, hg⟩
      have hf3 : Fs (upd m 0 { m 0 with d := false, k := 9 }) (1 + H) false p := ⟨by simp [upd, hF.h, hkH], by simp [upd], by simp [upd, hF.w], by simp [upd, hF.one], by simp [upd, hF.two]⟩
      have H3 := hide (And.intro (hS.go hg) (And.intro (hP.go hg hNG) hf3))
      clear hS hP hF hg hf3 hkH
      have he := eq24 p p
      rw [eqP_refl] at he
      go_wp2
      clear hd hk
      go_loopw [9] (fun i wr => ∃ (k : Nat) (m : Nat → Fr), k ≤ H ∧ i = .int .i64 (k : Int) ∧ Sx w wr B G 3 m ∧ Pg wr w.heap.size p ∧ Fs m (1 + H - k) false p) (fun i _ => 1001 - (intOf i).toNat)
      case atStart => exact ⟨0, _, by omega, rfl, H3.out⟩
      case round =>
        clear H3
        obtain ⟨k, m, hk, rfl, hS, hP, hF⟩ := hrel
        by_cases hlt : k < H
        · have hd : decide ((k : Int) < (H : Int)) = true := by simp; omega
          go_wp2_with fail
          refine (drop_more wr B G 3 m 0 hS.mem (hF.on (by omega)) (by rw [hF.h]; omega) (by rw [hF.h]; omega)).mono ?_
          rintro e w4 ⟨rfl, hg⟩
          have hS4 := hS.go hg
          have hP4 := hP.go hg hNG
          have hF4 := hF.held ((m 0).h - 1)
          rw [show (m 0).h - 1 = 1 + H - (k + 1) by rw [hF.h]; omega] at hF4 hS4
          clear hS hP hF hg
          generalize hm4 : upd m 0 { m 0 with h := 1 + H - (k + 1) } = m4 at *
          clear hm4
          go_wp2_with fail
          refine (page_on w4 B G 3 m4 0 hS4.mem (hF4.on (by omega))).mono ?_
          rintro e w5 ⟨rfl, hb⟩
          rw [hF4.w]
          have hS5 := hS4.below hb
          have hP5 := hP4.up hb
          clear hS4 hP4 hb
          have hS6 := hS5.below (fresh_below w5 p)
          have hP6 := hP5.up (fresh_below w5 p)
          have r1 := hP6.range
          have r2 := (fresh_pg w5 p).range
          have HX := hide (And.intro hS6 (And.intro hP6 hF4))
          clear hS5 hP5 hS6 hP6 hF4
          have hz : Pg (w5.alloc (.cells (page (fun _ => 0)).toArray 24)) w5.heap.size (fun _ => 0) := ⟨heap_alloc_last _ _⟩
          rw [← page_zero] at hz
          go_upto_region 17 with (refine store24 ?hw _ _ rfl w5.heap.size p (fun _ => 0) ?hx ?hy ?hz ?_)
          case hx => rfl
          case hy => rfl
          case hz => exact hz
          simp only [page_zero]
          show Code.wp _ _ _ _ (fresh w5 p)
          clear hz
          generalize fresh w5 p = w6 at *
          generalize w5.heap.size = N5 at *
          go_wp2_with (first | refine load24 rfl _ rfl N5 0 rfl _ r2 ?_ | refine load24 rfl _ rfl w.heap.size 0 rfl _ r1 ?_)
          go_roundw
          case rel => exact ⟨k + 1, _, by omega, by go_num, HX.out⟩
          case measure => simp [intOf]; omega
        · have hd : decide ((k : Int) < (H : Int)) = false := by simp; omega
          have hdn : decide (k < H) = false := by simp; omega
          have hkH : k = H := by omega
          have hF1 : Fs m 1 false p := by have := hF; rwa [show 1 + H - k = 1 by omega] at this
          clear hF
          go_wp2_with fail
          refine (drop_last wr B G 3 m 0 hS.mem (hF1.on (by omega)) hF1.h).mono ?_
          rintro e w4 ⟨rfl, hg⟩
          have hS4 := hS.go hg
          have hl4 : lives (upd m 0 Fr.nil) 3 = [1] := by
            rw [lives_no (k := 2) (by simp [upd, hF1.two]), lives_yes (k := 1) (by simp [upd, hF1.one]), lives_no (k := 0) (by simp [upd, Fr.nil])]; rfl
          have ho4 : Off (upd m 0 Fr.nil) 3 0 := fun j hj _ => by obtain rfl : j = 0 := (by omega); simp [upd, Fr.nil]
          have hz4 : (upd m 0 Fr.nil 0).h = 0 := rfl
          clear hS hP hg hF1
          generalize upd m 0 Fr.nil = m4 at *
          go_wp2_with fail
          refine (page_off w4 B G 3 m4 0 hS4.mem ho4).mono ?_
          rintro e w5 ⟨rfl, hb⟩
          obtain ⟨z, hzz⟩ : ∃ z : Nat → Nat, (fun _ => 0) = z := ⟨_, rfl⟩
          rw [hzz]
          have HZ := hide hzz
          clear hzz
          have hS5 := hS4.below hb
          have hS6 := hS5.below (fresh_below w5 z)
          clear hS4 hb hS5
          have hz : Pg (w5.alloc (.cells (page (fun _ => 0)).toArray 24)) w5.heap.size (fun _ => 0) := ⟨heap_alloc_last _ _⟩
          rw [← page_zero] at hz
          go_upto_region 21 with (refine store24 ?hw2 _ _ rfl w5.heap.size z (fun _ => 0) ?hx2 ?hy2 ?hz2 ?_)
          case hx2 => rfl
          case hy2 => rfl
          case hz2 => exact hz
          simp only [page_zero]
          show Code.wp _ _ _ _ (fresh w5 z)
          clear hz
          generalize fresh w5 z = w6 at *
          generalize w5.heap.size = N5 at *
          go_wp2_with fail
          refine (free_any w6 B G 3 m4 hS6.mem (by omega)).mono ?_
          rintro e w7 ⟨rfl, hb⟩
          rw [hl4]
          have hS7 := hS6.below hb
          clear hb hS6
          simp only [List.length_singleton]
          go_wp2_with fail
          refine (alloc_ok w7 B G 3 m4 sr hS7.mem (by omega) hs1 hs2 0 (fun j hj => by omega) (by omega) hz4).mono ?_
          rintro e w8 ⟨rfl, hg⟩
          have hS8 := hS7.go hg
          have hv8 : upd m4 0 (Fr.new sr) 0 = Fr.new sr := by simp [upd]
          clear hS7 hg
          generalize upd m4 0 (Fr.new sr) = m8 at *
          have ho8 : On m8 3 0 := ⟨by omega, by rw [hv8]; simp [Fr.new]⟩
          go_wp2_with fail
          refine (page_on w8 B G 3 m8 0 hS8.mem ho8).mono ?_
          rintro e w9 ⟨rfl, hb⟩
          have hS9 := hS8.below hb
          clear hS8 hb
          rw [hv8]
          simp only [Fr.new]
          rw [HZ.out]
          have hSA := hS9.below (fresh_below w9 z)
          have r2 := fresh_pg w9 z
          clear hS9
          have hz : Pg (w9.alloc (.cells (page (fun _ => 0)).toArray 24)) w9.heap.size (fun _ => 0) := ⟨heap_alloc_last _ _⟩
          rw [← page_zero] at hz
          go_upto_region 25 with (refine store24 ?hw3 _ _ rfl w9.heap.size z (fun _ => 0) ?hx3 ?hy3 ?hz3 ?_)
          case hx3 => rfl
          case hy3 => rfl
          case hz3 => exact hz
          simp only [page_zero]
          show Code.wp _ _ _ _ (fresh w9 z)
          clear hz
          generalize fresh w9 z = wA at *
          generalize w9.heap.size = N9 at *
          go_wp2_with fail
          refine (info_on wA B G 3 m8 0 hSA.mem ho8).mono ?_
          rintro e wB ⟨rfl, hb⟩
          have hSB := hSA.below hb
          have rB := (r2.up hb)
          clear hSA hb r2
          rw [hv8]
          simp only [Fr.new, Fr.head]
          have hbC := hSB.bel
          have HB : Hid (∀ o, Below w.heap.size w (wB.alloc o) ∧ w.heap.size ≤ wB.heap.size) := hide (fun o => ⟨hbC.alloc hbC.size o, hbC.size⟩)
          have r3 : ∀ o, (wB.alloc o).rangeAt N9 0 (page z) := fun o => (rB.up ((Below.refl _ _).alloc (Nat.le_refl _) o)).range
          have hez := eq_zero
          rw [HZ.out] at hez
          clear hSB rB hbC
          go_upto_region 26 with fail
          have r4 := r3 (.cells #[.int .i64 sr, .int .i64 1, .bool true, .int .i64 0] 42)
          have c1 : ∀ j v, #[Value.int .i64 sr, .int .i64 1, .bool true, .int .i64 0][j]? = some v → (wB.alloc (.cells #[.int .i64 sr, .int .i64 1, .bool true, .int .i64 0] 42)).cell? ⟨wB.heap.size, j, none⟩ = some v := fun j v hv => by rw [cell_of_row _ _ _ _ _ _ (heap_alloc_last _ _)]; exact hv
          have e0 := c1 0 _ rfl
          have e1 := c1 1 _ rfl
          have e2 := c1 2 _ rfl
          have e3 := c1 3 _ rfl
          have HB2 := hide (HB.out (.cells #[.int .i64 sr, .int .i64 1, .bool true, .int .i64 0] 42)).1
          clear r3 c1 HB
          generalize wB.alloc (.cells #[.int .i64 sr, .int .i64 1, .bool true, .int .i64 0] 42) = wC at *
          generalize wB.heap.size = NB at *
          go_wp2_with (refine load24 rfl _ rfl N9 0 rfl _ r4 ?_)
          go_ret
          exact ⟨rfl, HB2.out⟩
end Go.Proofs.Ytihkkbbphdgagaa
