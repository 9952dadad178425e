import Derived.Test.YtihkkbbphdgagabK3
import Derived.Test.YtihkkbbphdgagabK7
namespace Go.Proofs.Ytihkkbbphdgagab
open Go.RowKit

theorem two_le (j : Nat) : (two j).h ≤ 1 := by simp only [two, upd]; split; simp [Fr.new]; split; simp [Fr.new]; simp [Fr.nil]
set_option maxRecDepth 1000000 in
set_option maxHeartbeats 4000000 in
theorem walls_clean (p : Nat → Nat) (a : Option Addr) (len cap : Nat) (O : Nat → Ost) (w : World) (hl : len ≤ maxLen) (hO : IsOps w a len O) :
    Calls Try.prog 3 #[.agg (page p).toArray, .bool true, .slice a len cap] w fun e w' => e = .returned (.bool true) ∧ Below w.heap.size w w' := by
  have hl2 : len ≤ 9223372036854775807 := by unfold maxLen at hl; omega
  clear hl
  have hp0 : Pg (w.alloc (.cells (page p).toArray 24)) w.heap.size p := ⟨heap_alloc_last _ _⟩
  have hb0 : Below w.heap.size w (w.alloc (.cells (page p).toArray 24)) := (Below.refl _ _).alloc (Nat.le_refl _) _
  go_enter Try.func3, Try.ntmps3
  go_wp2_with fail
  generalize w.alloc (.cells (page p).toArray 24) = w0 at *
  refine (two_any w0 8 (by omega) (by omega)).mono ?_
  rintro e w1 ⟨B, G, rfl, hM, hB, hG, hb1⟩
  have hp1 := hp0.up hb1
  have hNG : w.heap.size ≠ G := by have := hp0.lt; omega
  have h1 : Sx w w1 B G 8 two := ⟨hM, Nat.le_trans hb0.size hB, Nat.le_trans hb0.size hG, hb0.trans (hb1.mono hb0.size)⟩
  clear hM hB hG hb1 hp0 hb0
  have r1 := hp1.range
  go_wp2_with (refine load24 rfl _ rfl w.heap.size 0 rfl _ r1 ?_)
  refine (setPage_on w1 B G 8 two 0 p h1.mem ⟨by omega, by simp [two, upd, Fr.new]⟩).mono ?_
  rintro e w2 ⟨rfl, hg⟩
  have h2 := h1.go hg
  have hp2 := hp1.go hg hNG
  clear h1 hp1 hg r1
  have hf2 : Wl (upd two 0 { two 0 with d := true, w := p }) ⟨1, 1, true, 0, p⟩ 2 := ⟨rfl, rfl, fun j => by
    unfold upd; split
    · have := two_le 0; show (two 0).h ≤ 2; omega
    · have := two_le j; omega⟩
  generalize upd two 0 { two 0 with d := true, w := p } = m2 at *
  obtain ⟨w3, hw3⟩ : ∃ w3, w2 = w3 := ⟨_, rfl⟩
  clear hw3
  go_wp2_with fail
  refine (clean_yes w2 B G 8 m2 0 77 h2.mem hf2.on (by decide) (by decide) (by rw [hf2.fr])).mono ?_
  rintro e w3 ⟨rfl, hg⟩
  have hf3 : Wl (upd m2 0 { m2 0 with d := false, k := 77 }) ⟨1, 1, false, 77, p⟩ 2 := ⟨by rw [upd_same, hf2.fr], rfl, fun j => by unfold upd; split; exact hf2.b 0; exact hf2.b j⟩
  have H3 := hide (And.intro (h2.go hg) (And.intro (hp2.go hg hNG) hf3))
  clear h2 hp2 hg hf2 hf3
  have HO := hide hO
  clear hO
  obtain ⟨f, hf⟩ : ∃ f : Fr, f = ⟨1, 1, false, 77, p⟩ := ⟨_, rfl⟩
  have hfw : f.w = p := by rw [hf]
  have hfh : f.head.toArray = #[.int .i64 1, .int .i64 1, .bool false, .int .i64 77] := by rw [hf]; rfl
  rw [← hf] at H3
  clear hf
  have he := eq24 p p
  rw [eqP_refl] at he
  go_wp2
  go_loopw [10] (fun i wr => ∃ (k : Nat) (m : Nat → Fr), k ≤ len ∧ k ≤ 4096 ∧ i = .int .i64 (k : Int) ∧ Sx w wr B G 8 m ∧ Pg wr w.heap.size p ∧ Wl m f (2 + k)) (fun i _ => 4097 - (intOf i).toNat)
  case atStart => exact ⟨0, _, by omega, by omega, rfl, H3.out⟩
  case round =>
    clear H3
    obtain ⟨k, m, hk, hk2, rfl, hS, hP, hW⟩ := hrel
    by_cases hlt : k < len
    · by_cases hlt2 : k < 4096
      · obtain ⟨x, rfl, hx⟩ := HO.out.below hS.bel k hlt
        generalize O k = o at *
        have hd1 : decide ((k : Int) < (len : Int)) = true := by simp; omega
        have hd2 : decide ((k : Int) < 4096) = true := by simp; omega
        go_wp2_with (refine load34 ?lw1 _ rfl (x.add (k * 37)) ?lx1 o ?lc1 ?_)
        case lx1 => rfl
        case lc1 => exact hx
        refine (names_any wr o).mono ?_
        rintro e w4 ⟨rfl, hb4⟩
        have hS4 := hS.below hb4
        have hP4 := hP.up hb4
        have hx4 : ∀ (j : Nat) (v : Value), o.cells[j]? = some v → w4.cell? ((x.add (k * 37)).add j) = some v := fun j v hv => by
          have h3 := hx j v hv
          rw [hb4.cell (World.block_lt_of_cell? wr _ h3)]; exact h3
        clear hS hP hb4 hx
        by_cases g : Nm o
        · rw [nm_yes g]
          have HX := hide (And.intro hS4 (And.intro hP4 hW.mono))
          clear hS4 hP4 hW hx4
          go_wp2
          go_roundw
          case rel => exact ⟨k + 1, m, by omega, by omega, by go_num, HX.out⟩
          case measure => simp [intOf]; omega
        · rw [nm_no g]
          go_wp2_with (refine load34 ?lw2 _ rfl (x.add (k * 37)) ?lx2 o ?lc2 ?_)
          case lx2 => rfl
          case lc2 => exact hx4
          refine (play_any w4 B G 8 m o hS4.mem (by omega) (fun j => by have := hW.b j; omega)).mono ?_
          rintro e w5 ⟨rfl, m5, he5, hg5⟩
          have hS5 := hS4.go hg5
          have hP5 := hP4.go hg5 hNG
          have hW5 := hW.step he5 g
          clear hS4 hP4 hW hg5 he5 hx4 g
          go_wp2_with fail
          refine (page_on w5 B G 8 m5 0 hS5.mem hW5.on).mono ?_
          rintro e w6 ⟨rfl, hb⟩
          rw [hW5.fr, hfw]
          have hS6 := hS5.below hb
          have hP6 := hP5.up hb
          clear hS5 hP5 hb
          have hS7 := hS6.below (fresh_below w6 p)
          have hP7 := hP6.up (fresh_below w6 p)
          have hQ7 := fresh_pg w6 p
          clear hS6 hP6
          have hz : Pg (w6.alloc (.cells (page (fun _ => 0)).toArray 24)) w6.heap.size (fun _ => 0) := ⟨heap_alloc_last _ _⟩
          rw [← page_zero] at hz
          go_upto_region 14 with (refine store24 ?hw1 _ _ rfl w6.heap.size p (fun _ => 0) ?hx1 ?hy1 ?hz1 ?_)
          case hx1 => rfl
          case hy1 => rfl
          case hz1 => exact hz
          simp only [page_zero]
          show Code.wp _ _ _ _ (fresh w6 p)
          clear hz
          generalize fresh w6 p = w7 at *
          generalize w6.heap.size = N6 at *
          go_wp2_with fail
          refine (info_on w7 B G 8 m5 0 hS7.mem hW5.on).mono ?_
          rintro e w8 ⟨rfl, hb⟩
          rw [hW5.fr, hfh]
          have hS8 := hS7.below hb
          have hP8 := hP7.up hb
          have hQ8 := hQ7.up hb
          clear hS7 hP7 hQ7 hb
          have hal : Below w8.heap.size w8 (w8.alloc (.cells #[.int .i64 1, .int .i64 1, .bool false, .int .i64 77] 39)) := (Below.refl _ _).alloc (Nat.le_refl _) _
          have hS9 := hS8.below hal
          have hP9 := hP8.up hal
          have r9 := (hQ8.up hal).range
          have r9p := hP9.range
          have c1 : ∀ j v, #[Value.int .i64 1, .int .i64 1, .bool false, .int .i64 77][j]? = some v → (w8.alloc (.cells #[.int .i64 1, .int .i64 1, .bool false, .int .i64 77] 39)).cell? ⟨w8.heap.size, j, none⟩ = some v := fun j v hv => by rw [cell_of_row _ _ _ _ _ _ (heap_alloc_last _ _)]; exact hv
          have e0 := c1 0 _ rfl
          have e1 := c1 1 _ rfl
          have e2 := c1 2 _ rfl
          have e3 := c1 3 _ rfl
          have HX := hide (And.intro hS9 (And.intro hP9 hW5))
          clear hS8 hP8 hQ8 hS9 hP9 hal c1 hW5
          go_upto_region 15 with fail
          generalize w8.alloc (.cells #[.int .i64 1, .int .i64 1, .bool false, .int .i64 77] 39) = w9 at *
          generalize w8.heap.size = N8 at *
          go_wp2_with (first | refine load24 rfl _ rfl N6 0 rfl _ r9 ?_ | refine load24 rfl _ rfl w.heap.size 0 rfl _ r9p ?_)
          go_roundw
          case rel => exact ⟨k + 1, m5, by omega, by omega, by go_num, HX.out⟩
          case measure => simp [intOf]; omega
      · have hd1 : decide ((k : Int) < (len : Int)) = true := by simp; omega
        have hd2 : decide ((k : Int) < 4096) = false := by simp; omega
        go_wp2_with fail
        refine (page_on wr B G 8 m 0 hS.mem hW.on).mono ?_
        rintro e w6 ⟨rfl, hb⟩
        rw [hW.fr, hfw]
        have hS6 := hS.below hb
        have hP6 := hP.up hb
        have HB := hide (hS6.below (fresh_below w6 p)).bel
        have r9p := (hP6.up (fresh_below w6 p)).range
        have r9 := (fresh_pg w6 p).range
        clear hS hP hb hS6 hP6 hW
        have hz : Pg (w6.alloc (.cells (page (fun _ => 0)).toArray 24)) w6.heap.size (fun _ => 0) := ⟨heap_alloc_last _ _⟩
        rw [← page_zero] at hz
        go_upto_region 18 with (refine store24 ?hw7 _ _ rfl w6.heap.size p (fun _ => 0) ?hx7 ?hy7 ?hz7 ?_)
        case hx7 => rfl
        case hy7 => rfl
        case hz7 => exact hz
        simp only [page_zero]
        show Code.wp _ _ _ _ (fresh w6 p)
        clear hz
        generalize fresh w6 p = w7 at *
        generalize w6.heap.size = N6 at *
        go_wp2_with (first | refine load24 rfl _ rfl N6 0 rfl _ r9 ?_ | refine load24 rfl _ rfl w.heap.size 0 rfl _ r9p ?_)
        go_ret
        exact ⟨rfl, HB.out⟩
    · have hd1 : decide ((k : Int) < (len : Int)) = false := by simp; omega
      go_wp2_with fail
      refine (page_on wr B G 8 m 0 hS.mem hW.on).mono ?_
      rintro e w6 ⟨rfl, hb⟩
      rw [hW.fr, hfw]
      have hS6 := hS.below hb
      have hP6 := hP.up hb
      have HB := hide (hS6.below (fresh_below w6 p)).bel
      have r9p := (hP6.up (fresh_below w6 p)).range
      have r9 := (fresh_pg w6 p).range
      clear hS hP hb hS6 hP6 hW
      have hz : Pg (w6.alloc (.cells (page (fun _ => 0)).toArray 24)) w6.heap.size (fun _ => 0) := ⟨heap_alloc_last _ _⟩
      rw [← page_zero] at hz
      go_upto_region 18 with (refine store24 ?hw8 _ _ rfl w6.heap.size p (fun _ => 0) ?hx8 ?hy8 ?hz8 ?_)
      case hx8 => rfl
      case hy8 => rfl
      case hz8 => exact hz
      simp only [page_zero]
      show Code.wp _ _ _ _ (fresh w6 p)
      clear hz
      generalize fresh w6 p = w7 at *
      generalize w6.heap.size = N6 at *
      go_wp2_with (first | refine load24 rfl _ rfl N6 0 rfl _ r9 ?_ | refine load24 rfl _ rfl w.heap.size 0 rfl _ r9p ?_)
      go_ret
      exact ⟨rfl, HB.out⟩
set_option maxRecDepth 1000000 in
set_option maxHeartbeats 4000000 in
theorem walls_dirty (p : Nat → Nat) (a : Option Addr) (len cap : Nat) (O : Nat → Ost) (w : World) (hl : len ≤ maxLen) (hO : IsOps w a len O) :
    Calls Try.prog 3 #[.agg (page p).toArray, .bool false, .slice a len cap] w fun e w' => e = .returned (.bool true) ∧ Below w.heap.size w w' := by
  have hl2 : len ≤ 9223372036854775807 := by unfold maxLen at hl; omega
  clear hl
  have hp0 : Pg (w.alloc (.cells (page p).toArray 24)) w.heap.size p := ⟨heap_alloc_last _ _⟩
  have hb0 : Below w.heap.size w (w.alloc (.cells (page p).toArray 24)) := (Below.refl _ _).alloc (Nat.le_refl _) _
  go_enter Try.func3, Try.ntmps3
  go_wp2_with fail
  generalize w.alloc (.cells (page p).toArray 24) = w0 at *
  refine (two_any w0 8 (by omega) (by omega)).mono ?_
  rintro e w1 ⟨B, G, rfl, hM, hB, hG, hb1⟩
  have hp1 := hp0.up hb1
  have hNG : w.heap.size ≠ G := by have := hp0.lt; omega
  have h1 : Sx w w1 B G 8 two := ⟨hM, Nat.le_trans hb0.size hB, Nat.le_trans hb0.size hG, hb0.trans (hb1.mono hb0.size)⟩
  clear hM hB hG hb1 hp0 hb0
  have r1 := hp1.range
  go_wp2_with (refine load24 rfl _ rfl w.heap.size 0 rfl _ r1 ?_)
  refine (setPage_on w1 B G 8 two 0 p h1.mem ⟨by omega, by simp [two, upd, Fr.new]⟩).mono ?_
  rintro e w2 ⟨rfl, hg⟩
  have h2 := h1.go hg
  have hp2 := hp1.go hg hNG
  clear h1 hp1 hg r1
  have hf2 : Wl (upd two 0 { two 0 with d := true, w := p }) ⟨1, 1, true, 0, p⟩ 2 := ⟨rfl, rfl, fun j => by
    unfold upd; split
    · have := two_le 0; show (two 0).h ≤ 2; omega
    · have := two_le j; omega⟩
  generalize upd two 0 { two 0 with d := true, w := p } = m2 at *
  obtain ⟨w3, hw3⟩ : ∃ w3, w2 = w3 := ⟨_, rfl⟩
  rw [hw3] at h2 hp2 ⊢
  have H3 := hide (And.intro h2 (And.intro hp2 hf2))
  clear h2 hp2 hf2 hw3
  have HO := hide hO
  clear hO
  obtain ⟨f, hf⟩ : ∃ f : Fr, f = ⟨1, 1, true, 0, p⟩ := ⟨_, rfl⟩
  have hfw : f.w = p := by rw [hf]
  have hfh : f.head.toArray = #[.int .i64 1, .int .i64 1, .bool true, .int .i64 0] := by rw [hf]; rfl
  rw [← hf] at H3
  clear hf
  have he := eq24 p p
  rw [eqP_refl] at he
  go_wp2
  go_loopw [10] (fun i wr => ∃ (k : Nat) (m : Nat → Fr), k ≤ len ∧ k ≤ 4096 ∧ i = .int .i64 (k : Int) ∧ Sx w wr B G 8 m ∧ Pg wr w.heap.size p ∧ Wl m f (2 + k)) (fun i _ => 4097 - (intOf i).toNat)
  case atStart => exact ⟨0, _, by omega, by omega, rfl, H3.out⟩
  case round =>
    clear H3
    obtain ⟨k, m, hk, hk2, rfl, hS, hP, hW⟩ := hrel
    by_cases hlt : k < len
    · by_cases hlt2 : k < 4096
      · obtain ⟨x, rfl, hx⟩ := HO.out.below hS.bel k hlt
        generalize O k = o at *
        have hd1 : decide ((k : Int) < (len : Int)) = true := by simp; omega
        have hd2 : decide ((k : Int) < 4096) = true := by simp; omega
        go_wp2_with (refine load34 ?lw1 _ rfl (x.add (k * 37)) ?lx1 o ?lc1 ?_)
        case lx1 => rfl
        case lc1 => exact hx
        refine (names_any wr o).mono ?_
        rintro e w4 ⟨rfl, hb4⟩
        have hS4 := hS.below hb4
        have hP4 := hP.up hb4
        have hx4 : ∀ (j : Nat) (v : Value), o.cells[j]? = some v → w4.cell? ((x.add (k * 37)).add j) = some v := fun j v hv => by
          have h3 := hx j v hv
          rw [hb4.cell (World.block_lt_of_cell? wr _ h3)]; exact h3
        clear hS hP hb4 hx
        by_cases g : Nm o
        · rw [nm_yes g]
          have HX := hide (And.intro hS4 (And.intro hP4 hW.mono))
          clear hS4 hP4 hW hx4
          go_wp2
          go_roundw
          case rel => exact ⟨k + 1, m, by omega, by omega, by go_num, HX.out⟩
          case measure => simp [intOf]; omega
        · rw [nm_no g]
          go_wp2_with (refine load34 ?lw2 _ rfl (x.add (k * 37)) ?lx2 o ?lc2 ?_)
          case lx2 => rfl
          case lc2 => exact hx4
          refine (play_any w4 B G 8 m o hS4.mem (by omega) (fun j => by have := hW.b j; omega)).mono ?_
          rintro e w5 ⟨rfl, m5, he5, hg5⟩
          have hS5 := hS4.go hg5
          have hP5 := hP4.go hg5 hNG
          have hW5 := hW.step he5 g
          clear hS4 hP4 hW hg5 he5 hx4 g
          go_wp2_with fail
          refine (page_on w5 B G 8 m5 0 hS5.mem hW5.on).mono ?_
          rintro e w6 ⟨rfl, hb⟩
          rw [hW5.fr, hfw]
          have hS6 := hS5.below hb
          have hP6 := hP5.up hb
          clear hS5 hP5 hb
          have hS7 := hS6.below (fresh_below w6 p)
          have hP7 := hP6.up (fresh_below w6 p)
          have hQ7 := fresh_pg w6 p
          clear hS6 hP6
          have hz : Pg (w6.alloc (.cells (page (fun _ => 0)).toArray 24)) w6.heap.size (fun _ => 0) := ⟨heap_alloc_last _ _⟩
          rw [← page_zero] at hz
          go_upto_region 14 with (refine store24 ?hw1 _ _ rfl w6.heap.size p (fun _ => 0) ?hx1 ?hy1 ?hz1 ?_)
          case hx1 => rfl
          case hy1 => rfl
          case hz1 => exact hz
          simp only [page_zero]
          show Code.wp _ _ _ _ (fresh w6 p)
          clear hz
          generalize fresh w6 p = w7 at *
          generalize w6.heap.size = N6 at *
          go_wp2_with fail
          refine (info_on w7 B G 8 m5 0 hS7.mem hW5.on).mono ?_
          rintro e w8 ⟨rfl, hb⟩
          rw [hW5.fr, hfh]
          have hS8 := hS7.below hb
          have hP8 := hP7.up hb
          have hQ8 := hQ7.up hb
          clear hS7 hP7 hQ7 hb
          have hal : Below w8.heap.size w8 (w8.alloc (.cells #[.int .i64 1, .int .i64 1, .bool true, .int .i64 0] 39)) := (Below.refl _ _).alloc (Nat.le_refl _) _
          have hS9 := hS8.below hal
          have hP9 := hP8.up hal
          have r9 := (hQ8.up hal).range
          have r9p := hP9.range
          have c1 : ∀ j v, #[Value.int .i64 1, .int .i64 1, .bool true, .int .i64 0][j]? = some v → (w8.alloc (.cells #[.int .i64 1, .int .i64 1, .bool true, .int .i64 0] 39)).cell? ⟨w8.heap.size, j, none⟩ = some v := fun j v hv => by rw [cell_of_row _ _ _ _ _ _ (heap_alloc_last _ _)]; exact hv
          have e0 := c1 0 _ rfl
          have e1 := c1 1 _ rfl
          have e2 := c1 2 _ rfl
          have e3 := c1 3 _ rfl
          have HX := hide (And.intro hS9 (And.intro hP9 hW5))
          clear hS8 hP8 hQ8 hS9 hP9 hal c1 hW5
          go_upto_region 15 with fail
          generalize w8.alloc (.cells #[.int .i64 1, .int .i64 1, .bool true, .int .i64 0] 39) = w9 at *
          generalize w8.heap.size = N8 at *
          go_wp2_with (first | refine load24 rfl _ rfl N6 0 rfl _ r9 ?_ | refine load24 rfl _ rfl w.heap.size 0 rfl _ r9p ?_)
          go_roundw
          case rel => exact ⟨k + 1, m5, by omega, by omega, by go_num, HX.out⟩
          case measure => simp [intOf]; omega
      · have hd1 : decide ((k : Int) < (len : Int)) = true := by simp; omega
        have hd2 : decide ((k : Int) < 4096) = false := by simp; omega
        go_wp2_with fail
        refine (page_on wr B G 8 m 0 hS.mem hW.on).mono ?_
        rintro e w6 ⟨rfl, hb⟩
        rw [hW.fr, hfw]
        have hS6 := hS.below hb
        have hP6 := hP.up hb
        have HB := hide (hS6.below (fresh_below w6 p)).bel
        have r9p := (hP6.up (fresh_below w6 p)).range
        have r9 := (fresh_pg w6 p).range
        clear hS hP hb hS6 hP6 hW
        have hz : Pg (w6.alloc (.cells (page (fun _ => 0)).toArray 24)) w6.heap.size (fun _ => 0) := ⟨heap_alloc_last _ _⟩
        rw [← page_zero] at hz
        go_upto_region 18 with (refine store24 ?hw7 _ _ rfl w6.heap.size p (fun _ => 0) ?hx7 ?hy7 ?hz7 ?_)
        case hx7 => rfl
        case hy7 => rfl
        case hz7 => exact hz
        simp only [page_zero]
        show Code.wp _ _ _ _ (fresh w6 p)
        clear hz
        generalize fresh w6 p = w7 at *
        generalize w6.heap.size = N6 at *
        go_wp2_with (first | refine load24 rfl _ rfl N6 0 rfl _ r9 ?_ | refine load24 rfl _ rfl w.heap.size 0 rfl _ r9p ?_)
        go_ret
        exact ⟨rfl, HB.out⟩
    · have hd1 : decide ((k : Int) < (len : Int)) = false := by simp; omega
      go_wp2_with fail
      refine (page_on wr B G 8 m 0 hS.mem hW.on).mono ?_
      rintro e w6 ⟨rfl, hb⟩
      rw [hW.fr, hfw]
      have hS6 := hS.below hb
      have hP6 := hP.up hb
      have HB := hide (hS6.below (fresh_below w6 p)).bel
      have r9p := (hP6.up (fresh_below w6 p)).range
      have r9 := (fresh_pg w6 p).range
      clear hS hP hb hS6 hP6 hW
      have hz : Pg (w6.alloc (.cells (page (fun _ => 0)).toArray 24)) w6.heap.size (fun _ => 0) := ⟨heap_alloc_last _ _⟩
      rw [← page_zero] at hz
      go_upto_region 18 with (refine store24 ?hw8 _ _ rfl w6.heap.size p (fun _ => 0) ?hx8 ?hy8 ?hz8 ?_)
      case hx8 => rfl
      case hy8 => rfl
      case hz8 => exact hz
      simp only [page_zero]
      show Code.wp _ _ _ _ (fresh w6 p)
      clear hz
      generalize fresh w6 p = w7 at *
      generalize w6.heap.size = N6 at *
      go_wp2_with (first | refine load24 rfl _ rfl N6 0 rfl _ r9 ?_ | refine load24 rfl _ rfl w.heap.size 0 rfl _ r9p ?_)
      go_ret
      exact ⟨rfl, HB.out⟩
theorem walls_walk (p : Nat → Nat) (cl : Bool) (a : Option Addr) (len cap : Nat) (O : Nat → Ost) (w : World) (hl : len ≤ maxLen) (hO : IsOps w a len O) :
    Calls Try.prog 3 #[.agg (page p).toArray, .bool cl, .slice a len cap] w fun e w' => e = .returned (.bool true) ∧ Below w.heap.size w w' := by
  rcases cl with _ | _
  · exact walls_dirty p a len cap O w hl hO
  · exact walls_clean p a len cap O w hl hO
end Go.Proofs.Ytihkkbbphdgagab
