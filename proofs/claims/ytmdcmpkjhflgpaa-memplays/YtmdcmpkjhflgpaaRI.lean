import Derived.Test.YtmdcmpkjhflgpaaRH
import Derived.Test.YtmdcmpkjhflgpaaRK
namespace Go.Proofs.Ytmdcmpkjhflgpaa
open Go.RowKit

theorem PPost.pre {w w0 w' : World} {x : Ix} {m : Nat → Fr} (hb : Below w.heap.size w w0) (h : PPost w0 w' x m) : PPost w w' x m := by
  obtain ⟨m', r', h1, h2, h3⟩ := h
  exact ⟨m', r', h1, (Mod.of_below hb).trans h2, h3⟩
theorem PPost.drew {w w' : World} {x : Ix} {m : Nat → Fr} (h : PPost w.drew w' x m) : PPost w w' x m := by
  obtain ⟨m', r', h1, h2, h3⟩ := h
  exact ⟨m', r', h1, ⟨h2.os, h2.tape, h2.output, h2.size, h2.block⟩, h3⟩
theorem Pr.drew {w : World} {x : Ix} {m r : Nat → Fr} (h : Pr w x m r) : Pr w.drew x m r := ⟨h.mem.drew, h.ref.drew, h.al, h.ap, h.n64⟩
theorem PPost.mod {w w' : World} {x : Ix} {m : Nat → Fr} (h : PPost w w' x m) : Mod (Own x) w w' := by obtain ⟨_, _, _, h2, _⟩ := h; exact h2
theorem Pr.not_own {w : World} {x : Ix} {m r : Nat → Fr} (h : Pr w x m r) : ¬ Own x w.heap.size := by
  have h1 := h.mem.glt
  have h2 := h.ref.glt
  rintro (e | e) <;> omega
section
variable {w : World} {x : Ix} {m r : Nat → Fr} {o : Ost}
set_option maxRecDepth 10000 in
set_option maxHeartbeats 2000000 in
theorem ch_1 (h : Pr w x m r) (hk : o.kd = 1) :
    Calls Try.prog 21 #[.pointer (some ⟨x.B, 0, none⟩), .pointer (some ⟨x.B', 0, none⟩), .agg o.cells.toArray] w fun e w' => e = .returned (.bool true) ∧ PPost w w' x m := by
  have hN := h.not_own
  have hO := Ob.new w o
  have hB0 : Below w.heap.size w (w.alloc (.cells o.cells.toArray 31)) := (Below.refl _ _).alloc (Nat.le_refl _) _
  have h1 := h.below hB0
  go_enter Try.func21, Try.ntmps21
  go_upto_region 1 with fail
  generalize w.alloc (.cells o.cells.toArray 31) = w0 at *
  obtain ⟨_, c1, c2, c3, c4, c5⟩ := hO.c
  have r5 := hO.pg
  rw [hk] at c1
  have HK := hide hk
  have HB : Hid (∀ w', PPost w0 w' x m → PPost w w' x m) := hide (fun _ h => h.pre hB0)
  have H1 := hide h1
  have HO := hide hO
  have HN := hide hN
  clear hO h hk hB0 h1 hN
  generalize w.heap.size = N at *
  obtain ⟨q, c, Q, hc1, hc2⟩ := two_alloc H1.out o.na
  have HC1 := hide hc1
  have HC2 := hide hc2
  clear hc1 hc2
  go_wp2_with fail
  refine HC1.out.mono ?_
  rintro e w1 ⟨rfl, hQ, hMd⟩
  obtain ⟨_, _, d2, d3, d4, d5⟩ := (HO.out.mod hMd HN.out).c
  have HQ := hide hQ
  clear hQ hMd c1 c2 c3 c4 c5 r5
  go_wp2_with fail
  refine (HC2.out w1 HQ.out).mono ?_
  rintro e w2 ⟨rfl, hP⟩
  have HP := hide hP
  clear hP d2 d3 d4 d5
  go_wp2
  go_ret
  exact ⟨by simp, HB.out _ HP.out⟩
set_option maxRecDepth 10000 in
set_option maxHeartbeats 2000000 in
theorem ch_2 (h : Pr w x m r) (hb : ∀ j, (m j).h < 4611686018427387904) (hk : o.kd = 2) :
    Calls Try.prog 21 #[.pointer (some ⟨x.B, 0, none⟩), .pointer (some ⟨x.B', 0, none⟩), .agg o.cells.toArray] w fun e w' => e = .returned (.bool true) ∧ PPost w w' x m := by
  have hN := h.not_own
  have hO := Ob.new w o
  have hB0 : Below w.heap.size w (w.alloc (.cells o.cells.toArray 31)) := (Below.refl _ _).alloc (Nat.le_refl _) _
  have h1 := h.below hB0
  go_enter Try.func21, Try.ntmps21
  go_upto_region 1 with fail
  generalize w.alloc (.cells o.cells.toArray 31) = w0 at *
  obtain ⟨_, c1, c2, c3, c4, c5⟩ := hO.c
  have r5 := hO.pg
  rw [hk] at c1
  have HK := hide hk
  have HB : Hid (∀ w', PPost w0 w' x m → PPost w w' x m) := hide (fun _ h => h.pre hB0)
  have H1 := hide h1
  have HO := hide hO
  have HN := hide hN
  clear hO h hk hB0 h1 hN
  generalize w.heap.size = N at *
  obtain ⟨c, Q, hc1, hc2⟩ := two_hold H1.out.drew hb o.fa
  have HC1 := hide hc1
  have HC2 := hide hc2
  clear hc1 hc2
  have HO' : Hid (Ob w0.drew N o) := hide ⟨HO.out.out⟩
  have HS : Hid (∀ W, Ob W N o → W.cell? ⟨N, 2, none⟩ = some (.int .i64 o.fa)) := hide (fun W h => h.c.2.2.1)
  have k0 := HS.out _ HO'.out
  go_wp2
  clear c1 c2 c3 c4 c5 r5
  go_region_held (fun W => W.cell? ⟨N, 2, none⟩ = some (.int .i64 o.fa))
    (first | exact k0 | exact k1 | exact k2)
    (first
      | (refine HC1.out.mono ?_; rintro e w1 ⟨rfl, hQ, hMd⟩; have k1 := HS.out w1 (HO'.out.mod hMd HN.out); have HQ := hide hQ; clear hQ hMd)
      | (refine (HC2.out _ HQ.out).mono ?_; rintro e w2 ⟨rfl, hP⟩; have k2 := HS.out w2 (HO'.out.mod hP.mod HN.out); have HP := hide hP; clear hP))
  go_wp2
  go_ret
  exact ⟨by simp, HB.out _ HP.out.drew⟩
set_option maxRecDepth 10000 in
set_option maxHeartbeats 2000000 in
theorem ch_3 (h : Pr w x m r) (hb : ∀ j, (m j).h < 4611686018427387904) (hk : o.kd = 3) :
    Calls Try.prog 21 #[.pointer (some ⟨x.B, 0, none⟩), .pointer (some ⟨x.B', 0, none⟩), .agg o.cells.toArray] w fun e w' => e = .returned (.bool true) ∧ PPost w w' x m := by
  have hN := h.not_own
  have hO := Ob.new w o
  have hB0 : Below w.heap.size w (w.alloc (.cells o.cells.toArray 31)) := (Below.refl _ _).alloc (Nat.le_refl _) _
  have h1 := h.below hB0
  go_enter Try.func21, Try.ntmps21
  go_upto_region 1 with fail
  generalize w.alloc (.cells o.cells.toArray 31) = w0 at *
  obtain ⟨_, c1, c2, c3, c4, c5⟩ := hO.c
  have r5 := hO.pg
  rw [hk] at c1
  have HK := hide hk
  have HB : Hid (∀ w', PPost w0 w' x m → PPost w w' x m) := hide (fun _ h => h.pre hB0)
  have H1 := hide h1
  have HO := hide hO
  have HN := hide hN
  clear hO h hk hB0 h1 hN
  generalize w.heap.size = N at *
  obtain ⟨b, c, Q, hc1, hc2⟩ := two_drop H1.out hb o.fa
  have HC1 := hide hc1
  have HC2 := hide hc2
  clear hc1 hc2
  go_wp2_with fail
  refine HC1.out.mono ?_
  rintro e w1 ⟨rfl, hQ, hMd⟩
  obtain ⟨_, _, d2, d3, d4, d5⟩ := (HO.out.mod hMd HN.out).c
  have HQ := hide hQ
  clear hQ hMd c1 c2 c3 c4 c5 r5
  go_wp2_with fail
  refine (HC2.out w1 HQ.out).mono ?_
  rintro e w2 ⟨rfl, hP⟩
  have HP := hide hP
  clear hP d2 d3 d4 d5
  go_wp2
  go_ret
  exact ⟨by simp, HB.out _ HP.out⟩
set_option maxRecDepth 10000 in
set_option maxHeartbeats 2000000 in
theorem ch_5 (h : Pr w x m r) (hk : o.kd = 5) :
    Calls Try.prog 21 #[.pointer (some ⟨x.B, 0, none⟩), .pointer (some ⟨x.B', 0, none⟩), .agg o.cells.toArray] w fun e w' => e = .returned (.bool true) ∧ PPost w w' x m := by
  have hN := h.not_own
  have hO := Ob.new w o
  have hB0 : Below w.heap.size w (w.alloc (.cells o.cells.toArray 31)) := (Below.refl _ _).alloc (Nat.le_refl _) _
  have h1 := h.below hB0
  go_enter Try.func21, Try.ntmps21
  go_upto_region 1 with fail
  generalize w.alloc (.cells o.cells.toArray 31) = w0 at *
  obtain ⟨_, c1, c2, c3, c4, c5⟩ := hO.c
  have r5 := hO.pg
  rw [hk] at c1
  have HK := hide hk
  have HB : Hid (∀ w', PPost w0 w' x m → PPost w w' x m) := hide (fun _ h => h.pre hB0)
  have H1 := hide h1
  have HO := hide hO
  have HN := hide hN
  clear hO h hk hB0 h1 hN
  generalize w.heap.size = N at *
  obtain ⟨c, Q, hc1, hc2⟩ := two_store H1.out.drew o.fa o.na (o.p 0)
  have HC1 := hide hc1
  have HC2 := hide hc2
  clear hc1 hc2
  have HO' : Hid (Ob w0.drew N o) := hide ⟨HO.out.out⟩
  have HS : Hid (∀ W, Ob W N o → W.cell? ⟨N, 2, none⟩ = some (.int .i64 o.fa) ∧ W.cell? ⟨N, 4, none⟩ = some (.int .i64 o.na) ∧ W.cell? ⟨N, 5, none⟩ = some (.int .u32 (o.p 0 : Nat))) := hide (fun W h => ⟨h.c.2.2.1, h.c.2.2.2.2.1, h.c.2.2.2.2.2⟩)
  have k0 := HS.out _ HO'.out
  go_wp2
  clear c1 c2 c3 c4 c5 r5
  go_region_held (fun W => W.cell? ⟨N, 2, none⟩ = some (.int .i64 o.fa) ∧ W.cell? ⟨N, 4, none⟩ = some (.int .i64 o.na) ∧ W.cell? ⟨N, 5, none⟩ = some (.int .u32 (o.p 0 : Nat)))
    (first | exact k0 | exact k1 | exact k2)
    (first
      | (refine HC1.out.mono ?_; rintro e w1 ⟨rfl, hQ, hMd⟩; have k1 := HS.out w1 (HO'.out.mod hMd HN.out); have HQ := hide hQ; clear hQ hMd)
      | (refine (HC2.out _ HQ.out).mono ?_; rintro e w2 ⟨rfl, hP⟩; have k2 := HS.out w2 (HO'.out.mod hP.mod HN.out); have HP := hide hP; clear hP))
  go_wp2
  go_ret
  exact ⟨by simp, HB.out _ HP.out.drew⟩
set_option maxRecDepth 10000 in
set_option maxHeartbeats 2000000 in
theorem ch_8 (h : Pr w x m r) (hk : o.kd = 8) :
    Calls Try.prog 21 #[.pointer (some ⟨x.B, 0, none⟩), .pointer (some ⟨x.B', 0, none⟩), .agg o.cells.toArray] w fun e w' => e = .returned (.bool true) ∧ PPost w w' x m := by
  have hN := h.not_own
  have hO := Ob.new w o
  have hB0 : Below w.heap.size w (w.alloc (.cells o.cells.toArray 31)) := (Below.refl _ _).alloc (Nat.le_refl _) _
  have h1 := h.below hB0
  go_enter Try.func21, Try.ntmps21
  go_upto_region 1 with fail
  generalize w.alloc (.cells o.cells.toArray 31) = w0 at *
  obtain ⟨_, c1, c2, c3, c4, c5⟩ := hO.c
  have r5 := hO.pg
  rw [hk] at c1
  have HK := hide hk
  have HB : Hid (∀ w', PPost w0 w' x m → PPost w w' x m) := hide (fun _ h => h.pre hB0)
  have H1 := hide h1
  have HO := hide hO
  have HN := hide hN
  clear hO h hk hB0 h1 hN
  generalize w.heap.size = N at *
  obtain ⟨c, Q, hc1, hc2⟩ := two_copy H1.out.drew o.fa o.ga
  have HC1 := hide hc1
  have HC2 := hide hc2
  clear hc1 hc2
  have HO' : Hid (Ob w0.drew N o) := hide ⟨HO.out.out⟩
  have HS : Hid (∀ W, Ob W N o → W.cell? ⟨N, 2, none⟩ = some (.int .i64 o.fa) ∧ W.cell? ⟨N, 3, none⟩ = some (.int .i64 o.ga)) := hide (fun W h => ⟨h.c.2.2.1, h.c.2.2.2.1⟩)
  have k0 := HS.out _ HO'.out
  go_wp2
  clear c1 c2 c3 c4 c5 r5
  go_region_held (fun W => W.cell? ⟨N, 2, none⟩ = some (.int .i64 o.fa) ∧ W.cell? ⟨N, 3, none⟩ = some (.int .i64 o.ga))
    (first | exact k0 | exact k1 | exact k2)
    (first
      | (refine HC1.out.mono ?_; rintro e w1 ⟨rfl, hQ, hMd⟩; have k1 := HS.out w1 (HO'.out.mod hMd HN.out); have HQ := hide hQ; clear hQ hMd)
      | (refine (HC2.out _ HQ.out).mono ?_; rintro e w2 ⟨rfl, hP⟩; have k2 := HS.out w2 (HO'.out.mod hP.mod HN.out); have HP := hide hP; clear hP))
  go_wp2
  go_ret
  exact ⟨by simp, HB.out _ HP.out.drew⟩
set_option maxRecDepth 10000 in
set_option maxHeartbeats 2000000 in
theorem ch_10 (h : Pr w x m r) (hk : o.kd = 10) :
    Calls Try.prog 21 #[.pointer (some ⟨x.B, 0, none⟩), .pointer (some ⟨x.B', 0, none⟩), .agg o.cells.toArray] w fun e w' => e = .returned (.bool true) ∧ PPost w w' x m := by
  have hN := h.not_own
  have hO := Ob.new w o
  have hB0 : Below w.heap.size w (w.alloc (.cells o.cells.toArray 31)) := (Below.refl _ _).alloc (Nat.le_refl _) _
  have h1 := h.below hB0
  go_enter Try.func21, Try.ntmps21
  go_upto_region 1 with fail
  generalize w.alloc (.cells o.cells.toArray 31) = w0 at *
  obtain ⟨_, c1, c2, c3, c4, c5⟩ := hO.c
  have r5 := hO.pg
  rw [hk] at c1
  have HK := hide hk
  have HB : Hid (∀ w', PPost w0 w' x m → PPost w w' x m) := hide (fun _ h => h.pre hB0)
  have H1 := hide h1
  have HO := hide hO
  have HN := hide hN
  clear hO h hk hB0 h1 hN
  generalize w.heap.size = N at *
  obtain ⟨b, c, Q, hc1, hc2⟩ := two_clean H1.out o.fa o.na
  have HC1 := hide hc1
  have HC2 := hide hc2
  clear hc1 hc2
  go_wp2_with fail
  refine HC1.out.mono ?_
  rintro e w1 ⟨rfl, hQ, hMd⟩
  obtain ⟨_, _, d2, d3, d4, d5⟩ := (HO.out.mod hMd HN.out).c
  have HQ := hide hQ
  clear hQ hMd c1 c2 c3 c4 c5 r5
  go_wp2_with fail
  refine (HC2.out w1 HQ.out).mono ?_
  rintro e w2 ⟨rfl, hP⟩
  have HP := hide hP
  clear hP d2 d3 d4 d5
  go_wp2
  go_ret
  exact ⟨by simp, HB.out _ HP.out⟩
end
end Go.Proofs.Ytmdcmpkjhflgpaa
