import Derived.Test.YtmdcmpkjhflgpaaRJ
import Derived.Test.YtmdcmpkjhflgpaaRL
namespace Go.Proofs.Ytmdcmpkjhflgpaa
open Go.RowKit

theorem two_page' {w : World} {x : Ix} {m r : Nat → Fr} (h : Pr w x m r) (f : Int) : ∃ (p : Nat → Nat) (c : Int), Calls Try.prog 10 #[.pointer (some ⟨x.B, 0, none⟩), .int .i64 f] w (fun e w1 => e = .returned (.tuple #[.agg (page p).toArray, .int .i64 c]) ∧ Below w.heap.size w w1) ∧ ∀ w1, Below w.heap.size w w1 → Calls Try.prog 11 #[.pointer (some ⟨x.B', 0, none⟩), .int .i64 f] w1 (fun e w2 => e = .returned (.tuple #[.agg (page p).toArray, .int .i64 c]) ∧ Below w1.heap.size w1 w2) := by
  rcases on_or_off m x.n f with hu | ⟨k, rfl, hu⟩
  · exact ⟨fun _ => 0, 50, page_off w _ _ _ _ f h.mem hu, fun w1 hb => rpage_off w1 _ _ _ _ _ _ f (h.ref.below hb) (h.off hu)⟩
  · obtain ⟨hu', e⟩ := h.on hu
    exact ⟨(m k).w, 0, page_on w _ _ _ _ k h.mem hu, fun w1 hb => by rw [← e]; exact rpage_on w1 _ _ _ _ _ _ k (h.ref.below hb) hu'⟩
theorem two_info' {w : World} {x : Ix} {m r : Nat → Fr} (h : Pr w x m r) (f : Int) : ∃ (p : Fr) (c : Int), Calls Try.prog 14 #[.pointer (some ⟨x.B, 0, none⟩), .int .i64 f] w (fun e w1 => e = .returned (.tuple #[.agg p.head.toArray, .int .i64 c]) ∧ Below w.heap.size w w1) ∧ ∀ w1, Below w.heap.size w w1 → Calls Try.prog 15 #[.pointer (some ⟨x.B', 0, none⟩), .int .i64 f] w1 (fun e w2 => e = .returned (.tuple #[.agg p.head.toArray, .int .i64 c]) ∧ Below w1.heap.size w1 w2) := by
  rcases on_or_off m x.n f with hu | ⟨k, rfl, hu⟩
  · exact ⟨Fr.nil, 50, info_off w _ _ _ _ f h.mem hu, fun w1 hb => rinfo_off w1 _ _ _ _ _ _ f (h.ref.below hb) (h.off hu)⟩
  · obtain ⟨hu', e⟩ := h.on hu
    exact ⟨m k, 0, info_on w _ _ _ _ k h.mem hu, fun w1 hb => by rw [← e]; exact rinfo_on w1 _ _ _ _ _ _ k (h.ref.below hb) hu'⟩
section
variable {w : World} {x : Ix} {m r : Nat → Fr} {o : Ost}
set_option maxRecDepth 10000 in
set_option maxHeartbeats 2000000 in
theorem pl_4 (h : Pr w x m r) (hk : o.kd = 4) :
    Calls Try.prog 6 #[.pointer (some ⟨x.B, 0, none⟩), .pointer (some ⟨x.B', 0, none⟩), .agg o.cells.toArray] w fun e w' => e = .returned (.bool true) ∧ PPost w w' x m := by
  have hN := h.not_own
  have hO := Ob.new w o
  have hB0 : Below w.heap.size w (w.alloc (.cells o.cells.toArray 31)) := (Below.refl _ _).alloc (Nat.le_refl _) _
  have h1 := h.below hB0
  go_enter Try.func6, Try.ntmps6
  go_upto_region 1 with fail
  generalize w.alloc (.cells o.cells.toArray 31) = w0 at *
  obtain ⟨_, c1, c2, c3, c4, c5⟩ := hO.c
  have r5 := hO.pg
  rw [hk] at c1
  have HK := hide hk
  have HB : Hid (∀ w', PPost w0 w' x m → PPost w w' x m) := hide (fun _ h => h.pre hB0)
  have H1 := hide h1
  have HO := hide hO
  have HN := hide hN
  clear hO h hk hB0 h1 hN
  generalize w.heap.size = N at *
  obtain ⟨v, c, Q, hc1, hc2⟩ := two_load H1.out o.fa o.na
  have HC1 := hide hc1
  have HC2 := hide hc2
  clear hc1 hc2
  go_wp2_with fail
  refine HC1.out.mono ?_
  rintro e w1 ⟨rfl, hQ, hMd⟩
  obtain ⟨_, _, d2, d3, d4, d5⟩ := (HO.out.mod hMd HN.out).c
  have HQ := hide hQ
  clear hQ hMd c1 c2 c3 c4 c5 r5
  go_wp2_with fail
  refine (HC2.out w1 HQ.out).mono ?_
  rintro e w2 ⟨rfl, hP⟩
  have HP := hide hP
  clear hP d2 d3 d4 d5
  go_wp2
  go_ret
  exact ⟨by simp, HB.out _ HP.out⟩
set_option maxRecDepth 10000 in
set_option maxHeartbeats 2000000 in
theorem pl_9 (h : Pr w x m r) (hk : o.kd = 9) :
    Calls Try.prog 6 #[.pointer (some ⟨x.B, 0, none⟩), .pointer (some ⟨x.B', 0, none⟩), .agg o.cells.toArray] w fun e w' => e = .returned (.bool true) ∧ PPost w w' x m := by
  have hN := h.not_own
  have hO := Ob.new w o
  have hB0 : Below w.heap.size w (w.alloc (.cells o.cells.toArray 31)) := (Below.refl _ _).alloc (Nat.le_refl _) _
  have h1 := h.below hB0
  go_enter Try.func6, Try.ntmps6
  go_upto_region 1 with fail
  generalize w.alloc (.cells o.cells.toArray 31) = w0 at *
  obtain ⟨_, c1, c2, c3, c4, c5⟩ := hO.c
  have r5 := hO.pg
  rw [hk] at c1
  have HK := hide hk
  have HB : Hid (∀ w', PPost w0 w' x m → PPost w w' x m) := hide (fun _ h => h.pre hB0)
  have H1 := hide h1
  have HO := hide hO
  have HN := hide hN
  clear hO h hk hB0 h1 hN
  generalize w.heap.size = N at *
  obtain ⟨b, c, Q, hc1, hc2⟩ := two_same H1.out o.fa o.ga
  have HC1 := hide hc1
  have HC2 := hide hc2
  clear hc1 hc2
  go_wp2_with fail
  refine HC1.out.mono ?_
  rintro e w1 ⟨rfl, hQ, hMd⟩
  obtain ⟨_, _, d2, d3, d4, d5⟩ := (HO.out.mod hMd HN.out).c
  have HQ := hide hQ
  clear hQ hMd c1 c2 c3 c4 c5 r5
  go_wp2_with fail
  refine (HC2.out w1 HQ.out).mono ?_
  rintro e w2 ⟨rfl, hP⟩
  have HP := hide hP
  clear hP d2 d3 d4 d5
  go_wp2
  go_ret
  exact ⟨by simp, HB.out _ HP.out⟩
set_option maxRecDepth 10000 in
set_option maxHeartbeats 2000000 in
theorem pl_12 (h : Pr w x m r) (hk : o.kd = 12) :
    Calls Try.prog 6 #[.pointer (some ⟨x.B, 0, none⟩), .pointer (some ⟨x.B', 0, none⟩), .agg o.cells.toArray] w fun e w' => e = .returned (.bool true) ∧ PPost w w' x m := by
  have hN := h.not_own
  have hO := Ob.new w o
  have hB0 : Below w.heap.size w (w.alloc (.cells o.cells.toArray 31)) := (Below.refl _ _).alloc (Nat.le_refl _) _
  have h1 := h.below hB0
  go_enter Try.func6, Try.ntmps6
  go_upto_region 1 with fail
  generalize w.alloc (.cells o.cells.toArray 31) = w0 at *
  obtain ⟨_, c1, c2, c3, c4, c5⟩ := hO.c
  have r5 := hO.pg
  rw [hk] at c1
  have HK := hide hk
  have HB : Hid (∀ w', PPost w0 w' x m → PPost w w' x m) := hide (fun _ h => h.pre hB0)
  have H1 := hide h1
  have HO := hide hO
  have HN := hide hN
  clear hO h hk hB0 h1 hN
  generalize w.heap.size = N at *
  obtain ⟨c, Q, hc1, hc2⟩ := two_free H1.out
  have HC1 := hide hc1
  have HC2 := hide hc2
  clear hc1 hc2
  go_wp2_with fail
  refine HC1.out.mono ?_
  rintro e w1 ⟨rfl, hQ, hMd⟩
  have HQ := hide hQ
  clear hQ hMd c1 c2 c3 c4 c5 r5
  go_wp2_with fail
  refine (HC2.out w1 HQ.out).mono ?_
  rintro e w2 ⟨rfl, hP⟩
  have HP := hide hP
  clear hP
  go_wp2
  go_ret
  exact ⟨by simp, HB.out _ HP.out⟩
set_option maxRecDepth 10000 in
set_option maxHeartbeats 2000000 in
theorem pl_6 (h : Pr w x m r) (hk : o.kd = 6) :
    Calls Try.prog 6 #[.pointer (some ⟨x.B, 0, none⟩), .pointer (some ⟨x.B', 0, none⟩), .agg o.cells.toArray] w fun e w' => e = .returned (.bool true) ∧ PPost w w' x m := by
  have hN := h.not_own
  have hO := Ob.new w o
  have hB0 : Below w.heap.size w (w.alloc (.cells o.cells.toArray 31)) := (Below.refl _ _).alloc (Nat.le_refl _) _
  have h1 := h.below hB0
  go_enter Try.func6, Try.ntmps6
  go_upto_region 1 with fail
  generalize w.alloc (.cells o.cells.toArray 31) = w0 at *
  obtain ⟨_, c1, c2, c3, c4, c5⟩ := hO.c
  have r5 := hO.pg
  rw [hk] at c1
  have HK := hide hk
  have HB : Hid (∀ w', PPost w0 w' x m → PPost w w' x m) := hide (fun _ h => h.pre hB0)
  have H1 := hide h1
  have HO := hide hO
  have HN := hide hN
  clear hO h hk hB0 h1 hN
  generalize w.heap.size = N at *
  obtain ⟨p, c, hc1, hc2⟩ := two_page' H1.out o.fa
  have HC1 := hide hc1
  have HC2 := hide hc2
  clear hc1 hc2
  go_wp2_with fail
  refine HC1.out.mono ?_
  rintro e w1 ⟨rfl, hb1⟩
  clear c1 c2 c3 c4 c5 r5
  have hz : Pg (w1.alloc (.cells (page (fun _ => 0)).toArray 29)) w1.heap.size (fun _ => 0) := ⟨heap_alloc_last _ _⟩
  rw [← page_zero] at hz
  go_upto_region 8 with (refine store24 ?hw _ _ rfl w1.heap.size p (fun _ => 0) ?hx ?hy ?hz ?_)
  case hx => rfl
  case hy => rfl
  case hz => exact hz
  simp only [page_zero]
  show Code.wp _ _ _ _ (fresh w1 p)
  clear hz
  have hbF := hb1.trans ((fresh_below w1 p).mono hb1.size)
  have q1 := fresh_pg w1 p
  obtain ⟨_, _, d2, _, _, _⟩ := (HO.out.up hbF).c
  generalize fresh w1 p = w2 at *
  generalize w1.heap.size = N1 at *
  have HF := hide hbF
  have HQ1 := hide q1
  clear hb1 hbF q1
  go_wp2_with fail
  refine (HC2.out w2 HF.out).mono ?_
  rintro e w3 ⟨rfl, hb3⟩
  clear d2
  have hz : Pg (w3.alloc (.cells (page (fun _ => 0)).toArray 29)) w3.heap.size (fun _ => 0) := ⟨heap_alloc_last _ _⟩
  rw [← page_zero] at hz
  go_upto_region 9 with (refine store24 ?hw2 _ _ rfl w3.heap.size p (fun _ => 0) ?hx2 ?hy2 ?hz2 ?_)
  case hx2 => rfl
  case hy2 => rfl
  case hz2 => exact hz
  simp only [page_zero]
  show Code.wp _ _ _ _ (fresh w3 p)
  clear hz
  have hbG := hb3.trans ((fresh_below w3 p).mono hb3.size)
  have r1 := (HQ1.out.up hbG).range
  have r2 := (fresh_pg w3 p).range
  have HG := hide (HF.out.trans (hbG.mono HF.out.size))
  generalize fresh w3 p = w4 at *
  generalize w3.heap.size = N3 at *
  have he := eq24 p p
  rw [eqP_refl] at he
  clear hb3 hbG
  go_wp2_with (first | refine load24 rfl _ rfl N1 0 rfl _ r1 ?_ | refine load24 rfl _ rfl N3 0 rfl _ r2 ?_)
  go_ret
  exact ⟨by simp, HB.out _ (PPost.same (H1.out.below HG.out) (Mod.of_below HG.out))⟩
end
end Go.Proofs.Ytmdcmpkjhflgpaa
