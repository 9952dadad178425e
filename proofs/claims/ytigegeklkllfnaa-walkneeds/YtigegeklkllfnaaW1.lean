import Derived.Test.YtigegeklkllfnaaRows
import Derived.WalkKit
import Derived.Handy
import Derived.WalkSpells
import Derived.WalkLawsBesides
import Derived.Deep.RegionLaw
import Derived.Deep.WholeRow
import Derived.Laws.OwnMore
import Derived.Deep.MidRow
import Derived.ProofKit
import Derived.Deep.Slices
import Derived.Maps.AppendAt
import Derived.OwnWalk
import Derived.Deep.RegionHeld
import Derived.BigQuiet
import Derived.Deep.Cut
import Derived.Deep.DeepCutAuto
import Derived.WalkSmall
namespace Go.Proofs.Ytigegeklkllfnaa
open Go.ChangeShapes Go.WideShapes Go.ChangeAt Go.RowKit Go.Deep

theorem hide {p : Prop} (h : p) : Hid p := h
/-- a quota -/
structure Qt where
  f : Int
  e : Int
  x : Int
theorem results_row2 {P : Program} {fn : Func} {p u : Tmp} {ty : TypeId} (h : fn.results = #[.cell p ty, .tmp u]) (tmps : Array Value) (w : World) (g : Nat) (t : TypeId) (cs : Array Value) (fr : Nat × Nat) (d : TypeDesc)
    (hp : tmps.getD p undef = .pointer (some ⟨g, 0, none⟩)) (hg : w.heap[g]? = some (.cells cs t fr))
    (hu : P.underlying ty = some d) (hd : (match d with | .struct _ | .array _ _ => true | _ => false) = true) (hi : (P.info? ty).map (·.size) = some cs.size) :
    (results fn tmps).run P w = .ok (.tuple #[.agg cs, tmps.getD u undef]) w := by
  rw [results_cell_tmp h, hp]
  simp [asAddr, run_loadVar_row w g t ty cs fr d hg hu hd hi]
theorem infoQ : (Try.prog.info? 23).map (·.size) = some 3 := by kernel_rfl
/-- what is wanted of a forest -/
def nd (q : Qt) (n m : Nat) : Qt := if n = 0 then ⟨0, 0, 0⟩ else ⟨if m = 0 then q.f else wrap64 (q.f + 1), wrap64 (q.e + 1), q.x⟩
def ns (n m : Nat) : Int := if n = 0 then 0 else if m = 0 then 1 else 2
theorem blk3 {w1 : World} {b : Nat} {x0 x1 x2 : Value} {t : TypeId} (h : w1.heap[b]? = some (.cells #[x0, x1, x2] t (0, 0))) :
    w1.cell? ⟨b, 0, none⟩ = some x0 ∧ w1.cell? ⟨b, 1, none⟩ = some x1 ∧ w1.cell? ⟨b, 2, none⟩ = some x2 ∧ w1.frozen? ⟨b, 0, none⟩ = false ∧ w1.frozen? ⟨b, 1, none⟩ = false ∧ w1.frozen? ⟨b, 2, none⟩ = false :=
  ⟨by rw [cell_of_row _ _ _ _ _ _ h]; rfl, by rw [cell_of_row _ _ _ _ _ _ h]; rfl, by rw [cell_of_row _ _ _ _ _ _ h]; rfl, frozen_of_row _ _ _ _ _ h, frozen_of_row _ _ _ _ _ h, frozen_of_row _ _ _ _ _ h⟩
theorem set3 {w : World} {b : Nat} {x0 x1 x2 : Value} {t : TypeId} (h : w.heap[b]? = some (.cells #[x0, x1, x2] t (0, 0))) (y0 y1 y2 : Value) :
    (((w.setCell ⟨b, 0, none⟩ y0).setCell ⟨b, 1, none⟩ y1).setCell ⟨b, 2, none⟩ y2).heap[b]? = some (.cells #[y0, y1, y2] t (0, 0)) := by
  have h1 := heap_setCell_same _ b 0 _ _ y0 h
  have h2 := heap_setCell_same _ b 1 _ _ y1 h1
  exact heap_setCell_same _ b 2 _ _ y2 h2
/-- the first quota of a row of environments -/
def Fq (w : World) (a : Option Addr) (n : Nat) (q : Qt) : Prop := 0 < n → ∃ g, a = some ⟨g, 0, none⟩ ∧ w.cell? ⟨g, 14, none⟩ = some (.int .i64 q.f) ∧ w.cell? ⟨g, 15, none⟩ = some (.int .i64 q.e) ∧ w.cell? ⟨g, 16, none⟩ = some (.int .i64 q.x)
theorem Fq.below {w w' : World} {a : Option Addr} {n : Nat} {q : Qt} (h : Fq w a n q) (hb : Below w.heap.size w w') : Fq w' a n q := fun hn => by
  obtain ⟨g, h1, h2, h3, h4⟩ := h hn
  have hl := World.block_lt_of_cell? w _ h2
  exact ⟨g, h1, (hb.cell (p := ⟨g, 14, none⟩) hl).trans h2, (hb.cell (p := ⟨g, 15, none⟩) hl).trans h3, (hb.cell (p := ⟨g, 16, none⟩) hl).trans h4⟩
/-- the boxes that a call begins with -/
def boxes (w : World) (v0 v1 v2 v3 v4 : Value) : World := (w.alloc (.cells #[v0, v1, v2, v3, v4] 30)).alloc (.cells #[.int .i64 0, .int .i64 0, .int .i64 0] 23)
theorem boxes_f (w : World) (v0 v1 v2 v3 v4 : Value) : (boxes w v0 v1 v2 v3 v4).heap[w.heap.size]? = some (.cells #[v0, v1, v2, v3, v4] 30 (0, 0)) := by
  unfold boxes
  rw [heap_alloc_old _ _ (by simp)]
  exact heap_alloc_new _ _
theorem boxes_q (w : World) (v0 v1 v2 v3 v4 : Value) : (boxes w v0 v1 v2 v3 v4).heap[w.heap.size + 1]? = some (.cells #[.int .i64 0, .int .i64 0, .int .i64 0] 23 (0, 0)) := by
  have h := heap_alloc_new (w.alloc (.cells #[v0, v1, v2, v3, v4] 30)) (.cells #[.int .i64 0, .int .i64 0, .int .i64 0] 23)
  have e : (w.alloc (.cells #[v0, v1, v2, v3, v4] 30)).heap.size = w.heap.size + 1 := by simp
  rw [e] at h
  exact h
theorem boxes_b (w : World) (v0 v1 v2 v3 v4 : Value) : Below w.heap.size w (boxes w v0 v1 v2 v3 v4) := ((Below.refl w.heap.size w).alloc (Nat.le_refl _) _).alloc (by simp) _
/-- a quota in a box of its own -/
def fresh3 (w : World) (q : Qt) : World := w.alloc (.cells #[.int .i64 q.f, .int .i64 q.e, .int .i64 q.x] 23)
theorem fresh3_at (w : World) (q : Qt) : (fresh3 w q).heap[w.heap.size]? = some (.cells #[.int .i64 q.f, .int .i64 q.e, .int .i64 q.x] 23 (0, 0)) := heap_alloc_new w _
theorem fresh3_below (w : World) (q : Qt) : Below w.heap.size w (fresh3 w q) := (Below.refl w.heap.size w).alloc (Nat.le_refl _) _
set_option maxRecDepth 8000 in
set_option maxHeartbeats 3200000 in
theorem need_any (w : World) (a b : Option Addr) (n c m d : Nat) (q : Qt) (hn : n ≤ 20) (hm : m ≤ 70) (hq : Fq w a n q) :
    Calls Try.prog 4 #[.agg #[.slice a n c, .slice none 0 0, .slice none 0 0, .slice b m d, .slice none 0 0]] w fun x w' => x = .returned (.tuple #[.agg #[.int .i64 (nd q n m).f, .int .i64 (nd q n m).e, .int .i64 (nd q n m).x], .int .i64 (ns n m)]) ∧ Below w.heap.size w w' := by
  have HQ := hide (hq.below (boxes_b w (.slice a n c) (.slice none 0 0) (.slice none 0 0) (.slice b m d) (.slice none 0 0)))
  have HF := hide (boxes_f w (.slice a n c) (.slice none 0 0) (.slice none 0 0) (.slice b m d) (.slice none 0 0))
  have HR := hide (boxes_q w (.slice a n c) (.slice none 0 0) (.slice none 0 0) (.slice b m d) (.slice none 0 0))
  have HB := hide (boxes_b w (.slice a n c) (.slice none 0 0) (.slice none 0 0) (.slice b m d) (.slice none 0 0))
  clear hq
  go_enter Try.func4, Try.ntmps4
  go_upto_region 1 with fail
  show Code.wp _ _ _ _ (boxes w (.slice a n c) (.slice none 0 0) (.slice none 0 0) (.slice b m d) (.slice none 0 0))
  generalize boxes w (.slice a n c) (.slice none 0 0) (.slice none 0 0) (.slice b m d) (.slice none 0 0) = w1 at *
  obtain ⟨N, hN⟩ : ∃ N, N = w.heap.size := ⟨_, rfl⟩
  rw [← hN] at HF HR HB
  have HN := hide hN
  have f0 : w1.cell? ⟨N, 0, none⟩ = some (.slice a n c) := by rw [cell_of_row _ _ _ _ _ _ HF.out]; rfl
  by_cases h0 : n = 0
  · subst h0
    obtain ⟨r0, r1, r2, z0, z1, z2⟩ := blk3 HR.out
    have HR2 := hide (set3 HR.out (.int .i64 0) (.int .i64 0) (.int .i64 0))
    have HB2 := hide (((HB.out.setCell (p := ⟨N + 1, 0, none⟩) (by simp) (.int .i64 0)).setCell (p := ⟨N + 1, 1, none⟩) (by simp) (.int .i64 0)).setCell (p := ⟨N + 1, 2, none⟩) (by simp) (.int .i64 0))
    clear HQ HF HR HB
    rw [← hN]
    clear hN
    go_wp2
    refine bodyPost_ret (results_row2 rfl _ _ (N + 1) 23 #[.int .i64 0, .int .i64 0, .int .i64 0] (0, 0) _ rfl HR2.out Try.underlying23 rfl infoQ) rfl ?_
    exact ⟨rfl, by rw [← HN.out]; exact HB2.out⟩
  · obtain ⟨g, rfl, c0, c1, c2⟩ := HQ.out (by omega)
    have hn3 : (0 : Int) < (n : Int) := by omega
    have hn4 : ((n : Int) == 0) = false := by simp; omega
    have hlt : N + 1 < w1.heap.size := (Array.getElem?_eq_some_iff.1 HR.out).1
    have hb2 := fresh3_below w1 q
    have HM2 := hide (fresh3_at w1 q)
    have HF2 := hide ((hb2.block N (by omega)).trans HF.out)
    have HR2 := hide ((hb2.block (N + 1) hlt).trans HR.out)
    have HB2 := hide (HB.out.trans (hb2.mono (by omega)))
    have hL : N + 1 < w1.heap.size := hlt
    rw [← hN]
    clear hN hb2 HQ HF HR HB hlt
    go_upto_region 4 with fail
    show Code.wp _ _ _ _ (fresh3 w1 q)
    generalize fresh3 w1 q = w2 at *
    clear c0 c1 c2 f0
    generalize w1.heap.size = M at *
    obtain ⟨r0, r1, r2, z0, z1, z2⟩ := blk3 HM2.out
    have HM3 : Hid ((w2.setCell ⟨M, 1, none⟩ (.int .i64 (wrap64 (q.e + 1)))).heap[M]? = some (.cells #[.int .i64 q.f, .int .i64 (wrap64 (q.e + 1)), .int .i64 q.x] 23 (0, 0))) := hide (heap_setCell_same _ M 1 _ _ _ HM2.out)
    have HF3 := hide ((heap_setCell_other w2 ⟨M, 1, none⟩ N (.int .i64 (wrap64 (q.e + 1))) (by show N ≠ M; omega)).trans HF2.out)
    have HR3 := hide ((heap_setCell_other w2 ⟨M, 1, none⟩ (N + 1) (.int .i64 (wrap64 (q.e + 1))) (by show N + 1 ≠ M; omega)).trans HR2.out)
    have HB3 := hide (HB2.out.setCell (p := ⟨M, 1, none⟩) (by show N ≤ M; omega) (.int .i64 (wrap64 (q.e + 1))))
    go_upto_region 5 with fail
    clear r0 r1 r2 z0 z1 z2 HM2 HF2 HR2 HB2
    generalize w2.setCell ⟨M, 1, none⟩ (.int .i64 (wrap64 (q.e + 1))) = w3 at *
    have f3 : w3.cell? ⟨N, 3, none⟩ = some (.slice b m d) := by rw [cell_of_row _ _ _ _ _ _ HF3.out]; rfl
    obtain ⟨m0, m1, m2, y0, y1, y2⟩ := blk3 HM3.out
    by_cases hm0 : m = 0
    · subst hm0
      obtain ⟨r0, r1, r2, z0, z1, z2⟩ := blk3 HR3.out
      have HR4 := hide (set3 HR3.out (.int .i64 (q.f)) (.int .i64 (wrap64 (q.e + 1))) (.int .i64 q.x))
      have HB4 := hide (((HB3.out.setCell (p := ⟨N + 1, 0, none⟩) (by simp) (.int .i64 (q.f))).setCell (p := ⟨N + 1, 1, none⟩) (by simp) (.int .i64 (wrap64 (q.e + 1)))).setCell (p := ⟨N + 1, 2, none⟩) (by simp) (.int .i64 q.x))
      clear HF3 HR3 HB3 HM3
      go_wp2
      refine bodyPost_ret (results_row2 rfl _ _ (N + 1) 23 #[.int .i64 q.f, .int .i64 (wrap64 (q.e + 1)), .int .i64 q.x] (0, 0) _ rfl HR4.out Try.underlying23 rfl infoQ) rfl ?_
      exact ⟨by unfold nd ns; rw [if_neg h0, if_neg h0]; rfl, by rw [← HN.out]; exact HB4.out⟩
    · have hm3 : (0 : Int) < (m : Int) := by omega
      have HM4 : Hid ((w3.setCell ⟨M, 0, none⟩ (.int .i64 (wrap64 (q.f + 1)))).heap[M]? = some (.cells #[.int .i64 (wrap64 (q.f + 1)), .int .i64 (wrap64 (q.e + 1)), .int .i64 q.x] 23 (0, 0))) := hide (heap_setCell_same _ M 0 _ _ _ HM3.out)
      have HR5 := hide ((heap_setCell_other w3 ⟨M, 0, none⟩ (N + 1) (.int .i64 (wrap64 (q.f + 1))) (by show N + 1 ≠ M; omega)).trans HR3.out)
      have HB5 := hide (HB3.out.setCell (p := ⟨M, 0, none⟩) (by show N ≤ M; omega) (.int .i64 (wrap64 (q.f + 1))))
      go_upto_region 7 with fail
      clear m0 m1 m2 y0 y1 y2 HM3 HF3 HR3 HB3 f3
      have HR3 := HR5
      have HB3 := HB5
      clear HR5 HB5
      generalize w3.setCell ⟨M, 0, none⟩ (.int .i64 (wrap64 (q.f + 1))) = w4 at *
      obtain ⟨m0, m1, m2, y0, y1, y2⟩ := blk3 HM4.out
      obtain ⟨r0, r1, r2, z0, z1, z2⟩ := blk3 HR3.out
      have HR4 := hide (set3 HR3.out (.int .i64 (wrap64 (q.f + 1))) (.int .i64 (wrap64 (q.e + 1))) (.int .i64 q.x))
      have HB4 := hide (((HB3.out.setCell (p := ⟨N + 1, 0, none⟩) (by simp) (.int .i64 (wrap64 (q.f + 1)))).setCell (p := ⟨N + 1, 1, none⟩) (by simp) (.int .i64 (wrap64 (q.e + 1)))).setCell (p := ⟨N + 1, 2, none⟩) (by simp) (.int .i64 q.x))
      clear HR3 HB3 HM4
      go_wp2
      refine bodyPost_ret (results_row2 rfl _ _ (N + 1) 23 #[.int .i64 (wrap64 (q.f + 1)), .int .i64 (wrap64 (q.e + 1)), .int .i64 q.x] (0, 0) _ rfl HR4.out Try.underlying23 rfl infoQ) rfl ?_
      exact ⟨by unfold nd ns; rw [if_neg h0, if_neg h0, if_neg hm0, if_neg hm0]; rfl, by rw [← HN.out]; exact HB4.out⟩
set_option maxRecDepth 8000 in
set_option maxHeartbeats 3200000 in
theorem needR_any (w : World) (a b : Option Addr) (n c m d : Nat) (q : Qt) (hn : n ≤ 20) (hm : m ≤ 70) (hq : Fq w a n q) :
    Calls Try.prog 5 #[.agg #[.slice a n c, .slice none 0 0, .slice none 0 0, .slice b m d, .slice none 0 0]] w fun x w' => x = .returned (.tuple #[.agg #[.int .i64 (nd q n m).f, .int .i64 (nd q n m).e, .int .i64 (nd q n m).x], .int .i64 (ns n m)]) ∧ Below w.heap.size w w' := by
  have HQ := hide (hq.below (boxes_b w (.slice a n c) (.slice none 0 0) (.slice none 0 0) (.slice b m d) (.slice none 0 0)))
  have HF := hide (boxes_f w (.slice a n c) (.slice none 0 0) (.slice none 0 0) (.slice b m d) (.slice none 0 0))
  have HR := hide (boxes_q w (.slice a n c) (.slice none 0 0) (.slice none 0 0) (.slice b m d) (.slice none 0 0))
  have HB := hide (boxes_b w (.slice a n c) (.slice none 0 0) (.slice none 0 0) (.slice b m d) (.slice none 0 0))
  clear hq
  go_enter Try.func5, Try.ntmps5
  go_upto_region 1 with fail
  show Code.wp _ _ _ _ (boxes w (.slice a n c) (.slice none 0 0) (.slice none 0 0) (.slice b m d) (.slice none 0 0))
  generalize boxes w (.slice a n c) (.slice none 0 0) (.slice none 0 0) (.slice b m d) (.slice none 0 0) = w1 at *
  obtain ⟨N, hN⟩ : ∃ N, N = w.heap.size := ⟨_, rfl⟩
  rw [← hN] at HF HR HB
  have HN := hide hN
  have f0 : w1.cell? ⟨N, 0, none⟩ = some (.slice a n c) := by rw [cell_of_row _ _ _ _ _ _ HF.out]; rfl
  by_cases h0 : n = 0
  · subst h0
    obtain ⟨r0, r1, r2, z0, z1, z2⟩ := blk3 HR.out
    have HR2 := hide (set3 HR.out (.int .i64 0) (.int .i64 0) (.int .i64 0))
    have HB2 := hide (((HB.out.setCell (p := ⟨N + 1, 0, none⟩) (by simp) (.int .i64 0)).setCell (p := ⟨N + 1, 1, none⟩) (by simp) (.int .i64 0)).setCell (p := ⟨N + 1, 2, none⟩) (by simp) (.int .i64 0))
    clear HQ HF HR HB
    rw [← hN]
    clear hN
    go_wp2
    refine bodyPost_ret (results_row2 rfl _ _ (N + 1) 23 #[.int .i64 0, .int .i64 0, .int .i64 0] (0, 0) _ rfl HR2.out Try.underlying23 rfl infoQ) rfl ?_
    exact ⟨rfl, by rw [← HN.out]; exact HB2.out⟩
  · obtain ⟨g, rfl, c0, c1, c2⟩ := HQ.out (by omega)
    have hn3 : (0 : Int) < (n : Int) := by omega
    have hn4 : ((n : Int) == 0) = false := by simp; omega
    have hlt : N + 1 < w1.heap.size := (Array.getElem?_eq_some_iff.1 HR.out).1
    have hb2 := fresh3_below w1 q
    have HM2 := hide (fresh3_at w1 q)
    have HF2 := hide ((hb2.block N (by omega)).trans HF.out)
    have HR2 := hide ((hb2.block (N + 1) hlt).trans HR.out)
    have HB2 := hide (HB.out.trans (hb2.mono (by omega)))
    have hL : N + 1 < w1.heap.size := hlt
    rw [← hN]
    clear hN hb2 HQ HF HR HB hlt
    go_upto_region 4 with fail
    show Code.wp _ _ _ _ (fresh3 w1 q)
    generalize fresh3 w1 q = w2 at *
    clear c0 c1 c2 f0
    generalize w1.heap.size = M at *
    obtain ⟨r0, r1, r2, z0, z1, z2⟩ := blk3 HM2.out
    have HM3 : Hid ((w2.setCell ⟨M, 1, none⟩ (.int .i64 (wrap64 (q.e + 1)))).heap[M]? = some (.cells #[.int .i64 q.f, .int .i64 (wrap64 (q.e + 1)), .int .i64 q.x] 23 (0, 0))) := hide (heap_setCell_same _ M 1 _ _ _ HM2.out)
    have HF3 := hide ((heap_setCell_other w2 ⟨M, 1, none⟩ N (.int .i64 (wrap64 (q.e + 1))) (by show N ≠ M; omega)).trans HF2.out)
    have HR3 := hide ((heap_setCell_other w2 ⟨M, 1, none⟩ (N + 1) (.int .i64 (wrap64 (q.e + 1))) (by show N + 1 ≠ M; omega)).trans HR2.out)
    have HB3 := hide (HB2.out.setCell (p := ⟨M, 1, none⟩) (by show N ≤ M; omega) (.int .i64 (wrap64 (q.e + 1))))
    go_upto_region 5 with fail
    clear r0 r1 r2 z0 z1 z2 HM2 HF2 HR2 HB2
    generalize w2.setCell ⟨M, 1, none⟩ (.int .i64 (wrap64 (q.e + 1))) = w3 at *
    have f3 : w3.cell? ⟨N, 3, none⟩ = some (.slice b m d) := by rw [cell_of_row _ _ _ _ _ _ HF3.out]; rfl
    obtain ⟨m0, m1, m2, y0, y1, y2⟩ := blk3 HM3.out
    by_cases hm0 : m = 0
    · subst hm0
      obtain ⟨r0, r1, r2, z0, z1, z2⟩ := blk3 HR3.out
      have HR4 := hide (set3 HR3.out (.int .i64 (q.f)) (.int .i64 (wrap64 (q.e + 1))) (.int .i64 q.x))
      have HB4 := hide (((HB3.out.setCell (p := ⟨N + 1, 0, none⟩) (by simp) (.int .i64 (q.f))).setCell (p := ⟨N + 1, 1, none⟩) (by simp) (.int .i64 (wrap64 (q.e + 1)))).setCell (p := ⟨N + 1, 2, none⟩) (by simp) (.int .i64 q.x))
      clear HF3 HR3 HB3 HM3
      go_wp2
      refine bodyPost_ret (results_row2 rfl _ _ (N + 1) 23 #[.int .i64 q.f, .int .i64 (wrap64 (q.e + 1)), .int .i64 q.x] (0, 0) _ rfl HR4.out Try.underlying23 rfl infoQ) rfl ?_
      exact ⟨by unfold nd ns; rw [if_neg h0, if_neg h0]; rfl, by rw [← HN.out]; exact HB4.out⟩
    · have hm3 : (0 : Int) < (m : Int) := by omega
      have HM4 : Hid ((w3.setCell ⟨M, 0, none⟩ (.int .i64 (wrap64 (q.f + 1)))).heap[M]? = some (.cells #[.int .i64 (wrap64 (q.f + 1)), .int .i64 (wrap64 (q.e + 1)), .int .i64 q.x] 23 (0, 0))) := hide (heap_setCell_same _ M 0 _ _ _ HM3.out)
      have HR5 := hide ((heap_setCell_other w3 ⟨M, 0, none⟩ (N + 1) (.int .i64 (wrap64 (q.f + 1))) (by show N + 1 ≠ M; omega)).trans HR3.out)
      have HB5 := hide (HB3.out.setCell (p := ⟨M, 0, none⟩) (by show N ≤ M; omega) (.int .i64 (wrap64 (q.f + 1))))
      go_upto_region 8 with fail
      clear m0 m1 m2 y0 y1 y2 HM3 HF3 HR3 HB3 f3
      have HR3 := HR5
      have HB3 := HB5
      clear HR5 HB5
      generalize w3.setCell ⟨M, 0, none⟩ (.int .i64 (wrap64 (q.f + 1))) = w4 at *
      obtain ⟨m0, m1, m2, y0, y1, y2⟩ := blk3 HM4.out
      obtain ⟨r0, r1, r2, z0, z1, z2⟩ := blk3 HR3.out
      have HR4 := hide (set3 HR3.out (.int .i64 (wrap64 (q.f + 1))) (.int .i64 (wrap64 (q.e + 1))) (.int .i64 q.x))
      have HB4 := hide (((HB3.out.setCell (p := ⟨N + 1, 0, none⟩) (by simp) (.int .i64 (wrap64 (q.f + 1)))).setCell (p := ⟨N + 1, 1, none⟩) (by simp) (.int .i64 (wrap64 (q.e + 1)))).setCell (p := ⟨N + 1, 2, none⟩) (by simp) (.int .i64 q.x))
      clear HR3 HB3 HM4
      go_wp2
      refine bodyPost_ret (results_row2 rfl _ _ (N + 1) 23 #[.int .i64 (wrap64 (q.f + 1)), .int .i64 (wrap64 (q.e + 1)), .int .i64 q.x] (0, 0) _ rfl HR4.out Try.underlying23 rfl infoQ) rfl ?_
      exact ⟨by unfold nd ns; rw [if_neg h0, if_neg h0, if_neg hm0, if_neg hm0]; rfl, by rw [← HN.out]; exact HB4.out⟩
end Go.Proofs.Ytigegeklkllfnaa
