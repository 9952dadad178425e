import Derived.Test.YtngmnlmagbfijabCE
namespace Go.Proofs.Ytngmnlmagbfijab
open Go.RowKit
/-- does the first of two rows stay ahead? -/
def btD (kd : Nat) (last : Int) (a b : Rw) : Bool := if kd = 1 then (decide (last < a.se) || decide (b.se ≤ last)) else if kd = 2 then decide (a.ps ≤ b.ps) else decide (b.wt + b.ps ≤ a.wt + a.ps)
/-- what a choice leaves of a row that was ready -/
def growR (kd : Nat) (r : Rw) : Rw := if kd = 3 ∧ r.was = true then { r with ps := r.ps + 1 } else r
def lastD (kd : Nat) (last : Int) (r : Rw) : Int := if kd = 1 then r.se else if kd = 2 then r.ps else last
def bestD (kd : Nat) (r : Rw) : Rw := if kd = 1 then r else if kd = 2 then { r with ps := r.ps + stp r.wt } else { growR kd r with ps := 0 }
def psD (kd : Nat) (last : Int) (r : Rw) : Int := if kd = 1 ∧ r.se = last then 1 else r.ps
def shD (kd : Nat) (last : Int) (r : Rw) : Sh := ⟨r.se, r.wt, psD kd last r⟩
section
variable (w : World)
set_option maxRecDepth 100000 in
set_option maxHeartbeats 4000000 in
theorem better_any (g kd : Nat) (Y : Nat → Prop) (L : List Rw) (last : Int) (hP : RfAt w Y g kd L last) (hkd : kd = 1 ∨ kd = 2 ∨ kd = 3) (a b : Rw) (ha : 0 ≤ a.wt ∧ a.wt ≤ 8 ∧ 0 ≤ a.ps ∧ a.ps ≤ 4611686018427387904) (hb : 0 ≤ b.wt ∧ b.wt ≤ 8 ∧ 0 ≤ b.ps ∧ b.ps ≤ 4611686018427387904) :
    Calls Try.prog 26 #[.pointer (some ⟨g, 0, none⟩), .agg #[.int .i64 a.se, .int .i64 a.wt, .int .i64 a.ps, .bool a.was], .agg #[.int .i64 b.se, .int .i64 b.wt, .int .i64 b.ps, .bool b.was]] w fun e w' => e = .returned (.bool (btD kd last a b)) ∧ Below w.heap.size w w' := by
  obtain ⟨v, hR⟩ := hP
  obtain ⟨c0, c1, c2⟩ := hR.c
  have hgl := hR.lt g hR.yg
  have hgl1 : g < w.heap.size + 1 := by omega
  obtain ⟨a0, aw, ap, ab⟩ := a
  obtain ⟨b0, bw, bp, bb⟩ := b
  dsimp only at ha hb
  have hw1 : IntKind.i64.wrap (aw + ap) = aw + ap := wi _ (by omega) (by omega)
  have hw2 : IntKind.i64.wrap (bw + bp) = bw + bp := wi _ (by omega) (by omega)
  have HBl : Hid (∀ o1 o2 n, Below w.heap.size w (((w.alloc o1).alloc o2).drewN n)) := hide (fun o1 o2 n => (((Below.refl _ _).alloc (Nat.le_refl _) o1).alloc (by simp) o2).trans (drewN_below _ _ _))
  have HBl0 : Hid (∀ o1 o2, Below w.heap.size w ((w.alloc o1).alloc o2)) := hide (fun o1 o2 => (((Below.refl _ _).alloc (Nat.le_refl _) o1).alloc (by simp) o2))
  obtain ⟨res, hres⟩ : ∃ z, btD kd last ⟨a0, aw, ap, ab⟩ ⟨b0, bw, bp, bb⟩ = z := ⟨_, rfl⟩
  have HRes := hide hres
  rw [hres]
  have hR2 := hR
  clear hR hres
  have HT2 := hide (hR2.below (w' := ((w.alloc (.cells #[.int .i64 a0, .int .i64 aw, .int .i64 ap, .bool ab] 69)).alloc (.cells #[.int .i64 b0, .int .i64 bw, .int .i64 bp, .bool bb] 69))) (((Below.refl _ _).alloc (Nat.le_refl _) _).alloc (by simp) _))
  have HA2 : Hid (((w.alloc (.cells #[.int .i64 a0, .int .i64 aw, .int .i64 ap, .bool ab] 69)).alloc (.cells #[.int .i64 b0, .int .i64 bw, .int .i64 bp, .bool bb] 69)).heap[w.heap.size]? = some (.cells #[.int .i64 a0, .int .i64 aw, .int .i64 ap, .bool ab] 69 (0, 0))) := hide (by rw [Below.heap_alloc _ _ _ (by simp)]; exact heap_alloc_last _ _)
  have HB2 : Hid (((w.alloc (.cells #[.int .i64 a0, .int .i64 aw, .int .i64 ap, .bool ab] 69)).alloc (.cells #[.int .i64 b0, .int .i64 bw, .int .i64 bp, .bool bb] 69)).heap[w.heap.size + 1]? = some (.cells #[.int .i64 b0, .int .i64 bw, .int .i64 bp, .bool bb] 69 (0, 0))) := hide (by have := heap_alloc_last (w.alloc (.cells #[.int .i64 a0, .int .i64 aw, .int .i64 ap, .bool ab] 69)) (.cells #[.int .i64 b0, .int .i64 bw, .int .i64 bp, .bool bb] 69); simpa using this)
  have HW2 : Hid (Below w.heap.size w ((w.alloc (.cells #[.int .i64 a0, .int .i64 aw, .int .i64 ap, .bool ab] 69)).alloc (.cells #[.int .i64 b0, .int .i64 bw, .int .i64 bp, .bool bb] 69))) := hide (((Below.refl _ _).alloc (Nat.le_refl _) _).alloc (by simp) _)
  clear hR2 HBl HBl0
  go_enter Try.func26, Try.ntmps26
  rcases hkd with rfl | rfl | rfl
  · have hr : res = (decide (last < a0) || decide (b0 ≤ last)) := by rw [← HRes.out]; unfold btD; rw [if_pos rfl]
    subst hr
    go_upto_region 3 with fail
    generalize ((w.alloc (.cells #[.int .i64 a0, .int .i64 aw, .int .i64 ap, .bool ab] 69)).alloc (.cells #[.int .i64 b0, .int .i64 bw, .int .i64 bp, .bool bb] 69)) = W2 at *
    clear c0 c1 c2
    obtain ⟨c0, c1, c2⟩ := HT2.out.c
    have x0 := cell_of_row _ _ 0 _ _ _ HA2.out
    have x1 := cell_of_row _ _ 1 _ _ _ HA2.out
    have x2 := cell_of_row _ _ 2 _ _ _ HA2.out
    have y0 := cell_of_row _ _ 0 _ _ _ HB2.out
    have y1 := cell_of_row _ _ 1 _ _ _ HB2.out
    have y2 := cell_of_row _ _ 2 _ _ _ HB2.out
    simp only [List.getElem?_toArray, List.getElem?_cons_zero, List.getElem?_cons_succ] at x0 x1 x2 y0 y1 y2
    by_cases g1 : last < a0
    · by_cases g2 : b0 ≤ last
      · go_quiet (fail)
        go_wp2
        go_ret
        exact ⟨by first | rfl | simp_all, HW2.out.trans (drewN_below _ _ _)⟩
      · go_quiet (fail)
        go_wp2
        go_ret
        exact ⟨by first | rfl | simp_all, HW2.out.trans (drewN_below _ _ _)⟩
    · by_cases g2 : b0 ≤ last
      · go_quiet (fail)
        go_wp2
        go_ret
        exact ⟨by first | rfl | simp_all, HW2.out.trans (drewN_below _ _ _)⟩
      · go_quiet (fail)
        go_wp2
        go_ret
        exact ⟨by first | rfl | simp_all, HW2.out.trans (drewN_below _ _ _)⟩
  · have hr : res = decide (ap ≤ bp) := by rw [← HRes.out]; unfold btD; rw [if_neg (by omega), if_pos rfl]
    subst hr
    go_upto_region 7 with fail
    generalize ((w.alloc (.cells #[.int .i64 a0, .int .i64 aw, .int .i64 ap, .bool ab] 69)).alloc (.cells #[.int .i64 b0, .int .i64 bw, .int .i64 bp, .bool bb] 69)) = W2 at *
    clear c0 c1 c2
    obtain ⟨c0, c1, c2⟩ := HT2.out.c
    have x0 := cell_of_row _ _ 0 _ _ _ HA2.out
    have x1 := cell_of_row _ _ 1 _ _ _ HA2.out
    have x2 := cell_of_row _ _ 2 _ _ _ HA2.out
    have y0 := cell_of_row _ _ 0 _ _ _ HB2.out
    have y1 := cell_of_row _ _ 1 _ _ _ HB2.out
    have y2 := cell_of_row _ _ 2 _ _ _ HB2.out
    simp only [List.getElem?_toArray, List.getElem?_cons_zero, List.getElem?_cons_succ] at x0 x1 x2 y0 y1 y2
    go_wp2
    go_ret
    exact ⟨rfl, HW2.out⟩
  · have hr : res = decide (bw + bp ≤ aw + ap) := by rw [← HRes.out]; unfold btD; rw [if_neg (by omega), if_neg (by omega)]
    subst hr
    go_upto_region 8 with fail
    generalize ((w.alloc (.cells #[.int .i64 a0, .int .i64 aw, .int .i64 ap, .bool ab] 69)).alloc (.cells #[.int .i64 b0, .int .i64 bw, .int .i64 bp, .bool bb] 69)) = W2 at *
    clear c0 c1 c2
    obtain ⟨c0, c1, c2⟩ := HT2.out.c
    have x0 := cell_of_row _ _ 0 _ _ _ HA2.out
    have x1 := cell_of_row _ _ 1 _ _ _ HA2.out
    have x2 := cell_of_row _ _ 2 _ _ _ HA2.out
    have y0 := cell_of_row _ _ 0 _ _ _ HB2.out
    have y1 := cell_of_row _ _ 1 _ _ _ HB2.out
    have y2 := cell_of_row _ _ 2 _ _ _ HB2.out
    simp only [List.getElem?_toArray, List.getElem?_cons_zero, List.getElem?_cons_succ] at x0 x1 x2 y0 y1 y2
    go_wp2
    go_ret
    exact ⟨rfl, HW2.out⟩
end
end Go.Proofs.Ytngmnlmagbfijab
