import Derived.Test.YtbocpmcodlceoaaGreatMC
namespace Go.Proofs.YtbocpmcodlceoaaGreat
open Go.RowKit

theorem row_cell {w : World} {base : Nat} {a : Option Addr} {n c : Nat} {l : List Int} (h : w.ownsRow base 3 1 (.slice a n c) n (nums l)) {k : Nat} {z : Int} (hk : l[k]? = some z) : ∃ g, a = some ⟨g, 0, none⟩ ∧ w.cell? ⟨g, k, none⟩ = some (.int .i64 z) := by
  have hn : n = l.length := by have := h.1; simpa [nums] using this.symm
  have hkl : k < n := by rw [hn]; exact (List.getElem?_eq_some_iff.1 hk).1
  have h' := h
  obtain ⟨h1, ⟨h2, h3⟩ | ⟨g, cap, cur, h2, _⟩⟩ := h
  · omega
  · cases h2
    refine ⟨g, rfl, ?_⟩
    rw [h'.cellAt k (by omega)]
    simp [nums, hk]
set_option maxRecDepth 8000 in
set_option maxHeartbeats 3200000 in
theorem index_any (w : World) (F : Nat → Prop) (T : Nat) (rs : List (Option Er)) (last : Int) (h : Et w F T rs last) (base : Nat) (a : Option Addr) (c : Nat) (l : List Int) (hrow : w.ownsRow base 3 1 (.slice a l.length c) l.length (nums l)) (P : Int → Bool) (hP : ∀ z ∈ l, ∃ (k : Nat) (r : Er), z = k ∧ rs[k]? = some (some r) ∧ r.fz = P z) (hl : l.length ≤ 16) :
    Calls Tryz.prog 94 #[.slice a l.length c, .func (.func 80) #[.pointer (some ⟨T, 0, none⟩)] #[]] w fun x w' => (∃ z : Int, x = .returned (.int .i64 z) ∧ (0 ≤ z ↔ l.any P = true)) ∧ w' = w := by
  have HH := hide h
  have HP := hide hP
  have HRow := hide hrow
  obtain ⟨L, hL⟩ : ∃ L, l.length = L := ⟨_, rfl⟩
  rw [hL] at HRow hl ⊢
  have HLen := hide hL
  clear h hP hrow hL
  go_enter Tryz.func94, Tryz.ntmps94
  go_wp2_with fail
  go_loopw [8] (fun x wr => ∃ k : Nat, k ≤ L ∧ x = .int .i64 (k : Int) ∧ wr = w ∧ Hid (∀ j z, j < k → l[j]? = some z → P z = false)) (fun x _ => L - (intOf x).toNat)
  case atStart => exact ⟨0, by omega, rfl, rfl, hide (fun j z hj => by omega)⟩
  case round =>
  obtain ⟨k, hk, rfl, rfl, HN⟩ := hrel
  by_cases hlt : k < L
  · have hd : decide ((k : Int) < (L : Int)) = true := by simp; omega
    obtain ⟨z, hz⟩ : ∃ z, l[k]? = some z := ⟨_, List.getElem?_eq_getElem (by rw [HLen.out]; exact hlt)⟩
    obtain ⟨g, rfl, hc⟩ := row_cell HRow.out hz
    obtain ⟨kk, r, rfl, hr, hfz⟩ := HP.out z (List.mem_of_getElem? hz)
    have HC := hide (flagged_any wr F T rs last HH.out kk r hr)
    rw [hfz] at HC
    have HZ := hide hz
    clear hz hr hfz
    go_wp2_with fail
    refine HC.out.mono ?_
    rintro e1 w1 ⟨rfl, rfl⟩
    cases hp : P (kk : Int)
    · have HPF := hide hp
      clear hp
      go_wp2
      go_roundw
      case rel =>
        have HN2 : Hid (∀ j z, j < k + 1 → l[j]? = some z → P z = false) := hide (fun j z hj hz => by
          by_cases e : j = k
          · subst e; rw [HZ.out] at hz; cases hz; exact HPF.out
          · exact HN.out j z (by omega) hz)
        first
          | exact ⟨k + 1, by omega, by go_num, by trivial, HN2⟩
          | ((repeat apply Exists.intro); refine ⟨?_, rfl⟩; exact ⟨k + 1, by omega, by go_num, by trivial, HN2⟩)
      case measure => simp [intOf]; omega
    · have HPT := hide hp
      clear hp
      go_wp2
      go_ret
      refine ⟨⟨(k : Int), rfl, ⟨fun _ => ?_, fun _ => by omega⟩⟩, rfl⟩
      rw [List.any_eq_true]
      exact ⟨_, List.mem_of_getElem? HZ.out, HPT.out⟩
  · have hd : decide ((k : Int) < (L : Int)) = false := by simp; omega
    go_wp2
    go_ret
    refine ⟨⟨-1, rfl, ⟨fun h => by omega, fun h => ?_⟩⟩, rfl⟩
    rw [List.any_eq_true] at h
    obtain ⟨z, h1, h2⟩ := h
    obtain ⟨j, hj, e⟩ := List.getElem_of_mem h1
    have := HN.out j z (by have := HLen.out; omega) (by rw [List.getElem?_eq_getElem hj, e])
    rw [this] at h2; cases h2
set_option maxHeartbeats 1600000 in
theorem contains_any (w : World) (F : Nat → Prop) (T : Nat) (rs : List (Option Er)) (last : Int) (h : Et w F T rs last) (base : Nat) (a : Option Addr) (c : Nat) (l : List Int) (hrow : w.ownsRow base 3 1 (.slice a l.length c) l.length (nums l)) (P : Int → Bool) (hP : ∀ z ∈ l, ∃ (k : Nat) (r : Er), z = k ∧ rs[k]? = some (some r) ∧ r.fz = P z) (hl : l.length ≤ 16) :
    Calls Tryz.prog 79 #[.slice a l.length c, .func (.func 80) #[.pointer (some ⟨T, 0, none⟩)] #[]] w fun x w' => x = .returned (.bool (l.any P)) ∧ w' = w := by
  have HI := hide (index_any w F T rs last h base a c l hrow P hP hl)
  generalize l.length = L at *
  generalize l.any P = q at *
  clear h hrow hP hl
  go_enter Tryz.func79, Tryz.ntmps79
  go_wp2_with fail
  refine HI.out.mono ?_
  rintro e1 w1 ⟨⟨z, rfl, hz⟩, rfl⟩
  have hq : decide (0 ≤ z) = q := by
    cases q
    · simp at hz ⊢; exact hz
    · simp at hz ⊢; exact hz
  have HQ := hide hq
  clear hz hq
  go_wp2
  go_ret
  refine ⟨?_, rfl⟩
  rw [← HQ.out]
  rfl
end Go.Proofs.YtbocpmcodlceoaaGreat

namespace Go.Proofs.YtbocpmcodlceoaaGreat
open Go.RowKit

/-- a number with all above it: each lives -/
theorem line_lives {rs : List (Option Er)} {e : Int} {l : List Int} (h : Line rs e l) : ∀ z ∈ l, ∃ (k : Nat) (r : Er), z = k ∧ rs[k]? = some (some r) := by
  induction l generalizing e with
  | nil => intro z hz; cases hz
  | cons z0 l ih0 =>
    obtain ⟨rfl, r, h, hl0⟩ := h
    have ih := ih0 hl0
    intro z hz
    rcases List.mem_cons.1 hz with rfl | hz
    · rcases look_cases rs z with ⟨_, e1⟩ | ⟨k, rfl, _, _, e1⟩ | ⟨k, x, rfl, _, hm, e1⟩
      · rw [e1] at h; cases h
      · rw [e1] at h; cases h
      · exact ⟨k, x, rfl, hm⟩
    · exact ih z hz
/-- the flag at a number -/
def flg (rs : List (Option Er)) (z : Int) : Bool := match look rs z with | some r => r.fz | none => false
theorem flg_at {rs : List (Option Er)} {k : Nat} {r : Er} (h : rs[k]? = some (some r)) : r.fz = flg rs (k : Int) := by
  unfold flg
  rw [look_nat, h]; rfl
section
variable (w : World) (F : Nat → Prop) (T : Nat) (rs : List (Option Er)) (last : Int)
set_option maxRecDepth 8000 in
set_option maxHeartbeats 3200000 in
theorem runs_any (h : Et w F T rs last) (k : Nat) (r : Er) (hr : rs[k]? = some (some r)) (l : List Int) (hL : Line rs (k : Int) l) (hl : l.length ≤ 16) : Calls Tryz.prog 42 #[.pointer (some ⟨T, 0, none⟩), .int .i64 (k : Int)] w fun x w' => x = .returned (.bool (decide (r.st = 1) && !(l.any (flg rs)))) ∧ Below w.heap.size w w' := by
  have HE := hide h
  have HLn := hide (line_any w F T rs last h _ l hL hl)
  have HLv : Hid (∀ z ∈ l, ∃ (k : Nat) (r : Er), z = k ∧ rs[k]? = some (some r) ∧ r.fz = flg rs z) := hide (fun z hz => by
    obtain ⟨k, r, rfl, h1⟩ := line_lives hL z hz
    exact ⟨k, r, rfl, h1, flg_at h1⟩)
  have HLe := hide hl
  have HB := hide (Below.refl w.heap.size w)
  obtain ⟨S, G, m, h⟩ := h
  have c0 := h.cell.1
  have HG := hide (getL_any _ G S m h.tab (k : Int))
  rcases h.cases (k : Int) with ⟨_, h1⟩ | ⟨k', b, r', e1, hm, h3, h4, _, hR⟩
  · rw [look_nat, hr] at h1; cases h1
  · obtain rfl : k = k' := by omega
    rw [hr] at h3; cases h3
    rw [h4] at HG
    simp only [ptr, Option.isSome_some] at HG
    have c2 := hR.get (j := 2) rfl
    clear h h4 hR hL hl
    by_cases hs : r.st = 1
    · rw [hs] at c2
      simp only [hs, decide_true, Bool.true_and]
      clear hs
      go_enter Tryz.func42, Tryz.ntmps42
      go_wp2_with fail
      refine HG.out.mono ?_
      rintro e1 w1 ⟨rfl, rfl⟩
      go_wp2_with fail
      refine HLn.out.mono ?_
      rintro e1 w2 ⟨v, rfl, hrow, hb⟩
      obtain ⟨a, c, rfl⟩ := own_shape hrow
      have HC := hide (contains_any w2 F T rs last (HE.out.below hb) _ a c l hrow (flg rs) HLv.out HLe.out)
      have HB2 := hide hb
      obtain ⟨q, hq⟩ : ∃ q, l.any (flg rs) = q := ⟨_, rfl⟩
      rw [hq] at HC
      have HQ := hide hq
      clear hrow hb hq
      go_wp2_with fail
      refine HC.out.mono ?_
      rintro e1 w3 ⟨rfl, rfl⟩
      go_wp2
      go_ret
      exact ⟨by rw [HQ.out]; rfl, HB2.out⟩
    · have hsb : (r.st == 1) = false := by simp [hs]
      simp only [hs, decide_false, Bool.false_and]
      go_enter Tryz.func42, Tryz.ntmps42
      go_wp2_with fail
      refine HG.out.mono ?_
      rintro e1 w1 ⟨rfl, rfl⟩
      go_wp2
      go_ret
      exact ⟨rfl, HB.out⟩
end
end Go.Proofs.YtbocpmcodlceoaaGreat

namespace Go.Proofs.YtbocpmcodlceoaaGreat
open Go.RowKit

set_option maxRecDepth 8000 in
set_option maxHeartbeats 3200000 in
theorem affords_any (w : World) (b : Nat) (r : Er) (h : Rb w b r) (q : Qt) : Calls Tryz.prog 54 #[.pointer (some ⟨b, 21, none⟩), q.val] w fun e w' => e = .returned (.bool (decide (q.le r.le))) ∧ Below w.heap.size w w' := by
  have hb1 := (Below.refl w.heap.size w).alloc (Nat.le_refl _) (.cells #[.int .i64 q.f, .int .i64 q.e, .int .i64 q.x] 30)
  have a1 := heap_alloc_new w (.cells #[.int .i64 q.f, .int .i64 q.e, .int .i64 q.x] 30)
  have hR := h.keep (hb1.block b h.lt)
  have HB1 := hide hb1
  have HN := hide hb1.size
  have HC := hide (fun W => fits_any W q r.le)
  obtain ⟨z, hz⟩ : ∃ z, decide (q.le r.le) = z := ⟨_, rfl⟩
  rw [hz] at HC ⊢
  clear h hb1 hz
  unfold Qt.val at *
  go_enter Tryz.func54, Tryz.ntmps54
  go_upto_region 1 with fail
  generalize w.alloc (.cells #[.int .i64 q.f, .int .i64 q.e, .int .i64 q.x] 30) = w1 at *
  obtain ⟨N, hN⟩ : ∃ N, w.heap.size = N := ⟨_, rfl⟩
  rw [hN] at a1 HB1 HN ⊢
  have HNE := hide hN
  clear hN
  obtain ⟨c0, c1, c2, -, -, -⟩ := blk3 a1
  have d0 := hR.get (j := 24) rfl
  have d1 := hR.get (j := 25) rfl
  have d2 := hR.get (j := 26) rfl
  have q0 : (w1.cell? ⟨b, 24, none⟩ = some (.int .i64 r.le.f) ∧ w1.cell? ⟨b, 25, none⟩ = some (.int .i64 r.le.e) ∧ w1.cell? ⟨b, 26, none⟩ = some (.int .i64 r.le.x)) ∧
    w1.cell? ⟨N, 0, none⟩ = some (.int .i64 q.f) ∧ w1.cell? ⟨N, 1, none⟩ = some (.int .i64 q.e) ∧ w1.cell? ⟨N, 2, none⟩ = some (.int .i64 q.x) := ⟨⟨d0, d1, d2⟩, c0, c1, c2⟩
  clear c0 c1 c2 d0 d1 d2 a1 hR
  go_region_held (fun W => (W.cell? ⟨b, 24, none⟩ = some (.int .i64 r.le.f) ∧ W.cell? ⟨b, 25, none⟩ = some (.int .i64 r.le.e) ∧ W.cell? ⟨b, 26, none⟩ = some (.int .i64 r.le.x)) ∧ W.cell? ⟨N, 0, none⟩ = some (.int .i64 q.f) ∧ W.cell? ⟨N, 1, none⟩ = some (.int .i64 q.e) ∧ W.cell? ⟨N, 2, none⟩ = some (.int .i64 q.x))
    (first | assumption | exact q1 | exact q0)
    (first
      | (go_at_call 85; refine (HC.out _).mono ?_; rintro e1 w3 ⟨rfl, hb3⟩
         have q1 : (w3.cell? ⟨b, 24, none⟩ = some (.int .i64 r.le.f) ∧ w3.cell? ⟨b, 25, none⟩ = some (.int .i64 r.le.e) ∧ w3.cell? ⟨b, 26, none⟩ = some (.int .i64 r.le.x)) ∧ w3.cell? ⟨N, 0, none⟩ = some (.int .i64 q.f) ∧ w3.cell? ⟨N, 1, none⟩ = some (.int .i64 q.e) ∧ w3.cell? ⟨N, 2, none⟩ = some (.int .i64 q.x) := by
           refine ⟨⟨?_, ?_, ?_⟩, ?_, ?_, ?_⟩
           · rw [hb3.cell (World.block_lt_of_cell? _ _ q0.1.1)]; exact q0.1.1
           · rw [hb3.cell (World.block_lt_of_cell? _ _ q0.1.2.1)]; exact q0.1.2.1
           · rw [hb3.cell (World.block_lt_of_cell? _ _ q0.1.2.2)]; exact q0.1.2.2
           · rw [hb3.cell (World.block_lt_of_cell? _ _ q0.2.1)]; exact q0.2.1
           · rw [hb3.cell (World.block_lt_of_cell? _ _ q0.2.2.1)]; exact q0.2.2.1
           · rw [hb3.cell (World.block_lt_of_cell? _ _ q0.2.2.2)]; exact q0.2.2.2
         have HB3 := hide (HB1.out.drew.trans (hb3.mono HN.out))
         clear hb3))
  go_wp2
  go_ret
  exact ⟨rfl, by rw [HNE.out]; exact HB3.out⟩
end Go.Proofs.YtbocpmcodlceoaaGreat

namespace Go.Proofs.YtbocpmcodlceoaaGreat
open Go.RowKit

set_option maxRecDepth 8000 in
set_option maxHeartbeats 3200000 in
theorem carve_any (w : World) (b : Nat) (r : Er) (h : Rb w b r) (q : Qt) (hq : q.ok) (hr : r.le.ok) : Calls Tryz.prog 56 #[.pointer (some ⟨b, 21, none⟩), q.val] w fun e w' => e = .returned (.tuple #[]) ∧ Rb w' b { r with le := r.le.less q } ∧ At w b w' := by
  have hb1 := (Below.refl w.heap.size w).alloc (Nat.le_refl _) (.cells #[.int .i64 q.f, .int .i64 q.e, .int .i64 q.x] 30)
  have a1 := heap_alloc_new w (.cells #[.int .i64 q.f, .int .i64 q.e, .int .i64 q.x] 30)
  have hR := h.keep (hb1.block b h.lt)
  have HA1 := hide (At.of_below (b := b) hb1)
  have HNE : Hid (w.heap.size ≠ b) := hide (fun e => by have := h.lt; omega)
  have HC := hide (fun W => less_any W r.le q hr hq)
  clear h hb1 hq hr
  unfold Qt.val at *
  simp only [Qt.less] at HC
  go_enter Tryz.func56, Tryz.ntmps56
  go_upto_region 1 with fail
  generalize w.alloc (.cells #[.int .i64 q.f, .int .i64 q.e, .int .i64 q.x] 30) = w1 at *
  obtain ⟨N, hN⟩ : ∃ N, w.heap.size = N := ⟨_, rfl⟩
  rw [hN] at a1 HNE ⊢
  clear hN
  obtain ⟨w3, hw3⟩ : ∃ w3, w3 = w1.drew := ⟨_, rfl⟩
  have hR3 : Rb w3 b r := by rw [hw3]; exact ⟨hR.out⟩
  have a3 : w3.heap[N]? = some (.cells #[.int .i64 q.f, .int .i64 q.e, .int .i64 q.x] 30 (0, 0)) := by rw [hw3]; exact a1
  have HA3 : Hid (At w b w3) := by rw [hw3]; exact ⟨HA1.out.os, HA1.out.tape, HA1.out.output, HA1.out.size, HA1.out.block⟩
  have d0 := hR3.get (j := 24) rfl
  have d1 := hR3.get (j := 25) rfl
  have d2 := hR3.get (j := 26) rfl
  have HR3 := hide hR3
  have HA := hide a3
  clear hR hR3 a1 HA1
  refine wp_region_held_drew (S := fun W => W.heap[N]? = some (.cells #[.int .i64 q.f, .int .i64 q.e, .int .i64 q.x] 30 (0, 0))) (by kernel_rfl) (by rw [← hw3]; exact a3) (fun _ => ?_)
  rw [← hw3]
  clear hw3 a3
  refine hd_take 0 (o := ⟨some 4, _, _, _, _, _⟩) (.pointer (some ⟨b, 21, none⟩)) (by kernel_rfl) (by kernel_rfl) (by kernel_rfl) rfl (by rfl) (fun W hSw => by go_simp) (fun _ _ _ h => h) HA.out ?_
  simp only [Act.put, List.setIfInBounds_toArray, List.set_cons_zero, List.set_cons_succ]
  refine hd_take 1 (o := ⟨some 5, _, _, _, _, _⟩) (.pointer (some ⟨b, 21, none⟩)) (by kernel_rfl) (by kernel_rfl) (by kernel_rfl) rfl (by rfl) (fun W hSw => by go_simp) (fun _ _ _ h => h) HA.out ?_
  simp only [Act.put, List.setIfInBounds_toArray, List.set_cons_zero, List.set_cons_succ]
  refine hd_take 2 (o := ⟨some 6, _, _, _, _, _⟩) (.pointer (some ⟨b, 21, none⟩)) (by kernel_rfl) (by kernel_rfl) (by kernel_rfl) rfl (by rfl) (fun W hSw => by go_simp) (fun _ _ _ h => h) HA.out ?_
  simp only [Act.put, List.setIfInBounds_toArray, List.set_cons_zero, List.set_cons_succ]
  refine hd_take 3 (o := ⟨some 7, _, _, _, _, _⟩) (.pointer (some ⟨b, 24, none⟩)) (by kernel_rfl) (by kernel_rfl) (by kernel_rfl) rfl (by rfl) (fun W hSw => by go_simp) (fun _ _ _ h => h) HA.out ?_
  simp only [Act.put, List.setIfInBounds_toArray, List.set_cons_zero, List.set_cons_succ]
  refine hd_take 5 (o := ⟨some 9, _, _, _, _, _⟩) (.agg #[.int .i64 q.f, .int .i64 q.e, .int .i64 q.x]) (by kernel_rfl) (by kernel_rfl) (by kernel_rfl) rfl (by rfl) (fun W hSw => by obtain ⟨c0, c1, c2, -, -, -⟩ := blk3 hSw; go_simp) (fun _ _ _ h => h) HA.out ?_
  simp only [Act.put, List.setIfInBounds_toArray, List.set_cons_zero, List.set_cons_succ]
  refine hd_call 4 (o := ⟨some 8, _, _, _, _, _⟩) (by kernel_rfl) rfl (by rfl) (fun K hK => ?_)
  go_simp
  refine hK _ _ HA.out ?_
  clear hK K
  try simp only [Act.put, List.setIfInBounds_toArray, List.set_cons_zero, List.set_cons_succ]
  refine hd_call 6 (o := ⟨some 10, _, _, _, _, _⟩) (by kernel_rfl) rfl (by rfl) (fun K hK => ?_)
  go_simp
  go_wp2_with (go_at_call 87; refine (HC.out _).mono ?_; rintro e1 w9 ⟨rfl, hb9⟩)
  have HA9 : Hid (w9.heap[N]? = some (.cells #[.int .i64 q.f, .int .i64 q.e, .int .i64 q.x] 30 (0, 0))) := hide ((hb9.block N (Array.getElem?_eq_some_iff.1 HA.out).1).trans HA.out)
  have hR9 : Rb w9 b r := HR3.out.keep (hb9.block b HR3.out.lt)
  have HAt9 := hide (HA3.out.below hb9)
  clear hb9 d0 d1 d2
  refine hK _ _ HA9.out ?_
  clear hK K
  try simp only [Act.put, List.setIfInBounds_toArray, List.set_cons_zero, List.set_cons_succ]
  refine hd_take 7 (o := ⟨some 11, _, _, _, _, _⟩) (.pointer (some ⟨b, 21, none⟩)) (by kernel_rfl) (by kernel_rfl) (by kernel_rfl) rfl (by rfl) (fun W hSw => by go_simp) (fun _ _ _ h => h) HA9.out ?_
  simp only [Act.put, List.setIfInBounds_toArray, List.set_cons_zero, List.set_cons_succ]
  refine hd_take 8 (o := ⟨some 12, _, _, _, _, _⟩) (.pointer (some ⟨b, 24, none⟩)) (by kernel_rfl) (by kernel_rfl) (by kernel_rfl) rfl (by rfl) (fun W hSw => by go_simp) (fun _ _ _ h => h) HA9.out ?_
  simp only [Act.put, List.setIfInBounds_toArray, List.set_cons_zero, List.set_cons_succ]
  have d0 := hR9.get (j := 24) rfl
  have d1 := hR9.get (j := 25) rfl
  have d2 := hR9.get (j := 26) rfl
  have f0 := hR9.frz 24
  have f1 := hR9.frz 25
  have f2 := hR9.frz 26
  have HR9 := hide hR9
  clear hR9
  refine hd_call 9 (o := ⟨none, _, _, _, _, _⟩) (by kernel_rfl) rfl (by rfl) (fun K hK => ?_)
  go_simp
  refine hK _ _ (by rw [heap_setCell_other _ _ _ _ HNE.out, heap_setCell_other _ _ _ _ HNE.out, heap_setCell_other _ _ _ _ HNE.out]; exact HA9.out) ?_
  clear hK K
  refine wpAnyH_done (by kernel_rfl) ?_ _
  have HF : Hid (Rb (((w9.setCell ⟨b, 24, none⟩ (.int .i64 (r.le.f - q.f))).setCell ⟨b, 25, none⟩ (.int .i64 (r.le.e - q.e))).setCell ⟨b, 26, none⟩ (.int .i64 (r.le.x - q.x))) b { r with le := r.le.less q }) :=
    hide (Rb.set (e := { r with le := ⟨r.le.f - q.f, r.le.e - q.e, r.le.x⟩ }) (Rb.set (e := { r with le := ⟨r.le.f - q.f, r.le.e, r.le.x⟩ }) (HR9.out.set rfl) rfl) rfl)
  have HG := hide (((HAt9.out.set 24 (.int .i64 (r.le.f - q.f))).set 25 (.int .i64 (r.le.e - q.e))).set 26 (.int .i64 (r.le.x - q.x)))
  go_wp2
  go_end0
  exact ⟨rfl, HF.out, HG.out⟩
end Go.Proofs.YtbocpmcodlceoaaGreat

namespace Go.Proofs.YtbocpmcodlceoaaGreat
open Go.RowKit

/-- a table with nothing in it -/
theorem et_bare (serial : Int) {w2 : World} (S : Nat) (G : Nat → Prop) (hT : Tab KL w2 G S (List.replicate 16 none)) :
    EtAt (w2.alloc (.cells #[.pointer (some ⟨S, 0, none⟩), .int .i64 serial] 68)) (fun b => G b ∨ b = w2.heap.size) w2.heap.size S G (List.replicate 16 none) (List.replicate 16 none) serial where
  top := heap_alloc_new _ _
  tab := hT.keep (by simp) (fun b hb => by
    have hlt := hT.lt b hb
    exact ((Below.refl w2.heap.size w2).alloc (Nat.le_refl _) _).block b hlt)
  len := by simp
  rlen := by simp
  free := fun i hi => by
    have hl : i < 16 := by have := (List.getElem?_eq_some_iff.1 hi).1; simpa using this
    rw [List.getElem?_replicate, if_pos hl]
  held := fun i b hi => by
    rw [List.getElem?_replicate] at hi
    split at hi <;> cases hi
  fT := .inr rfl
  fG := fun b hb => ⟨.inl hb, fun e => by have := hT.lt b hb; omega⟩
  own := fun i b hi => by
    rw [List.getElem?_replicate] at hi
    split at hi <;> cases hi
  dis := fun i j b hi _ => by
    rw [List.getElem?_replicate] at hi
    split at hi <;> cases hi
  lt := fun b hb => by
    rcases hb with hb | rfl
    · have := hT.lt b hb; simp; omega
    · simp
set_option maxRecDepth 8000 in
set_option maxHeartbeats 3200000 in
theorem new_any (w : World) (serial : Int) (q : Qt) : Calls Tryz.prog 11 #[.int .i64 serial, q.val] w fun e w' => ∃ T, e = .returned (.pointer (some ⟨T, 0, none⟩)) ∧ ∃ F, Et w' F T ((List.replicate 16 none).set 0 (some (Er.new serial (-1) q.bnd))) serial ∧ (∀ b, F b → w.heap.size ≤ b) ∧ Below w.heap.size w w' := by
  have hb1 := (Below.refl w.heap.size w).alloc (Nat.le_refl _) (.cells #[.int .i64 q.f, .int .i64 q.e, .int .i64 q.x] 30)
  have a1 := heap_alloc_new w (.cells #[.int .i64 q.f, .int .i64 q.e, .int .i64 q.x] 30)
  have HB1 := hide hb1
  have HA1 := hide a1
  clear hb1 a1
  have HC6 := hide (fun W => bounded_any W q)
  have HC7 := hide (fun W => newRecord_any W serial (-1) q.bnd)
  generalize q.bnd = qb at *
  unfold Qt.val at *
  go_enter Tryz.func11, Tryz.ntmps11
  go_upto_region 1 with fail
  generalize w.alloc (.cells #[.int .i64 q.f, .int .i64 q.e, .int .i64 q.x] 30) = w1 at *
  go_wp2_with fail
  refine (newL_any w1).mono ?_
  rintro e1 w2 ⟨rfl, hT, hb2⟩
  obtain ⟨G, hG⟩ : ∃ G : Nat → Prop, (fun b => b = w1.heap.size ∨ b = w1.heap.size + 1) = G := ⟨_, rfl⟩
  have hlow : ∀ b, G b → w1.heap.size ≤ b := fun b hb => by rw [← hG] at hb; rcases hb with rfl | rfl <;> omega
  rw [hG] at hT
  clear hG
  generalize w1.heap.size + 1 = S at *
  have he := et_bare serial _ _ hT
  have hb3 := ((HB1.out.trans (hb2.mono HB1.out.size)).alloc (Nat.le_trans HB1.out.size hb2.size) (.cells #[.pointer (some ⟨S, 0, none⟩), .int .i64 serial] 68))
  have hl1 := (Array.getElem?_eq_some_iff.1 HA1.out).1
  have a3 : (w2.alloc (.cells #[.pointer (some ⟨S, 0, none⟩), .int .i64 serial] 68)).heap[w.heap.size]? = some (.cells #[.int .i64 q.f, .int .i64 q.e, .int .i64 q.x] 30 (0, 0)) := by
    rw [((Below.refl w2.heap.size w2).alloc (Nat.le_refl _) _).block _ (Nat.lt_of_lt_of_le hl1 hb2.size), hb2.block _ hl1]
    exact HA1.out
  have HF : Hid (∀ b, (G b ∨ b = w2.heap.size) → w.heap.size ≤ b) := hide (fun b hb => by
    have h1 := HB1.out.size
    have h2 := hb2.size
    rcases hb with hb | rfl
    · have := hlow b hb; omega
    · omega)
  have HNG : Hid (¬ G w.heap.size) := hide (fun e => by have := hlow _ e; omega)
  have HE := hide he
  have HB3 := hide hb3
  have HA3 := hide a3
  clear he hT hb2 hb3 a3 HB1 HA1 hlow hl1
  go_upto_region 2 with fail
  generalize w2.alloc (.cells #[.pointer (some ⟨S, 0, none⟩), .int .i64 serial] 68) = w3 at *
  generalize w2.heap.size = T at *
  obtain ⟨N, hN⟩ : ∃ N, w.heap.size = N := ⟨_, rfl⟩
  have HN := hide hN
  rw [hN] at HB3 HA3 HF HNG ⊢
  clear hN
  obtain ⟨w4, hw4⟩ : ∃ w4, w4 = w3.drew := ⟨_, rfl⟩
  have HE4 : Hid (EtAt w4 (fun b => G b ∨ b = T) T S G (List.replicate 16 none) (List.replicate 16 none) serial) := by rw [hw4]; exact hide (HE.out.keep (Nat.le_refl _) (fun _ _ => rfl))
  have HB4 : Hid (Below N w w4) := by rw [hw4]; exact hide HB3.out.drew
  have HA4 : Hid (w4.heap[N]? = some (.cells #[.int .i64 q.f, .int .i64 q.e, .int .i64 q.x] 30 (0, 0))) := by rw [hw4]; exact HA3
  have HS4 : Hid (w4.cell? ⟨T, 0, none⟩ = some (.pointer (some ⟨S, 0, none⟩)) ∧ w4.heap[N]? = some (.cells #[.int .i64 q.f, .int .i64 q.e, .int .i64 q.x] 30 (0, 0))) := hide ⟨HE4.out.cell.1, HA4.out⟩
  clear HE HB3 HA3
  refine wp_region_held_drew (S := fun W => W.cell? ⟨T, 0, none⟩ = some (.pointer (some ⟨S, 0, none⟩)) ∧ W.heap[N]? = some (.cells #[.int .i64 q.f, .int .i64 q.e, .int .i64 q.x] 30 (0, 0))) (by kernel_rfl) (by rw [← hw4]; exact HS4.out) (fun _ => ?_)
  rw [← hw4]
  clear hw4
  refine hd_take 0 (o := ⟨some 10, _, _, _, _, _⟩) (.pointer (some ⟨T, 0, none⟩)) (by kernel_rfl) (by kernel_rfl) (by kernel_rfl) rfl (by rfl) (fun W hSw => by go_simp) (fun _ _ _ h => h) HS4.out ?_
  simp only [Act.put, List.setIfInBounds_toArray, List.set_cons_zero, List.set_cons_succ]
  refine hd_take 1 (o := ⟨some 11, _, _, _, _, _⟩) (.pointer (some ⟨T, 0, none⟩)) (by kernel_rfl) (by kernel_rfl) (by kernel_rfl) rfl (by rfl) (fun W hSw => by go_simp) (fun _ _ _ h => h) HS4.out ?_
  simp only [Act.put, List.setIfInBounds_toArray, List.set_cons_zero, List.set_cons_succ]
  refine hd_take 2 (o := ⟨some 12, _, _, _, _, _⟩) (.pointer (some ⟨T, 0, none⟩)) (by kernel_rfl) (by kernel_rfl) (by kernel_rfl) rfl (by rfl) (fun W hSw => by go_simp) (fun _ _ _ h => h) HS4.out ?_
  simp only [Act.put, List.setIfInBounds_toArray, List.set_cons_zero, List.set_cons_succ]
  refine hd_take 3 (o := ⟨some 13, _, _, _, _, _⟩) (.pointer (some ⟨S, 0, none⟩)) (by kernel_rfl) (by kernel_rfl) (by kernel_rfl) rfl (by rfl) (fun W hSw => by have c0 := hSw.1; go_simp) (fun _ _ _ h => h) HS4.out ?_
  simp only [Act.put, List.setIfInBounds_toArray, List.set_cons_zero, List.set_cons_succ]
  refine hd_take 4 (o := ⟨some 14, _, _, _, _, _⟩) (.int .i64 serial) (by kernel_rfl) (by kernel_rfl) (by kernel_rfl) rfl (by rfl) (fun W hSw => by go_simp) (fun _ _ _ h => h) HS4.out ?_
  simp only [Act.put, List.setIfInBounds_toArray, List.set_cons_zero, List.set_cons_succ]
  refine hd_take 5 (o := ⟨some 15, _, _, _, _, _⟩) (.agg #[.int .i64 q.f, .int .i64 q.e, .int .i64 q.x]) (by kernel_rfl) (by kernel_rfl) (by kernel_rfl) rfl (by rfl) (fun W hSw => by obtain ⟨c0, c1, c2, -, -, -⟩ := blk3 hSw.2; go_simp) (fun _ _ _ h => h) HS4.out ?_
  simp only [Act.put, List.setIfInBounds_toArray, List.set_cons_zero, List.set_cons_succ]
  have sk : ∀ (W : World), Below w4.heap.size w4 W → W.cell? ⟨T, 0, none⟩ = some (.pointer (some ⟨S, 0, none⟩)) ∧ W.heap[N]? = some (.cells #[.int .i64 q.f, .int .i64 q.e, .int .i64 q.x] 30 (0, 0)) := fun _ hb => ⟨(HE4.out.below hb).cell.1, (hb.block N (Array.getElem?_eq_some_iff.1 HA4.out).1).trans HA4.out⟩
  have HSK := hide sk
  clear sk
  refine hd_call 6 (o := ⟨some 16, _, _, _, _, _⟩) (by kernel_rfl) rfl (by rfl) (fun K hK => ?_)
  go_simp
  go_wp2_with (go_at_call 51; refine (HC6.out _).mono ?_; rintro e1 w5 ⟨rfl, hb5⟩)
  refine hK _ _ (HSK.out _ hb5) ?_
  have HB5 := hide hb5
  clear hK K hb5
  try simp only [Act.put, List.setIfInBounds_toArray, List.set_cons_zero, List.set_cons_succ]
  refine hd_call 7 (o := ⟨some 17, _, _, _, _, _⟩) (by kernel_rfl) rfl (by rfl) (fun K hK => ?_)
  go_simp
  go_wp2_with (go_at_call 50; refine (HC7.out _).mono ?_; rintro e1 w6 ⟨b, rfl, hR6, hlb, hb6⟩)
  have hb46 := HB5.out.trans (hb6.mono HB5.out.size)
  refine hK _ _ (HSK.out _ hb46) ?_
  have HB6 := hide hb46
  have HR6 := hide hR6
  have HLB := hide (Nat.le_trans HB5.out.size hlb)
  have hff : ff (List.replicate 16 (none : Option Nat)) = 0 := by decide
  have HP := hide ((putL_any w6 G S (List.replicate 16 none) (HE4.out.below hb46).tab b).mono (fun _ _ h => h.1 (by decide)))
  rw [hff] at HP
  clear hK K hb6 hb46 hR6 hlb hff
  try simp only [Act.put, List.setIfInBounds_toArray, List.set_cons_zero, List.set_cons_succ]
  refine hd_call 8 (o := ⟨some 18, _, _, _, _, _⟩) (by kernel_rfl) rfl (by rfl) (fun K hK => ?_)
  go_simp
  go_wp2_with (go_at_call 49; refine HP.out.mono ?_; rintro e1 w7 ⟨rfl, G', hT7, hx7⟩)
  obtain ⟨hE7, hX7⟩ := HE4.out.opn (i := 0) (by rfl) HB6.out HLB.out HR6.out hT7 hx7
  have HF7 : Hid (∀ c, (fun x => (G x ∨ x = T) ∨ x = b ∨ G' x) c → N ≤ c) := hide (hX7.low HF.out (by rw [← HN.out]; exact HB4.out.size))
  have HE7 := hide hE7
  have HB7 : Hid (Below N w w7) := hide (HB4.out.trans (hX7.mod.below HF.out (by rw [← HN.out]; exact HB4.out.size)))
  have HS7 : Hid (w7.cell? ⟨T, 0, none⟩ = some (.pointer (some ⟨S, 0, none⟩)) ∧ w7.heap[N]? = some (.cells #[.int .i64 q.f, .int .i64 q.e, .int .i64 q.x] 30 (0, 0))) := hide ⟨hE7.cell.1, by
    have hl4 := (Array.getElem?_eq_some_iff.1 HA4.out).1
    rw [hx7.mod.block N (Nat.lt_of_lt_of_le hl4 HB6.out.size) HNG.out, HB6.out.block N hl4]; exact HA4.out⟩
  clear hE7 hX7 hT7 hx7
  refine hK _ _ HS7.out ?_
  clear hK K
  refine wpAnyH_done (by kernel_rfl) ?_ _
  go_wp2
  go_ret
  exact ⟨T, rfl, _, ⟨S, G', _, HE7.out⟩, by rw [HN.out]; exact HF7.out, by rw [HN.out]; exact HB7.out⟩
end Go.Proofs.YtbocpmcodlceoaaGreat

namespace Go.Proofs.YtbocpmcodlceoaaGreat
open Go.RowKit

theorem EtAt.ff_eq {w : World} {F : Nat → Prop} {T S : Nat} {G : Nat → Prop} {m : List (Option Nat)} {rs : List (Option Er)} {last : Int} (h : EtAt w F T S G m rs last) : ff m = ff rs := by
  have l1 := ff_le m
  have l2 := ff_le rs
  have e1 := h.len
  have e2 := h.rlen
  rcases Nat.lt_trichotomy (ff m) (ff rs) with h1 | h1 | h1
  · have h2 := h.free _ (ff_free (m := m) (by omega))
    obtain ⟨x, h3⟩ := ff_held h1
    rw [h3] at h2; cases h2
  · exact h1
  · have h2 := ff_free (m := rs) (by omega)
    obtain ⟨x, h3⟩ := ff_held h1
    obtain ⟨e, h4, _⟩ := h.held _ _ h3
    rw [h4] at h2; cases h2
/-- the serial of the last one made is set -/
theorem EtAt.setLast {w : World} {F : Nat → Prop} {T S : Nat} {G : Nat → Prop} {m : List (Option Nat)} {rs : List (Option Er)} {last : Int} (h : EtAt w F T S G m rs last) (z : Int) : EtAt (w.setCell ⟨T, 1, none⟩ (.int .i64 z)) F T S G m rs z where
  top := heap_setCell_same _ T 1 _ _ _ h.top
  tab := h.tab.keep (by simp [World.setCell]) (fun b hb => heap_setCell_other _ _ _ _ (h.fG b hb).2)
  len := h.len
  rlen := h.rlen
  free := h.free
  held := fun i b hi => by
    obtain ⟨e, h1, h2⟩ := h.held i b hi
    exact ⟨e, h1, h2.keep (heap_setCell_other _ _ _ _ (h.own i b hi).2.1)⟩
  fT := h.fT
  fG := h.fG
  own := h.own
  dis := h.dis
  lt := fun b hb => by have := h.lt b hb; simpa [World.setCell] using this
end Go.Proofs.YtbocpmcodlceoaaGreat

namespace Go.Proofs.YtbocpmcodlceoaaGreat
open Go.RowKit

theorem pt_bounds (n : Int) : 0 ≤ pt n ∧ pt n ≤ 4611686018427387903 := by unfold pt; split <;> (try split) <;> omega
theorem good_bounds {q : Qt} (h : q.good) : (0 ≤ q.f ∧ q.f ≤ 4611686018427387903) ∧ (0 ≤ q.e ∧ q.e ≤ 4611686018427387903) ∧ (0 ≤ q.x ∧ q.x ≤ 4611686018427387903) := by
  obtain ⟨h1, h2, h3⟩ := h
  refine ⟨?_, ?_, ?_⟩
  · rw [← h1]; exact pt_bounds _
  · rw [← h2]; exact pt_bounds _
  · rw [← h3]; exact pt_bounds _
theorem Et_ext {w w' : World} {F : Nat → Prop} {b : Nat} (h : At w b w') (hf : F b) : Ext F w F w' := ⟨h.mod hf, fun _ h => .inl h⟩
section
variable (w : World) (F : Nat → Prop) (T : Nat) (rs : List (Option Er)) (last : Int)
set_option maxRecDepth 8000 in
set_option maxHeartbeats 6400000 in
theorem createOk_any (h : Et w F T rs last) (k : Nat) (r : Er) (hr : rs[k]? = some (some r)) (serial : Int) (q : Qt) (hg : q.good) (hs1 : last < serial) (hs2 : serial ≤ 4611686018427387903) (ha : (q.plus Qt.one).le r.le) (hle : r.le.ok) (hroom : ff rs < 16) :
    Calls Tryz.prog 12 #[.pointer (some ⟨T, 0, none⟩), .int .i64 (k : Int), .int .i64 serial, q.val] w fun x w' => x = .returned (.tuple #[.int .i64 (ff rs : Nat), .int .i64 0]) ∧ ∃ F', Et w' F' T ((rs.set (ff rs) (some (Er.new serial k q))).set k (some { r with le := r.le.less (q.plus Qt.one) })) serial ∧ Ext F w F' w' := by
  obtain ⟨g1, g2, g3⟩ := good_bounds hg
  have hqo : q.ok := by unfold Qt.ok; omega
  have hpo : (q.plus Qt.one).ok := by
    obtain ⟨a1, a2, a3⟩ := ha
    obtain ⟨l1, l2, l3⟩ := hle
    simp only [Qt.plus, Qt.one] at a1 a2 a3
    simp only [Qt.ok, Qt.plus, Qt.one]; omega
  obtain ⟨S, G, m, h⟩ := h
  have hff := h.ff_eq
  have hlen := h.len
  have hb1 := (Below.refl w.heap.size w).alloc (Nat.le_refl _) (.cells #[.int .i64 q.f, .int .i64 q.e, .int .i64 q.x] 30)
  have a1 := heap_alloc_new w (.cells #[.int .i64 q.f, .int .i64 q.e, .int .i64 q.x] 30)
  have h1 := h.below hb1
  have HNG : Hid (¬ G w.heap.size) := hide (fun e => by have := h.lt _ (h.fG _ e).1; omega)
  rcases h1.cases (k : Int) with ⟨_, h2⟩ | ⟨k', b, r', e1, hm, h3, h4, _, hR⟩
  · rw [look_nat, hr] at h2; cases h2
  obtain rfl : k = k' := by omega
  rw [hr] at h3; cases h3
  have HFb : Hid (F b ∧ w.heap.size ≠ b) := hide ⟨(h.own k b hm).1, fun e => by have := h.lt _ (h.own k b hm).1; omega⟩
  have HM := hide hm
  have HRr := hide hr
  have hfm : m[ff rs]? = some none := by rw [← hff]; exact ff_free (by rw [hff, h.len]; exact hroom)
  have HFM := hide hfm
  have hne : ff rs ≠ k := fun e => by rw [e, hm] at hfm; cases hfm
  have HNE := hide hne
  have HG := hide (getL_any _ G S m h1.tab (k : Int))
  rw [h4] at HG
  simp only [ptr, Option.isSome_some] at HG
  have HC1 := hide (fun W => isGood_any W q)
  rw [show decide q.good = true by simpa using hg] at HC1
  have HC2 := hide (fun W => price_any W q hqo)
  have haf : decide ((q.plus Qt.one).le r.le) = true := by simpa using ha
  have HC3 := hide (fun W (hb : Rb W b r) => affords_any W b r hb (q.plus Qt.one))
  rw [haf] at HC3
  have HC4 := hide (fun W => newRecord_any W serial (k : Int) q)
  have HC5 := hide (fun W (hb : Rb W b r) => carve_any W b r hb (q.plus Qt.one) hpo hle)
  have HPut : Hid (∀ W c, Tab KL W G S m → Calls Tryz.prog 49 #[.pointer (some ⟨S, 0, none⟩), .pointer (some ⟨c, 0, none⟩)] W fun x w' => x = .returned (.tuple #[.int .i64 (ff rs : Nat), .int .i64 0]) ∧ ∃ F', Tab KL w' F' S (m.set (ff rs) (some c)) ∧ Ext G W F' w') := hide (fun W c hT => by
    have h9 := (putL_any W G S m hT c).mono (fun _ _ h => h.1 (by rw [hff, hlen]; exact hroom))
    rw [hff] at h9; exact h9)
  have HE1 := hide h1
  have HB1 := hide hb1
  have HA1 := hide a1
  have hsl : ¬ serial ≤ last := by omega
  have hsm : ¬ 4611686018427387903 < serial := by omega
  obtain ⟨i, hi⟩ : ∃ i, ff rs = i := ⟨_, rfl⟩
  rw [hi] at HFM HNE HPut ⊢
  obtain ⟨r', hr'⟩ : ∃ r' : Er, { r with le := r.le.less (q.plus Qt.one) } = r' := ⟨_, rfl⟩
  rw [hr'] at HC5 ⊢
  obtain ⟨qp, hqp⟩ : ∃ qp, q.plus Qt.one = qp := ⟨_, rfl⟩
  rw [hqp] at HC2 HC3 HC5
  clear h h1 h4 hR hm hr hfm hne hb1 a1 hg g1 g2 g3 hqo hpo ha hle hroom hff hlen haf hs1 hs2 hi hr' hqp
  unfold Qt.val at *
  go_enter Tryz.func12, Tryz.ntmps12
  go_upto_region 1 with fail
  generalize w.alloc (.cells #[.int .i64 q.f, .int .i64 q.e, .int .i64 q.x] 30) = w1 at *
  obtain ⟨N, hN⟩ : ∃ N, w.heap.size = N := ⟨_, rfl⟩
  have HN := hide hN
  rw [hN] at HB1 HA1 HNG HFb ⊢
  clear hN
  have t0 := HE1.out.cell.1
  go_wp2_with fail
  refine HG.out.mono ?_
  rintro e1 w2 ⟨rfl, rfl⟩
  obtain ⟨c0, c1, c2, -, -, -⟩ := blk3 HA1.out
  go_wp2_with fail
  refine (HC1.out _).mono ?_
  rintro e1 w3 ⟨rfl, hb3⟩
  have HE3 := hide (HE1.out.below hb3)
  have HB3 := hide (HB1.out.trans (hb3.mono (by rw [← HN.out]; exact HB1.out.size)))
  have HA3 := hide ((hb3.block N (Array.getElem?_eq_some_iff.1 HA1.out).1).trans HA1.out)
  have t1 := HE3.out.cell.2.1
  clear hb3 c0 c1 c2 t0 HE1 HB1 HA1 HG HC1
  go_upto_region 6 with fail
  obtain ⟨w4, hw4⟩ : ∃ W, W = w3.drew := ⟨_, rfl⟩
  have HE4 : Hid (EtAt w4 F T S G m rs last) := by rw [hw4]; exact hide (HE3.out.keep (Nat.le_refl _) (fun _ _ => rfl))
  have HB4 : Hid (Below N w w4) := by rw [hw4]; exact hide HB3.out.drew
  have HA4 : Hid (w4.heap[N]? = some (.cells #[.int .i64 q.f, .int .i64 q.e, .int .i64 q.x] 30 (0, 0))) := by rw [hw4]; exact HA3
  refine wp_region_held_drew (S := fun W => W.heap[N]? = some (.cells #[.int .i64 q.f, .int .i64 q.e, .int .i64 q.x] 30 (0, 0))) (by kernel_rfl) (by rw [← hw4]; exact HA4.out) (fun _ => ?_)
  rw [← hw4]
  clear hw4 t1 HE3 HB3 HA3
  refine hd_take 0 (o := ⟨some 40, _, _, _, _, _⟩) (.pointer (some ⟨b, 0, none⟩)) (by kernel_rfl) (by kernel_rfl) (by kernel_rfl) rfl (by rfl) (fun W hSw => by go_simp) (fun _ _ _ h => h) HA4.out ?_
  simp only [Act.put, List.setIfInBounds_toArray, List.set_cons_zero, List.set_cons_succ]
  refine hd_take 1 (o := ⟨some 41, _, _, _, _, _⟩) (.pointer (some ⟨b, 0, none⟩)) (by kernel_rfl) (by kernel_rfl) (by kernel_rfl) rfl (by rfl) (fun W hSw => by go_simp) (fun _ _ _ h => h) HA4.out ?_
  simp only [Act.put, List.setIfInBounds_toArray, List.set_cons_zero, List.set_cons_succ]
  refine hd_take 2 (o := ⟨some 42, _, _, _, _, _⟩) (.pointer (some ⟨b, 21, none⟩)) (by kernel_rfl) (by kernel_rfl) (by kernel_rfl) rfl (by rfl) (fun W hSw => by go_simp) (fun _ _ _ h => h) HA4.out ?_
  simp only [Act.put, List.setIfInBounds_toArray, List.set_cons_zero, List.set_cons_succ]
  refine hd_take 3 (o := ⟨some 43, _, _, _, _, _⟩) (.agg #[.int .i64 q.f, .int .i64 q.e, .int .i64 q.x]) (by kernel_rfl) (by kernel_rfl) (by kernel_rfl) rfl (by rfl) (fun W hSw => by obtain ⟨c0, c1, c2, -, -, -⟩ := blk3 hSw; go_simp) (fun _ _ _ h => h) HA4.out ?_
  simp only [Act.put, List.setIfInBounds_toArray, List.set_cons_zero, List.set_cons_succ]
  refine hd_call 4 (o := ⟨some 44, _, _, _, _, _⟩) (by kernel_rfl) rfl (by rfl) (fun K hK => ?_)
  go_simp
  go_wp2_with (go_at_call 55; refine (HC2.out _).mono ?_; rintro e1 w5 ⟨rfl, hb5⟩)
  have HA5 := hide ((hb5.block N (Array.getElem?_eq_some_iff.1 HA4.out).1).trans HA4.out)
  have HE5 := hide (HE4.out.below hb5)
  have HB5 := hide (HB4.out.trans (hb5.mono (by rw [← HN.out]; exact HB4.out.size)))
  clear hb5
  refine hK _ _ HA5.out ?_
  clear hK K
  have hR5 : Rb w5 b r := by
    obtain ⟨e, q1, q2⟩ := HE5.out.held k b HM.out
    rw [HRr.out] at q1; cases q1; exact q2
  have HAf := hide (HC3.out w5 hR5)
  clear hR5
  try simp only [Act.put, List.setIfInBounds_toArray, List.set_cons_zero, List.set_cons_succ]
  refine hd_call 5 (o := ⟨some 45, _, _, _, _, _⟩) (by kernel_rfl) rfl (by rfl) (fun K hK => ?_)
  go_simp
  go_wp2_with (go_at_call 54; refine HAf.out.mono ?_; rintro e1 w6 ⟨rfl, hb6⟩)
  have HA6 := hide ((hb6.block N (Array.getElem?_eq_some_iff.1 HA5.out).1).trans HA5.out)
  have HE6 := hide (HE5.out.below hb6)
  have HB6 := hide (HB5.out.trans (hb6.mono (by rw [← HN.out]; exact HB5.out.size)))
  clear hb6
  refine hK _ _ HA6.out ?_
  clear hK K HAf
  try simp only [Act.put, List.setIfInBounds_toArray, List.set_cons_zero, List.set_cons_succ]
  refine hd_take 6 (o := ⟨some 46, _, _, _, _, _⟩) (.bool false) (by kernel_rfl) (by kernel_rfl) (by kernel_rfl) rfl (by rfl) (fun W hSw => by go_simp) (fun _ _ _ h => h) HA6.out ?_
  simp only [Act.put, List.setIfInBounds_toArray, List.set_cons_zero, List.set_cons_succ]
  refine wpAnyH_done (by kernel_rfl) ?_ _
  clear HA5 HE5 HB5 HA4 HE4 HB4
  go_upto_region 8 with fail
  obtain ⟨w7, hw7⟩ : ∃ W, W = w6.drew := ⟨_, rfl⟩
  have HE7 : Hid (EtAt w7 F T S G m rs last) := by rw [hw7]; exact hide (HE6.out.keep (Nat.le_refl _) (fun _ _ => rfl))
  have HB7 : Hid (Below N w w7) := by rw [hw7]; exact hide HB6.out.drew
  have HA7 : Hid (w7.heap[N]? = some (.cells #[.int .i64 q.f, .int .i64 q.e, .int .i64 q.x] 30 (0, 0))) := by rw [hw7]; exact HA6
  have HS7 : Hid (w7.cell? ⟨T, 0, none⟩ = some (.pointer (some ⟨S, 0, none⟩)) ∧ w7.heap[N]? = some (.cells #[.int .i64 q.f, .int .i64 q.e, .int .i64 q.x] 30 (0, 0))) := hide ⟨HE7.out.cell.1, HA7.out⟩
  refine wp_region_held_drew (S := fun W => W.cell? ⟨T, 0, none⟩ = some (.pointer (some ⟨S, 0, none⟩)) ∧ W.heap[N]? = some (.cells #[.int .i64 q.f, .int .i64 q.e, .int .i64 q.x] 30 (0, 0))) (by kernel_rfl) (by rw [← hw7]; exact HS7.out) (fun _ => ?_)
  rw [← hw7]
  clear hw7 HE6 HB6 HA6
  refine hd_take 0 (o := ⟨some 48, _, _, _, _, _⟩) (.pointer (some ⟨T, 0, none⟩)) (by kernel_rfl) (by kernel_rfl) (by kernel_rfl) rfl (by rfl) (fun W hSw => by go_simp) (fun _ _ _ h => h) HS7.out ?_
  simp only [Act.put, List.setIfInBounds_toArray, List.set_cons_zero, List.set_cons_succ]
  refine hd_take 1 (o := ⟨some 49, _, _, _, _, _⟩) (.pointer (some ⟨T, 0, none⟩)) (by kernel_rfl) (by kernel_rfl) (by kernel_rfl) rfl (by rfl) (fun W hSw => by go_simp) (fun _ _ _ h => h) HS7.out ?_
  simp only [Act.put, List.setIfInBounds_toArray, List.set_cons_zero, List.set_cons_succ]
  refine hd_take 2 (o := ⟨some 50, _, _, _, _, _⟩) (.pointer (some ⟨T, 0, none⟩)) (by kernel_rfl) (by kernel_rfl) (by kernel_rfl) rfl (by rfl) (fun W hSw => by go_simp) (fun _ _ _ h => h) HS7.out ?_
  simp only [Act.put, List.setIfInBounds_toArray, List.set_cons_zero, List.set_cons_succ]
  refine hd_take 3 (o := ⟨some 51, _, _, _, _, _⟩) (.pointer (some ⟨S, 0, none⟩)) (by kernel_rfl) (by kernel_rfl) (by kernel_rfl) rfl (by rfl) (fun W hSw => by have c0 := hSw.1; go_simp) (fun _ _ _ h => h) HS7.out ?_
  simp only [Act.put, List.setIfInBounds_toArray, List.set_cons_zero, List.set_cons_succ]
  refine hd_take 4 (o := ⟨some 52, _, _, _, _, _⟩) (.int .i64 serial) (by kernel_rfl) (by kernel_rfl) (by kernel_rfl) rfl (by rfl) (fun W hSw => by go_simp) (fun _ _ _ h => h) HS7.out ?_
  simp only [Act.put, List.setIfInBounds_toArray, List.set_cons_zero, List.set_cons_succ]
  refine hd_take 5 (o := ⟨some 53, _, _, _, _, _⟩) (.int .i64 (k : Int)) (by kernel_rfl) (by kernel_rfl) (by kernel_rfl) rfl (by rfl) (fun W hSw => by go_simp) (fun _ _ _ h => h) HS7.out ?_
  simp only [Act.put, List.setIfInBounds_toArray, List.set_cons_zero, List.set_cons_succ]
  refine hd_take 6 (o := ⟨some 54, _, _, _, _, _⟩) (.agg #[.int .i64 q.f, .int .i64 q.e, .int .i64 q.x]) (by kernel_rfl) (by kernel_rfl) (by kernel_rfl) rfl (by rfl) (fun W hSw => by obtain ⟨c0, c1, c2, -, -, -⟩ := blk3 hSw.2; go_simp) (fun _ _ _ h => h) HS7.out ?_
  simp only [Act.put, List.setIfInBounds_toArray, List.set_cons_zero, List.set_cons_succ]
  refine hd_call 7 (o := ⟨some 55, _, _, _, _, _⟩) (by kernel_rfl) rfl (by rfl) (fun K hK => ?_)
  go_simp
  go_wp2_with (go_at_call 50; refine (HC4.out _).mono ?_; rintro e1 w8 ⟨nb, rfl, hR8, hlb, hb8⟩)
  have HE8 := hide (HE7.out.below hb8)
  refine hK _ _ ⟨HE8.out.cell.1, (hb8.block N (Array.getElem?_eq_some_iff.1 HA7.out).1).trans HA7.out⟩ ?_
  have HB8 := hide hb8
  have HR8 := hide hR8
  have HLB := hide hlb
  have HP := hide (HPut.out w8 nb HE8.out.tab)
  clear hK K hb8 hR8 hlb HPut
  try simp only [Act.put, List.setIfInBounds_toArray, List.set_cons_zero, List.set_cons_succ]
  refine hd_call 8 (o := ⟨some 56, _, _, _, _, _⟩) (by kernel_rfl) rfl (by rfl) (fun K hK => ?_)
  go_simp
  go_wp2_with (go_at_call 49; refine HP.out.mono ?_; rintro e1 w9 ⟨rfl, G', hT9, hx9⟩)
  obtain ⟨hE9, hX9⟩ := HE7.out.opn (i := i) HFM.out HB8.out HLB.out HR8.out hT9 hx9
  have HA9 : Hid (w9.heap[N]? = some (.cells #[.int .i64 q.f, .int .i64 q.e, .int .i64 q.x] 30 (0, 0))) := hide (by
    have hl := (Array.getElem?_eq_some_iff.1 HA7.out).1
    rw [hx9.mod.block N (Nat.lt_of_lt_of_le hl HB8.out.size) HNG.out, HB8.out.block N hl]; exact HA7.out)
  have HS9 : Hid (w9.cell? ⟨T, 0, none⟩ = some (.pointer (some ⟨S, 0, none⟩)) ∧ w9.heap[N]? = some (.cells #[.int .i64 q.f, .int .i64 q.e, .int .i64 q.x] 30 (0, 0))) := hide ⟨hE9.cell.1, HA9.out⟩
  have HE9 := hide hE9
  have HX9 : Hid (Ext F w (fun x => F x ∨ x = nb ∨ G' x) w9) := hide (Ext.trans (⟨⟨HB7.out.os, HB7.out.tape, HB7.out.output, HB7.out.size, fun c hc _ => HB7.out.block c (by rw [← HN.out]; exact hc)⟩, fun _ h => .inl h⟩ : Ext F w F w7) hX9)
  refine hK _ _ HS9.out ?_
  clear hK K HP hE9 hX9 hT9 hx9 HE8 HB8 HR8 HLB
  try simp only [Act.put, List.setIfInBounds_toArray, List.set_cons_zero, List.set_cons_succ]
  refine hd_take 9 (o := ⟨some 47, _, _, _, _, _⟩) (.tuple #[.int .i64 (i : Nat), .int .i64 0]) (by kernel_rfl) (by kernel_rfl) (by kernel_rfl) rfl (by rfl) (fun W hSw => by go_simp) (fun _ _ _ h => h) HS9.out ?_
  simp only [Act.put, List.setIfInBounds_toArray, List.set_cons_zero, List.set_cons_succ]
  refine hd_take 10 (o := ⟨some 57, _, _, _, _, _⟩) (.int .i64 (i : Nat)) (by kernel_rfl) (by kernel_rfl) (by kernel_rfl) rfl (by rfl) (fun W hSw => by go_simp) (fun _ _ _ h => h) HS9.out ?_
  simp only [Act.put, List.setIfInBounds_toArray, List.set_cons_zero, List.set_cons_succ]
  refine hd_take 11 (o := ⟨some 58, _, _, _, _, _⟩) (.int .i64 0) (by kernel_rfl) (by kernel_rfl) (by kernel_rfl) rfl (by rfl) (fun W hSw => by go_simp) (fun _ _ _ h => h) HS9.out ?_
  simp only [Act.put, List.setIfInBounds_toArray, List.set_cons_zero, List.set_cons_succ]
  refine hd_take 12 (o := ⟨some 12, _, _, _, _, _⟩) (.int .i64 (i : Nat)) (by kernel_rfl) (by kernel_rfl) (by kernel_rfl) rfl (by rfl) (fun W hSw => by go_simp) (fun _ _ _ h => h) HS9.out ?_
  simp only [Act.put, List.setIfInBounds_toArray, List.set_cons_zero, List.set_cons_succ]
  refine hd_take 13 (o := ⟨some 13, _, _, _, _, _⟩) (.int .i64 0) (by kernel_rfl) (by kernel_rfl) (by kernel_rfl) rfl (by rfl) (fun W hSw => by go_simp) (fun _ _ _ h => h) HS9.out ?_
  simp only [Act.put, List.setIfInBounds_toArray, List.set_cons_zero, List.set_cons_succ]
  refine wpAnyH_done (by kernel_rfl) ?_ _
  go_upto_region 11 with fail
  obtain ⟨F9, hF9⟩ : ∃ F9, (fun x => F x ∨ x = nb ∨ G' x) = F9 := ⟨_, rfl⟩
  have HF9b : Hid (F9 b) := hide (by rw [← hF9]; exact .inl HFb.out.1)
  rw [hF9] at HE9 HX9
  clear hF9
  have HM9 : Hid ((m.set i (some nb))[k]? = some (some b)) := hide (by rw [List.getElem?_set_ne HNE.out]; exact HM.out)
  have HR9 : Hid ((rs.set i (some (Er.new serial (k : Int) q)))[k]? = some (some r)) := hide (by rw [List.getElem?_set_ne HNE.out]; exact HRr.out)
  generalize m.set i (some nb) = m9 at *
  obtain ⟨w10, hw10⟩ : ∃ W, W = w9.drew := ⟨_, rfl⟩
  have HE10 : Hid (EtAt w10 F9 T S G' m9 (rs.set i (some (Er.new serial (k : Int) q))) last) := by rw [hw10]; exact hide (HE9.out.keep (Nat.le_refl _) (fun _ _ => rfl))
  have HX10 : Hid (Ext F w F9 w10) := by rw [hw10]; exact hide ⟨⟨HX9.out.mod.os, HX9.out.mod.tape, HX9.out.mod.output, HX9.out.mod.size, HX9.out.mod.block⟩, HX9.out.new⟩
  have HA10 : Hid (w10.heap[N]? = some (.cells #[.int .i64 q.f, .int .i64 q.e, .int .i64 q.x] 30 (0, 0))) := by rw [hw10]; exact HA9
  refine wp_region_held_drew (S := fun W => W.heap[N]? = some (.cells #[.int .i64 q.f, .int .i64 q.e, .int .i64 q.x] 30 (0, 0))) (by kernel_rfl) (by rw [← hw10]; exact HA10.out) (fun _ => ?_)
  rw [← hw10]
  clear hw10 HE9 HX9 HA9 HS9 HE7 HB7 HA7 HS7
  refine hd_take 0 (o := ⟨some 62, _, _, _, _, _⟩) (.pointer (some ⟨b, 0, none⟩)) (by kernel_rfl) (by kernel_rfl) (by kernel_rfl) rfl (by rfl) (fun W hSw => by go_simp) (fun _ _ _ h => h) HA10.out ?_
  simp only [Act.put, List.setIfInBounds_toArray, List.set_cons_zero, List.set_cons_succ]
  refine hd_take 1 (o := ⟨some 63, _, _, _, _, _⟩) (.pointer (some ⟨b, 0, none⟩)) (by kernel_rfl) (by kernel_rfl) (by kernel_rfl) rfl (by rfl) (fun W hSw => by go_simp) (fun _ _ _ h => h) HA10.out ?_
  simp only [Act.put, List.setIfInBounds_toArray, List.set_cons_zero, List.set_cons_succ]
  refine hd_take 2 (o := ⟨some 64, _, _, _, _, _⟩) (.pointer (some ⟨b, 21, none⟩)) (by kernel_rfl) (by kernel_rfl) (by kernel_rfl) rfl (by rfl) (fun W hSw => by go_simp) (fun _ _ _ h => h) HA10.out ?_
  simp only [Act.put, List.setIfInBounds_toArray, List.set_cons_zero, List.set_cons_succ]
  refine hd_take 3 (o := ⟨some 65, _, _, _, _, _⟩) (.agg #[.int .i64 q.f, .int .i64 q.e, .int .i64 q.x]) (by kernel_rfl) (by kernel_rfl) (by kernel_rfl) rfl (by rfl) (fun W hSw => by obtain ⟨c0, c1, c2, -, -, -⟩ := blk3 hSw; go_simp) (fun _ _ _ h => h) HA10.out ?_
  simp only [Act.put, List.setIfInBounds_toArray, List.set_cons_zero, List.set_cons_succ]
  refine hd_call 4 (o := ⟨some 66, _, _, _, _, _⟩) (by kernel_rfl) rfl (by rfl) (fun K hK => ?_)
  go_simp
  go_wp2_with (go_at_call 55; refine (HC2.out _).mono ?_; rintro e1 w11 ⟨rfl, hb11⟩)
  have HA11 := hide ((hb11.block N (Array.getElem?_eq_some_iff.1 HA10.out).1).trans HA10.out)
  have HE11 := hide (HE10.out.below hb11)
  have HX11 : Hid (Ext F w F9 w11) := hide (HX10.out.trans (⟨⟨hb11.os, hb11.tape, hb11.output, hb11.size, fun c hc _ => hb11.block c hc⟩, fun _ h => .inl h⟩ : Ext F9 w10 F9 w11))
  clear hb11
  refine hK _ _ HA11.out ?_
  clear hK K
  have hR11 : Rb w11 b r := by
    obtain ⟨e, q1, q2⟩ := HE11.out.held k b HM9.out
    rw [HR9.out] at q1; cases q1; exact q2
  have HCa := hide (HC5.out w11 hR11)
  clear hR11
  try simp only [Act.put, List.setIfInBounds_toArray, List.set_cons_zero, List.set_cons_succ]
  refine hd_call 5 (o := ⟨some 67, _, _, _, _, _⟩) (by kernel_rfl) rfl (by rfl) (fun K hK => ?_)
  go_simp
  go_wp2_with (go_at_call 56; refine HCa.out.mono ?_; rintro e1 w12 ⟨rfl, hR12, hA12⟩)
  have HE12 := hide (HE11.out.upd HM9.out hA12.size hA12.block hR12)
  have HX12 : Hid (Ext F w F9 w12) := hide (HX11.out.trans (Et_ext hA12 HF9b.out))
  have HA12 := hide ((hA12.block N (Array.getElem?_eq_some_iff.1 HA11.out).1 HFb.out.2).trans HA11.out)
  clear hR12 hA12
  refine hK _ _ HA12.out ?_
  clear hK K HCa
  refine wpAnyH_done (by kernel_rfl) ?_ _
  have t1 := HE12.out.cell.2.1
  have tf := HE12.out.cell.2.2
  have HE13 := hide (HE12.out.setLast serial)
  have HX13 : Hid (Ext F w F9 (w12.setCell ⟨T, 1, none⟩ (.int .i64 serial))) := hide (HX12.out.trans (Et_ext ((At.refl w12 T).set 1 _) HE12.out.fT))
  clear HE10 HX10 HA10 HE11 HX11 HA11
  go_wp2
  go_ret2
  exact ⟨rfl, F9, ⟨S, G', m9, HE13.out⟩, HX13.out⟩
end
end Go.Proofs.YtbocpmcodlceoaaGreat

namespace Go.Proofs.YtbocpmcodlceoaaGreat
open Go.RowKit

/-- the law's own book, with the first k numbers marked -/
def bookL (k : Nat) : List Value := (List.replicate k (.bool true) ++ List.replicate (16 - k) (.bool false)) ++ (List.replicate 48 (.int .i64 0) ++ [.int .i64 3])
/-- the table that the laws start from -/
def q0 : Qt := ⟨40, 24, 8⟩
def q1 : Qt := ⟨20, 7, 3⟩
def q2 : Qt := ⟨6, 2, 1⟩
def e0 : Er := { Er.new 1 (-1) q0 with le := ⟨20, 16, 5⟩ }
def e1 : Er := { Er.new 2 0 q1 with le := ⟨14, 4, 2⟩ }
def e2 : Er := Er.new 3 1 q2
def rs3 : List (Option Er) := some e0 :: some e1 :: some e2 :: List.replicate 13 none
theorem q0_bnd : q0.bnd = q0 := rfl
def rs1 : List (Option Er) := (List.replicate 16 none).set 0 (some (Er.new 1 (-1) q0))
def rs2 : List (Option Er) := some e0 :: some (Er.new 2 0 q1) :: List.replicate 14 none
theorem c1_any (W : World) (F : Nat → Prop) (T : Nat) (h : Et W F T rs1 1) : Calls Tryz.prog 12 #[.pointer (some ⟨T, 0, none⟩), .int .i64 0, .int .i64 2, q1.val] W fun x w' => x = .returned (.tuple #[.int .i64 1, .int .i64 0]) ∧ ∃ F', Et w' F' T rs2 2 ∧ Ext F W F' w' := by
  have h1 := createOk_any W F T rs1 1 h 0 (Er.new 1 (-1) q0) rfl 2 q1 ⟨rfl, rfl, rfl⟩ (by decide) (by decide) ⟨by decide, by decide, by decide⟩ ⟨⟨by decide, by decide⟩, ⟨by decide, by decide⟩, ⟨by decide, by decide⟩⟩ (by decide)
  exact h1
theorem c2_any (W : World) (F : Nat → Prop) (T : Nat) (h : Et W F T rs2 2) : Calls Tryz.prog 12 #[.pointer (some ⟨T, 0, none⟩), .int .i64 1, .int .i64 3, q2.val] W fun x w' => x = .returned (.tuple #[.int .i64 2, .int .i64 0]) ∧ ∃ F', Et w' F' T rs3 3 ∧ Ext F W F' w' := by
  have h1 := createOk_any W F T rs2 2 h 1 (Er.new 2 0 q1) rfl 3 q2 ⟨rfl, rfl, rfl⟩ (by decide) (by decide) ⟨by decide, by decide, by decide⟩ ⟨⟨by decide, by decide⟩, ⟨by decide, by decide⟩, ⟨by decide, by decide⟩⟩ (by decide)
  exact h1
end Go.Proofs.YtbocpmcodlceoaaGreat

namespace Go.Proofs.YtbocpmcodlceoaaGreat
open Go.RowKit

theorem bits_or_i64 (a b : Nat) (ha : a < 4294967296) (hb : b < 4294967296) : bits .or .i64 (a : Int) (b : Int) = ((a ||| b : Nat) : Int) := by
  have hx : a ||| b < 2 ^ 32 := Nat.or_lt_two_pow (by omega) (by omega)
  have h1 : (BitVec.ofInt 64 (a : Int)).toNat = a := by rw [BitVec.ofInt_natCast, BitVec.toNat_ofNat]; exact Nat.mod_eq_of_lt (by omega)
  have h2 : (BitVec.ofInt 64 (b : Int)).toNat = b := by rw [BitVec.ofInt_natCast, BitVec.toNat_ofNat]; exact Nat.mod_eq_of_lt (by omega)
  show IntKind.i64.wrap ((BitVec.ofInt 64 (a : Int) ||| BitVec.ofInt 64 (b : Int)).toNat : Int) = _
  rw [BitVec.toNat_or, h1, h2]
  simp [IntKind.wrap, IntKind.signed, IntKind.bits]
  omega
theorem or_lt (a b : Nat) (ha : a < 4294967296) (hb : b < 4294967296) : a ||| b < 4294967296 := Nat.or_lt_two_pow (n := 32) (by omega) (by omega)
/-- the table of the law: number 1 is r -/
def rsN (r : Er) : List (Option Er) := some e0 :: some r :: some e2 :: List.replicate 13 none
/-- what holds of number 1 between rounds: its bits are 'have', it waits where 'stops' says so -/
structure Nt (r : Er) (hv : Nat) (stops : Bool) : Prop where
  pc : r.pc = 77
  r2 : r.rg 2 = 9
  pa : r.pa = 0
  fz : r.fz = false
  bi : r.bi = (hv : Int)
  lt : hv < 4294967296
  st : r.st = if stops then 2 else 1
  zero : stops = true → hv = 0
theorem rsN_set (r r' : Er) : (rsN r).set 1 (some r') = rsN r' := rfl
theorem rsN_line {r : Er} (h : r.pa = 0) : Line (rsN r) ((1 : Nat) : Int) [((1 : Nat) : Int), 0] := by
  refine line_some (r := r) rfl ?_
  rw [h]
  exact line_some (r := e0) rfl (line_none rfl)
theorem rsN_any {r : Er} (h : r.fz = false) : [((1 : Nat) : Int), 0].any (flg (rsN r)) = false := by
  have h1 : flg (rsN r) ((1 : Nat) : Int) = r.fz := (flg_at (k := 1) rfl).symm
  have h2 : flg (rsN r) 0 = e0.fz := (flg_at (rs := rsN r) (k := 0) (r := e0) rfl).symm
  simp only [List.any_cons, List.any_nil, h1, h2, h]
  rfl
theorem Nt.waited {r : Er} {hv : Nat} {s : Bool} (h : Nt r hv s) : Nt (waited r) 0 (s || decide (hv = 0)) := by
  unfold Go.Proofs.YtbocpmcodlceoaaGreat.waited
  have hb := h.bi
  by_cases e : hv = 0
  · subst e
    rw [if_pos (by rw [hb]; rfl)]
    exact ⟨h.pc, h.r2, h.pa, h.fz, rfl, by decide, by simp, fun _ => rfl⟩
  · rw [if_neg (by rw [hb]; omega)]
    have hs : s = false := by cases s; rfl; exact absurd (h.zero rfl) e
    subst hs
    exact ⟨h.pc, h.r2, h.pa, h.fz, rfl, by decide, by simp [e]; exact h.st, fun _ => rfl⟩
theorem Nt.noticed {r : Er} {hv : Nat} {s : Bool} (h : Nt r hv s) (n : Nat) (hn : n < 4294967296) :
    (s = true ∧ hv ||| n ≠ 0 → (noticed r n).st = 1 ∧ (noticed r n).bi = 0 ∧ (noticed r n).rg 0 = 0 ∧ (noticed r n).rg 1 = hv ||| n ∧ Nt (noticed r n) 0 false) ∧ (¬ (s = true ∧ hv ||| n ≠ 0) → Nt (noticed r n) (hv ||| n) s) := by
  have hz : bits .or .i64 r.bi (n : Int) = ((hv ||| n : Nat) : Int) := by rw [h.bi]; exact bits_or_i64 _ _ h.lt hn
  unfold Go.Proofs.YtbocpmcodlceoaaGreat.noticed
  rw [hz]
  have hst := h.st
  constructor
  · rintro ⟨rfl, h2⟩
    rw [if_pos ⟨by rw [hst]; rfl, by omega⟩]
    refine ⟨rfl, rfl, rfl, by simp [wokenR], ⟨h.pc, ?_, h.pa, h.fz, rfl, by decide, rfl, fun h => rfl⟩⟩
    show wokenR r ((hv ||| n : Nat) : Int).toNat 2 = 9
    simp [wokenR, h.r2]
  · intro h2
    have hc : ¬ (r.st = 2 ∧ ¬ ((hv ||| n : Nat) : Int) = 0) := by
      rintro ⟨h3, h4⟩
      refine h2 ⟨?_, by omega⟩
      cases s
      · rw [hst] at h3; simp at h3
      · rfl
    rw [if_neg hc]
    refine ⟨h.pc, h.r2, h.pa, h.fz, rfl, or_lt _ _ h.lt hn, hst, fun hs => ?_⟩
    exact Classical.byContradiction fun h5 => h2 ⟨hs, h5⟩
end Go.Proofs.YtbocpmcodlceoaaGreat
