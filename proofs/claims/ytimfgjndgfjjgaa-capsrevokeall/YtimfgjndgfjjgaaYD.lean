import Derived.Test.YtimfgjndgfjjgaaYC
import Derived.BigQuiet
import Derived.WalkSmall
namespace Go.Proofs.Ytimfgjndgfjjgaa
open Go.RowKit Go.Shelf

/-- the first of these at a place -/
def fnd (e s : Int) (y : Int × (Nat × Rc)) : Bool := decide (y.1 = e) && decide ((y.2.1 : Int) = s)
set_option maxRecDepth 8000 in
set_option maxHeartbeats 4000000 in
theorem hasH_any (w : World) (v : Value) (l : List (Int × (Nat × Rc))) (h : HeldAt w v l) (hn : l.length ≤ 768) (e s : Int) :
    Calls Try.prog 28 #[v, .agg #[.int .i64 e, .int .i64 s]] w fun x w' => ((∃ y, l.find? (fnd e s) = some y ∧ x = .returned (.tuple #[.agg #[.int .i64 y.1, .int .i64 (y.2.1 : Int), .int .i64 y.2.2.k, .int .i64 y.2.2.o, .int .i64 y.2.2.s, .int .i64 y.2.2.r], .bool true])) ∨
      (l.find? (fnd e s) = none ∧ x = .returned (.tuple #[.agg #[.int .i64 0, .int .i64 0, .int .i64 0, .int .i64 0, .int .i64 0, .int .i64 0], .bool false]))) ∧ Below w.heap.size w w' := by
  obtain ⟨a, c, rfl, hc⟩ := h
  obtain ⟨W, hW⟩ : ∃ W, W = (w.alloc (.cells #[.int .i64 e, .int .i64 s] 28)).alloc (.cells #[.int .i64 0, .int .i64 0, .int .i64 0, .int .i64 0, .int .i64 0, .int .i64 0] 54) := ⟨_, rfl⟩
  have hb0 := ((Below.refl w.heap.size w).alloc (Nat.le_refl _) (.cells #[.int .i64 e, .int .i64 s] 28))
  have hp0 := heap_alloc_new w (.cells #[.int .i64 e, .int .i64 s] 28)
  have hb1 := hb0.alloc hb0.size (.cells #[.int .i64 0, .int .i64 0, .int .i64 0, .int .i64 0, .int .i64 0, .int .i64 0] 54)
  have hp := (Below.heap_alloc (w.alloc (.cells #[.int .i64 e, .int .i64 s] 28)) (.cells #[.int .i64 0, .int .i64 0, .int .i64 0, .int .i64 0, .int .i64 0, .int .i64 0] 54) w.heap.size (by simp)).trans hp0
  have hR := heap_alloc_new (w.alloc (.cells #[.int .i64 e, .int .i64 s] 28)) (.cells #[.int .i64 0, .int .i64 0, .int .i64 0, .int .i64 0, .int .i64 0, .int .i64 0] 54)
  rw [← hW] at hp hR hb1
  have hsz : (w.alloc (.cells #[.int .i64 e, .int .i64 s] 28)).heap.size = w.heap.size + 1 := by simp
  rw [hsz] at hR
  have HW := hide hW
  have HC : Hid (∀ wr, Below W.heap.size W wr → Below w.heap.size w wr ∧ wr.heap[w.heap.size]? = some (.cells #[.int .i64 e, .int .i64 s] 28 (0, 0)) ∧ wr.heap[w.heap.size + 1]? = some (.cells #[.int .i64 0, .int .i64 0, .int .i64 0, .int .i64 0, .int .i64 0, .int .i64 0] 54 (0, 0)) ∧ ∀ k (hk : k < l.length), ∃ g, a = some ⟨g, 0, none⟩ ∧ wr.cell? ⟨g, k * 6, none⟩ = some (.int .i64 l[k].1) ∧ wr.cell? ⟨g, k * 6 + 1, none⟩ = some (.int .i64 (l[k].2.1 : Int)) ∧ wr.cell? ⟨g, k * 6 + 2, none⟩ = some (.int .i64 l[k].2.2.k) ∧ wr.cell? ⟨g, k * 6 + 3, none⟩ = some (.int .i64 l[k].2.2.o) ∧ wr.cell? ⟨g, k * 6 + 4, none⟩ = some (.int .i64 l[k].2.2.s) ∧ wr.cell? ⟨g, k * 6 + 5, none⟩ = some (.int .i64 l[k].2.2.r)) := by
    refine hide fun wr hbr => ?_
    have hbw := hb1.trans (hbr.mono hb1.size)
    refine ⟨hbw, (hbr.block _ (Array.getElem?_eq_some_iff.1 hp).1).trans hp, (hbr.block _ (Array.getElem?_eq_some_iff.1 hR).1).trans hR, fun k hk => ?_⟩
    obtain ⟨g, h1, h2, h3, h4, h5, h6, h7, h8⟩ := hc k hk
    have hq : ∀ j, wr.cell? ⟨g, j, none⟩ = w.cell? ⟨g, j, none⟩ := fun j => hbw.cell h2
    exact ⟨g, h1, by rw [hq]; exact h3, by rw [hq]; exact h4, by rw [hq]; exact h5, by rw [hq]; exact h6, by rw [hq]; exact h7, by rw [hq]; exact h8⟩
  clear hc hb0 hp0 hb1 hp hR hW hsz
  obtain ⟨L, hL⟩ : ∃ L, l.length = L := ⟨_, rfl⟩
  rw [hL] at hn
  rw [hL]
  have HL := hide hL
  clear hL
  go_enter Try.func28, Try.ntmps28
  go_upto_region 1 with fail
  rw [← HW.out]
  go_wp2_with fail
  go_loopw [6] (fun x wr => ∃ k : Nat, k ≤ L ∧ x = .int .i64 (k : Int) ∧ Hid ((l.take k).find? (fnd e s) = none) ∧ Hid (Below W.heap.size W wr)) (fun x _ => L - (intOf x).toNat)
  case atStart => exact ⟨0, by omega, rfl, hide rfl, Below.refl _ _⟩
  case round =>
  obtain ⟨k, hk, rfl, K1, K2⟩ := hrel
  obtain ⟨hbw, hp, hR, hq⟩ := HC.out wr K2.out
  have HB := hide hbw
  have p0 : wr.cell? ⟨w.heap.size, 0, none⟩ = some (.int .i64 e) := by rw [cell_of_row _ _ _ _ _ _ hp]; rfl
  have p1 : wr.cell? ⟨w.heap.size, 1, none⟩ = some (.int .i64 s) := by rw [cell_of_row _ _ _ _ _ _ hp]; rfl
  clear hp hbw
  by_cases hlt : k < L
  · have hlt' : k < l.length := by rw [HL.out]; exact hlt
    obtain ⟨g, rfl, q0, q1, q2, q3, q4, q5⟩ := hq k hlt'
    clear hq
    have hkl : (k : Int) < (L : Int) := by omega
    have hwk : k * 6 + 5 < L * 6 := by omega
    have HT : Hid ((l.take (k + 1)).find? (fnd e s) = if fnd e s l[k] then some l[k] else none) := by
      refine hide ?_
      rw [List.take_add_one, List.getElem?_eq_getElem hlt', List.find?_append, K1.out]
      cases hq : fnd e s l[k] <;> simp [hq]
    have HF : Hid (fnd e s l[k] = true → l.find? (fnd e s) = some l[k]) := by
      refine hide fun hq => ?_
      have e1 : l.find? (fnd e s) = (l.take (k + 1) ++ l.drop (k + 1)).find? (fnd e s) := by rw [List.take_append_drop]
      rw [e1, List.find?_append, HT.out, hq]
      simp
    generalize l[k] = y at *
    by_cases c1 : y.1 = e
    · have k1 : (y.1 == e) = true := by simp [c1]
      by_cases c2 : (y.2.1 : Int) = s
      · have k2 : ((y.2.1 : Int) == s) = true := by simp [c2]
        have L1 := hide (HF.out (by simp [fnd, c1, c2]))
        have HB' := hide (fun a b c d e f => below_six HB.out (show w.heap.size ≤ w.heap.size + 1 by omega) a b c d e f)
        have hd1 : decide (y.1 = e) = true := by simp [c1]
        have hd2 : decide ((y.2.1 : Int) = s) = true := by simp [c2]
        have HR := hide hR
        clear HT HF K1 HC HL hR K2 c1 c2
        go_upto_region 4 with fail
        go_quiet (fail)
        have HB2 := hide (below_drewN HB.out nq)
        have hR2 : (wr.drewN nq).heap[w.heap.size + 1]? = some (.cells #[.int .i64 0, .int .i64 0, .int .i64 0, .int .i64 0, .int .i64 0, .int .i64 0] 54 (0, 0)) := HR.out
        have q0' : (wr.drewN nq).cell? ⟨g, k * 6, none⟩ = some (.int .i64 y.1) := q0
        have q1' : (wr.drewN nq).cell? ⟨g, k * 6 + 1, none⟩ = some (.int .i64 (y.2.1 : Int)) := q1
        have q2' : (wr.drewN nq).cell? ⟨g, k * 6 + 2, none⟩ = some (.int .i64 y.2.2.k) := q2
        have q3' : (wr.drewN nq).cell? ⟨g, k * 6 + 3, none⟩ = some (.int .i64 y.2.2.o) := q3
        have q4' : (wr.drewN nq).cell? ⟨g, k * 6 + 4, none⟩ = some (.int .i64 y.2.2.s) := q4
        have q5' : (wr.drewN nq).cell? ⟨g, k * 6 + 5, none⟩ = some (.int .i64 y.2.2.r) := q5
        clear q0 q1 q2 q3 q4 q5 HB HR p0 p1 HB'
        generalize wr.drewN nq = wr2 at *
        have HS := hide (fun a b c d e f => set6 hR2 a b c d e f)
        obtain ⟨d0, d1, d2, d3, d4, d5, f0, f1, f2, f3, f4, f5⟩ := blk6 hR2
        have HB' := hide (fun a b c d e f => below_six HB2.out (show w.heap.size ≤ w.heap.size + 1 by omega) a b c d e f)
        clear hR2 HB2
        go_wp2
        refine bodyPost_ret (results_row2 rfl _ _ (w.heap.size + 1) 54 #[.int .i64 y.1, .int .i64 (y.2.1 : Int), .int .i64 y.2.2.k, .int .i64 y.2.2.o, .int .i64 y.2.2.s, .int .i64 y.2.2.r] (0, 0) _ rfl (HS.out _ _ _ _ _ _) Try.underlying54 rfl (by kernel_rfl)) rfl ?_
        exact ⟨.inl ⟨y, L1.out, rfl⟩, HB'.out _ _ _ _ _ _⟩
      · have k2 : ((y.2.1 : Int) == s) = false := by simp [c2]
        have L1 : Hid ((l.take (k + 1)).find? (fnd e s) = none) := by
          refine hide ?_
          rw [HT.out]; simp [fnd, c2]
        have L2' := hide (fun n => below_drewN K2.out n)
        have hd1 : decide (y.1 = e) = true := by simp [c1]
        have hd2 : decide ((y.2.1 : Int) = s) = false := by simp [c2]
        clear HT HF K1 HC HL hR K2 c1 c2
        go_upto_region 4 with fail
        go_quiet (fail)
        have L2 := hide (L2'.out nq)
        go_wp2
        go_roundw
        case rel =>
          first
            | exact ⟨k + 1, by omega, by go_num, L1, L2⟩
            | ((repeat apply Exists.intro); refine ⟨?_, rfl⟩; exact ⟨k + 1, by omega, by go_num, L1, L2⟩)
        case measure => simp [intOf]; omega
    · have k1 : (y.1 == e) = false := by simp [c1]
      have L1 : Hid ((l.take (k + 1)).find? (fnd e s) = none) := by
        refine hide ?_
        rw [HT.out]; simp [fnd, c1]
      have L2' := hide (fun n => below_drewN K2.out n)
      have hd1 : decide (y.1 = e) = false := by simp [c1]
      clear HT HF K1 HC HL hR K2 c1
      go_upto_region 4 with fail
      go_quiet (fail)
      have L2 := hide (L2'.out nq)
      go_wp2
      go_roundw
      case rel =>
        first
          | exact ⟨k + 1, by omega, by go_num, L1, L2⟩
          | ((repeat apply Exists.intro); refine ⟨?_, rfl⟩; exact ⟨k + 1, by omega, by go_num, L1, L2⟩)
      case measure => simp [intOf]; omega
  · have hd : decide ((k : Int) < (L : Int)) = false := by simp; omega
    have L1 : Hid (l.find? (fnd e s) = none) := by
      have h1 := K1.out
      rw [List.take_of_length_le (by rw [HL.out]; omega)] at h1
      exact hide h1
    have HB' := hide (fun a b c d e f => below_six HB.out (show w.heap.size ≤ w.heap.size + 1 by omega) a b c d e f)
    have HS := hide (fun a b c d e f => set6 hR a b c d e f)
    obtain ⟨d0, d1, d2, d3, d4, d5, f0, f1, f2, f3, f4, f5⟩ := blk6 hR
    clear K1 HC HL hR
    go_wp2
    refine bodyPost_ret (results_row2 rfl _ _ (w.heap.size + 1) 54 #[.int .i64 0, .int .i64 0, .int .i64 0, .int .i64 0, .int .i64 0, .int .i64 0] (0, 0) _ rfl (HS.out _ _ _ _ _ _) Try.underlying54 rfl (by kernel_rfl)) rfl ?_
    exact ⟨.inr ⟨L1.out, rfl⟩, HB'.out _ _ _ _ _ _⟩
end Go.Proofs.Ytimfgjndgfjjgaa
