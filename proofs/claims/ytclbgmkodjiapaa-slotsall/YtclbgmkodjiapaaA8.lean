import Derived.Test.YtclbgmkodjiapaaA7
namespace Go.Proofs.Ytclbgmkodjiapaa
open Go.RowKit Go.Shelf
attribute [local go_sem] Oper.semAt_some

set_option maxRecDepth 8000 in
set_option maxHeartbeats 1600000 in
theorem all1_turn (n : Nat) (hn : 1 ≤ n) (l Bn B N : Nat) (hN : N ≤ 4096) (T : Nat → List (Option Int)) (hTl : ∀ j, (T j).length = N) (J Jx : List (Nat × Int) → World → Prop)
    (hJ : ∀ pre W, J pre W → (∃ F, Tab KI W F B (T pre.length)) ∧ W.heap[Bn]? = some (.cells #[.pointer (some ⟨B, 0, none⟩)] 25 (0, 0)))
    (hY : ∀ pre x W, J pre W → Nx (T pre.length) (lp pre) x → YieldAt Fence.wide (n - 1) Try.prog l #[.int .i64 (x.1 : Nat), .int .i64 x.2] W fun e W' =>
      (e = .returned (.bool true) ∧ J (pre ++ [x]) W') ∨ (e = .returned (.bool false) ∧ Jx (pre ++ [x]) W'))
    (W : World) (h0 : J [] W) :
    CallsIn Fence.wide n Try.prog 23 #[.func (.yield l) #[] #[], .pointer (some ⟨Bn, 0, none⟩)] W fun e W' => (∃ v, e = .returned v) ∧
      ((∃ ys, NoNext (T ys.length) (lp ys) ∧ J ys W') ∨ (∃ pre, Jx pre W')) := by
  have HJ := hide hJ
  have HY := hide hY
  have HTl := hide hTl
  have H0 := hide h0
  obtain ⟨⟨F0, hT0⟩, hB0⟩ := hJ [] W h0
  have HT0 : Hid (Tab KI W F0 B (T 0)) := hide hT0
  have c0 := cell_of_row _ _ 0 _ _ _ hB0
  simp only [List.getElem?_toArray, List.getElem?_cons_zero] at c0
  clear hY hJ h0 hT0 hB0 hTl
  refine callsIn_of_wp Try.func23 rfl trivial ?_ rfl
  simp only [Try.ntmps23, List.size_toArray, List.length_cons, List.length_nil, Nat.reduceAdd, Nat.reduceSub, Array.replicate_succ, Array.replicate_zero, List.push_toArray, List.append_toArray, List.nil_append, List.cons_append]
  gi_wp2_with fail
  refine ⟨trivial, (callsIn_wide.2 (nextI_at _ F0 B (T 0) HT0.out 0)).mono ?_⟩
  rintro e w1 ⟨q0, rfl, hq0, hw1⟩
  subst w1
  have HQ0 : Hid (At (T 0) 0 q0) := hide hq0
  clear hq0
  gi_wp2
  gi_loopw [3] (fun p wr => ∃ (pre : List (Nat × Int)) (q : Int), p = .int .i64 q ∧ Hid (At (T pre.length) (lp pre) q) ∧ Hid (J pre wr)) (fun p _ => meas N p)
  case atStart => exact ⟨[], q0, rfl, HQ0, H0⟩
  case round =>
    obtain ⟨pre, q, rfl, HA, HJ1⟩ := hrel
    obtain ⟨⟨F, hT1⟩, hB1⟩ := HJ.out pre wr HJ1.out
    have c0 := cell_of_row _ _ 0 _ _ _ hB1
    simp only [List.getElem?_toArray, List.getElem?_cons_zero] at c0
    clear hB1 HT0 HQ0 H0
    rcases HA.out with ⟨k, rfl, hn1⟩ | ⟨rfl, hn1⟩
    · obtain ⟨x, hx⟩ := hn1.2.1
      have hkm : k < N := by rw [← HTl.out pre.length]; exact (List.getElem?_eq_some_iff.1 hx).1
      obtain ⟨fn, tmps, assign, body, hy, hR⟩ := HY.out pre (k, x) wr HJ1.out ⟨hn1, hx⟩
      dsimp only at hy
      have HR := hide hR
      obtain ⟨p, ps, hTA⟩ := hT1
      have d0 := hTA.cells.1
      obtain ⟨b, hb1, d1, hb3, hb4⟩ := hTA.ptr hx
      have d2 := cell_of_row _ b 0 _ _ _ hb3
      simp [KI] at d2
      rw [HTl.out] at d0
      clear hR hTA hb1 hb3 hb4 hx HA hn1
      gi_wp2_with fail
      refine HR.out.mono ?_
      clear HR hy d0 d1 d2 c0
      rintro e W3 (⟨rfl, hJ3⟩ | ⟨rfl, hJx3⟩)
      · have HJ3 := hide hJ3
        obtain ⟨⟨F3, hT3⟩, hB3⟩ := HJ.out _ W3 hJ3
        have HT3 := hide hT3
        have c0 := cell_of_row _ _ 0 _ _ _ hB3
        simp only [List.getElem?_toArray, List.getElem?_cons_zero] at c0
        clear hJ3 hB3 hT3 HJ1
        gi_wp2_with fail
        refine ⟨trivial, (callsIn_wide.2 (nextI_at _ F3 B _ HT3.out ((k : Int) + 1))).mono ?_⟩
        rintro e w4 ⟨q4, rfl, hq4, hw4⟩
        subst w4
        have HQ4 : Hid (At (T (pre ++ [(k, x)]).length) (lp (pre ++ [(k, x)])) q4) := hide (by rw [lp_snoc]; exact hq4)
        clear hq4
        gi_wp2
        go_roundw
        case rel =>
          first
            | exact ⟨_, q4, rfl, HQ4, HJ3⟩
            | ((repeat apply Exists.intro); refine ⟨?_, rfl⟩; exact ⟨_, q4, rfl, HQ4, HJ3⟩)
        case measure =>
          have h5 := HQ4.out
          rw [lp_snoc] at h5
          exact meas_next hkm (h5.imp (fun ⟨q', h1, h2⟩ => ⟨q', h1, h2.1⟩) (fun h => h.1))
      · have HX := hide hJx3
        clear hJx3
        gi_wp2
        refine bodyPost_ret (results_none rfl _ _ _) rfl ?_
        exact ⟨⟨_, rfl⟩, .inr ⟨_, HX.out⟩⟩
    · have HP := hide hn1
      clear HA hn1
      gi_wp2
      go_end0
      exact ⟨⟨_, rfl⟩, .inl ⟨pre, HP.out, HJ1.out⟩⟩
end Go.Proofs.Ytclbgmkodjiapaa
