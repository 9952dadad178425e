import Derived.Test.YteacmcdmdeckmaaGreatP1
namespace Go.Proofs.YteacmcdmdeckmaaGreat
open Go.RowKit Go.Shelf
attribute [local go_sem] Oper.semAt_some

set_option maxHeartbeats 400000 in
theorem allR_in (B : Nat) (n : Nat) (w : World) :
    CallsIn Fence.wide n Tryz.prog 34 #[.pointer (some ⟨B, 0, none⟩)] w fun e w' => e = .returned (.func (.func 65) #[] #[.pointer (some ⟨w.heap.size, 0, none⟩)]) ∧ w' = w.alloc (.cells #[.pointer (some ⟨B, 0, none⟩)] 37) := by
  refine callsIn_of_wp Tryz.func34 rfl trivial ?_ rfl
  simp only [Tryz.ntmps34, List.size_toArray, List.length_cons, List.length_nil, Nat.reduceAdd, Nat.reduceSub, Array.replicate_succ, Array.replicate_zero, List.push_toArray, List.append_toArray, List.nil_append, List.cons_append]
  gi_wp2
  go_ret
  exact ⟨rfl, rfl⟩
theorem nextR_at (w : World) (F : Nat → Prop) (B : Nat) (m : List (Option Rc)) (h : Tab KR w F B m) (i : Int) :
    Calls Tryz.prog 66 #[.pointer (some ⟨B, 0, none⟩), .int .i64 i] w fun x w' => ∃ q : Int, x = .returned (.int .i64 q) ∧ At m i.toNat q ∧ w' = w := by
  refine (nextR_any w F B m h i).mono ?_
  rintro x w' ⟨rfl, ⟨k, rfl, h⟩ | ⟨rfl, h⟩⟩
  · exact ⟨k, rfl, .inl ⟨k, rfl, h⟩, rfl⟩
  · exact ⟨-1, rfl, .inr ⟨rfl, h⟩, rfl⟩
set_option maxRecDepth 8000 in
set_option maxHeartbeats 1600000 in
theorem all1R_in (n : Nat) (hn : 1 ≤ n) (l Bn B : Nat) (F : Nat → Prop) (m : List (Option Rc)) (J Jx : List (Nat × Rc) → World → Prop)
    (hY : ∀ pre x W, J pre W → pre.length < (prs m 0).length → m[x.1]? = some (some x.2) → YieldAt Fence.wide (n - 1) Tryz.prog l #[.int .i64 (x.1 : Nat), x.2.val] W fun e W' =>
      (e = .returned (.bool true) ∧ J (pre ++ [x]) W' ∧ KeepF (fun b => F b ∨ b = Bn) W W') ∨ (e = .returned (.bool false) ∧ Jx (pre ++ [x]) W'))
    (W : World) (hBn : W.heap[Bn]? = some (.cells #[.pointer (some ⟨B, 0, none⟩)] 37 (0, 0))) (hT : Tab KR W F B m) (h0 : J [] W) :
    CallsIn Fence.wide n Tryz.prog 65 #[.func (.yield l) #[] #[], .pointer (some ⟨Bn, 0, none⟩)] W fun e W' => (∃ v, e = .returned v) ∧
      ((∃ ys, ys = prs m 0 ∧ J ys W') ∨ (∃ pre, pre <+: prs m 0 ∧ Jx pre W')) := by
  have hcap := hT.cap
  have HY := hide hY
  have HT := hide hT
  have HB := hide hBn
  have H0 := hide h0
  have c0 := cell_of_row _ _ 0 _ _ _ hBn
  simp only [List.getElem?_toArray, List.getElem?_cons_zero] at c0
  clear hY hT hBn h0
  refine callsIn_of_wp Tryz.func65 rfl trivial ?_ rfl
  simp only [Tryz.ntmps65, List.size_toArray, List.length_cons, List.length_nil, Nat.reduceAdd, Nat.reduceSub, Array.replicate_succ, Array.replicate_zero, List.push_toArray, List.append_toArray, List.nil_append, List.cons_append]
  gi_wp2_with fail
  refine ⟨trivial, (callsIn_wide.2 (nextR_at _ F B m HT.out 0)).mono ?_⟩
  rintro e w1 ⟨q0, rfl, hq0, rfl⟩
  have HQ0 := hide hq0
  clear hq0
  gi_wp2
  gi_loopw [3] (fun p wr => ∃ (pre : List (Nat × Rc)) (s : Nat) (q : Int), p = .int .i64 q ∧ Hid (prs m 0 = pre ++ prs m s) ∧ Hid (At m s q) ∧ Hid (J pre wr) ∧ Hid (Tab KR wr F B m) ∧ Hid (wr.heap[Bn]? = some (.cells #[.pointer (some ⟨B, 0, none⟩)] 37 (0, 0)))) (fun p _ => meas m.length p)
  case atStart => exact ⟨[], 0, q0, rfl, rfl, HQ0, H0, HT, HB⟩
  case round =>
    obtain ⟨pre, s, q, rfl, HE, HA, HJ, HT1, HB1⟩ := hrel
    have c0 := cell_of_row _ _ 0 _ _ _ HB1.out
    simp only [List.getElem?_toArray, List.getElem?_cons_zero] at c0
    clear HT HB HQ0 H0
    rcases HA.out with ⟨k, rfl, hn1⟩ | ⟨rfl, hn1⟩
    · obtain ⟨x, hx⟩ := hn1.2.1
      have hkm : k < m.length := (List.getElem?_eq_some_iff.1 hx).1
      have hpe := prs_next hn1 hx
      have HE2 := hide (show prs m 0 = (pre ++ [(k, x)]) ++ prs m (k + 1) by
        have := HE.out
        rw [hpe] at this
        simpa using this)
      obtain ⟨fn, tmps, assign, body, hy, hR⟩ := HY.out pre (k, x) wr HJ.out (by rw [HE2.out]; simp) hx
      dsimp only [Rc.val] at hy
      have HR := hide hR
      obtain ⟨p, ps, hTA⟩ := HT1.out
      have d0 := hTA.cells.1
      obtain ⟨b, hb1, d1, hb3, hb4⟩ := hTA.ptr hx
      simp only [KR] at hb3
      obtain ⟨d2, d3, d4, d5, d6, d7, _, _, _, _, _, _⟩ := blk6 hb3
      have HN := hide hn1
      clear hR hTA hb1 hb3 hb4 hpe hx HA hn1
      generalize hml : m.length = nn at *
      have HML := hide hml
      clear hml
      gi_wp2_with fail
      refine HR.out.mono ?_
      clear HR hy d0 d1 d2 d3 d4 d5 d6 d7 c0
      rintro e W3 (⟨rfl, hJ3, hk3⟩ | ⟨rfl, hJx3⟩)
      · have HT3 := hide (HT1.out.keep hk3.1 (fun b hb => hk3.2 b (.inl hb)))
        have HB3 := hide ((hk3.2 Bn (.inr rfl)).trans HB1.out)
        have c0 := cell_of_row _ _ 0 _ _ _ HB3.out
        simp only [List.getElem?_toArray, List.getElem?_cons_zero] at c0
        have HJ3 := hide hJ3
        clear hJ3 hk3 HT1 HB1 HJ
        gi_wp2_with fail
        refine ⟨trivial, (callsIn_wide.2 (nextR_at _ F B m HT3.out ((k : Int) + 1))).mono ?_⟩
        rintro e w4 ⟨q4, rfl, hq4, rfl⟩
        have HQ4 : Hid (At m (k + 1) q4) := hq4
        clear hq4
        gi_wp2
        go_roundw
        case rel =>
          first
            | exact ⟨_, k + 1, q4, rfl, HE2, HQ4, HJ3, HT3, HB3⟩
            | ((repeat apply Exists.intro); refine ⟨?_, rfl⟩; exact ⟨_, k + 1, q4, rfl, HE2, HQ4, HJ3, HT3, HB3⟩)
        case measure =>
          exact meas_next hkm (HQ4.out.imp (fun ⟨q', h1, h2⟩ => ⟨q', h1, h2.1⟩) (fun h => h.1))
      · have HX := hide hJx3
        clear hJx3
        gi_wp2
        refine bodyPost_ret (results_none rfl _ _ _) rfl ?_
        exact ⟨⟨_, rfl⟩, .inr ⟨_, ⟨_, HE2.out.symm⟩, HX.out⟩⟩
    · have HP := hide (prs_end hn1)
      clear HA hn1
      gi_wp2
      go_end0
      exact ⟨⟨_, rfl⟩, .inl ⟨pre, by rw [HE.out, HP.out]; simp, HJ.out⟩⟩
/-- the same, each place told to be one -/
theorem allR_stops (n : Nat) (hn : 1 ≤ n) (Bn B : Nat) (F : Nat → Prop) (m : List (Option Rc)) (w : World) (hBn : w.heap[Bn]? = some (.cells #[.pointer (some ⟨B, 0, none⟩)] 37 (0, 0))) (hT : Tab KR w F B m) :
    SeqStopsK Fence.wide n Tryz.prog 65 #[.pointer (some ⟨Bn, 0, none⟩)] (fun x : { x : Nat × Rc // m[x.1]? = some (some x.2) } => #[Value.int .i64 (x.1.1 : Nat), x.1.2.val]) (KeepF (fun b => F b ∨ b = Bn)) (fun ys => ys.map Subtype.val = prs m 0) (fun pre => pre.map Subtype.val <+: prs m 0) (prs m 0).length w := fun l J Jx W hW _ _ hY h0 => by
  refine (all1R_in n hn l Bn B F m (fun ys W => ∃ zs : List { x : Nat × Rc // m[x.1]? = some (some x.2) }, zs.map Subtype.val = ys ∧ J zs W) (fun ys W => ∃ zs : List { x : Nat × Rc // m[x.1]? = some (some x.2) }, zs.map Subtype.val = ys ∧ Jx zs W) ?_ W ((hW.block Bn (Array.getElem?_eq_some_iff.1 hBn).1).trans hBn) (hT.below hW) ⟨[], rfl, h0⟩).mono ?_
  · rintro pre x W1 ⟨zs, rfl, hJ⟩ hl hx
    obtain ⟨fn, tmps, assign, body, hy, hR⟩ := hY zs ⟨x, hx⟩ W1 hJ (by simpa using hl)
    refine ⟨fn, tmps, assign, body, hy, hR.mono ?_⟩
    rintro e W' (⟨h1, h2, h3⟩ | ⟨h1, h2⟩)
    · exact .inl ⟨h1, ⟨_, by simp, h2⟩, h3⟩
    · exact .inr ⟨h1, _, by simp, h2⟩
  · rintro e W' ⟨hv, ⟨ys, rfl, zs, hz, hJ⟩ | ⟨pre, hp, zs, rfl, hJ⟩⟩
    · exact ⟨hv, .inl ⟨zs, hz, hJ⟩⟩
    · exact ⟨hv, .inr ⟨zs, hp, hJ⟩⟩
end Go.Proofs.YteacmcdmdeckmaaGreat
