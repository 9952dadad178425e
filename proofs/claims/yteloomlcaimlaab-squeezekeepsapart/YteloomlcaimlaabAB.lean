import Derived.Test.YteloomlcaimlaabAA
namespace Go.Proofs.Yteloomlcaimlaab
open Go.RowKit
theorem ow_none (w : World) (base : Nat) : Ow w base (.slice none 0 0) [] := World.ownsRow_nil _ _ _ _
section
variable (w : World)
set_option maxRecDepth 100000 in
set_option maxHeartbeats 1000000 in
theorem readTokens_any (v : Value) (p : List Nat) (n : Nat) (hv : Rb w w.heap.size v p) (hy : Bys p) (hl : p.length ≤ 140737488351232) (hn : n ≤ 65536) :
    Calls Try.prog 24 #[v, .int .i64 (n : Nat)] w fun e w' => ∃ r, e = .returned (.tuple #[r, .int .i64 ((dc n p [] 0).2.2 : Nat), .int .i64 ((dc n p [] 0).1 : Nat)]) ∧ Ow w' w.heap.size r (dc n p [] 0).2.1 ∧ ((dc n p [] 0).1 ≠ 0 → r = .slice none 0 0) ∧ Below w.heap.size w w' := by
  have HV := hide hv
  have HY := hide hy
  obtain ⟨ao, cap, rfl, hcap⟩ := hv.len
  obtain ⟨D, hD⟩ : ∃ D, dc n p [] 0 = D := ⟨_, rfl⟩
  have HD := hide hD
  rw [hD]
  clear hD hv hy
  go_enter Try.func24, Try.ntmps24
  go_upto_region 3 with fail
  go_loopw [0, 7, 8] (fun qv ov tv wr => ∃ (q pl : List Nat) (t : Nat), Rb wr w.heap.size qv q ∧ Ow wr w.heap.size ov pl ∧ tv = .int .i64 (t : Nat) ∧ dc n q pl t = D ∧ pl.length ≤ n ∧ q.length ≤ p.length ∧ Bys q ∧ t + q.length ≤ p.length ∧ Below w.heap.size w wr) (fun qv _ _ _ => slen qv)
  case atStart => exact ⟨p, [], 0, HV.out, ow_none _ _, rfl, HD.out, Nat.zero_le _, Nat.le_refl _, HY.out, by omega, Below.refl _ _⟩
  case round =>
    obtain ⟨q, pl, t, hQ, hO, rfl, hE, hpl, hql, hqy, htq, hB⟩ := hrel
    have HQ := hide hQ
    have HO := hide hO
    have HE := hide hE
    have HB := hide hB
    have HQy := hide hqy
    obtain ⟨oa, ok, oc, rfl, HK, _⟩ := hO.len2
    obtain ⟨qa, qc, rfl, hqc⟩ := hQ.len
    have hsz := hB.size
    clear hO hE hB hqy HV HD HY
    obtain ⟨m, hm⟩ : ∃ m, q.length = m := ⟨_, rfl⟩
    have HLm := hide hm
    rw [hm] at HQ hqc hql htq ⊢
    rw [HK.out] at hpl
    by_cases h0 : m = 0
    · subst h0
      obtain rfl := List.eq_nil_of_length_eq_zero hm
      have HE2 := hide ((dc_nil n pl t).symm.trans HE.out)
      clear hm hQ
      go_wp2
      go_ret3
      rw [← HE2.out]
      exact ⟨_, rfl, HO.out, fun h => absurd rfl h, HB.out⟩
    · have hm0 : (0 : Int) < (m : Int) := by omega
      have hqn : q ≠ [] := by intro e; rw [e] at hm; simp at hm; omega
      obtain ⟨y, rfl, _, _⟩ := hQ.some_of (by omega)
      clear hm hQ
      go_wp2_with fail
      refine (readToken_any wr _ q _ HQ.out HQy.out hqn (by rw [HLm.out]; omega)).mono ?_
      rintro e w1 ⟨hT, hb1⟩
      have HO1 := hide (HO.out.keep hb1 (Nat.le_refl _))
      have HB1 := hide (HB.out.trans (hb1.mono hsz))
      have HQ1 := hide (HQ.out.keep (hb1.mono hsz))
      clear hb1 HO HB HQ
      rcases hT with ⟨x, rfl, hx⟩ | ⟨x, rfl, hx⟩
      · obtain ⟨tk, mk, ds⟩ := x
        have hx2 := tkn_two hx
        simp only at hx2
        obtain ⟨g1, g2, g3, _, _⟩ := hx2
        rw [HLm.out] at g2
        have HX := hide hx
        have hsz1 := HB1.out.size
        clear hx
        unfold tkV
        go_upto_region 7 with fail
        have hq := heap_alloc_last w1 (.cells #[.int .i64 (tk : Nat), .int .i64 (mk : Nat), .int .i64 (ds : Nat)] 47)
        have hba : Below w1.heap.size w1 (w1.alloc (.cells #[.int .i64 (tk : Nat), .int .i64 (mk : Nat), .int .i64 (ds : Nat)] 47)) := (Below.refl _ w1).alloc (Nat.le_refl _) _
        generalize w1.alloc (.cells #[.int .i64 (tk : Nat), .int .i64 (mk : Nat), .int .i64 (ds : Nat)] 47) = w2 at *
        have HO2 := hide (HO1.out.keep hba (Nat.le_refl _))
        have HB2 := hide (HB1.out.trans (hba.mono hsz1))
        have HQ2 := hide (HQ1.out.keep (hba.mono hsz1))
        have hsz2 := HB2.out.size
        obtain ⟨z0, z1, z2⟩ := cells3 hq
        have HZ := hide hq
        clear hba hq HO1 HB1 HQ1
        by_cases hbad : ok < ds ∨ n - ok < mk
        · have HE2 := hide ((dc_bad (n := n) (pl := pl) (t := t) hqn HX.out (by rw [HK.out]; exact hbad)).symm.trans HE.out)
          by_cases hb1 : ok < ds
          · have hb1I : (ok : Int) < (ds : Int) := by omega
            go_wp2
            go_ret3
            rw [← HE2.out]
            exact ⟨_, rfl, ow_none _ _, fun _ => rfl, HB2.out⟩
          · have hb1I : ¬ (ok : Int) < (ds : Int) := by omega
            have hb2I : (n : Int) - (ok : Int) < (mk : Int) := by omega
            go_wp2
            go_ret3
            rw [← HE2.out]
            exact ⟨_, rfl, ow_none _ _, fun _ => rfl, HB2.out⟩
        · have HE2 := hide ((dc_step (n := n) (pl := pl) (t := t) hqn HX.out (by rw [HK.out]; exact hbad)).symm.trans HE.out)
          have hb1I : ¬ (ok : Int) < (ds : Int) := by omega
          have hb2I : ¬ (n : Int) - (ok : Int) < (mk : Int) := by omega
          have hkl := HK.out
          have HJL := hide (jn_len (pl := pl) HX.out)
          have hjo := join_any w2 _ _ w.heap.size pl q (tk, mk, ds) HO2.out HQ2.out hsz2 HX.out (by simp only; omega) (by simp only; omega) (by rw [HLm.out]; omega)
          unfold tkV at hjo
          have HJo := hide hjo
          clear hjo hkl hbad
          go_wp2_with fail
          refine HJo.out.mono ?_
          rintro e w3 ⟨r3, rfl, hO3, hK3⟩
          have HO3 := hide hO3
          obtain ⟨a3, k3, c3, rfl, HK3, _⟩ := hO3.len2
          have HB3 := hide (HB2.out.trans hK3.1)
          have HQ3 := hide (HQ2.out.keep hK3.1)
          obtain ⟨y0, _, _⟩ := cells3 (hK3.cells HZ.out (by decide))
          clear hO3 hK3 HJo HO2 HB2 HQ2 z0 z1 z2 HZ
          have hdl : (q.drop tk).length = m - tk := by rw [List.length_drop, HLm.out]
          have HR := hide (HQ3.out.tailI (k := tk) (d := m - tk) (c := qc - tk) (by rw [HLm.out]; exact g2) (by rw [HLm.out]) (by omega) (by rw [HLm.out]; exact hqc))
          have htkI : (tk : Int) ≤ (m : Int) := by omega
          have HDL := hide hdl
          have htl : (t : Int) + 1 ≤ 140737488351233 := by omega
          clear hdl
          go_wp2
          refine ⟨⟨q.drop tk, _, t + 1, HR.out, HO3.out, by go_num, HE2.out, ?_, ?_, HQy.out.drop _, ?_, HB3.out⟩, ?_⟩
          · have h1 := HJL.out
            have h2 := HK.out
            omega
          · rw [HDL.out]; omega
          · rw [HDL.out]; omega
          · simp [slen]; omega
      · have HE2 := hide ((dc_short (n := n) (pl := pl) (t := t) hqn hx).symm.trans HE.out)
        obtain ⟨x1, x2, x3⟩ := x
        have hsz1 := HB1.out.size
        clear hx
        unfold tkV
        go_wp2
        go_ret3
        rw [← HE2.out]
        exact ⟨_, rfl, ow_none _ _, fun _ => rfl, HB1.out.alloc hsz1 _⟩
end
end Go.Proofs.Yteloomlcaimlaab
