import Derived.Test.YtmflohehnoghhaaPH
namespace Go.Proofs.Ytmflohehnoghhaa
open Go.RowKit

theorem ents_mono {m m' : Nat → E} (h : ∀ v x, v < 16 → m v = some x → m' v = some x) : ∀ k, k ≤ 16 → (ents m k).length ≤ (ents m' k).length ∧ ((ents m k).length = (ents m' k).length → ∀ v, v < k → m v = m' v)
  | 0, _ => ⟨Nat.le_refl _, fun _ v hv => by omega⟩
  | k + 1, hk => by
    obtain ⟨h1, h2⟩ := ents_mono h k (by omega)
    cases hm : m k with
    | some x =>
      obtain ⟨s, b⟩ := x
      have hm' := h k _ (by omega) hm
      rw [ents_some hm, ents_some hm', List.length_append, List.length_append]
      refine ⟨by simpa using h1, fun e v hv => ?_⟩
      by_cases e2 : v = k
      · subst e2; rw [hm, hm']
      · exact h2 (by simpa using e) v (by omega)
    | none =>
      rw [ents_none hm]
      cases hm' : m' k with
      | none =>
        rw [ents_none hm']
        refine ⟨h1, fun e v hv => ?_⟩
        by_cases e2 : v = k
        · subst e2; rw [hm, hm']
        · exact h2 e v (by omega)
      | some x =>
        obtain ⟨s, b⟩ := x
        rw [ents_some hm', List.length_append]
        refine ⟨by simp; omega, fun e => ?_⟩
        simp at e
        omega
section
variable {m m' : Nat → E} {L L' : List Mp}
theorem Ag.same_len (h : Ag m L) (h' : Ag m' L') (hs : same m m' = true) : L.length = L'.length := by
  rw [h.perm.length_eq, h'.perm.length_eq]
  have := same_iff.1 hs
  have e : ∀ k, k ≤ 16 → ents m k = ents m' k := by
    intro k hk
    induction k with
    | zero => rfl
    | succ k ih => simp only [ents, ih (by omega), this k (by omega)]
  rw [e 16 (Nat.le_refl _)]
theorem Ag.same_all (h : Ag m L) (h' : Ag m' L') (hl : L.length = L'.length) (ha : ∀ z ∈ L, z ∈ L') : same m m' = true := by
  rw [h.perm.length_eq, h'.perm.length_eq] at hl
  refine same_iff.2 ((ents_mono (m := m) (m' := m') (fun v x hv hm => ?_) 16 (Nat.le_refl _)).2 hl)
  obtain ⟨s, b⟩ := x
  exact (h'.mem hv).1 (ha _ (h.all v hv s b hm))
theorem same_no {v : Nat} (hv : v < 16) (h : m v ≠ m' v) : same m m' = false := by
  cases hs : same m m' with
  | false => rfl
  | true => exact (h (same_iff.1 hs v hv)).elim
end
set_option maxHeartbeats 8000000 in
theorem equalR_any {w : World} {R R' : Nat} {L L' : List Mp} {m m' : Nat → E} {F F' : Nat → Prop} (h : RtA R L w F) (h' : RtA R' L' w F') (hg : Ag m L) (hg' : Ag m' L') :
    Calls Try.prog 11 #[rp' R, rp' R'] w fun e w' => e = .returned (.bool (same m m')) ∧ Below w.heap.size w w' := by
  obtain ⟨va, hR, -⟩ := h
  obtain ⟨va', hR', -⟩ := h'
  obtain ⟨ao, cap, hva⟩ := hR.row.len
  obtain ⟨n, hn⟩ : ∃ n, L.length = n := ⟨_, rfl⟩
  obtain ⟨ao', cap', hva'⟩ := hR'.row.len
  obtain ⟨n', hn'⟩ : ∃ n, L'.length = n := ⟨_, rfl⟩
  rw [hn] at hva
  rw [hn'] at hva'
  have c0 := hR.cell
  have c1 := hR'.cell
  have hl := hg.len
  have hl' := hg'.len
  have HG := hide hg
  have HG' := hide hg'
  have HN := hide hn
  have HN' := hide hn'
  have HR := hide hR
  have HR' := hide hR'
  have hbB := fun k => below_drewN (Below.refl w.heap.size w) k
  clear hR hR' hg hg'
  by_cases hnn : n = n'
  · have hne : ((n : Int) != (n' : Int)) = false := by simp; omega
    have hne2 : ¬ (n : Int) ≠ (n' : Int) := by omega
    have c0' := c0
    have c1' := c1
    rw [hva] at c0
    rw [hva'] at c1
    subst hnn
    have HVa := hide hva
    have HVa' := hide hva'
    clear hva hva' c0' c1'
    go_enter Try.func11, Try.ntmps11
    go_upto_region 1 with fail
    go_quiet (fail)
    have HB0 := hide (hbB nq)
    clear c0 c1 hbB
    go_wp2_with fail
    go_loopw [5] (fun x wr => ∃ k : Nat, k ≤ n ∧ x = .int .i64 (k : Int) ∧ Hid (∀ j z, j < k → L[j]? = some z → z ∈ L') ∧ Hid (Below w.heap.size w wr)) (fun x _ => n - (intOf x).toNat)
    case atStart => exact ⟨0, by omega, rfl, hide fun j z hj => by omega, HB0⟩
    case round =>
    clear HB0
    obtain ⟨k, hk, rfl, K1, K2⟩ := hrel
    have hRr := HR.out.below K2.out
    have hRr' := HR'.out.below K2.out
    have c0 := hRr.cell
    rw [HVa.out] at c0
    by_cases hlt : k < n
    · have hd : decide (k < n) = true := by simp; omega
      have hki : (k : Int) < (n : Int) := by omega
      obtain ⟨g, cp, hv, -, -, -⟩ := HR.out.row.some_of (by rw [HN.out]; omega)
      rw [HN.out, HVa.out] at hv
      cases hv
      obtain ⟨z, hz⟩ : ∃ z, L[k]? = some z := ⟨_, List.getElem?_eq_getElem (by rw [HN.out]; exact hlt)⟩
      obtain ⟨v, s, hv16, hs48, hze, hmz⟩ := HG.out.inn z (List.mem_of_getElem? hz)
      generalize z.b = b at *
      subst hze
      rw [HVa.out] at hRr
      obtain ⟨q0, q1, q2⟩ := hRr.row.cell hz
      simp only at q0 q1 q2
      have c1 := hRr'.cell
      have HK : Hid (∀ W, Below wr.heap.size wr W → W.cell? ⟨R', 0, none⟩ = some va' ∧ W.cell? ⟨R, 0, none⟩ = some (.slice (some ⟨g, 0, none⟩) n cap) ∧ W.cell? ⟨g, k * 3, none⟩ = some (.int .i64 (v : Int))) := hide fun W hW => ⟨cup c1 hW, cup c0 hW, cup q0 hW⟩
      cases hm' : m' v with
      | none =>
        have HSm : Hid (same m m' = false) := hide (same_no hv16 (by rw [hmz, hm']; simp))
        have HA : Hid (∀ W, Below wr.heap.size wr W → Calls Try.prog 30 #[va', .int .i64 (v : Int)] W fun e w' => e = .returned (.int .i64 (-1)) ∧ w' = W) := hide fun W hW => at_miss (hRr'.below hW).row (by omega) (HG'.out.no hv16 hm')
        have d9 : decide ((-1 : Int) < 0) = true := rfl
        clear hz hm' hmz hRr hRr' q0 q1 q2 c1 K1
        go_upto_region 6 with fail
        have HT0 : Hid (Below wr.heap.size wr wr.drew) := hide ⟨rfl, rfl, rfl, Nat.le_refl _, fun _ _ => rfl⟩
        refine wp_region_held_drew (S := fun W => Below wr.heap.size wr W) (by kernel_rfl) HT0.out (fun _ => ?_)
        generalize wr.drew = wq0 at *
        refine hd_take 0 (o := ⟨some 31, _, _, _, _, _⟩) (rp' R') (by kernel_rfl) (by kernel_rfl) (by kernel_rfl) rfl (by rfl) (fun W hSw => by go_simp) (fun _ _ _ h => h) HT0.out ?_
        simp only [Act.put, List.setIfInBounds_toArray, List.set_cons_zero, List.set_cons_succ]
        refine hd_take 1 (o := ⟨some 32, _, _, _, _, _⟩) (.pointer (some ⟨R', 0, none⟩)) (by kernel_rfl) (by kernel_rfl) (by kernel_rfl) rfl (by rfl) (fun W hSw => by go_simp) (fun _ _ _ h => h) HT0.out ?_
        simp only [Act.put, List.setIfInBounds_toArray, List.set_cons_zero, List.set_cons_succ]
        refine hd_take 2 (o := ⟨some 33, _, _, _, _, _⟩) (.pointer (some ⟨R', 0, none⟩)) (by kernel_rfl) (by kernel_rfl) (by kernel_rfl) rfl (by rfl) (fun W hSw => by go_simp) (fun _ _ _ h => h) HT0.out ?_
        simp only [Act.put, List.setIfInBounds_toArray, List.set_cons_zero, List.set_cons_succ]
        refine hd_take 3 (o := ⟨some 34, _, _, _, _, _⟩) (va') (by kernel_rfl) (by kernel_rfl) (by kernel_rfl) rfl (by rfl) (fun W hSw => by obtain ⟨k1, k2, k3⟩ := HK.out W hSw; go_simp) (fun _ _ _ h => h) HT0.out ?_
        simp only [Act.put, List.setIfInBounds_toArray, List.set_cons_zero, List.set_cons_succ]
        refine hd_take 4 (o := ⟨some 35, _, _, _, _, _⟩) (rp' R) (by kernel_rfl) (by kernel_rfl) (by kernel_rfl) rfl (by rfl) (fun W hSw => by go_simp) (fun _ _ _ h => h) HT0.out ?_
        simp only [Act.put, List.setIfInBounds_toArray, List.set_cons_zero, List.set_cons_succ]
        refine hd_take 5 (o := ⟨some 36, _, _, _, _, _⟩) (.pointer (some ⟨R, 0, none⟩)) (by kernel_rfl) (by kernel_rfl) (by kernel_rfl) rfl (by rfl) (fun W hSw => by go_simp) (fun _ _ _ h => h) HT0.out ?_
        simp only [Act.put, List.setIfInBounds_toArray, List.set_cons_zero, List.set_cons_succ]
        refine hd_take 6 (o := ⟨some 37, _, _, _, _, _⟩) (.pointer (some ⟨R, 0, none⟩)) (by kernel_rfl) (by kernel_rfl) (by kernel_rfl) rfl (by rfl) (fun W hSw => by go_simp) (fun _ _ _ h => h) HT0.out ?_
        simp only [Act.put, List.setIfInBounds_toArray, List.set_cons_zero, List.set_cons_succ]
        refine hd_take 7 (o := ⟨some 38, _, _, _, _, _⟩) (.slice (some ⟨g, 0, none⟩) n cap) (by kernel_rfl) (by kernel_rfl) (by kernel_rfl) rfl (by rfl) (fun W hSw => by obtain ⟨k1, k2, k3⟩ := HK.out W hSw; go_simp) (fun _ _ _ h => h) HT0.out ?_
        simp only [Act.put, List.setIfInBounds_toArray, List.set_cons_zero, List.set_cons_succ]
        refine hd_take 8 (o := ⟨some 39, _, _, _, _, _⟩) (.int .i64 (k : Int)) (by kernel_rfl) (by kernel_rfl) (by kernel_rfl) rfl (by rfl) (fun W hSw => by go_simp) (fun _ _ _ h => h) HT0.out ?_
        simp only [Act.put, List.setIfInBounds_toArray, List.set_cons_zero, List.set_cons_succ]
        refine hd_take 9 (o := ⟨some 40, _, _, _, _, _⟩) (.pointer (some ⟨g, k * 3, none⟩)) (by kernel_rfl) (by kernel_rfl) (by kernel_rfl) rfl (by rfl) (fun W hSw => by go_simp) (fun _ _ _ h => h) HT0.out ?_
        simp only [Act.put, List.setIfInBounds_toArray, List.set_cons_zero, List.set_cons_succ]
        refine hd_take 10 (o := ⟨some 41, _, _, _, _, _⟩) (.pointer (some ⟨g, k * 3, none⟩)) (by kernel_rfl) (by kernel_rfl) (by kernel_rfl) rfl (by rfl) (fun W hSw => by go_simp) (fun _ _ _ h => h) HT0.out ?_
        simp only [Act.put, List.setIfInBounds_toArray, List.set_cons_zero, List.set_cons_succ]
        refine hd_take 11 (o := ⟨some 42, _, _, _, _, _⟩) (.int .i64 (v : Int)) (by kernel_rfl) (by kernel_rfl) (by kernel_rfl) rfl (by rfl) (fun W hSw => by obtain ⟨k1, k2, k3⟩ := HK.out W hSw; go_simp) (fun _ _ _ h => h) HT0.out ?_
        simp only [Act.put, List.setIfInBounds_toArray, List.set_cons_zero, List.set_cons_succ]
        refine hd_call 12 (o := ⟨some 43, _, _, _, _, _⟩) (by kernel_rfl) rfl (by rfl) (fun K hK => ?_)
        go_simp
        go_wp2_with (go_at_call 30; refine (HA.out _ HT0.out).mono ?_; rintro e1 wq1 ⟨rfl, rfl⟩)
        refine hK _ _ HT0.out ?_
        clear hK K
        try simp only [Act.put, List.setIfInBounds_toArray, List.set_cons_zero, List.set_cons_succ]
        refine hd_take 13 (o := ⟨some 6, _, _, _, _, _⟩) (.int .i64 (-1)) (by kernel_rfl) (by kernel_rfl) (by kernel_rfl) rfl (by rfl) (fun W hSw => by go_simp) (fun _ _ _ h => h) HT0.out ?_
        simp only [Act.put, List.setIfInBounds_toArray, List.set_cons_zero, List.set_cons_succ]
        refine wpAnyH_done (by kernel_rfl) ?_ _
        have HB := hide (K2.out.trans (HT0.out.mono K2.out.size))
        clear HT0 HK HA c0
        go_upto_region 7 with fail
        go_quiet (fail)
        have HB9 := hide (below_drewN HB.out nq)
        go_wp2
        go_ret
        rw [HSm.out]
        exact ⟨rfl, HB9.out⟩
      | some y =>
        obtain ⟨s', b'⟩ := y
        obtain ⟨i, hi⟩ := HG'.out.hit hv16 hm'
        have hil : i < L'.length := (List.getElem?_eq_some_iff.1 hi).1
        have HA : Hid (∀ W, Below wr.heap.size wr W → Calls Try.prog 30 #[va', .int .i64 (v : Int)] W fun e w' => e = .returned (.int .i64 (i : Int)) ∧ w' = W) := hide fun W hW => at_hit (hRr'.below hW).row (by omega) HG'.out.ne hi rfl
        obtain ⟨g', cp', hv', -, -, -⟩ := HR'.out.row.some_of (by omega)
        rw [HN'.out] at hil hv'
        have d9 : decide ((i : Int) < 0) = false := by simp
        have hil2 : (i : Int) < (n : Int) := by omega
        have HRr := hide hRr
        have HRr' := hide hRr'
        have HHi := hide hi
        have HHz := hide hz
        have HMz := hide hmz
        have HM' := hide hm'
        have HV' := hide hv'
        clear hz hm' hmz hRr hRr' q0 q1 q2 c1 hi hv'
        go_upto_region 6 with fail
        have HT0 : Hid (Below wr.heap.size wr wr.drew) := hide ⟨rfl, rfl, rfl, Nat.le_refl _, fun _ _ => rfl⟩
        refine wp_region_held_drew (S := fun W => Below wr.heap.size wr W) (by kernel_rfl) HT0.out (fun _ => ?_)
        generalize wr.drew = wq0 at *
        refine hd_take 0 (o := ⟨some 31, _, _, _, _, _⟩) (rp' R') (by kernel_rfl) (by kernel_rfl) (by kernel_rfl) rfl (by rfl) (fun W hSw => by go_simp) (fun _ _ _ h => h) HT0.out ?_
        simp only [Act.put, List.setIfInBounds_toArray, List.set_cons_zero, List.set_cons_succ]
        refine hd_take 1 (o := ⟨some 32, _, _, _, _, _⟩) (.pointer (some ⟨R', 0, none⟩)) (by kernel_rfl) (by kernel_rfl) (by kernel_rfl) rfl (by rfl) (fun W hSw => by go_simp) (fun _ _ _ h => h) HT0.out ?_
        simp only [Act.put, List.setIfInBounds_toArray, List.set_cons_zero, List.set_cons_succ]
        refine hd_take 2 (o := ⟨some 33, _, _, _, _, _⟩) (.pointer (some ⟨R', 0, none⟩)) (by kernel_rfl) (by kernel_rfl) (by kernel_rfl) rfl (by rfl) (fun W hSw => by go_simp) (fun _ _ _ h => h) HT0.out ?_
        simp only [Act.put, List.setIfInBounds_toArray, List.set_cons_zero, List.set_cons_succ]
        refine hd_take 3 (o := ⟨some 34, _, _, _, _, _⟩) (va') (by kernel_rfl) (by kernel_rfl) (by kernel_rfl) rfl (by rfl) (fun W hSw => by obtain ⟨k1, k2, k3⟩ := HK.out W hSw; go_simp) (fun _ _ _ h => h) HT0.out ?_
        simp only [Act.put, List.setIfInBounds_toArray, List.set_cons_zero, List.set_cons_succ]
        refine hd_take 4 (o := ⟨some 35, _, _, _, _, _⟩) (rp' R) (by kernel_rfl) (by kernel_rfl) (by kernel_rfl) rfl (by rfl) (fun W hSw => by go_simp) (fun _ _ _ h => h) HT0.out ?_
        simp only [Act.put, List.setIfInBounds_toArray, List.set_cons_zero, List.set_cons_succ]
        refine hd_take 5 (o := ⟨some 36, _, _, _, _, _⟩) (.pointer (some ⟨R, 0, none⟩)) (by kernel_rfl) (by kernel_rfl) (by kernel_rfl) rfl (by rfl) (fun W hSw => by go_simp) (fun _ _ _ h => h) HT0.out ?_
        simp only [Act.put, List.setIfInBounds_toArray, List.set_cons_zero, List.set_cons_succ]
        refine hd_take 6 (o := ⟨some 37, _, _, _, _, _⟩) (.pointer (some ⟨R, 0, none⟩)) (by kernel_rfl) (by kernel_rfl) (by kernel_rfl) rfl (by rfl) (fun W hSw => by go_simp) (fun _ _ _ h => h) HT0.out ?_
        simp only [Act.put, List.setIfInBounds_toArray, List.set_cons_zero, List.set_cons_succ]
        refine hd_take 7 (o := ⟨some 38, _, _, _, _, _⟩) (.slice (some ⟨g, 0, none⟩) n cap) (by kernel_rfl) (by kernel_rfl) (by kernel_rfl) rfl (by rfl) (fun W hSw => by obtain ⟨k1, k2, k3⟩ := HK.out W hSw; go_simp) (fun _ _ _ h => h) HT0.out ?_
        simp only [Act.put, List.setIfInBounds_toArray, List.set_cons_zero, List.set_cons_succ]
        refine hd_take 8 (o := ⟨some 39, _, _, _, _, _⟩) (.int .i64 (k : Int)) (by kernel_rfl) (by kernel_rfl) (by kernel_rfl) rfl (by rfl) (fun W hSw => by go_simp) (fun _ _ _ h => h) HT0.out ?_
        simp only [Act.put, List.setIfInBounds_toArray, List.set_cons_zero, List.set_cons_succ]
        refine hd_take 9 (o := ⟨some 40, _, _, _, _, _⟩) (.pointer (some ⟨g, k * 3, none⟩)) (by kernel_rfl) (by kernel_rfl) (by kernel_rfl) rfl (by rfl) (fun W hSw => by go_simp) (fun _ _ _ h => h) HT0.out ?_
        simp only [Act.put, List.setIfInBounds_toArray, List.set_cons_zero, List.set_cons_succ]
        refine hd_take 10 (o := ⟨some 41, _, _, _, _, _⟩) (.pointer (some ⟨g, k * 3, none⟩)) (by kernel_rfl) (by kernel_rfl) (by kernel_rfl) rfl (by rfl) (fun W hSw => by go_simp) (fun _ _ _ h => h) HT0.out ?_
        simp only [Act.put, List.setIfInBounds_toArray, List.set_cons_zero, List.set_cons_succ]
        refine hd_take 11 (o := ⟨some 42, _, _, _, _, _⟩) (.int .i64 (v : Int)) (by kernel_rfl) (by kernel_rfl) (by kernel_rfl) rfl (by rfl) (fun W hSw => by obtain ⟨k1, k2, k3⟩ := HK.out W hSw; go_simp) (fun _ _ _ h => h) HT0.out ?_
        simp only [Act.put, List.setIfInBounds_toArray, List.set_cons_zero, List.set_cons_succ]
        refine hd_call 12 (o := ⟨some 43, _, _, _, _, _⟩) (by kernel_rfl) rfl (by rfl) (fun K hK => ?_)
        go_simp
        go_wp2_with (go_at_call 30; refine (HA.out _ HT0.out).mono ?_; rintro e1 wq1 ⟨rfl, rfl⟩)
        refine hK _ _ HT0.out ?_
        clear hK K
        try simp only [Act.put, List.setIfInBounds_toArray, List.set_cons_zero, List.set_cons_succ]
        refine hd_take 13 (o := ⟨some 6, _, _, _, _, _⟩) (.int .i64 (i : Int)) (by kernel_rfl) (by kernel_rfl) (by kernel_rfl) rfl (by rfl) (fun W hSw => by go_simp) (fun _ _ _ h => h) HT0.out ?_
        simp only [Act.put, List.setIfInBounds_toArray, List.set_cons_zero, List.set_cons_succ]
        refine wpAnyH_done (by kernel_rfl) ?_ _
        have HB1 := hide HT0.out
        clear HT0 HK HA c0
        have hRq := HRr.out.below HB1.out
        have hRq' := HRr'.out.below HB1.out
        rw [HV'.out] at hRq'
        have c0 := hRq.cell
        have c1 := hRq'.cell
        obtain ⟨q0, q1, q2⟩ := hRq.row.cell HHz.out
        obtain ⟨p0, p1, p2⟩ := hRq'.row.cell HHi.out
        simp only at q0 q1 q2 p0 p1 p2
        have HB := hide (K2.out.trans (HB1.out.mono K2.out.size))
        clear hRq hRq' HRr HRr' HB1 K2
        go_upto_region 7 with fail
        by_cases e1 : s' = s
        · by_cases e2 : b' = b
          · subst e1
            subst e2
            have K3 : Hid (∀ j z, j < k + 1 → L[j]? = some z → z ∈ L') := hide fun j y hj hy => by
              by_cases e3 : j = k
              · subst e3; rw [HHz.out] at hy; cases hy; exact List.mem_of_getElem? HHi.out
              · exact K1.out j y (by omega) hy
            clear K1 HHi HHz HMz HM'
            go_quiet (fail)
            have HB9 := hide (below_drewN HB.out nq)
            clear HB c0 c1 q0 q1 q2 p0 p1 p2
            go_wp2
            go_roundw
            case rel =>
              first
                | exact ⟨k + 1, by omega, by go_num, K3, HB9⟩
                | ((repeat apply Exists.intro); refine ⟨?_, rfl⟩; exact ⟨k + 1, by omega, by go_num, K3, HB9⟩)
            case measure => simp [intOf]; omega
          · have HSm : Hid (same m m' = false) := hide (same_no hv16 (by rw [HMz.out, HM'.out]; intro e; cases e; exact e2 rfl))
            subst e1
            have x2 : (b' == b) = false := by simp [e2]
            clear K1 HHi HHz HMz HM'
            go_quiet (fail)
            have HB9 := hide (below_drewN HB.out nq)
            clear HB c0 c1 q0 q1 q2 p0 p1 p2
            go_wp2
            go_ret
            rw [HSm.out]
            exact ⟨rfl, HB9.out⟩
        · have HSm : Hid (same m m' = false) := hide (same_no hv16 (by rw [HMz.out, HM'.out]; intro e; cases e; exact e1 rfl))
          have x1 : ((s' : Int) == (s : Int)) = false := by simp; omega
          have x2 : ¬ (s' : Int) = (s : Int) := by omega
          clear K1 HHi HHz HMz HM'
          go_quiet (fail)
          have HB9 := hide (below_drewN HB.out nq)
          clear HB c0 c1 q0 q1 q2 p0 p1 p2
          go_wp2
          go_ret
          rw [HSm.out]
          exact ⟨rfl, HB9.out⟩
    · obtain rfl : k = n := by omega
      have HSm : Hid (same m m' = true) := hide (HG.out.same_all HG'.out (by rw [HN.out, HN'.out]) (fun z hz => by
        obtain ⟨j, hj⟩ := List.mem_iff_getElem?.1 hz
        exact K1.out j z (by have := (List.getElem?_eq_some_iff.1 hj).1; have := HN.out; omega) hj))
      clear hRr hRr' K1
      go_wp2
      go_ret
      rw [HSm.out]
      exact ⟨rfl, K2.out⟩
  · have hne : ((n : Int) != (n' : Int)) = true := by simp; omega
    have hne2 : ¬ (n : Int) = (n' : Int) := by omega
    have HSm : Hid (same m m' = false) := by
      refine hide ?_
      cases hs : same m m' with
      | false => rfl
      | true => exact (hnn (by rw [← HN.out, ← HN'.out]; exact HG.out.same_len HG'.out hs)).elim
    rw [hva] at c0
    rw [hva'] at c1
    clear hva hva'
    go_enter Try.func11, Try.ntmps11
    go_upto_region 1 with fail
    go_quiet (fail)
    have HB0 := hide (hbB nq)
    clear c0 c1 hbB
    go_wp2
    go_ret
    rw [HSm.out]
    exact ⟨rfl, HB0.out⟩
end Go.Proofs.Ytmflohehnoghhaa
