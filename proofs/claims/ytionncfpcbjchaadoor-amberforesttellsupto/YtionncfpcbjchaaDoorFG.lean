import Derived.Test.YtionncfpcbjchaaDoorFF
import Derived.Test.YtionncfpcbjchaaDoorF9
namespace Go.Proofs.YtionncfpcbjchaaDoor
open Go.RowKit
/-- two forests, the same field by field -/
structure Eqv (F G : Fo) : Prop where
  e : F.nE = G.nE ∧ ∀ k, k < F.nE → F.E k = G.E k
  c : F.nC = G.nC ∧ ∀ k, k < F.nC → F.C k = G.C k
  m : F.nM = G.nM ∧ ∀ k, k < F.nM → F.M k = G.M k
  p : F.nP = G.nP ∧ ∀ k, k < F.nP → F.P k = G.P k
  o : F.nO = G.nO ∧ ∀ k, k < F.nO → F.O k = G.O k
/-- two forests' blocks, and a struct in a row of each -/
structure SeQ (fa : Nat) (V : List Value) (fb : Nat) (V' : List Value) (ad : Addr) (cs : List Value) (ad' : Addr) (cs' : List Value) (W : World) : Prop where
  a : Blk W fa 28 V
  b : Blk W fb 28 V'
  c : ∀ (j : Nat) (v : Value), cs[j]? = some v → W.cell? (ad.add j) = some v
  d : ∀ (j : Nat) (v : Value), cs'[j]? = some v → W.cell? (ad'.add j) = some v
theorem SeQ.up {fa : Nat} {V : List Value} {fb : Nat} {V' : List Value} {ad : Addr} {cs : List Value} {ad' : Addr} {cs' : List Value} {W W' : World} (h : SeQ fa V fb V' ad cs ad' cs' W) (hb : Below W.heap.size W W') : SeQ fa V fb V' ad cs ad' cs' W' :=
  ⟨h.a.below hb h.a.lt, h.b.below hb h.b.lt, fun j v hv => (hb.cell (cell_lt (h.c j v hv))).trans (h.c j v hv), fun j v hv => (hb.cell (cell_lt (h.d j v hv))).trans (h.d j v hv)⟩
def SamePost (w : World) (F G : Fo) (e : Ending) (w' : World) : Prop := ∃ b, e = .returned (.bool b) ∧ (b = true ↔ Eqv F G) ∧ Below w.heap.size w w'
theorem SamePost.mk {w w' : World} {F G : Fo} {e : Ending} (b : Bool) (h1 : e = .returned (.bool b)) (h2 : b = true ↔ Eqv F G) (h3 : Below w.heap.size w w') : SamePost w F G e w' := ⟨b, h1, h2, h3⟩
set_option maxRecDepth 100000 in
set_option maxHeartbeats 8000000 in
theorem same_any (w : World) (v v' : Fv) (F G : Fo) (hF : F.Ok) (hG : G.Ok) (B : Nat) (hBs : B ≤ w.heap.size) (hA : FoAt B w v F) (hA' : FoAt B w v' G) :
    Calls Tryd.prog 5 #[.agg (v.cells F).toArray, .agg (v'.cells G).toArray] w (SamePost w F G) := by
  obtain ⟨V, hV⟩ : ∃ V, v.cells F = V := ⟨_, rfl⟩
  obtain ⟨V', hV'⟩ : ∃ V', v'.cells G = V' := ⟨_, rfl⟩
  have hb1 : Below w.heap.size w (w.alloc (.cells V.toArray 28)) := (Below.refl _ _).alloc (Nat.le_refl _) _
  have hb2 : Below w.heap.size w ((w.alloc (.cells V.toArray 28)).alloc (.cells V'.toArray 28)) := hb1.alloc hb1.size _
  have hv1 : Blk ((w.alloc (.cells V.toArray 28)).alloc (.cells V'.toArray 28)) w.heap.size 28 V := (Blk.new w V _).below ((Below.refl (w.alloc (.cells V.toArray 28)).heap.size _).alloc (Nat.le_refl _) _) (by simp)
  have hv2 : Blk ((w.alloc (.cells V.toArray 28)).alloc (.cells V'.toArray 28)) (w.heap.size + 1) 28 V' := by
    have := Blk.new (w.alloc (.cells V.toArray 28)) V' 28
    simpa using this
  have hs2 : ((w.alloc (.cells V.toArray 28)).alloc (.cells V'.toArray 28)).heap.size = w.heap.size + 2 := by simp
  have HV1 := hide hv1
  have HV2 := hide hv2
  have HA := hide ((hA.mono hBs).keep hb2)
  have HA' := hide ((hA'.mono hBs).keep hb2)
  have HB2 := hide hb2
  have HF := hide hF
  have HG := hide hG
  rw [hV, hV']
  obtain ⟨aE, cE, aC, cC, aM, cM, aP, cP, aO, cO⟩ := v
  obtain ⟨aE', cE', aC', cC', aM', cM', aP', cP', aO', cO'⟩ := v'
  obtain ⟨nE, E, nC, C, nM, M, nP, P, nO, O⟩ := F
  obtain ⟨nE', E', nC', C', nM', M', nP', P', nO', O'⟩ := G
  have hsz := hF.sz
  have hsz' := hG.sz
  simp only [Fv.cells] at hV hV'
  simp only at hsz hsz'
  have v0 : V[0]? = some (.slice aE nE cE) := by rw [← hV]; rfl
  have yb0 : V'[0]? = some (.slice aE' nE' cE') := by rw [← hV']; rfl
  have v1 : V[1]? = some (.slice aC nC cC) := by rw [← hV]; rfl
  have yb1 : V'[1]? = some (.slice aC' nC' cC') := by rw [← hV']; rfl
  have v2 : V[2]? = some (.slice aM nM cM) := by rw [← hV]; rfl
  have yb2 : V'[2]? = some (.slice aM' nM' cM') := by rw [← hV']; rfl
  have v3 : V[3]? = some (.slice aP nP cP) := by rw [← hV]; rfl
  have yb3 : V'[3]? = some (.slice aP' nP' cP') := by rw [← hV']; rfl
  have v4 : V[4]? = some (.slice aO nO cO) := by rw [← hV]; rfl
  have yb4 : V'[4]? = some (.slice aO' nO' cO') := by rw [← hV']; rfl
  clear hA hA' hF hG hb1 hb2 hv1 hv2 hV hV'
  go_enter Tryd.func5, Tryd.ntmps5
  go_upto_region 1 with fail
  generalize hw2 : (w.alloc (.cells V.toArray 28)).alloc (.cells V'.toArray 28) = w2 at *
  have e9 : (w.alloc (.cells V.toArray 28)).heap.size = w.heap.size + 1 := by simp
  try rw [e9]
  clear hw2 e9
  generalize hfa : w.heap.size = fa at *
  have cv0 := HV1.out.get v0
  have cu0 := HV2.out.get yb0
  have cv1 := HV1.out.get v1
  have cu1 := HV2.out.get yb1
  have cv2 := HV1.out.get v2
  have cu2 := HV2.out.get yb2
  have cv3 := HV1.out.get v3
  have cu3 := HV2.out.get yb3
  have cv4 := HV1.out.get v4
  have cu4 := HV2.out.get yb4
  by_cases q0 : nE = nE'
  rotate_left
  · have d1 : ((nE : Int) == (nE' : Int)) = false := by simp; omega
    have d2 : ((nE : Int) != (nE' : Int)) = true := by simp; omega
    go_wp2
    go_ret
    exact SamePost.mk false rfl ⟨fun h => (by cases h), fun h => absurd h.e.1 q0⟩ (by first | exact HB2.out | (rw [hfa]; exact HB2.out))
  subst q0
  by_cases q1 : nC = nC'
  rotate_left
  · have d1 : ((nC : Int) == (nC' : Int)) = false := by simp; omega
    have d2 : ((nC : Int) != (nC' : Int)) = true := by simp; omega
    go_wp2
    go_ret
    exact SamePost.mk false rfl ⟨fun h => (by cases h), fun h => absurd h.c.1 q1⟩ (by first | exact HB2.out | (rw [hfa]; exact HB2.out))
  subst q1
  by_cases q2 : nM = nM'
  rotate_left
  · have d1 : ((nM : Int) == (nM' : Int)) = false := by simp; omega
    have d2 : ((nM : Int) != (nM' : Int)) = true := by simp; omega
    go_wp2
    go_ret
    exact SamePost.mk false rfl ⟨fun h => (by cases h), fun h => absurd h.m.1 q2⟩ (by first | exact HB2.out | (rw [hfa]; exact HB2.out))
  subst q2
  by_cases q3 : nP = nP'
  rotate_left
  · have d1 : ((nP : Int) == (nP' : Int)) = false := by simp; omega
    have d2 : ((nP : Int) != (nP' : Int)) = true := by simp; omega
    go_wp2
    go_ret
    exact SamePost.mk false rfl ⟨fun h => (by cases h), fun h => absurd h.p.1 q3⟩ (by first | exact HB2.out | (rw [hfa]; exact HB2.out))
  subst q3
  by_cases q4 : nO = nO'
  rotate_left
  · have d1 : ((nO : Int) == (nO' : Int)) = false := by simp; omega
    have d2 : ((nO : Int) != (nO' : Int)) = true := by simp; omega
    go_wp2
    go_ret
    exact SamePost.mk false rfl ⟨fun h => (by cases h), fun h => absurd h.o.1 q4⟩ (by first | exact HB2.out | (rw [hfa]; exact HB2.out))
  subst q4
  have HVk : Hid (∀ wr, Below (fa + 2) w2 wr → Blk wr fa 28 V ∧ Blk wr (fa + 1) 28 V') := hide (fun wr hb => ⟨HV1.out.below hb (by omega), HV2.out.below hb (by omega)⟩)
  have H0 : Hid (Below (fa + 2) w2 w2) := hide (Below.refl _ _)
  go_upto_region 3 with fail
  clear cv0 cu0 cv1 cu1 cv2 cu2 cv3 cu3 cv4 cu4
  go_wp2
  go_loopw [5] (fun i wr => ∃ k : Nat, k ≤ nE ∧ i = .int .i64 (k : Int) ∧ Hid (Below (fa + 2) w2 wr) ∧ Hid (∀ j, j < k → E j = E' j)) (fun i _ => nE - (intOf i).toNat)
  case atStart => exact ⟨0, by omega, rfl, H0, hide (fun j hj => absurd hj (Nat.not_lt_zero j))⟩
  case round =>
    obtain ⟨k, hk, rfl, HS, HQ⟩ := hrel
    have cv := (HVk.out _ HS.out).1.get v0
    have cu := (HVk.out _ HS.out).2.get yb0
    by_cases hlt : k < nE
    · have hd : decide ((k : Int) < (nE : Int)) = true := by simp; omega
      have hki : (k : Int) < (nE : Int) := by omega
      have hsz2 := hs2
      have hRow := (HA.out.E.keep (HS.out.mono (show fa ≤ fa + 2 by omega))) k hlt
      have hRow' := (HA'.out.E.keep (HS.out.mono (show fa ≤ fa + 2 by omega))) k hlt
      simp only at hRow hRow'
      obtain ⟨ad, rfl, hadb, hc⟩ := hRow
      obtain ⟨ad', rfl, hadb', hc'⟩ := hRow'
      have HC : Hid (∀ (j : Nat) (v : Value), ((E k).cells)[j]? = some v → wr.cell? ((ad.add (k * 17)).add j) = some v) := hide hc
      have HC' : Hid (∀ (j : Nat) (v : Value), ((E' k).cells)[j]? = some v → wr.cell? ((ad'.add (k * 17)).add j) = some v) := hide hc'
      have hl1 : ((E k).cells).length = 17 := EnG.len (HF.out.E k hlt)
      have hl2 : ((E' k).cells).length = 17 := EnG.len (HG.out.E k hlt)
      obtain ⟨bq, hde, hbq⟩ := de_env 9996 (E k) (E' k) (HF.out.E k hlt) (HG.out.E k hlt)
      have HDE := hide hde
      have HBQ := hide hbq
      clear hc hc' hde hbq
      obtain ⟨cs, ecs⟩ : ∃ cs, (E k).cells = cs := ⟨_, rfl⟩
      obtain ⟨cs', ecs'⟩ : ∃ cs', (E' k).cells = cs' := ⟨_, rfl⟩
      rw [ecs] at HC HDE hl1
      rw [ecs'] at HC' HDE hl2
      clear ecs ecs'
      go_upto_region 6 with fail
      obtain ⟨w0, hwD⟩ : ∃ wD, wD = wr.drew := ⟨_, rfl⟩
      have HBD : Hid (Below (fa + 2) w2 w0) := by rw [hwD]; exact hide (HS.out.drew)
      have HS0 : Hid ((fun W9 : World => SeQ fa V (fa + 1) V' (ad.add (k * 17)) cs (ad'.add (k * 17)) cs' W9) w0) := by rw [hwD]; exact hide (SeQ.up (show SeQ fa V (fa + 1) V' (ad.add (k * 17)) cs (ad'.add (k * 17)) cs' wr from ⟨(HVk.out _ HS.out).1, (HVk.out _ HS.out).2, HC.out, HC'.out⟩) (drew_below wr))
      refine wp_region_held_drew (S := fun W9 : World => SeQ fa V (fa + 1) V' (ad.add (k * 17)) cs (ad'.add (k * 17)) cs' W9) (by kernel_rfl) (by rw [← hwD]; exact HS0.out) (fun hHeld => ?_)
      rw [← hwD]
      clear hwD hHeld HS cv cu
      refine hd_take 0 (o := ⟨some 60, _, _, _, _, _⟩) (.pointer (some ⟨fa, 0, none⟩)) (by kernel_rfl) (by kernel_rfl) (by kernel_rfl) rfl (by rfl) (fun W hSw => by go_simp) (fun _ _ _ h => h) HS0.out ?_
      simp only [Act.put, List.setIfInBounds_toArray, List.set_cons_zero, List.set_cons_succ]
      refine hd_take 1 (o := ⟨some 61, _, _, _, _, _⟩) (.slice (some ad) nE cE) (by kernel_rfl) (by kernel_rfl) (by kernel_rfl) rfl (by rfl) (fun W hSw => by have h9 := Blk.get (SeQ.a hSw) v0; go_simp) (fun _ _ _ h => h) HS0.out ?_
      simp only [Act.put, List.setIfInBounds_toArray, List.set_cons_zero, List.set_cons_succ]
      refine hd_take 2 (o := ⟨some 62, _, _, _, _, _⟩) (.int .i64 (k : Int)) (by kernel_rfl) (by kernel_rfl) (by kernel_rfl) rfl (by rfl) (fun W hSw => by go_simp) (fun _ _ _ h => h) HS0.out ?_
      simp only [Act.put, List.setIfInBounds_toArray, List.set_cons_zero, List.set_cons_succ]
      refine hd_take 3 (o := ⟨some 63, _, _, _, _, _⟩) (.pointer (some (ad.add (k * 17)))) (by kernel_rfl) (by kernel_rfl) (by kernel_rfl) rfl (by rfl) (fun W hSw => by go_simp; try omega) (fun _ _ _ h => h) HS0.out ?_
      simp only [Act.put, List.setIfInBounds_toArray, List.set_cons_zero, List.set_cons_succ]
      refine hd_take 4 (o := ⟨some 64, _, _, _, _, _⟩) (.agg cs.toArray) (by kernel_rfl) (by kernel_rfl) (by kernel_rfl) rfl (by rfl) (fun W hSw => by exact run_loadT Tryd.underlying39 rfl cs (by rw [hl1]; exact info_en) _ rfl (ad.add (k * 17)) rfl (SeQ.c hSw)) (fun _ _ _ h => h) HS0.out ?_
      simp only [Act.put, List.setIfInBounds_toArray, List.set_cons_zero, List.set_cons_succ]
      refine hd_take 5 (o := ⟨some 65, _, _, _, _, _⟩) (.pointer (some ⟨(fa + 1), 0, none⟩)) (by kernel_rfl) (by kernel_rfl) (by kernel_rfl) rfl (by rfl) (fun W hSw => by go_simp) (fun _ _ _ h => h) HS0.out ?_
      simp only [Act.put, List.setIfInBounds_toArray, List.set_cons_zero, List.set_cons_succ]
      refine hd_take 6 (o := ⟨some 66, _, _, _, _, _⟩) (.slice (some ad') nE cE') (by kernel_rfl) (by kernel_rfl) (by kernel_rfl) rfl (by rfl) (fun W hSw => by have h9 := Blk.get (SeQ.b hSw) yb0; go_simp) (fun _ _ _ h => h) HS0.out ?_
      simp only [Act.put, List.setIfInBounds_toArray, List.set_cons_zero, List.set_cons_succ]
      refine hd_take 7 (o := ⟨some 67, _, _, _, _, _⟩) (.int .i64 (k : Int)) (by kernel_rfl) (by kernel_rfl) (by kernel_rfl) rfl (by rfl) (fun W hSw => by go_simp) (fun _ _ _ h => h) HS0.out ?_
      simp only [Act.put, List.setIfInBounds_toArray, List.set_cons_zero, List.set_cons_succ]
      refine hd_take 8 (o := ⟨some 68, _, _, _, _, _⟩) (.pointer (some (ad'.add (k * 17)))) (by kernel_rfl) (by kernel_rfl) (by kernel_rfl) rfl (by rfl) (fun W hSw => by go_simp; try omega) (fun _ _ _ h => h) HS0.out ?_
      simp only [Act.put, List.setIfInBounds_toArray, List.set_cons_zero, List.set_cons_succ]
      refine hd_take 9 (o := ⟨some 69, _, _, _, _, _⟩) (.agg cs'.toArray) (by kernel_rfl) (by kernel_rfl) (by kernel_rfl) rfl (by rfl) (fun W hSw => by exact run_loadT Tryd.underlying39 rfl cs' (by rw [hl2]; exact info_en) _ rfl (ad'.add (k * 17)) rfl (SeQ.d hSw)) (fun _ _ _ h => h) HS0.out ?_
      simp only [Act.put, List.setIfInBounds_toArray, List.set_cons_zero, List.set_cons_succ]
      refine hd_take 10 (o := ⟨some 70, _, _, _, _, _⟩) (.bool (!bq)) (by kernel_rfl) (by kernel_rfl) (by kernel_rfl) rfl (by rfl) (fun W hSw => by exact run_neqD HDE.out (by kernel_rfl) _ _ rfl rfl rfl) (fun _ _ _ h => h) HS0.out ?_
      simp only [Act.put, List.setIfInBounds_toArray, List.set_cons_zero, List.set_cons_succ]
      refine wpAnyH_done (by kernel_rfl) ?_ _
      cases bq
      · go_wp2
        go_ret
        exact SamePost.mk false rfl ⟨fun h => (by cases h), fun h => (by have := HBQ.out.2 (h.e.2 k hlt); cases this)⟩ (by first | exact HB2.out.trans (HBD.out.mono (by omega)) | (rw [hfa]; exact HB2.out.trans (HBD.out.mono (by omega))))
      have hkk := HBQ.out.1 rfl
      have HQ2 : Hid (∀ j, j < k + 1 → E j = E' j) := hide (fun j hj => by
        by_cases hjk : j < k
        · exact HQ.out j hjk
        · obtain rfl : j = k := by omega
          exact hkk)
      clear hkk HDE HC HC'
      try go_wp2
      go_roundw
      case rel => exact ⟨k + 1, by omega, by go_num, HBD, HQ2⟩
      case measure => simp [intOf]; omega
    · have hd : decide ((k : Int) < (nE : Int)) = false := by simp; omega
      obtain rfl : nE = k := by omega
      have G0 := HQ
      have H0 := HS
      clear HS HQ hlt hd
      go_wp2
      go_loopw [6] (fun i wr => ∃ k : Nat, k ≤ nC ∧ i = .int .i64 (k : Int) ∧ Hid (Below (fa + 2) w2 wr) ∧ Hid (∀ j, j < k → C j = C' j)) (fun i _ => nC - (intOf i).toNat)
      case atStart => exact ⟨0, by omega, rfl, H0, hide (fun j hj => absurd hj (Nat.not_lt_zero j))⟩
      case round =>
        obtain ⟨k, hk, rfl, HS, HQ⟩ := hrel
        have cv := (HVk.out _ HS.out).1.get v1
        have cu := (HVk.out _ HS.out).2.get yb1
        by_cases hlt : k < nC
        · have hd : decide ((k : Int) < (nC : Int)) = true := by simp; omega
          have hki : (k : Int) < (nC : Int) := by omega
          have hsz2 := hs2
          have hRow := (HA.out.C.keep (HS.out.mono (show fa ≤ fa + 2 by omega))) k hlt
          have hRow' := (HA'.out.C.keep (HS.out.mono (show fa ≤ fa + 2 by omega))) k hlt
          simp only at hRow hRow'
          obtain ⟨ad, rfl, hadb, hc⟩ := hRow
          obtain ⟨ad', rfl, hadb', hc'⟩ := hRow'
          have HC : Hid (∀ (j : Nat) (v : Value), ((C k).cells)[j]? = some v → wr.cell? ((ad.add (k * 8)).add j) = some v) := hide hc
          have HC' : Hid (∀ (j : Nat) (v : Value), ((C' k).cells)[j]? = some v → wr.cell? ((ad'.add (k * 8)).add j) = some v) := hide hc'
          have hl1 : ((C k).cells).length = 8 := rfl
          have hl2 : ((C' k).cells).length = 8 := rfl
          obtain ⟨bq, hde, hbq⟩ := de_cap 9997 (C k) (C' k)
          have HDE := hide hde
          have HBQ := hide hbq
          clear hc hc' hde hbq
          obtain ⟨cs, ecs⟩ : ∃ cs, (C k).cells = cs := ⟨_, rfl⟩
          obtain ⟨cs', ecs'⟩ : ∃ cs', (C' k).cells = cs' := ⟨_, rfl⟩
          rw [ecs] at HC HDE hl1
          rw [ecs'] at HC' HDE hl2
          clear ecs ecs'
          go_upto_region 11 with fail
          obtain ⟨w0, hwD⟩ : ∃ wD, wD = wr.drew := ⟨_, rfl⟩
          have HBD : Hid (Below (fa + 2) w2 w0) := by rw [hwD]; exact hide (HS.out.drew)
          have HS0 : Hid ((fun W9 : World => SeQ fa V (fa + 1) V' (ad.add (k * 8)) cs (ad'.add (k * 8)) cs' W9) w0) := by rw [hwD]; exact hide (SeQ.up (show SeQ fa V (fa + 1) V' (ad.add (k * 8)) cs (ad'.add (k * 8)) cs' wr from ⟨(HVk.out _ HS.out).1, (HVk.out _ HS.out).2, HC.out, HC'.out⟩) (drew_below wr))
          refine wp_region_held_drew (S := fun W9 : World => SeQ fa V (fa + 1) V' (ad.add (k * 8)) cs (ad'.add (k * 8)) cs' W9) (by kernel_rfl) (by rw [← hwD]; exact HS0.out) (fun hHeld => ?_)
          rw [← hwD]
          clear hwD hHeld HS cv cu
          refine hd_take 0 (o := ⟨some 78, _, _, _, _, _⟩) (.pointer (some ⟨fa, 1, none⟩)) (by kernel_rfl) (by kernel_rfl) (by kernel_rfl) rfl (by rfl) (fun W hSw => by go_simp) (fun _ _ _ h => h) HS0.out ?_
          simp only [Act.put, List.setIfInBounds_toArray, List.set_cons_zero, List.set_cons_succ]
          refine hd_take 1 (o := ⟨some 79, _, _, _, _, _⟩) (.slice (some ad) nC cC) (by kernel_rfl) (by kernel_rfl) (by kernel_rfl) rfl (by rfl) (fun W hSw => by have h9 := Blk.get (SeQ.a hSw) v1; go_simp) (fun _ _ _ h => h) HS0.out ?_
          simp only [Act.put, List.setIfInBounds_toArray, List.set_cons_zero, List.set_cons_succ]
          refine hd_take 2 (o := ⟨some 80, _, _, _, _, _⟩) (.int .i64 (k : Int)) (by kernel_rfl) (by kernel_rfl) (by kernel_rfl) rfl (by rfl) (fun W hSw => by go_simp) (fun _ _ _ h => h) HS0.out ?_
          simp only [Act.put, List.setIfInBounds_toArray, List.set_cons_zero, List.set_cons_succ]
          refine hd_take 3 (o := ⟨some 81, _, _, _, _, _⟩) (.pointer (some (ad.add (k * 8)))) (by kernel_rfl) (by kernel_rfl) (by kernel_rfl) rfl (by rfl) (fun W hSw => by go_simp; try omega) (fun _ _ _ h => h) HS0.out ?_
          simp only [Act.put, List.setIfInBounds_toArray, List.set_cons_zero, List.set_cons_succ]
          refine hd_take 4 (o := ⟨some 82, _, _, _, _, _⟩) (.agg cs.toArray) (by kernel_rfl) (by kernel_rfl) (by kernel_rfl) rfl (by rfl) (fun W hSw => by exact run_loadT Tryd.underlying43 rfl cs (by rw [hl1]; exact info_ca) _ rfl (ad.add (k * 8)) rfl (SeQ.c hSw)) (fun _ _ _ h => h) HS0.out ?_
          simp only [Act.put, List.setIfInBounds_toArray, List.set_cons_zero, List.set_cons_succ]
          refine hd_take 5 (o := ⟨some 83, _, _, _, _, _⟩) (.pointer (some ⟨(fa + 1), 1, none⟩)) (by kernel_rfl) (by kernel_rfl) (by kernel_rfl) rfl (by rfl) (fun W hSw => by go_simp) (fun _ _ _ h => h) HS0.out ?_
          simp only [Act.put, List.setIfInBounds_toArray, List.set_cons_zero, List.set_cons_succ]
          refine hd_take 6 (o := ⟨some 84, _, _, _, _, _⟩) (.slice (some ad') nC cC') (by kernel_rfl) (by kernel_rfl) (by kernel_rfl) rfl (by rfl) (fun W hSw => by have h9 := Blk.get (SeQ.b hSw) yb1; go_simp) (fun _ _ _ h => h) HS0.out ?_
          simp only [Act.put, List.setIfInBounds_toArray, List.set_cons_zero, List.set_cons_succ]
          refine hd_take 7 (o := ⟨some 85, _, _, _, _, _⟩) (.int .i64 (k : Int)) (by kernel_rfl) (by kernel_rfl) (by kernel_rfl) rfl (by rfl) (fun W hSw => by go_simp) (fun _ _ _ h => h) HS0.out ?_
          simp only [Act.put, List.setIfInBounds_toArray, List.set_cons_zero, List.set_cons_succ]
          refine hd_take 8 (o := ⟨some 86, _, _, _, _, _⟩) (.pointer (some (ad'.add (k * 8)))) (by kernel_rfl) (by kernel_rfl) (by kernel_rfl) rfl (by rfl) (fun W hSw => by go_simp; try omega) (fun _ _ _ h => h) HS0.out ?_
          simp only [Act.put, List.setIfInBounds_toArray, List.set_cons_zero, List.set_cons_succ]
          refine hd_take 9 (o := ⟨some 87, _, _, _, _, _⟩) (.agg cs'.toArray) (by kernel_rfl) (by kernel_rfl) (by kernel_rfl) rfl (by rfl) (fun W hSw => by exact run_loadT Tryd.underlying43 rfl cs' (by rw [hl2]; exact info_ca) _ rfl (ad'.add (k * 8)) rfl (SeQ.d hSw)) (fun _ _ _ h => h) HS0.out ?_
          simp only [Act.put, List.setIfInBounds_toArray, List.set_cons_zero, List.set_cons_succ]
          refine hd_take 10 (o := ⟨some 88, _, _, _, _, _⟩) (.bool (!bq)) (by kernel_rfl) (by kernel_rfl) (by kernel_rfl) rfl (by rfl) (fun W hSw => by exact run_neqD HDE.out (by kernel_rfl) _ _ rfl rfl rfl) (fun _ _ _ h => h) HS0.out ?_
          simp only [Act.put, List.setIfInBounds_toArray, List.set_cons_zero, List.set_cons_succ]
          refine wpAnyH_done (by kernel_rfl) ?_ _
          cases bq
          · go_wp2
            go_ret
            exact SamePost.mk false rfl ⟨fun h => (by cases h), fun h => (by have := HBQ.out.2 (h.c.2 k hlt); cases this)⟩ (by first | exact HB2.out.trans (HBD.out.mono (by omega)) | (rw [hfa]; exact HB2.out.trans (HBD.out.mono (by omega))))
          have hkk := HBQ.out.1 rfl
          have HQ2 : Hid (∀ j, j < k + 1 → C j = C' j) := hide (fun j hj => by
            by_cases hjk : j < k
            · exact HQ.out j hjk
            · obtain rfl : j = k := by omega
              exact hkk)
          clear hkk HDE HC HC'
          try go_wp2
          go_roundw
          case rel => exact ⟨k + 1, by omega, by go_num, HBD, HQ2⟩
          case measure => simp [intOf]; omega
        · have hd : decide ((k : Int) < (nC : Int)) = false := by simp; omega
          obtain rfl : nC = k := by omega
          have G1 := HQ
          have H0 := HS
          clear HS HQ hlt hd
          go_wp2
          go_loopw [7] (fun i wr => ∃ k : Nat, k ≤ nM ∧ i = .int .i64 (k : Int) ∧ Hid (Below (fa + 2) w2 wr) ∧ Hid (∀ j, j < k → M j = M' j)) (fun i _ => nM - (intOf i).toNat)
          case atStart => exact ⟨0, by omega, rfl, H0, hide (fun j hj => absurd hj (Nat.not_lt_zero j))⟩
          case round =>
            obtain ⟨k, hk, rfl, HS, HQ⟩ := hrel
            have cv := (HVk.out _ HS.out).1.get v2
            have cu := (HVk.out _ HS.out).2.get yb2
            by_cases hlt : k < nM
            · have hd : decide ((k : Int) < (nM : Int)) = true := by simp; omega
              have hki : (k : Int) < (nM : Int) := by omega
              have hsz2 := hs2
              have hRow := (HA.out.M.keep (HS.out.mono (show fa ≤ fa + 2 by omega))) k hlt
              have hRow' := (HA'.out.M.keep (HS.out.mono (show fa ≤ fa + 2 by omega))) k hlt
              simp only at hRow hRow'
              obtain ⟨ad, rfl, hadb, hc⟩ := hRow
              obtain ⟨ad', rfl, hadb', hc'⟩ := hRow'
              have HC : Hid (∀ (j : Nat) (v : Value), ((M k).cells)[j]? = some v → wr.cell? ((ad.add (k * 4)).add j) = some v) := hide hc
              have HC' : Hid (∀ (j : Nat) (v : Value), ((M' k).cells)[j]? = some v → wr.cell? ((ad'.add (k * 4)).add j) = some v) := hide hc'
              have hl1 : ((M k).cells).length = 4 := rfl
              have hl2 : ((M' k).cells).length = 4 := rfl
              obtain ⟨bq, hde, hbq⟩ := de_map 9998 (M k) (M' k)
              have HDE := hide hde
              have HBQ := hide hbq
              clear hc hc' hde hbq
              obtain ⟨cs, ecs⟩ : ∃ cs, (M k).cells = cs := ⟨_, rfl⟩
              obtain ⟨cs', ecs'⟩ : ∃ cs', (M' k).cells = cs' := ⟨_, rfl⟩
              rw [ecs] at HC HDE hl1
              rw [ecs'] at HC' HDE hl2
              clear ecs ecs'
              go_upto_region 16 with fail
              obtain ⟨w0, hwD⟩ : ∃ wD, wD = wr.drew := ⟨_, rfl⟩
              have HBD : Hid (Below (fa + 2) w2 w0) := by rw [hwD]; exact hide (HS.out.drew)
              have HS0 : Hid ((fun W9 : World => SeQ fa V (fa + 1) V' (ad.add (k * 4)) cs (ad'.add (k * 4)) cs' W9) w0) := by rw [hwD]; exact hide (SeQ.up (show SeQ fa V (fa + 1) V' (ad.add (k * 4)) cs (ad'.add (k * 4)) cs' wr from ⟨(HVk.out _ HS.out).1, (HVk.out _ HS.out).2, HC.out, HC'.out⟩) (drew_below wr))
              refine wp_region_held_drew (S := fun W9 : World => SeQ fa V (fa + 1) V' (ad.add (k * 4)) cs (ad'.add (k * 4)) cs' W9) (by kernel_rfl) (by rw [← hwD]; exact HS0.out) (fun hHeld => ?_)
              rw [← hwD]
              clear hwD hHeld HS cv cu
              refine hd_take 0 (o := ⟨some 96, _, _, _, _, _⟩) (.pointer (some ⟨fa, 2, none⟩)) (by kernel_rfl) (by kernel_rfl) (by kernel_rfl) rfl (by rfl) (fun W hSw => by go_simp) (fun _ _ _ h => h) HS0.out ?_
              simp only [Act.put, List.setIfInBounds_toArray, List.set_cons_zero, List.set_cons_succ]
              refine hd_take 1 (o := ⟨some 97, _, _, _, _, _⟩) (.slice (some ad) nM cM) (by kernel_rfl) (by kernel_rfl) (by kernel_rfl) rfl (by rfl) (fun W hSw => by have h9 := Blk.get (SeQ.a hSw) v2; go_simp) (fun _ _ _ h => h) HS0.out ?_
              simp only [Act.put, List.setIfInBounds_toArray, List.set_cons_zero, List.set_cons_succ]
              refine hd_take 2 (o := ⟨some 98, _, _, _, _, _⟩) (.int .i64 (k : Int)) (by kernel_rfl) (by kernel_rfl) (by kernel_rfl) rfl (by rfl) (fun W hSw => by go_simp) (fun _ _ _ h => h) HS0.out ?_
              simp only [Act.put, List.setIfInBounds_toArray, List.set_cons_zero, List.set_cons_succ]
              refine hd_take 3 (o := ⟨some 99, _, _, _, _, _⟩) (.pointer (some (ad.add (k * 4)))) (by kernel_rfl) (by kernel_rfl) (by kernel_rfl) rfl (by rfl) (fun W hSw => by go_simp; try omega) (fun _ _ _ h => h) HS0.out ?_
              simp only [Act.put, List.setIfInBounds_toArray, List.set_cons_zero, List.set_cons_succ]
              refine hd_take 4 (o := ⟨some 100, _, _, _, _, _⟩) (.agg cs.toArray) (by kernel_rfl) (by kernel_rfl) (by kernel_rfl) rfl (by rfl) (fun W hSw => by exact run_loadT Tryd.underlying45 rfl cs (by rw [hl1]; exact info_ma) _ rfl (ad.add (k * 4)) rfl (SeQ.c hSw)) (fun _ _ _ h => h) HS0.out ?_
              simp only [Act.put, List.setIfInBounds_toArray, List.set_cons_zero, List.set_cons_succ]
              refine hd_take 5 (o := ⟨some 101, _, _, _, _, _⟩) (.pointer (some ⟨(fa + 1), 2, none⟩)) (by kernel_rfl) (by kernel_rfl) (by kernel_rfl) rfl (by rfl) (fun W hSw => by go_simp) (fun _ _ _ h => h) HS0.out ?_
              simp only [Act.put, List.setIfInBounds_toArray, List.set_cons_zero, List.set_cons_succ]
              refine hd_take 6 (o := ⟨some 102, _, _, _, _, _⟩) (.slice (some ad') nM cM') (by kernel_rfl) (by kernel_rfl) (by kernel_rfl) rfl (by rfl) (fun W hSw => by have h9 := Blk.get (SeQ.b hSw) yb2; go_simp) (fun _ _ _ h => h) HS0.out ?_
              simp only [Act.put, List.setIfInBounds_toArray, List.set_cons_zero, List.set_cons_succ]
              refine hd_take 7 (o := ⟨some 103, _, _, _, _, _⟩) (.int .i64 (k : Int)) (by kernel_rfl) (by kernel_rfl) (by kernel_rfl) rfl (by rfl) (fun W hSw => by go_simp) (fun _ _ _ h => h) HS0.out ?_
              simp only [Act.put, List.setIfInBounds_toArray, List.set_cons_zero, List.set_cons_succ]
              refine hd_take 8 (o := ⟨some 104, _, _, _, _, _⟩) (.pointer (some (ad'.add (k * 4)))) (by kernel_rfl) (by kernel_rfl) (by kernel_rfl) rfl (by rfl) (fun W hSw => by go_simp; try omega) (fun _ _ _ h => h) HS0.out ?_
              simp only [Act.put, List.setIfInBounds_toArray, List.set_cons_zero, List.set_cons_succ]
              refine hd_take 9 (o := ⟨some 105, _, _, _, _, _⟩) (.agg cs'.toArray) (by kernel_rfl) (by kernel_rfl) (by kernel_rfl) rfl (by rfl) (fun W hSw => by exact run_loadT Tryd.underlying45 rfl cs' (by rw [hl2]; exact info_ma) _ rfl (ad'.add (k * 4)) rfl (SeQ.d hSw)) (fun _ _ _ h => h) HS0.out ?_
              simp only [Act.put, List.setIfInBounds_toArray, List.set_cons_zero, List.set_cons_succ]
              refine hd_take 10 (o := ⟨some 106, _, _, _, _, _⟩) (.bool (!bq)) (by kernel_rfl) (by kernel_rfl) (by kernel_rfl) rfl (by rfl) (fun W hSw => by exact run_neqD HDE.out (by kernel_rfl) _ _ rfl rfl rfl) (fun _ _ _ h => h) HS0.out ?_
              simp only [Act.put, List.setIfInBounds_toArray, List.set_cons_zero, List.set_cons_succ]
              refine wpAnyH_done (by kernel_rfl) ?_ _
              cases bq
              · go_wp2
                go_ret
                exact SamePost.mk false rfl ⟨fun h => (by cases h), fun h => (by have := HBQ.out.2 (h.m.2 k hlt); cases this)⟩ (by first | exact HB2.out.trans (HBD.out.mono (by omega)) | (rw [hfa]; exact HB2.out.trans (HBD.out.mono (by omega))))
              have hkk := HBQ.out.1 rfl
              have HQ2 : Hid (∀ j, j < k + 1 → M j = M' j) := hide (fun j hj => by
                by_cases hjk : j < k
                · exact HQ.out j hjk
                · obtain rfl : j = k := by omega
                  exact hkk)
              clear hkk HDE HC HC'
              try go_wp2
              go_roundw
              case rel => exact ⟨k + 1, by omega, by go_num, HBD, HQ2⟩
              case measure => simp [intOf]; omega
            · have hd : decide ((k : Int) < (nM : Int)) = false := by simp; omega
              obtain rfl : nM = k := by omega
              have G2 := HQ
              have H0 := HS
              clear HS HQ hlt hd
              go_wp2
              go_loopw [8] (fun i wr => ∃ k : Nat, k ≤ nP ∧ i = .int .i64 (k : Int) ∧ Hid (Below (fa + 2) w2 wr) ∧ Hid (∀ j, j < k → P j = P' j)) (fun i _ => nP - (intOf i).toNat)
              case atStart => exact ⟨0, by omega, rfl, H0, hide (fun j hj => absurd hj (Nat.not_lt_zero j))⟩
              case round =>
                obtain ⟨k, hk, rfl, HS, HQ⟩ := hrel
                have cv := (HVk.out _ HS.out).1.get v3
                have cu := (HVk.out _ HS.out).2.get yb3
                by_cases hlt : k < nP
                · have hd : decide ((k : Int) < (nP : Int)) = true := by simp; omega
                  have hki : (k : Int) < (nP : Int) := by omega
                  have hsz2 := hs2
                  have hRow := (HA.out.P.keep (HS.out.mono (show fa ≤ fa + 2 by omega))) k hlt
                  have hRow' := (HA'.out.P.keep (HS.out.mono (show fa ≤ fa + 2 by omega))) k hlt
                  simp only at hRow hRow'
                  obtain ⟨ad, rfl, hadb, hc⟩ := hRow
                  obtain ⟨ad', rfl, hadb', hc'⟩ := hRow'
                  have HC : Hid (∀ (j : Nat) (v : Value), (pgL (P k))[j]? = some v → wr.cell? ((ad.add (k * 32)).add j) = some v) := hide hc
                  have HC' : Hid (∀ (j : Nat) (v : Value), (pgL (P' k))[j]? = some v → wr.cell? ((ad'.add (k * 32)).add j) = some v) := hide hc'
                  have hl1 : (pgL (P k)).length = 32 := by rw [pgL, List.length_map]; exact (HF.out.P k hlt).1
                  have hl2 : (pgL (P' k)).length = 32 := by rw [pgL, List.length_map]; exact (HG.out.P k hlt).1
                  obtain ⟨bq, hde, hbq⟩ := de_page 9998 (P k) (P' k) (HF.out.P k hlt) (HG.out.P k hlt)
                  have HDE := hide hde
                  have HBQ := hide hbq
                  clear hc hc' hde hbq
                  obtain ⟨cs, ecs⟩ : ∃ cs, pgL (P k) = cs := ⟨_, rfl⟩
                  obtain ⟨cs', ecs'⟩ : ∃ cs', pgL (P' k) = cs' := ⟨_, rfl⟩
                  rw [ecs] at HC HDE hl1
                  rw [ecs'] at HC' HDE hl2
                  clear ecs ecs'
                  go_upto_region 21 with fail
                  obtain ⟨w0, hwD⟩ : ∃ wD, wD = wr.drew := ⟨_, rfl⟩
                  have HBD : Hid (Below (fa + 2) w2 w0) := by rw [hwD]; exact hide (HS.out.drew)
                  have HS0 : Hid ((fun W9 : World => SeQ fa V (fa + 1) V' (ad.add (k * 32)) cs (ad'.add (k * 32)) cs' W9) w0) := by rw [hwD]; exact hide (SeQ.up (show SeQ fa V (fa + 1) V' (ad.add (k * 32)) cs (ad'.add (k * 32)) cs' wr from ⟨(HVk.out _ HS.out).1, (HVk.out _ HS.out).2, HC.out, HC'.out⟩) (drew_below wr))
                  refine wp_region_held_drew (S := fun W9 : World => SeQ fa V (fa + 1) V' (ad.add (k * 32)) cs (ad'.add (k * 32)) cs' W9) (by kernel_rfl) (by rw [← hwD]; exact HS0.out) (fun hHeld => ?_)
                  rw [← hwD]
                  clear hwD hHeld HS cv cu
                  refine hd_take 0 (o := ⟨some 114, _, _, _, _, _⟩) (.pointer (some ⟨fa, 3, none⟩)) (by kernel_rfl) (by kernel_rfl) (by kernel_rfl) rfl (by rfl) (fun W hSw => by go_simp) (fun _ _ _ h => h) HS0.out ?_
                  simp only [Act.put, List.setIfInBounds_toArray, List.set_cons_zero, List.set_cons_succ]
                  refine hd_take 1 (o := ⟨some 115, _, _, _, _, _⟩) (.slice (some ad) nP cP) (by kernel_rfl) (by kernel_rfl) (by kernel_rfl) rfl (by rfl) (fun W hSw => by have h9 := Blk.get (SeQ.a hSw) v3; go_simp) (fun _ _ _ h => h) HS0.out ?_
                  simp only [Act.put, List.setIfInBounds_toArray, List.set_cons_zero, List.set_cons_succ]
                  refine hd_take 2 (o := ⟨some 116, _, _, _, _, _⟩) (.int .i64 (k : Int)) (by kernel_rfl) (by kernel_rfl) (by kernel_rfl) rfl (by rfl) (fun W hSw => by go_simp) (fun _ _ _ h => h) HS0.out ?_
                  simp only [Act.put, List.setIfInBounds_toArray, List.set_cons_zero, List.set_cons_succ]
                  refine hd_take 3 (o := ⟨some 117, _, _, _, _, _⟩) (.pointer (some (ad.add (k * 32)))) (by kernel_rfl) (by kernel_rfl) (by kernel_rfl) rfl (by rfl) (fun W hSw => by go_simp; try omega) (fun _ _ _ h => h) HS0.out ?_
                  simp only [Act.put, List.setIfInBounds_toArray, List.set_cons_zero, List.set_cons_succ]
                  refine hd_take 4 (o := ⟨some 118, _, _, _, _, _⟩) (.agg cs.toArray) (by kernel_rfl) (by kernel_rfl) (by kernel_rfl) rfl (by rfl) (fun W hSw => by exact run_loadT Tryd.underlying47 rfl cs (by rw [hl1]; exact info_pg) _ rfl (ad.add (k * 32)) rfl (SeQ.c hSw)) (fun _ _ _ h => h) HS0.out ?_
                  simp only [Act.put, List.setIfInBounds_toArray, List.set_cons_zero, List.set_cons_succ]
                  refine hd_take 5 (o := ⟨some 119, _, _, _, _, _⟩) (.pointer (some ⟨(fa + 1), 3, none⟩)) (by kernel_rfl) (by kernel_rfl) (by kernel_rfl) rfl (by rfl) (fun W hSw => by go_simp) (fun _ _ _ h => h) HS0.out ?_
                  simp only [Act.put, List.setIfInBounds_toArray, List.set_cons_zero, List.set_cons_succ]
                  refine hd_take 6 (o := ⟨some 120, _, _, _, _, _⟩) (.slice (some ad') nP cP') (by kernel_rfl) (by kernel_rfl) (by kernel_rfl) rfl (by rfl) (fun W hSw => by have h9 := Blk.get (SeQ.b hSw) yb3; go_simp) (fun _ _ _ h => h) HS0.out ?_
                  simp only [Act.put, List.setIfInBounds_toArray, List.set_cons_zero, List.set_cons_succ]
                  refine hd_take 7 (o := ⟨some 121, _, _, _, _, _⟩) (.int .i64 (k : Int)) (by kernel_rfl) (by kernel_rfl) (by kernel_rfl) rfl (by rfl) (fun W hSw => by go_simp) (fun _ _ _ h => h) HS0.out ?_
                  simp only [Act.put, List.setIfInBounds_toArray, List.set_cons_zero, List.set_cons_succ]
                  refine hd_take 8 (o := ⟨some 122, _, _, _, _, _⟩) (.pointer (some (ad'.add (k * 32)))) (by kernel_rfl) (by kernel_rfl) (by kernel_rfl) rfl (by rfl) (fun W hSw => by go_simp; try omega) (fun _ _ _ h => h) HS0.out ?_
                  simp only [Act.put, List.setIfInBounds_toArray, List.set_cons_zero, List.set_cons_succ]
                  refine hd_take 9 (o := ⟨some 123, _, _, _, _, _⟩) (.agg cs'.toArray) (by kernel_rfl) (by kernel_rfl) (by kernel_rfl) rfl (by rfl) (fun W hSw => by exact run_loadT Tryd.underlying47 rfl cs' (by rw [hl2]; exact info_pg) _ rfl (ad'.add (k * 32)) rfl (SeQ.d hSw)) (fun _ _ _ h => h) HS0.out ?_
                  simp only [Act.put, List.setIfInBounds_toArray, List.set_cons_zero, List.set_cons_succ]
                  refine hd_take 10 (o := ⟨some 124, _, _, _, _, _⟩) (.bool (!bq)) (by kernel_rfl) (by kernel_rfl) (by kernel_rfl) rfl (by rfl) (fun W hSw => by exact run_neqD HDE.out (by kernel_rfl) _ _ rfl rfl rfl) (fun _ _ _ h => h) HS0.out ?_
                  simp only [Act.put, List.setIfInBounds_toArray, List.set_cons_zero, List.set_cons_succ]
                  refine wpAnyH_done (by kernel_rfl) ?_ _
                  cases bq
                  · go_wp2
                    go_ret
                    exact SamePost.mk false rfl ⟨fun h => (by cases h), fun h => (by have := HBQ.out.2 (h.p.2 k hlt); cases this)⟩ (by first | exact HB2.out.trans (HBD.out.mono (by omega)) | (rw [hfa]; exact HB2.out.trans (HBD.out.mono (by omega))))
                  have hkk := HBQ.out.1 rfl
                  have HQ2 : Hid (∀ j, j < k + 1 → P j = P' j) := hide (fun j hj => by
                    by_cases hjk : j < k
                    · exact HQ.out j hjk
                    · obtain rfl : j = k := by omega
                      exact hkk)
                  clear hkk HDE HC HC'
                  try go_wp2
                  go_roundw
                  case rel => exact ⟨k + 1, by omega, by go_num, HBD, HQ2⟩
                  case measure => simp [intOf]; omega
                · have hd : decide ((k : Int) < (nP : Int)) = false := by simp; omega
                  obtain rfl : nP = k := by omega
                  have G3 := HQ
                  have H0 := HS
                  clear HS HQ hlt hd
                  go_wp2
                  go_loopw [9] (fun i wr => ∃ k : Nat, k ≤ nO ∧ i = .int .i64 (k : Int) ∧ Hid (Below (fa + 2) w2 wr) ∧ Hid (∀ j, j < k → O j = O' j)) (fun i _ => nO - (intOf i).toNat)
                  case atStart => exact ⟨0, by omega, rfl, H0, hide (fun j hj => absurd hj (Nat.not_lt_zero j))⟩
                  case round =>
                    obtain ⟨k, hk, rfl, HS, HQ⟩ := hrel
                    have cv := (HVk.out _ HS.out).1.get v4
                    have cu := (HVk.out _ HS.out).2.get yb4
                    by_cases hlt : k < nO
                    · have hd : decide ((k : Int) < (nO : Int)) = true := by simp; omega
                      have hki : (k : Int) < (nO : Int) := by omega
                      have hsz2 := hs2
                      have hRow := (HA.out.O.keep (HS.out.mono (show fa ≤ fa + 2 by omega))) k hlt
                      have hRow' := (HA'.out.O.keep (HS.out.mono (show fa ≤ fa + 2 by omega))) k hlt
                      simp only at hRow hRow'
                      obtain ⟨ad, rfl, hadb, hc⟩ := hRow
                      obtain ⟨ad', rfl, hadb', hc'⟩ := hRow'
                      have HC : Hid (∀ (j : Nat) (v : Value), ((O k).cells)[j]? = some v → wr.cell? ((ad.add (k * 2)).add j) = some v) := hide hc
                      have HC' : Hid (∀ (j : Nat) (v : Value), ((O' k).cells)[j]? = some v → wr.cell? ((ad'.add (k * 2)).add j) = some v) := hide hc'
                      have hl1 : ((O k).cells).length = 2 := rfl
                      have hl2 : ((O' k).cells).length = 2 := rfl
                      obtain ⟨bq, hde, hbq⟩ := de_out 9998 (O k) (O' k)
                      have HDE := hide hde
                      have HBQ := hide hbq
                      clear hc hc' hde hbq
                      obtain ⟨cs, ecs⟩ : ∃ cs, (O k).cells = cs := ⟨_, rfl⟩
                      obtain ⟨cs', ecs'⟩ : ∃ cs', (O' k).cells = cs' := ⟨_, rfl⟩
                      rw [ecs] at HC HDE hl1
                      rw [ecs'] at HC' HDE hl2
                      clear ecs ecs'
                      go_upto_region 26 with fail
                      obtain ⟨w0, hwD⟩ : ∃ wD, wD = wr.drew := ⟨_, rfl⟩
                      have HBD : Hid (Below (fa + 2) w2 w0) := by rw [hwD]; exact hide (HS.out.drew)
                      have HS0 : Hid ((fun W9 : World => SeQ fa V (fa + 1) V' (ad.add (k * 2)) cs (ad'.add (k * 2)) cs' W9) w0) := by rw [hwD]; exact hide (SeQ.up (show SeQ fa V (fa + 1) V' (ad.add (k * 2)) cs (ad'.add (k * 2)) cs' wr from ⟨(HVk.out _ HS.out).1, (HVk.out _ HS.out).2, HC.out, HC'.out⟩) (drew_below wr))
                      refine wp_region_held_drew (S := fun W9 : World => SeQ fa V (fa + 1) V' (ad.add (k * 2)) cs (ad'.add (k * 2)) cs' W9) (by kernel_rfl) (by rw [← hwD]; exact HS0.out) (fun hHeld => ?_)
                      rw [← hwD]
                      clear hwD hHeld HS cv cu
                      refine hd_take 0 (o := ⟨some 132, _, _, _, _, _⟩) (.pointer (some ⟨fa, 4, none⟩)) (by kernel_rfl) (by kernel_rfl) (by kernel_rfl) rfl (by rfl) (fun W hSw => by go_simp) (fun _ _ _ h => h) HS0.out ?_
                      simp only [Act.put, List.setIfInBounds_toArray, List.set_cons_zero, List.set_cons_succ]
                      refine hd_take 1 (o := ⟨some 133, _, _, _, _, _⟩) (.slice (some ad) nO cO) (by kernel_rfl) (by kernel_rfl) (by kernel_rfl) rfl (by rfl) (fun W hSw => by have h9 := Blk.get (SeQ.a hSw) v4; go_simp) (fun _ _ _ h => h) HS0.out ?_
                      simp only [Act.put, List.setIfInBounds_toArray, List.set_cons_zero, List.set_cons_succ]
                      refine hd_take 2 (o := ⟨some 134, _, _, _, _, _⟩) (.int .i64 (k : Int)) (by kernel_rfl) (by kernel_rfl) (by kernel_rfl) rfl (by rfl) (fun W hSw => by go_simp) (fun _ _ _ h => h) HS0.out ?_
                      simp only [Act.put, List.setIfInBounds_toArray, List.set_cons_zero, List.set_cons_succ]
                      refine hd_take 3 (o := ⟨some 135, _, _, _, _, _⟩) (.pointer (some (ad.add (k * 2)))) (by kernel_rfl) (by kernel_rfl) (by kernel_rfl) rfl (by rfl) (fun W hSw => by go_simp; try omega) (fun _ _ _ h => h) HS0.out ?_
                      simp only [Act.put, List.setIfInBounds_toArray, List.set_cons_zero, List.set_cons_succ]
                      refine hd_take 4 (o := ⟨some 136, _, _, _, _, _⟩) (.agg cs.toArray) (by kernel_rfl) (by kernel_rfl) (by kernel_rfl) rfl (by rfl) (fun W hSw => by exact run_loadT Tryd.underlying49 rfl cs (by rw [hl1]; exact info_ou) _ rfl (ad.add (k * 2)) rfl (SeQ.c hSw)) (fun _ _ _ h => h) HS0.out ?_
                      simp only [Act.put, List.setIfInBounds_toArray, List.set_cons_zero, List.set_cons_succ]
                      refine hd_take 5 (o := ⟨some 137, _, _, _, _, _⟩) (.pointer (some ⟨(fa + 1), 4, none⟩)) (by kernel_rfl) (by kernel_rfl) (by kernel_rfl) rfl (by rfl) (fun W hSw => by go_simp) (fun _ _ _ h => h) HS0.out ?_
                      simp only [Act.put, List.setIfInBounds_toArray, List.set_cons_zero, List.set_cons_succ]
                      refine hd_take 6 (o := ⟨some 138, _, _, _, _, _⟩) (.slice (some ad') nO cO') (by kernel_rfl) (by kernel_rfl) (by kernel_rfl) rfl (by rfl) (fun W hSw => by have h9 := Blk.get (SeQ.b hSw) yb4; go_simp) (fun _ _ _ h => h) HS0.out ?_
                      simp only [Act.put, List.setIfInBounds_toArray, List.set_cons_zero, List.set_cons_succ]
                      refine hd_take 7 (o := ⟨some 139, _, _, _, _, _⟩) (.int .i64 (k : Int)) (by kernel_rfl) (by kernel_rfl) (by kernel_rfl) rfl (by rfl) (fun W hSw => by go_simp) (fun _ _ _ h => h) HS0.out ?_
                      simp only [Act.put, List.setIfInBounds_toArray, List.set_cons_zero, List.set_cons_succ]
                      refine hd_take 8 (o := ⟨some 140, _, _, _, _, _⟩) (.pointer (some (ad'.add (k * 2)))) (by kernel_rfl) (by kernel_rfl) (by kernel_rfl) rfl (by rfl) (fun W hSw => by go_simp; try omega) (fun _ _ _ h => h) HS0.out ?_
                      simp only [Act.put, List.setIfInBounds_toArray, List.set_cons_zero, List.set_cons_succ]
                      refine hd_take 9 (o := ⟨some 141, _, _, _, _, _⟩) (.agg cs'.toArray) (by kernel_rfl) (by kernel_rfl) (by kernel_rfl) rfl (by rfl) (fun W hSw => by exact run_loadT Tryd.underlying49 rfl cs' (by rw [hl2]; exact info_ou) _ rfl (ad'.add (k * 2)) rfl (SeQ.d hSw)) (fun _ _ _ h => h) HS0.out ?_
                      simp only [Act.put, List.setIfInBounds_toArray, List.set_cons_zero, List.set_cons_succ]
                      refine hd_take 10 (o := ⟨some 142, _, _, _, _, _⟩) (.bool (!bq)) (by kernel_rfl) (by kernel_rfl) (by kernel_rfl) rfl (by rfl) (fun W hSw => by exact run_neqD HDE.out (by kernel_rfl) _ _ rfl rfl rfl) (fun _ _ _ h => h) HS0.out ?_
                      simp only [Act.put, List.setIfInBounds_toArray, List.set_cons_zero, List.set_cons_succ]
                      refine wpAnyH_done (by kernel_rfl) ?_ _
                      cases bq
                      · go_wp2
                        go_ret
                        exact SamePost.mk false rfl ⟨fun h => (by cases h), fun h => (by have := HBQ.out.2 (h.o.2 k hlt); cases this)⟩ (by first | exact HB2.out.trans (HBD.out.mono (by omega)) | (rw [hfa]; exact HB2.out.trans (HBD.out.mono (by omega))))
                      have hkk := HBQ.out.1 rfl
                      have HQ2 : Hid (∀ j, j < k + 1 → O j = O' j) := hide (fun j hj => by
                        by_cases hjk : j < k
                        · exact HQ.out j hjk
                        · obtain rfl : j = k := by omega
                          exact hkk)
                      clear hkk HDE HC HC'
                      try go_wp2
                      go_roundw
                      case rel => exact ⟨k + 1, by omega, by go_num, HBD, HQ2⟩
                      case measure => simp [intOf]; omega
                    · have hd : decide ((k : Int) < (nO : Int)) = false := by simp; omega
                      obtain rfl : nO = k := by omega
                      have G4 := HQ
                      have H0 := HS
                      clear HS HQ hlt hd
                      go_wp2
                      go_ret
                      exact SamePost.mk true rfl ⟨fun _ => ⟨⟨rfl, G0.out⟩, ⟨rfl, G1.out⟩, ⟨rfl, G2.out⟩, ⟨rfl, G3.out⟩, ⟨rfl, G4.out⟩⟩, fun _ => rfl⟩ (by first | exact HB2.out.trans (H0.out.mono (by omega)) | (rw [hfa]; exact HB2.out.trans (H0.out.mono (by omega))))
end Go.Proofs.YtionncfpcbjchaaDoor
