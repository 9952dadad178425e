import Derived.Test.YtngmnlmagbfijabBB
namespace Go.Proofs.Ytngmnlmagbfijab
open Go.RowKit
/-- nothing but draws lies between -/
def Drews (w w' : World) : Prop := ∃ t, w' = w.drewN t
theorem Drews.refl (w : World) : Drews w w := ⟨0, rfl⟩
theorem drewN_add (w : World) (b a : Nat) : (w.drewN a).drewN b = w.drewN (a + b) := by
  unfold World.drewN
  simp only [Nat.add_assoc]
theorem Drews.trans {a b c : World} (h : Drews a b) (k : Drews b c) : Drews a c := by
  obtain ⟨t, rfl⟩ := h
  obtain ⟨u, rfl⟩ := k
  exact ⟨t + u, drewN_add _ _ _⟩
theorem Drews.heap {a b : World} (h : Drews a b) : b.heap = a.heap := by obtain ⟨t, rfl⟩ := h; rfl
theorem Drews.cell {a b : World} (h : Drews a b) (x : Addr) : b.cell? x = a.cell? x := by obtain ⟨t, rfl⟩ := h; rfl
theorem Drews.below {a b : World} (h : Drews a b) (B : Nat) : Below B a b := by obtain ⟨t, rfl⟩ := h; exact drewN_below _ _ _
theorem Drews.mod {a b : World} (h : Drews a b) (F : Nat → Prop) : Mod F a b := by obtain ⟨t, rfl⟩ := h; exact ⟨rfl, rfl, rfl, Nat.le_refl _, fun _ _ _ => rfl⟩
section
variable (w : World)

set_option maxRecDepth 100000 in
set_option maxHeartbeats 1000000 in
theorem minF_any (S : Nat → Prop) (v : Value) (R : List Int) (hR : Rd S w v R) (hl : R.length ≤ 1048576) (hne : R ≠ []) (fv : Value) (gf : Nat) (cb : Array Value) (f : Int → Int) (hfv : fv = .func (.func gf) #[] cb)
    (hc : ∀ W, Drews w W → ∀ x y : Int, x ∈ R → y ∈ R → Calls Try.prog gf (#[.int .i64 x, .int .i64 y] ++ cb) W fun e W' => e = .returned (.int .i64 (cm (f x) (f y))) ∧ Drews W W')
    (hen : ∀ args W, (callFunc gf args).run Try.prog W = .ok (.enter gf args) W) :
    Calls Try.prog 80 #[v, fv] w fun e w' => e = .returned (.int .i64 (pmin f (R.headD 0) R.tail)) ∧ Drews w w' := by
  subst hfv
  have HR := hide hR
  have HC := hide hc
  obtain ⟨ao, cap, rfl, hcap⟩ := hR.len
  obtain ⟨m, hm⟩ : ∃ m, R.length = m := ⟨_, rfl⟩
  have HLn := hide hm
  have hmp : 0 < m := by rw [← hm]; exact List.length_pos_iff.2 hne
  have HHd : Hid (R.getD 0 0 = R.headD 0) := hide (by cases R <;> rfl)
  have HTl : Hid (∀ k, k + 1 < m → R.tail.take k ++ [R.getD (k + 1) 0] = R.tail.take (k + 1)) := hide (by
    intro k hk
    have hk' : k < R.tail.length := by rw [List.length_tail, hm]; omega
    rw [List.take_succ_eq_append_getElem hk', List.getElem_tail]
    rw [List.getD_eq_getElem?_getD, List.getElem?_eq_getElem (by omega), Option.getD_some])
  have HTf : Hid (R.tail.take (m - 1) = R.tail) := hide (by rw [List.take_of_length_le]; rw [List.length_tail, hm]; exact Nat.le_refl _)
  have HMem : Hid (∀ k, k < m → R.getD k 0 ∈ R) := hide (fun k hk => by
    rw [List.getD_eq_getElem?_getD, List.getElem?_eq_getElem (by omega), Option.getD_some]; exact List.getElem_mem _)
  have HPm : Hid (∀ k, pmin f (R.headD 0) (R.tail.take k) ∈ R) := hide (fun k => by
    have h1 := pmin_mem f (R.tail.take k) (R.headD 0)
    rw [List.mem_cons] at h1
    rcases h1 with h1 | h1
    · rw [h1]; cases R with
      | nil => exact absurd rfl hne
      | cons a t => exact List.mem_cons_self ..
    · exact List.mem_of_mem_tail (List.mem_of_mem_take h1))
  rw [hm] at hl hcap HR ⊢
  obtain ⟨x, rfl, hSx, hcx⟩ := hR.some_of (by rw [hm]; exact hmp)
  have d0 := hcx 0 (by rw [hm]; exact hmp)
  rw [show x.add 0 = x by simp [Addr.add], HHd.out] at d0
  have HX := hide hcx
  clear hR hm hne hc hcx hSx
  have hm1 : ¬ (m : Int) < 1 := by omega
  have hm2 : (0 : Int) < m := by omega
  obtain ⟨hd, hhd⟩ : ∃ hd, R.headD 0 = hd := ⟨_, rfl⟩
  rw [hhd] at d0 HPm ⊢
  clear HHd hhd
  go_enter Try.func80, Try.ntmps80
  go_upto_region 5 with fail
  go_loopw [5, 6] (fun c i wr => ∃ k : Nat, 1 ≤ k ∧ k ≤ m ∧ i = .int .i64 (k : Nat) ∧ c = .int .i64 (pmin f hd (R.tail.take (k - 1))) ∧ Hid (Drews w wr)) (fun _ i _ => m - (RowKit.intOf i).toNat)
  case atStart => exact ⟨1, by omega, by omega, rfl, rfl, hide (Drews.refl _)⟩
  case round =>
    obtain ⟨k, hk1, hk, rfl, rfl, HD⟩ := hrel
    clear d0
    by_cases hlt : k < m
    · have d0 := HX.out k (by rw [HLn.out]; exact hlt)
      have d0 : wr.cell? (x.add k) = some (.int .i64 (R.getD k 0)) := (HD.out.cell _).trans d0
      have hmk := HMem.out k hlt
      have hsn := pmin_snoc f (R.tail.take (k - 1)) hd (R.getD k 0)
      have htk := HTl.out (k - 1) (by omega)
      rw [show k - 1 + 1 = k by omega] at htk
      rw [htk] at hsn
      have hpm := HPm.out (k - 1)
      have HS := hide hsn
      have HK := hide (And.intro hmk hpm)
      clear hmk hsn htk hpm
      generalize pmin f hd (R.tail.take (k - 1)) = c at *
      generalize R.getD k 0 = a at *
      have hki : (k : Int) < m := by omega
      go_wp2_with fail
      refine (HC.out wr HD.out a c HK.out.1 HK.out.2).mono ?_
      rintro e w1 ⟨rfl, hd1⟩
      have d1 := (hd1.cell _).trans d0
      have HD1 := hide (HD.out.trans hd1)
      clear d0 HD hd1
      have hcm : ((cm (f a) (f c)) < 0) = (f a < f c) := by
        unfold cm
        split
        · simp; omega
        · split
          · simp; omega
          · simp; omega
      by_cases hac : f a < f c
      · have hcm2 : (cm (f a) (f c)) < 0 := by rw [hcm]; exact hac
        have HS2 : Hid (pmin f hd (R.tail.take k) = a) := hide (by rw [HS.out, if_pos hac])
        clear hcm hac HS
        generalize cm (f a) (f c) = z at *
        go_wp2
        go_roundw
        case rel => exact ⟨k + 1, by omega, by omega, by go_num, by rw [show k + 1 - 1 = k by omega, HS2.out], HD1⟩
        case measure => simp [RowKit.intOf]; omega
      · have hcm2 : ¬ (cm (f a) (f c)) < 0 := by rw [hcm]; exact hac
        have HS2 : Hid (pmin f hd (R.tail.take k) = c) := hide (by rw [HS.out, if_neg hac])
        clear hcm hac HS
        generalize cm (f a) (f c) = z at *
        go_wp2
        go_roundw
        case rel => exact ⟨k + 1, by omega, by omega, by go_num, by rw [show k + 1 - 1 = k by omega, HS2.out], HD1⟩
        case measure => simp [RowKit.intOf]; omega
    · obtain rfl : k = m := by omega
      rw [HTf.out]
      go_wp2
      go_ret
      exact ⟨rfl, HD.out⟩

set_option maxRecDepth 100000 in
set_option maxHeartbeats 1000000 in
theorem maxF_any (S : Nat → Prop) (v : Value) (R : List Int) (hR : Rd S w v R) (hl : R.length ≤ 1048576) (hne : R ≠ []) (fv : Value) (gf : Nat) (cb : Array Value) (f : Int → Int) (hfv : fv = .func (.func gf) #[] cb)
    (hc : ∀ W, Drews w W → ∀ x y : Int, x ∈ R → y ∈ R → Calls Try.prog gf (#[.int .i64 x, .int .i64 y] ++ cb) W fun e W' => e = .returned (.int .i64 (cm (f x) (f y))) ∧ Drews W W')
    (hen : ∀ args W, (callFunc gf args).run Try.prog W = .ok (.enter gf args) W) :
    Calls Try.prog 86 #[v, fv] w fun e w' => e = .returned (.int .i64 (pmax f (R.headD 0) R.tail)) ∧ Drews w w' := by
  subst hfv
  have HR := hide hR
  have HC := hide hc
  obtain ⟨ao, cap, rfl, hcap⟩ := hR.len
  obtain ⟨m, hm⟩ : ∃ m, R.length = m := ⟨_, rfl⟩
  have HLn := hide hm
  have hmp : 0 < m := by rw [← hm]; exact List.length_pos_iff.2 hne
  have HHd : Hid (R.getD 0 0 = R.headD 0) := hide (by cases R <;> rfl)
  have HTl : Hid (∀ k, k + 1 < m → R.tail.take k ++ [R.getD (k + 1) 0] = R.tail.take (k + 1)) := hide (by
    intro k hk
    have hk' : k < R.tail.length := by rw [List.length_tail, hm]; omega
    rw [List.take_succ_eq_append_getElem hk', List.getElem_tail]
    rw [List.getD_eq_getElem?_getD, List.getElem?_eq_getElem (by omega), Option.getD_some])
  have HTf : Hid (R.tail.take (m - 1) = R.tail) := hide (by rw [List.take_of_length_le]; rw [List.length_tail, hm]; exact Nat.le_refl _)
  have HMem : Hid (∀ k, k < m → R.getD k 0 ∈ R) := hide (fun k hk => by
    rw [List.getD_eq_getElem?_getD, List.getElem?_eq_getElem (by omega), Option.getD_some]; exact List.getElem_mem _)
  have HPm : Hid (∀ k, pmax f (R.headD 0) (R.tail.take k) ∈ R) := hide (fun k => by
    have h1 := pmax_mem f (R.tail.take k) (R.headD 0)
    rw [List.mem_cons] at h1
    rcases h1 with h1 | h1
    · rw [h1]; cases R with
      | nil => exact absurd rfl hne
      | cons a t => exact List.mem_cons_self ..
    · exact List.mem_of_mem_tail (List.mem_of_mem_take h1))
  rw [hm] at hl hcap HR ⊢
  obtain ⟨x, rfl, hSx, hcx⟩ := hR.some_of (by rw [hm]; exact hmp)
  have d0 := hcx 0 (by rw [hm]; exact hmp)
  rw [show x.add 0 = x by simp [Addr.add], HHd.out] at d0
  have HX := hide hcx
  clear hR hm hne hc hcx hSx
  have hm1 : ¬ (m : Int) < 1 := by omega
  have hm2 : (0 : Int) < m := by omega
  obtain ⟨hd, hhd⟩ : ∃ hd, R.headD 0 = hd := ⟨_, rfl⟩
  rw [hhd] at d0 HPm ⊢
  clear HHd hhd
  go_enter Try.func86, Try.ntmps86
  go_upto_region 5 with fail
  go_loopw [5, 6] (fun c i wr => ∃ k : Nat, 1 ≤ k ∧ k ≤ m ∧ i = .int .i64 (k : Nat) ∧ c = .int .i64 (pmax f hd (R.tail.take (k - 1))) ∧ Hid (Drews w wr)) (fun _ i _ => m - (RowKit.intOf i).toNat)
  case atStart => exact ⟨1, by omega, by omega, rfl, rfl, hide (Drews.refl _)⟩
  case round =>
    obtain ⟨k, hk1, hk, rfl, rfl, HD⟩ := hrel
    clear d0
    by_cases hlt : k < m
    · have d0 := HX.out k (by rw [HLn.out]; exact hlt)
      have d0 : wr.cell? (x.add k) = some (.int .i64 (R.getD k 0)) := (HD.out.cell _).trans d0
      have hmk := HMem.out k hlt
      have hsn := pmax_snoc f (R.tail.take (k - 1)) hd (R.getD k 0)
      have htk := HTl.out (k - 1) (by omega)
      rw [show k - 1 + 1 = k by omega] at htk
      rw [htk] at hsn
      have hpm := HPm.out (k - 1)
      have HS := hide hsn
      have HK := hide (And.intro hmk hpm)
      clear hmk hsn htk hpm
      generalize pmax f hd (R.tail.take (k - 1)) = c at *
      generalize R.getD k 0 = a at *
      have hki : (k : Int) < m := by omega
      go_wp2_with fail
      refine (HC.out wr HD.out a c HK.out.1 HK.out.2).mono ?_
      rintro e w1 ⟨rfl, hd1⟩
      have d1 := (hd1.cell _).trans d0
      have HD1 := hide (HD.out.trans hd1)
      clear d0 HD hd1
      have hcm : ((cm (f a) (f c)) > 0) = (f c < f a) := by
        unfold cm
        split
        · simp; omega
        · split
          · simp; omega
          · simp; omega
      by_cases hac : f c < f a
      · have hcm2 : (cm (f a) (f c)) > 0 := by rw [hcm]; exact hac
        have HS2 : Hid (pmax f hd (R.tail.take k) = a) := hide (by rw [HS.out, if_pos hac])
        clear hcm hac HS
        generalize cm (f a) (f c) = z at *
        go_wp2
        go_roundw
        case rel => exact ⟨k + 1, by omega, by omega, by go_num, by rw [show k + 1 - 1 = k by omega, HS2.out], HD1⟩
        case measure => simp [RowKit.intOf]; omega
      · have hcm2 : ¬ (cm (f a) (f c)) > 0 := by rw [hcm]; exact hac
        have HS2 : Hid (pmax f hd (R.tail.take k) = c) := hide (by rw [HS.out, if_neg hac])
        clear hcm hac HS
        generalize cm (f a) (f c) = z at *
        go_wp2
        go_roundw
        case rel => exact ⟨k + 1, by omega, by omega, by go_num, by rw [show k + 1 - 1 = k by omega, HS2.out], HD1⟩
        case measure => simp [RowKit.intOf]; omega
    · obtain rfl : k = m := by omega
      rw [HTf.out]
      go_wp2
      go_ret
      exact ⟨rfl, HD.out⟩
end
end Go.Proofs.Ytngmnlmagbfijab
