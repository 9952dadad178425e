import Derived.Test.YtngmnlmagbfijaaM6
import Derived.Test.YtngmnlmagbfijaaPX
namespace Go.Proofs.Ytngmnlmagbfijaa
open Go.RowKit
theorem prod_bd {c s : Int} (h1 : 0 ≤ c) (h2 : c ≤ 1048576) (h3 : 0 ≤ s) (h4 : s ≤ 840) : 0 ≤ c * s ∧ c * s ≤ 880803840 := by
  refine ⟨Int.mul_nonneg h1 h3, ?_⟩
  have := Int.mul_le_mul h2 h4 h3 (by omega : (0 : Int) ≤ 1048576)
  omega
/-- the same number, and each of the first in the second -/
def sm (R Q : List Int) : Bool := decide (R.length = Q.length ∧ ∀ r ∈ R, r ∈ Q)
theorem sm_in {R Q : List Int} (h : sm R Q = true) : ∀ r ∈ R, r ∈ Q := (of_decide_eq_true h).2
section
variable (w : World)
set_option maxRecDepth 100000 in
set_option maxHeartbeats 1000000 in
theorem sameSet_any (S : Nat → Prop) (v v2 : Value) (R Q : List Int) (hR : Rd S w v R) (hQ : Rd S w v2 Q) (hl : R.length ≤ 1048576) (hl2 : Q.length ≤ 1048576) :
    Calls Try.prog 16 #[v, v2] w fun e w' => e = .returned (.bool (sm R Q)) ∧ w' = w := by
  have HR := hide hR
  have HQ := hide hQ
  obtain ⟨ao, cap, rfl, hcap⟩ := hR.len
  obtain ⟨ao2, cap2, rfl, hcap2⟩ := hQ.len
  obtain ⟨m, hm⟩ : ∃ m, R.length = m := ⟨_, rfl⟩
  have HLn := hide hm
  obtain ⟨m2, hm2⟩ : ∃ m, Q.length = m := ⟨_, rfl⟩
  have HLn2 := hide hm2
  obtain ⟨res, hres⟩ : ∃ r, sm R Q = r := ⟨_, rfl⟩
  have HV : Hid ((m = m2 → (∀ r ∈ R, r ∈ Q) → res = true) ∧ (¬ m = m2 → res = false) ∧ (∀ r ∈ R, r ∉ Q → res = false)) := hide (by
    rw [← hres, ← hm, ← hm2]
    unfold sm
    refine ⟨fun h1 h2 => by simp only [decide_eq_true_eq]; exact ⟨h1, h2⟩, fun h => by simp only [decide_eq_false_iff_not]; exact fun h2 => h h2.1, fun r hr hq => by simp only [decide_eq_false_iff_not]; exact fun h2 => hq (h2.2 r hr)⟩)
  rw [hres]
  rw [hm] at hl hcap HR ⊢
  rw [hm2] at hl2 hcap2 HQ ⊢
  clear hR hQ hm hm2 hres
  by_cases heq : m = m2
  · subst heq
    go_enter Try.func16, Try.ntmps16
    go_upto_region 4 with fail
    go_loopw [5] (fun i wr => ∃ k : Nat, k ≤ m ∧ i = .int .i64 (k : Nat) ∧ Hid (∀ j, j < k → R.getD j 0 ∈ Q) ∧ wr = w) (fun i _ => m - (RowKit.intOf i).toNat)
    case atStart => exact ⟨0, by omega, rfl, hide (fun i hi => by omega), rfl⟩
    case round =>
      obtain ⟨k, hk, rfl, HD, rfl⟩ := hrel
      by_cases hlt : k < m
      · obtain ⟨x, rfl, _, hc⟩ := HR.out.some_of (by rw [HLn.out]; omega)
        have d0 := hc k (by rw [HLn.out]; omega)
        have hki : (k : Int) < m := by omega
        obtain ⟨b, hb⟩ : ∃ b, R.getD k 0 = b := ⟨_, rfl⟩
        have HB := hide hb
        rw [hb] at d0
        clear hc hb
        go_wp2_with fail
        refine (in_any wr S _ Q HQ.out (by rw [HLn2.out]; omega) b).mono ?_
        by_cases hin : b ∈ Q
        · rw [decide_eq_true hin]
          rintro e w1 ⟨rfl, rfl⟩
          have HD2 : Hid (∀ j, j < k + 1 → R.getD j 0 ∈ Q) := hide (fun j hj => by
            by_cases hjk : j = k
            · subst hjk; rw [HB.out]; exact hin
            · exact HD.out j (by omega))
          clear HD hin
          go_wp2
          go_roundw
          case rel => exact ⟨k + 1, by omega, by go_num, HD2, trivial⟩
          case measure => simp [RowKit.intOf]; omega
        · rw [decide_eq_false hin]
          have hmem : b ∈ R := by
            rw [← HB.out, List.getD_eq_getElem?_getD, List.getElem?_eq_getElem (by rw [HLn.out]; exact hlt), Option.getD_some]
            exact List.getElem_mem _
          have hr := HV.out.2.2 b hmem hin
          subst hr
          rintro e w1 ⟨rfl, rfl⟩
          clear hin hmem
          go_wp2
          go_ret
          exact ⟨rfl, rfl⟩
      · obtain rfl : k = m := by omega
        have hr := HV.out.1 (by first | trivial | rfl) (fun r hr => by
          obtain ⟨i, hi, rfl⟩ := List.getElem_of_mem hr
          have := HD.out i (by rw [← HLn.out]; exact hi)
          rwa [List.getD_eq_getElem?_getD, List.getElem?_eq_getElem hi, Option.getD_some] at this)
        subst hr
        go_wp2
        go_ret
        exact ⟨rfl, rfl⟩
  · have hne : ((m : Int) != m2) = true := by simp; omega
    have hr := HV.out.2.1 heq
    subst hr
    go_enter Try.func16, Try.ntmps16
    go_wp2
    go_ret
    exact ⟨rfl, rfl⟩
set_option maxRecDepth 100000 in
set_option maxHeartbeats 4000000 in
theorem measured_any (S : Nat → Prop) (v vc vt : Value) (R C : List Int) (T : List Sh) (hR : Rd S w v R) (hC : Rd S w vc C) (hT : ShR S w vt T) (hl : R.length ≤ 1048576) (hCl : C.length = R.length) (hTl : T.length ≤ 4194304) (hw : ∀ r ∈ R, 1 ≤ wOf T r ∧ wOf T r ≤ 8) (hc : ∀ c ∈ C, 0 ≤ c ∧ c ≤ 1048576)
    (hm : ∀ i k, i < R.length → k < R.length → C.getD i 0 * stp (wOf T (R.getD i 0)) - C.getD k 0 * stp (wOf T (R.getD k 0)) ≤ stp (wOf T (R.getD i 0)) + stp (wOf T (R.getD k 0)) ∧ -(stp (wOf T (R.getD i 0)) + stp (wOf T (R.getD k 0))) ≤ C.getD i 0 * stp (wOf T (R.getD i 0)) - C.getD k 0 * stp (wOf T (R.getD k 0))) :
    Calls Try.prog 17 #[v, vc, vt] w fun e w' => e = .returned (.bool true) ∧ Drews w w' := by
  have HR := hide hR
  have HC := hide hC
  have HT := hide hT
  have HM := hide hm
  clear hm
  have HW := hide hw
  have HCb := hide hc
  obtain ⟨ao, cap, rfl, hcap⟩ := hR.len
  obtain ⟨ao2, cap2, rfl, hcap2⟩ := hC.len
  obtain ⟨m, hm⟩ : ∃ m, R.length = m := ⟨_, rfl⟩
  have HLn := hide hm
  have HLc : Hid (C.length = m) := hide (by rw [hCl]; exact hm)
  have HTl := hide hTl
  rw [hCl] at hcap2 HC ⊢
  rw [hm] at hl hcap hcap2 HR HC ⊢
  clear hR hC hT hm hw hc hCl hTl
  have HAt : Hid (∀ i, i < m → R.getD i 0 ∈ R ∧ C.getD i 0 ∈ C) := hide (fun i hi => by
    rw [List.getD_eq_getElem?_getD, List.getD_eq_getElem?_getD, List.getElem?_eq_getElem (by rw [HLn.out]; exact hi), List.getElem?_eq_getElem (by rw [HLc.out]; exact hi), Option.getD_some, Option.getD_some]
    exact ⟨List.getElem_mem _, List.getElem_mem _⟩)
  go_enter Try.func17, Try.ntmps17
  go_upto_region 2 with fail
  go_loopw [7] (fun i wr => ∃ k : Nat, k ≤ m ∧ i = .int .i64 (k : Nat) ∧ Hid (Drews w wr)) (fun i _ => m - (RowKit.intOf i).toNat)
  case atStart => exact ⟨0, by omega, rfl, hide (Drews.refl _)⟩
  case round =>
    obtain ⟨i, hi, rfl, HD⟩ := hrel
    by_cases hlt : i < m
    · have hii : (i : Int) < m := by omega
      go_upto_region 5 with fail
      go_loopw [8] (fun j wr => ∃ k : Nat, k ≤ i ∧ j = .int .i64 (k : Nat) ∧ Hid (Drews w wr)) (fun j _ => i - (RowKit.intOf j).toNat)
      case atStart => exact ⟨0, by omega, rfl, HD⟩
      case round =>
        obtain ⟨k, hk, rfl, HDk⟩ := hrel
        clear HD
        by_cases hkl : k < i
        · have hkk : (k : Int) < i := by omega
          have hkm : (k : Int) < m := by omega
          have HT2 := hide (HT.out.keep (w' := wr) (fun b _ => by rw [HDk.out.heap]))
          obtain ⟨x, rfl, _, hx⟩ := (HR.out.keep (w' := wr) (fun b _ => by rw [HDk.out.heap])).some_of (by rw [HLn.out]; omega)
          obtain ⟨y, rfl, _, hy⟩ := (HC.out.keep (w' := wr) (fun b _ => by rw [HDk.out.heap])).some_of (by rw [HLc.out]; omega)
          have c1 := hx i (by rw [HLn.out]; omega)
          have c2 := hx k (by rw [HLn.out]; omega)
          have d1 := hy i (by rw [HLc.out]; omega)
          have d2 := hy k (by rw [HLc.out]; omega)
          obtain ⟨m1, m2⟩ := HM.out i k (by rw [HLn.out]; omega) (by rw [HLn.out]; omega)
          obtain ⟨a1, a2⟩ := HAt.out i hlt
          obtain ⟨b1, b2⟩ := HAt.out k (by omega)
          obtain ⟨w1l, w1h⟩ := HW.out _ a1
          obtain ⟨w2l, w2h⟩ := HW.out _ b1
          obtain ⟨e1l, e1h⟩ := HCb.out _ a2
          obtain ⟨e2l, e2h⟩ := HCb.out _ b2
          clear hx hy a1 a2 b1 b2
          generalize R.getD i 0 = r1 at *
          generalize R.getD k 0 = r2 at *
          generalize C.getD i 0 = q1 at *
          generalize C.getD k 0 = q2 at *
          have HC1 := hide (wOf_any wr S _ T HT2.out HTl.out r1)
          have HC2 := hide (wOf_any wr S _ T HT2.out HTl.out r2)
          generalize wOf T r1 = v1 at *
          generalize wOf T r2 = v2 at *
          have hq1 := quo_stp w1l w1h
          have hq2 := quo_stp w2l w2h
          have s1 := stp_bd w1l w1h
          have s2 := stp_bd w2l w2h
          generalize stp v1 = t1 at *
          generalize stp v2 = t2 at *
          have p1 := prod_bd e1l e1h (by omega) s1.2
          have p2 := prod_bd e2l e2h (by omega) s2.2
          obtain ⟨P1, hP1⟩ : ∃ P, q1 * t1 = P := ⟨_, rfl⟩
          obtain ⟨P2, hP2⟩ : ∃ P, q2 * t2 = P := ⟨_, rfl⟩
          rw [hP1] at p1 m1 m2
          rw [hP2] at p2 m1 m2
          obtain ⟨dd, hdd⟩ : ∃ d, P1 - P2 = d := ⟨_, rfl⟩
          obtain ⟨ss, hss⟩ : ∃ d, t1 + t2 = d := ⟨_, rfl⟩
          rw [hdd, hss] at m1 m2
          have g1 : IntKind.i64.wrap (q1 * t1) = P1 := by rw [hP1]; exact wi _ (by omega) (by omega)
          have g2 : IntKind.i64.wrap (q2 * t2) = P2 := by rw [hP2]; exact wi _ (by omega) (by omega)
          have g3 : IntKind.i64.wrap (P1 - P2) = dd := by rw [hdd]; exact wi _ (by omega) (by omega)
          have g4 : IntKind.i64.wrap (t1 + t2) = ss := by rw [hss]; exact wi _ (by omega) (by omega)
          have g5 : IntKind.i64.wrap (-ss) = -ss := wi _ (by omega) (by omega)
          have z1 : decide (v1 < 1) = false := by simpa using w1l
          have z2 : decide (v2 < 1) = false := by simpa using w2l
          have z3 : decide (8 < v1) = false := by simpa using w1h
          have z4 : decide (8 < v2) = false := by simpa using w2h
          have z5 : decide (ss < dd) = false := by simpa using m1
          have z6 : decide (dd < -ss) = false := by simpa using m2
          clear hP1 hP2 hdd hss p1 p2 HT2
          go_wp2_with fail
          refine HC1.out.mono ?_
          rintro e w5 ⟨rfl, rfl⟩
          go_wp2_with fail
          refine HC2.out.mono ?_
          rintro e w5 ⟨rfl, rfl⟩
          go_upto_region 11 with fail
          go_quiet (fail)
          have HD1 : Hid (Drews w (w5.drewN nq)) := hide (HDk.out.trans ⟨nq, rfl⟩)
          go_upto_region 12 with fail
          go_quiet (fail)
          have HD2 := hide (HD1.out.trans (⟨nq, rfl⟩ : Drews _ (World.drewN _ nq)))
          go_wp2
          go_roundw
          case rel => exact ⟨k + 1, by omega, by go_num, hide (by have h := HD2.out; simpa using h)⟩
          case measure => simp [RowKit.intOf]; omega
        · obtain rfl : k = i := by omega
          go_wp2
          go_roundw
          case rel => exact ⟨k + 1, by omega, by go_num, HDk⟩
          case measure => simp [RowKit.intOf]; omega
    · obtain rfl : i = m := by omega
      go_wp2
      go_ret
      exact ⟨rfl, HD.out⟩
end
end Go.Proofs.Ytngmnlmagbfijaa
