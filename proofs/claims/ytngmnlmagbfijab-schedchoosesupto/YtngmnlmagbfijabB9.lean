import Derived.Test.YtngmnlmagbfijabB8
namespace Go.Proofs.Ytngmnlmagbfijab
open Go.RowKit
section
variable (w : World)
/-- may one be chosen of a sorted list? -/
def mayF (R : List Int) : Int := if R = [] then 91 else if R.headD 0 < 1 then 1 else if R.Nodup then 0 else 1
theorem adj_nodup {R : List Int} (h : R.Pairwise (fun a b => a ≤ b)) : R.Nodup ↔ ∀ i, i + 1 < R.length → R.getD (i + 1) 0 ≠ R.getD i 0 := by
  constructor
  · intro hn i hi
    rw [List.getD_eq_getElem?_getD, List.getD_eq_getElem?_getD, List.getElem?_eq_getElem hi, List.getElem?_eq_getElem (by omega), Option.getD_some, Option.getD_some]
    have := (List.pairwise_iff_getElem.1 hn) i (i + 1) (by omega) hi (by omega)
    exact fun e => this e.symm
  · intro ha
    rw [List.Nodup, List.pairwise_iff_getElem]
    intro i j hi hj hij e
    have h1 := ha i (by omega)
    rw [List.getD_eq_getElem?_getD, List.getD_eq_getElem?_getD, List.getElem?_eq_getElem (show i + 1 < R.length by omega), List.getElem?_eq_getElem hi, Option.getD_some, Option.getD_some] at h1
    have h2 := (List.pairwise_iff_getElem.1 h) i (i + 1) hi (by omega) (by omega)
    have h3 : R[i + 1]'(by omega) ≤ R[j] := by
      rcases Nat.eq_or_lt_of_le (show i + 1 ≤ j by omega) with h5 | h5
      · subst h5; exact Int.le_refl _
      · exact (List.pairwise_iff_getElem.1 h) (i + 1) j (by omega) hj h5
    omega
set_option maxRecDepth 100000 in
set_option maxHeartbeats 1000000 in
theorem may_any (S : Nat → Prop) (v : Value) (R : List Int) (hR : Rd S w v R) (hs : R.Pairwise (fun a b => a ≤ b)) (hl : R.length ≤ 1048576) : Calls Try.prog 23 #[v] w fun e w' => e = .returned (.int .i64 (mayF R)) ∧ w' = w := by
  have HR := hide hR
  obtain ⟨ao, cap, rfl, hcap⟩ := hR.len
  obtain ⟨m, hm⟩ : ∃ m, R.length = m := ⟨_, rfl⟩
  have HLn := hide hm
  have hadj := adj_nodup hs
  rw [hm] at hl hcap HR ⊢
  clear hR
  by_cases h0 : m = 0
  · subst h0
    have : R = [] := List.eq_nil_of_length_eq_zero hm
    have hmay : mayF R = 91 := by unfold mayF; rw [if_pos this]
    rw [hmay]
    clear hm hmay
    go_enter Try.func23, Try.ntmps23
    go_wp2
    go_ret
    exact ⟨rfl, rfl⟩
  obtain ⟨x, rfl, hS, hc⟩ := HR.out.some_of (by omega)
  have c0 := hc 0 (by omega)
  rw [show x.add 0 = x by simp [Addr.add]] at c0
  have hne : R ≠ [] := fun e => by rw [e] at hm; simp at hm; omega
  have hh : R.getD 0 0 = R.headD 0 := by cases R <;> rfl
  rw [hh] at c0
  have HC := hide hc
  have hm0 : (m : Int) ≠ 0 := by omega
  have hm1 : ((m : Int) == 0) = false := by simp; omega
  have hmp : (0 : Int) < m := by omega
  generalize hH : R.headD 0 = h at *
  have hmay : mayF R = if h < 1 then 1 else if R.Nodup then 0 else 1 := by unfold mayF; rw [if_neg hne, hH]
  rw [hmay]
  clear hc hmay hm hh
  by_cases h1 : h < 1
  · rw [if_pos h1]
    clear hadj hs hH hne
    go_enter Try.func23, Try.ntmps23
    go_wp2
    go_ret
    exact ⟨rfl, rfl⟩
  rw [if_neg h1]
  have HA := hide hadj
  clear hadj hs hH hne
  have hslice : (1 : Int) ≤ m := by omega
  by_cases hc1 : cap = 1
  · subst hc1
    obtain rfl : m = 1 := by omega
    have hN : R.Nodup := HA.out.2 (fun i hi => by have := HLn.out; omega)
    rw [if_pos hN]
    go_enter Try.func23, Try.ntmps23
    go_upto_region 6 with fail
    go_loopw [15] (fun i wr => i = .int .i64 0 ∧ wr = w) (fun _ _ => 0)
    case atStart => exact ⟨rfl, rfl⟩
    case round =>
      obtain ⟨rfl, rfl⟩ := hrel
      go_wp2
      go_ret
      exact ⟨rfl, rfl⟩
  obtain ⟨res, hres⟩ : ∃ r : Int, (if R.Nodup then 0 else 1) = r := ⟨_, rfl⟩
  have HV : Hid ((R.Nodup → res = 0) ∧ (¬ R.Nodup → res = 1)) := hide ⟨fun h => by rw [← hres, if_pos h], fun h => by rw [← hres, if_neg h]⟩
  rw [hres]
  clear hres
  go_enter Try.func23, Try.ntmps23
  go_upto_region 6 with fail
  go_loopw [15] (fun i wr => ∃ k : Nat, k + 1 ≤ m ∧ i = .int .i64 (k : Nat) ∧ Hid (∀ i, i < k → R.getD (i + 1) 0 ≠ R.getD i 0) ∧ wr = w) (fun i _ => m - (RowKit.intOf i).toNat)
  case atStart => exact ⟨0, by omega, rfl, hide (fun i hi => by omega), rfl⟩
  case round =>
    obtain ⟨k, hk, rfl, HD, rfl⟩ := hrel
    by_cases hlt : k + 1 < m
    · have d1 := HC.out (k + 1) (by rw [HLn.out]; omega)
      have d0 := HC.out k (by rw [HLn.out]; omega)
      rw [show x.add (k + 1) = (⟨x.block, x.off + 1 + k, none⟩ : Addr) by simp [Addr.add]; omega] at d1
      have hki : (k : Int) < (m : Int) - 1 := by omega
      have hki2 : (k : Int) < ((m - 1 : Nat) : Int) := by omega
      have hkm : (k : Int) < m := by omega
      have HE : Hid (∀ a b, R.getD (k + 1) 0 = a → R.getD k 0 = b → (a = b → ¬ R.Nodup) ∧ (a ≠ b → ∀ i, i < k + 1 → R.getD (i + 1) 0 ≠ R.getD i 0)) := hide (by
        intro a b ha hb
        refine ⟨fun e hn => ?_, fun e i hi => ?_⟩
        · exact HA.out.1 hn k (by rw [HLn.out]; omega) (by rw [ha, hb, e])
        · by_cases hik : i = k
          · subst hik; rw [ha, hb]; exact e
          · exact HD.out i (by omega))
      obtain ⟨a, ha⟩ : ∃ a, R.getD (k + 1) 0 = a := ⟨_, rfl⟩
      obtain ⟨b, hb⟩ : ∃ b, R.getD k 0 = b := ⟨_, rfl⟩
      have HE2 := hide (HE.out a b ha hb)
      rw [ha] at d1
      rw [hb] at d0
      clear ha hb HE HD c0
      by_cases hab : a = b
      · subst hab
        have hN := HE2.out.1 rfl
        go_wp2
        go_ret
        exact ⟨by rw [HV.out.2 hN]; rfl, rfl⟩
      · have hab2 : (a == b) = false := by simpa using hab
        have HF := hide (HE2.out.2 hab)
        go_wp2
        go_roundw
        case rel => exact ⟨k + 1, by omega, by go_num, HF, trivial⟩
        case measure => simp [RowKit.intOf]; omega
    · have hki : ¬ (k : Int) < (m : Int) - 1 := by omega
      have hN : R.Nodup := HA.out.2 (fun i hi => HD.out i (by have := HLn.out; omega))
      go_wp2
      go_ret
      exact ⟨by rw [HV.out.1 hN]; rfl, rfl⟩
end
end Go.Proofs.Ytngmnlmagbfijab
