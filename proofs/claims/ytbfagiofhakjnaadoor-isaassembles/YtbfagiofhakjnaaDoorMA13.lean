import Derived.Test.YtbfagiofhakjnaaDoorMA11
import Derived.Test.YtbfagiofhakjnaaDoorMA12
namespace Go.Proofs.YtbfagiofhakjnaaDoor
open Go.RowKit
/-- may it stand for a number from lo to hi, or for a label -/
def fok (s : Tx) (lo hi : Int) (lab : Bool) : Bool := match numT s with
  | some n => decide (lo ≤ n) && decide (n ≤ hi)
  | none => lab && isLbl s
def SR (W : World) (ao : Option Addr) (fs : List Tx) : Prop := ∀ j (h : j < fs.length), ∃ a : Addr, ao = some a ∧ W.cell? (a.add j) = some (.string ⟨fs[j].toArray⟩)
/-- has a statement of that name these fields, and how many words does it give -/
def frm (name : Tx) (fs : List Tx) : Int × Bool :=
  if name = [46, 119, 111, 114, 100] then (1, fs.length == 1 && fok (fs.getD 0 []) (-2147483648) 4294967295 true)
  else if name = [46, 122, 101, 114, 111] then (if (fs.length == 1 && fok (fs.getD 0 []) 0 512 false) = true then ((numT (fs.getD 0 [])).getD 0, true) else (0, false))
  else if opT name = 0 then (0, false)
  else if (fs.length == (kinds (opT name)).length && (!uA (opT name) || isReg (fs.getD 0 [])) && (!uB (opT name) || isReg (fs.getD 1 []))) = true then (1, kd (opT name) == 0 || fok (fs.getD ((kinds (opT name)).length - 1) []) (lo (kd (opT name))) (hi (kd (opT name))) true)
  else (0, false)
section
variable (w : World)
set_option maxRecDepth 100000 in
theorem fieldOK_any (s : Tx) (lo hi : Int) (lab : Bool) (hl : s.length ≤ 16384) : Calls Tryd.prog 35 #[.string ⟨s.toArray⟩, .int .i64 lo, .int .i64 hi, .bool lab] w fun e w' => e = .returned (.bool (fok s lo hi lab)) ∧ w' = w := by
  have HVv := hide (value_any w s hl)
  have HLb := hide (isLabelD_any w s hl)
  cases hn : numT s with
  | some n =>
    rw [hn] at HVv
    by_cases h1 : lo ≤ n
    · have HV : Hid (fok s lo hi lab = decide (n ≤ hi)) := hide (by unfold fok; rw [hn]; simp [h1])
      clear hn
      go_enter Tryd.func35, Tryd.ntmps35
      go_wp2_with fail
      refine HVv.out.mono ?_
      rintro e w1 ⟨rfl, rfl⟩
      go_wp2
      go_ret
      exact ⟨by rw [HV.out]; rfl, rfl⟩
    · have HV : Hid (fok s lo hi lab = false) := hide (by unfold fok; rw [hn]; simp [h1])
      clear hn
      go_enter Tryd.func35, Tryd.ntmps35
      go_wp2_with fail
      refine HVv.out.mono ?_
      rintro e w1 ⟨rfl, rfl⟩
      go_wp2
      go_ret
      exact ⟨by rw [HV.out]; rfl, rfl⟩
  | none =>
    rw [hn] at HVv
    cases lab with
    | false =>
      have HV : Hid (fok s lo hi false = false) := hide (by unfold fok; rw [hn]; rfl)
      clear hn
      go_enter Tryd.func35, Tryd.ntmps35
      go_wp2_with fail
      refine HVv.out.mono ?_
      rintro e w1 ⟨rfl, rfl⟩
      go_wp2
      go_ret
      exact ⟨by rw [HV.out]; rfl, rfl⟩
    | true =>
      have HV : Hid (fok s lo hi true = isLbl s) := hide (by unfold fok; rw [hn]; rfl)
      clear hn
      go_enter Tryd.func35, Tryd.ntmps35
      go_wp2_with fail
      refine HVv.out.mono ?_
      rintro e w1 ⟨rfl, rfl⟩
      go_wp2_with fail
      refine HLb.out.mono ?_
      rintro e w1 ⟨rfl, rfl⟩
      go_wp2
      go_ret
      exact ⟨by rw [HV.out]; rfl, rfl⟩
theorem truthD_any (b : Bool) : Calls Tryd.prog 36 #[.bool b] w fun e w' => e = .returned (.int .i64 (if b then 1 else 0)) ∧ w' = w := by
  cases b with
  | true =>
    go_enter Tryd.func36, Tryd.ntmps36
    go_wp2
    go_ret
    exact ⟨rfl, rfl⟩
  | false =>
    go_enter Tryd.func36, Tryd.ntmps36
    go_wp2
    go_ret
    exact ⟨rfl, rfl⟩
theorem combos (n : Nat) (h1 : 1 ≤ n) (h2 : n < 27) : (uA n = false ∧ uB n = false ∧ kd n = 0) ∨ (uA n = false ∧ uB n = false ∧ kd n = 1) ∨ (uA n = false ∧ uB n = false ∧ kd n = 2) ∨ (uA n = true ∧ uB n = false ∧ kd n = 0) ∨ (uA n = true ∧ uB n = false ∧ kd n = 1) ∨ (uA n = true ∧ uB n = false ∧ kd n = 2) ∨ (uA n = true ∧ uB n = true ∧ kd n = 0) ∨ (uA n = true ∧ uB n = true ∧ kd n = 2) := by
  have h : ∀ k : Fin 27, k.val ≠ 0 → (uA k.val = false ∧ uB k.val = false ∧ kd k.val = 0) ∨ (uA k.val = false ∧ uB k.val = false ∧ kd k.val = 1) ∨ (uA k.val = false ∧ uB k.val = false ∧ kd k.val = 2) ∨ (uA k.val = true ∧ uB k.val = false ∧ kd k.val = 0) ∨ (uA k.val = true ∧ uB k.val = false ∧ kd k.val = 1) ∨ (uA k.val = true ∧ uB k.val = false ∧ kd k.val = 2) ∨ (uA k.val = true ∧ uB k.val = true ∧ kd k.val = 0) ∨ (uA k.val = true ∧ uB k.val = true ∧ kd k.val = 2) := by decide
  exact h ⟨n, h2⟩ (by show n ≠ 0; omega)
theorem addr0 (x : Addr) : x.add 0 = x := by cases x; unfold Addr.add; split <;> simp_all
theorem addr1 (x : Addr) : x.add 1 = ⟨x.block, x.off + 1, none⟩ := by simp [Addr.add]
theorem addr2 (x : Addr) : x.add 2 = ⟨x.block, x.off + 2, none⟩ := by simp [Addr.add]
theorem len2 {fs : List Tx} (h : fs.length = 2) : ∃ f g, fs = [f, g] := by
  match fs, h with
  | [f, g], _ => exact ⟨f, g, rfl⟩
theorem len3 {fs : List Tx} (h : fs.length = 3) : ∃ f g k, fs = [f, g, k] := by
  match fs, h with
  | [f, g, k], _ => exact ⟨f, g, k, rfl⟩
set_option maxRecDepth 100000 in
set_option maxHeartbeats 2000000 in
theorem formed_word (name : Tx) (ao : Option Addr) (cap : Nat) (fs : List Tx) (hn : name = [46, 119, 111, 114, 100]) (hf : ∀ f ∈ fs, f.length ≤ 16384) (hfl : fs.length ≤ 16385) (hR : SR w ao fs) : Calls Tryd.prog 21 #[.string ⟨name.toArray⟩, .slice ao fs.length cap] w fun e w' => e = .returned (.tuple #[.int .i64 (frm name fs).1, .bool (frm name fs).2]) ∧ w' = w := by
  subst hn
  by_cases h1 : fs.length = 1
  · obtain ⟨f, rfl⟩ : ∃ f, fs = [f] := List.length_eq_one_iff.1 h1
    obtain ⟨a, rfl, c0⟩ := hR 0 (by simp)
    have HO := hide (fieldOK_any w f (-2147483648) 4294967295 true (hf f (by simp)))
    have HV : Hid (frm [46, 119, 111, 114, 100] [f] = (1, fok f (-2147483648) 4294967295 true)) := hide (by unfold frm; rw [if_pos rfl]; rfl)
    have c1 : w.cell? a = some (.string ⟨f.toArray⟩) := by rw [← addr0 a]; exact c0
    clear hf hfl hR h1 c0
    go_enter Tryd.func21, Tryd.ntmps21
    go_wp2_with fail
    refine HO.out.mono ?_
    rintro e w1 ⟨rfl, rfl⟩
    go_wp2
    go_ret2
    exact ⟨by rw [HV.out]; rfl, rfl⟩
  · have hb : ((fs.length : Int) == 1) = false := by rw [beq_eq_false_iff_ne]; omega
    have hc : ¬ (fs.length : Int) = 1 := by omega
    have HV : Hid (frm [46, 119, 111, 114, 100] fs = (1, false)) := hide (by unfold frm; rw [if_pos rfl, beq_eq_false_iff_ne.2 h1]; rfl)
    clear hf hfl hR
    go_enter Tryd.func21, Tryd.ntmps21
    go_wp2
    go_ret2
    exact ⟨by rw [HV.out]; rfl, rfl⟩
set_option maxRecDepth 100000 in
set_option maxHeartbeats 2000000 in
theorem formed_zero (name : Tx) (ao : Option Addr) (cap : Nat) (fs : List Tx) (hn : name = [46, 122, 101, 114, 111]) (hf : ∀ f ∈ fs, f.length ≤ 16384) (hfl : fs.length ≤ 16385) (hR : SR w ao fs) : Calls Tryd.prog 21 #[.string ⟨name.toArray⟩, .slice ao fs.length cap] w fun e w' => e = .returned (.tuple #[.int .i64 (frm name fs).1, .bool (frm name fs).2]) ∧ w' = w := by
  subst hn
  by_cases h1 : fs.length = 1
  · obtain ⟨f, rfl⟩ : ∃ f, fs = [f] := List.length_eq_one_iff.1 h1
    obtain ⟨a, rfl, c0⟩ := hR 0 (by simp)
    have HO := hide (fieldOK_any w f 0 512 false (hf f (by simp)))
    have HVv := hide (value_any w f (hf f (by simp)))
    have c1 : w.cell? a = some (.string ⟨f.toArray⟩) := by rw [← addr0 a]; exact c0
    cases hk : fok f 0 512 false with
    | true =>
      rw [hk] at HO
      have HV : Hid (frm [46, 122, 101, 114, 111] [f] = ((numT f).getD 0, true)) := hide (by unfold frm; rw [if_neg (by decide), if_pos rfl, if_pos (by show ((1 : Nat) == 1 && fok f 0 512 false) = true; rw [hk]; rfl)]; rfl)
      clear hf hfl hR h1 c0 hk
      go_enter Tryd.func21, Tryd.ntmps21
      go_wp2_with fail
      refine HO.out.mono ?_
      rintro e w1 ⟨rfl, rfl⟩
      go_wp2_with fail
      refine HVv.out.mono ?_
      rintro e w1 ⟨rfl, rfl⟩
      go_wp2
      go_ret2
      exact ⟨by rw [HV.out]; rfl, rfl⟩
    | false =>
      rw [hk] at HO
      have HV : Hid (frm [46, 122, 101, 114, 111] [f] = (0, false)) := hide (by unfold frm; rw [if_neg (by decide), if_pos rfl, if_neg (by show ¬ ((1 : Nat) == 1 && fok f 0 512 false) = true; rw [hk]; decide)])
      clear hf hfl hR h1 c0 hk
      go_enter Tryd.func21, Tryd.ntmps21
      go_wp2_with fail
      refine HO.out.mono ?_
      rintro e w1 ⟨rfl, rfl⟩
      go_wp2
      go_ret2
      exact ⟨by rw [HV.out]; rfl, rfl⟩
  · have hb : ((fs.length : Int) == 1) = false := by rw [beq_eq_false_iff_ne]; omega
    have hc : ¬ (fs.length : Int) = 1 := by omega
    have HV : Hid (frm [46, 122, 101, 114, 111] fs = (0, false)) := hide (by unfold frm; rw [if_neg (by decide), if_pos rfl, beq_eq_false_iff_ne.2 h1]; rfl)
    clear hf hfl hR
    go_enter Tryd.func21, Tryd.ntmps21
    go_wp2
    go_ret2
    exact ⟨by rw [HV.out]; rfl, rfl⟩
set_option maxRecDepth 100000 in
set_option maxHeartbeats 2000000 in
theorem formed_000 (name : Tx) (ao : Option Addr) (cap : Nat) (fs : List Tx) (n : Nat) (hW : ¬ name = [46, 119, 111, 114, 100]) (hZ : ¬ name = [46, 122, 101, 114, 111]) (ho : opT name = n) (hn1 : 1 ≤ n) (hn2 : n < 27) (hA : uA n = false) (hB : uB n = false) (hK : kd n = 0) (hf : ∀ f ∈ fs, f.length ≤ 16384) (hfl : fs.length ≤ 16385) (hR : SR w ao fs) (hNm : Nms w) : Calls Tryd.prog 21 #[.string ⟨name.toArray⟩, .slice ao fs.length cap] w fun e w' => e = .returned (.tuple #[.int .i64 (frm name fs).1, .bool (frm name fs).2]) ∧ w' = w := by
  have HOp := hide (opOf_any w name hNm)
  rw [ho] at HOp
  have nW : (name == [46, 119, 111, 114, 100]) = false := by rw [beq_eq_false_iff_ne]; exact hW
  have nZ : (name == [46, 122, 101, 114, 111]) = false := by rw [beq_eq_false_iff_ne]; exact hZ
  have n0 : ((n : Int) == 0) = false := by rw [beq_eq_false_iff_ne]; omega
  clear hNm
  have hKn : (kinds n).length = 0 := by unfold kinds; rw [hA, hB, hK]; rfl
  have HS := hide (shape_in w n hn2)
  have ekr : kr n = 0 := by unfold kr; rw [hK]; rfl
  rw [hA, hB, ekr] at HS
  by_cases hlen : fs.length = 0
  · obtain rfl : fs = [] := List.length_eq_zero_iff.1 hlen
    have HV : Hid (frm name [] = (1, true)) := hide (by unfold frm; rw [if_neg hW, if_neg hZ, if_neg (by rw [ho]; omega), ho, hA, hB, hK, hKn]; rw [if_pos (by simp)]; rfl)
    clear hf hfl hR hA hB hK hKn ekr ho hW hZ hn1 hn2 hlen
    go_enter Tryd.func21, Tryd.ntmps21
    go_wp2_with fail
    refine HOp.out.mono ?_
    rintro e w1 ⟨rfl, rfl⟩
    go_wp2_with fail
    refine HS.out.mono ?_
    rintro e w1 ⟨rfl, rfl⟩
    go_wp2_with fail
    refine (truthD_any _ false).mono ?_
    rintro e w1 ⟨rfl, rfl⟩
    go_wp2_with fail
    refine (truthD_any _ false).mono ?_
    rintro e w1 ⟨rfl, rfl⟩
    go_wp2_with fail
    refine (truthD_any _ false).mono ?_
    rintro e w1 ⟨rfl, rfl⟩
    go_wp2
    go_ret2
    exact ⟨by rw [HV.out]; rfl, rfl⟩
  · have hb : ((fs.length : Int) == 0) = false := by rw [beq_eq_false_iff_ne]; omega
    have HV : Hid (frm name fs = (0, false)) := hide (by unfold frm; rw [if_neg hW, if_neg hZ, if_neg (by rw [ho]; omega), ho, hA, hB, hK, hKn]; rw [beq_eq_false_iff_ne.2 hlen]; rfl)
    have hc : ¬ (fs.length : Int) = 0 := by omega
    have hne : ¬ fs = [] := fun e => hlen (by rw [e]; rfl)
    clear hf hfl hR hA hB hK hKn ekr ho hW hZ hn1 hn2
    go_enter Tryd.func21, Tryd.ntmps21
    go_wp2_with fail
    refine HOp.out.mono ?_
    rintro e w1 ⟨rfl, rfl⟩
    go_wp2_with fail
    refine HS.out.mono ?_
    rintro e w1 ⟨rfl, rfl⟩
    go_wp2_with fail
    refine (truthD_any _ false).mono ?_
    rintro e w1 ⟨rfl, rfl⟩
    go_wp2_with fail
    refine (truthD_any _ false).mono ?_
    rintro e w1 ⟨rfl, rfl⟩
    go_wp2_with fail
    refine (truthD_any _ false).mono ?_
    rintro e w1 ⟨rfl, rfl⟩
    go_wp2
    go_ret2
    exact ⟨by rw [HV.out]; rfl, rfl⟩
set_option maxRecDepth 100000 in
set_option maxHeartbeats 2000000 in
theorem formed_001 (name : Tx) (ao : Option Addr) (cap : Nat) (fs : List Tx) (n : Nat) (hW : ¬ name = [46, 119, 111, 114, 100]) (hZ : ¬ name = [46, 122, 101, 114, 111]) (ho : opT name = n) (hn1 : 1 ≤ n) (hn2 : n < 27) (hA : uA n = false) (hB : uB n = false) (hK : kd n = 1) (hf : ∀ f ∈ fs, f.length ≤ 16384) (hfl : fs.length ≤ 16385) (hR : SR w ao fs) (hNm : Nms w) : Calls Tryd.prog 21 #[.string ⟨name.toArray⟩, .slice ao fs.length cap] w fun e w' => e = .returned (.tuple #[.int .i64 (frm name fs).1, .bool (frm name fs).2]) ∧ w' = w := by
  have HOp := hide (opOf_any w name hNm)
  rw [ho] at HOp
  have nW : (name == [46, 119, 111, 114, 100]) = false := by rw [beq_eq_false_iff_ne]; exact hW
  have nZ : (name == [46, 122, 101, 114, 111]) = false := by rw [beq_eq_false_iff_ne]; exact hZ
  have n0 : ((n : Int) == 0) = false := by rw [beq_eq_false_iff_ne]; omega
  clear hNm
  have hKn : (kinds n).length = 1 := by unfold kinds; rw [hA, hB, hK]; rfl
  have HS := hide (shape_in w n hn2)
  have ekr : kr n = 2 := by unfold kr; rw [hK]; rfl
  rw [hA, hB, ekr] at HS
  by_cases hlen : fs.length = 1
  · obtain ⟨f, rfl⟩ : ∃ f, fs = [f] := List.length_eq_one_iff.1 hlen
    obtain ⟨x, rfl, c0⟩ := hR 0 (by simp)
    have d0 : w.cell? x = some (.string ⟨f.toArray⟩) := by rw [← addr0 x]; exact c0
    have HFk := hide (fieldOK_any w f 0 65535 true (hf f (by simp)))
    have HV : Hid (frm name [f] = (1, fok f 0 65535 true)) := hide (by unfold frm; rw [if_neg hW, if_neg hZ, if_neg (by rw [ho]; omega), ho, hA, hB, hK, hKn]; rw [if_pos (by simp)]; simp [lo, hi])
    clear hf hfl hR hA hB hK hKn ekr ho hW hZ hn1 hn2 hlen c0
    go_enter Tryd.func21, Tryd.ntmps21
    go_wp2_with fail
    refine HOp.out.mono ?_
    rintro e w1 ⟨rfl, rfl⟩
    go_wp2_with fail
    refine HS.out.mono ?_
    rintro e w1 ⟨rfl, rfl⟩
    go_wp2_with fail
    refine (truthD_any _ false).mono ?_
    rintro e w1 ⟨rfl, rfl⟩
    go_wp2_with fail
    refine (truthD_any _ false).mono ?_
    rintro e w1 ⟨rfl, rfl⟩
    go_wp2_with fail
    refine (truthD_any _ true).mono ?_
    rintro e w1 ⟨rfl, rfl⟩
    go_wp2_with fail
    refine HFk.out.mono ?_
    rintro e w1 ⟨rfl, rfl⟩
    go_wp2
    go_ret2
    exact ⟨by rw [HV.out]; rfl, rfl⟩
  · have hb : ((fs.length : Int) == 1) = false := by rw [beq_eq_false_iff_ne]; omega
    have HV : Hid (frm name fs = (0, false)) := hide (by unfold frm; rw [if_neg hW, if_neg hZ, if_neg (by rw [ho]; omega), ho, hA, hB, hK, hKn]; rw [beq_eq_false_iff_ne.2 hlen]; rfl)
    have hc : ¬ (fs.length : Int) = 1 := by omega
    clear hf hfl hR hA hB hK hKn ekr ho hW hZ hn1 hn2
    go_enter Tryd.func21, Tryd.ntmps21
    go_wp2_with fail
    refine HOp.out.mono ?_
    rintro e w1 ⟨rfl, rfl⟩
    go_wp2_with fail
    refine HS.out.mono ?_
    rintro e w1 ⟨rfl, rfl⟩
    go_wp2_with fail
    refine (truthD_any _ false).mono ?_
    rintro e w1 ⟨rfl, rfl⟩
    go_wp2_with fail
    refine (truthD_any _ false).mono ?_
    rintro e w1 ⟨rfl, rfl⟩
    go_wp2_with fail
    refine (truthD_any _ true).mono ?_
    rintro e w1 ⟨rfl, rfl⟩
    go_wp2
    go_ret2
    exact ⟨by rw [HV.out]; rfl, rfl⟩
set_option maxRecDepth 100000 in
set_option maxHeartbeats 2000000 in
theorem formed_002 (name : Tx) (ao : Option Addr) (cap : Nat) (fs : List Tx) (n : Nat) (hW : ¬ name = [46, 119, 111, 114, 100]) (hZ : ¬ name = [46, 122, 101, 114, 111]) (ho : opT name = n) (hn1 : 1 ≤ n) (hn2 : n < 27) (hA : uA n = false) (hB : uB n = false) (hK : kd n = 2) (hf : ∀ f ∈ fs, f.length ≤ 16384) (hfl : fs.length ≤ 16385) (hR : SR w ao fs) (hNm : Nms w) : Calls Tryd.prog 21 #[.string ⟨name.toArray⟩, .slice ao fs.length cap] w fun e w' => e = .returned (.tuple #[.int .i64 (frm name fs).1, .bool (frm name fs).2]) ∧ w' = w := by
  have HOp := hide (opOf_any w name hNm)
  rw [ho] at HOp
  have nW : (name == [46, 119, 111, 114, 100]) = false := by rw [beq_eq_false_iff_ne]; exact hW
  have nZ : (name == [46, 122, 101, 114, 111]) = false := by rw [beq_eq_false_iff_ne]; exact hZ
  have n0 : ((n : Int) == 0) = false := by rw [beq_eq_false_iff_ne]; omega
  clear hNm
  have hKn : (kinds n).length = 1 := by unfold kinds; rw [hA, hB, hK]; rfl
  have HS := hide (shape_in w n hn2)
  have ekr : kr n = 1 := by unfold kr; rw [hK]; rfl
  rw [hA, hB, ekr] at HS
  by_cases hlen : fs.length = 1
  · obtain ⟨f, rfl⟩ : ∃ f, fs = [f] := List.length_eq_one_iff.1 hlen
    obtain ⟨x, rfl, c0⟩ := hR 0 (by simp)
    have d0 : w.cell? x = some (.string ⟨f.toArray⟩) := by rw [← addr0 x]; exact c0
    have HFk := hide (fieldOK_any w f (-32768) 32767 true (hf f (by simp)))
    have HV : Hid (frm name [f] = (1, fok f (-32768) 32767 true)) := hide (by unfold frm; rw [if_neg hW, if_neg hZ, if_neg (by rw [ho]; omega), ho, hA, hB, hK, hKn]; rw [if_pos (by simp)]; simp [lo, hi])
    clear hf hfl hR hA hB hK hKn ekr ho hW hZ hn1 hn2 hlen c0
    go_enter Tryd.func21, Tryd.ntmps21
    go_wp2_with fail
    refine HOp.out.mono ?_
    rintro e w1 ⟨rfl, rfl⟩
    go_wp2_with fail
    refine HS.out.mono ?_
    rintro e w1 ⟨rfl, rfl⟩
    go_wp2_with fail
    refine (truthD_any _ false).mono ?_
    rintro e w1 ⟨rfl, rfl⟩
    go_wp2_with fail
    refine (truthD_any _ false).mono ?_
    rintro e w1 ⟨rfl, rfl⟩
    go_wp2_with fail
    refine (truthD_any _ true).mono ?_
    rintro e w1 ⟨rfl, rfl⟩
    go_wp2_with fail
    refine HFk.out.mono ?_
    rintro e w1 ⟨rfl, rfl⟩
    go_wp2
    go_ret2
    exact ⟨by rw [HV.out]; rfl, rfl⟩
  · have hb : ((fs.length : Int) == 1) = false := by rw [beq_eq_false_iff_ne]; omega
    have HV : Hid (frm name fs = (0, false)) := hide (by unfold frm; rw [if_neg hW, if_neg hZ, if_neg (by rw [ho]; omega), ho, hA, hB, hK, hKn]; rw [beq_eq_false_iff_ne.2 hlen]; rfl)
    have hc : ¬ (fs.length : Int) = 1 := by omega
    clear hf hfl hR hA hB hK hKn ekr ho hW hZ hn1 hn2
    go_enter Tryd.func21, Tryd.ntmps21
    go_wp2_with fail
    refine HOp.out.mono ?_
    rintro e w1 ⟨rfl, rfl⟩
    go_wp2_with fail
    refine HS.out.mono ?_
    rintro e w1 ⟨rfl, rfl⟩
    go_wp2_with fail
    refine (truthD_any _ false).mono ?_
    rintro e w1 ⟨rfl, rfl⟩
    go_wp2_with fail
    refine (truthD_any _ false).mono ?_
    rintro e w1 ⟨rfl, rfl⟩
    go_wp2_with fail
    refine (truthD_any _ true).mono ?_
    rintro e w1 ⟨rfl, rfl⟩
    go_wp2
    go_ret2
    exact ⟨by rw [HV.out]; rfl, rfl⟩
set_option maxRecDepth 100000 in
set_option maxHeartbeats 2000000 in
theorem formed_100 (name : Tx) (ao : Option Addr) (cap : Nat) (fs : List Tx) (n : Nat) (hW : ¬ name = [46, 119, 111, 114, 100]) (hZ : ¬ name = [46, 122, 101, 114, 111]) (ho : opT name = n) (hn1 : 1 ≤ n) (hn2 : n < 27) (hA : uA n = true) (hB : uB n = false) (hK : kd n = 0) (hf : ∀ f ∈ fs, f.length ≤ 16384) (hfl : fs.length ≤ 16385) (hR : SR w ao fs) (hNm : Nms w) : Calls Tryd.prog 21 #[.string ⟨name.toArray⟩, .slice ao fs.length cap] w fun e w' => e = .returned (.tuple #[.int .i64 (frm name fs).1, .bool (frm name fs).2]) ∧ w' = w := by
  have HOp := hide (opOf_any w name hNm)
  rw [ho] at HOp
  have nW : (name == [46, 119, 111, 114, 100]) = false := by rw [beq_eq_false_iff_ne]; exact hW
  have nZ : (name == [46, 122, 101, 114, 111]) = false := by rw [beq_eq_false_iff_ne]; exact hZ
  have n0 : ((n : Int) == 0) = false := by rw [beq_eq_false_iff_ne]; omega
  clear hNm
  have hKn : (kinds n).length = 1 := by unfold kinds; rw [hA, hB, hK]; rfl
  have HS := hide (shape_in w n hn2)
  have ekr : kr n = 0 := by unfold kr; rw [hK]; rfl
  rw [hA, hB, ekr] at HS
  by_cases hlen : fs.length = 1
  · obtain ⟨f, rfl⟩ : ∃ f, fs = [f] := List.length_eq_one_iff.1 hlen
    obtain ⟨x, rfl, c0⟩ := hR 0 (by simp)
    have d0 : w.cell? x = some (.string ⟨f.toArray⟩) := by rw [← addr0 x]; exact c0
    have HR0 := hide (isRegD_any w f (hf f (by simp)))
    cases r0 : isReg f with
    | true =>
      rw [r0] at HR0
      have HV : Hid (frm name [f] = (1, true)) := hide (by unfold frm; rw [if_neg hW, if_neg hZ, if_neg (by rw [ho]; omega), ho, hA, hB, hK, hKn]; rw [if_pos (by simp [r0])]; rfl)
      clear hf hfl hR hA hB hK hKn ekr ho hW hZ hn1 hn2 hlen c0
      go_enter Tryd.func21, Tryd.ntmps21
      go_wp2_with fail
      refine HOp.out.mono ?_
      rintro e w1 ⟨rfl, rfl⟩
      go_wp2_with fail
      refine HS.out.mono ?_
      rintro e w1 ⟨rfl, rfl⟩
      go_wp2_with fail
      refine (truthD_any _ true).mono ?_
      rintro e w1 ⟨rfl, rfl⟩
      go_wp2_with fail
      refine (truthD_any _ false).mono ?_
      rintro e w1 ⟨rfl, rfl⟩
      go_wp2_with fail
      refine (truthD_any _ false).mono ?_
      rintro e w1 ⟨rfl, rfl⟩
      go_wp2_with fail
      refine HR0.out.mono ?_
      rintro e w1 ⟨rfl, rfl⟩
      go_wp2
      go_ret2
      exact ⟨by rw [HV.out]; rfl, rfl⟩
    | false =>
      rw [r0] at HR0
      have HV : Hid (frm name [f] = (0, false)) := hide (by unfold frm; rw [if_neg hW, if_neg hZ, if_neg (by rw [ho]; omega), ho, hA, hB, hK, hKn]; rw [if_neg (by simp [r0])])
      clear hf hfl hR hA hB hK hKn ekr ho hW hZ hn1 hn2 hlen c0
      go_enter Tryd.func21, Tryd.ntmps21
      go_wp2_with fail
      refine HOp.out.mono ?_
      rintro e w1 ⟨rfl, rfl⟩
      go_wp2_with fail
      refine HS.out.mono ?_
      rintro e w1 ⟨rfl, rfl⟩
      go_wp2_with fail
      refine (truthD_any _ true).mono ?_
      rintro e w1 ⟨rfl, rfl⟩
      go_wp2_with fail
      refine (truthD_any _ false).mono ?_
      rintro e w1 ⟨rfl, rfl⟩
      go_wp2_with fail
      refine (truthD_any _ false).mono ?_
      rintro e w1 ⟨rfl, rfl⟩
      go_wp2_with fail
      refine HR0.out.mono ?_
      rintro e w1 ⟨rfl, rfl⟩
      go_wp2
      go_ret2
      exact ⟨by rw [HV.out]; rfl, rfl⟩
  · have hb : ((fs.length : Int) == 1) = false := by rw [beq_eq_false_iff_ne]; omega
    have HV : Hid (frm name fs = (0, false)) := hide (by unfold frm; rw [if_neg hW, if_neg hZ, if_neg (by rw [ho]; omega), ho, hA, hB, hK, hKn]; rw [beq_eq_false_iff_ne.2 hlen]; rfl)
    have hc : ¬ (fs.length : Int) = 1 := by omega
    clear hf hfl hR hA hB hK hKn ekr ho hW hZ hn1 hn2
    go_enter Tryd.func21, Tryd.ntmps21
    go_wp2_with fail
    refine HOp.out.mono ?_
    rintro e w1 ⟨rfl, rfl⟩
    go_wp2_with fail
    refine HS.out.mono ?_
    rintro e w1 ⟨rfl, rfl⟩
    go_wp2_with fail
    refine (truthD_any _ true).mono ?_
    rintro e w1 ⟨rfl, rfl⟩
    go_wp2_with fail
    refine (truthD_any _ false).mono ?_
    rintro e w1 ⟨rfl, rfl⟩
    go_wp2_with fail
    refine (truthD_any _ false).mono ?_
    rintro e w1 ⟨rfl, rfl⟩
    go_wp2
    go_ret2
    exact ⟨by rw [HV.out]; rfl, rfl⟩
set_option maxRecDepth 100000 in
set_option maxHeartbeats 2000000 in
theorem formed_101 (name : Tx) (ao : Option Addr) (cap : Nat) (fs : List Tx) (n : Nat) (hW : ¬ name = [46, 119, 111, 114, 100]) (hZ : ¬ name = [46, 122, 101, 114, 111]) (ho : opT name = n) (hn1 : 1 ≤ n) (hn2 : n < 27) (hA : uA n = true) (hB : uB n = false) (hK : kd n = 1) (hf : ∀ f ∈ fs, f.length ≤ 16384) (hfl : fs.length ≤ 16385) (hR : SR w ao fs) (hNm : Nms w) : Calls Tryd.prog 21 #[.string ⟨name.toArray⟩, .slice ao fs.length cap] w fun e w' => e = .returned (.tuple #[.int .i64 (frm name fs).1, .bool (frm name fs).2]) ∧ w' = w := by
  have HOp := hide (opOf_any w name hNm)
  rw [ho] at HOp
  have nW : (name == [46, 119, 111, 114, 100]) = false := by rw [beq_eq_false_iff_ne]; exact hW
  have nZ : (name == [46, 122, 101, 114, 111]) = false := by rw [beq_eq_false_iff_ne]; exact hZ
  have n0 : ((n : Int) == 0) = false := by rw [beq_eq_false_iff_ne]; omega
  clear hNm
  have hKn : (kinds n).length = 2 := by unfold kinds; rw [hA, hB, hK]; rfl
  have HS := hide (shape_in w n hn2)
  have ekr : kr n = 2 := by unfold kr; rw [hK]; rfl
  rw [hA, hB, ekr] at HS
  by_cases hlen : fs.length = 2
  · obtain ⟨f, g, rfl⟩ : ∃ f g, fs = [f, g] := len2 hlen
    obtain ⟨x, rfl, c0⟩ := hR 0 (by simp)
    have d0 : w.cell? x = some (.string ⟨f.toArray⟩) := by rw [← addr0 x]; exact c0
    obtain ⟨x1, ex1, c1⟩ := hR 1 (by simp)
    cases ex1
    have d1 : w.cell? ⟨x.block, x.off + 1, none⟩ = some (.string ⟨g.toArray⟩) := by rw [← addr1 x]; exact c1
    have HFk := hide (fieldOK_any w g 0 65535 true (hf g (by simp)))
    have HR0 := hide (isRegD_any w f (hf f (by simp)))
    cases r0 : isReg f with
    | true =>
      rw [r0] at HR0
      have HV : Hid (frm name [f, g] = (1, fok g 0 65535 true)) := hide (by unfold frm; rw [if_neg hW, if_neg hZ, if_neg (by rw [ho]; omega), ho, hA, hB, hK, hKn]; rw [if_pos (by simp [r0])]; simp [lo, hi])
      clear hf hfl hR hA hB hK hKn ekr ho hW hZ hn1 hn2 hlen c0 c1
      go_enter Tryd.func21, Tryd.ntmps21
      go_wp2_with fail
      refine HOp.out.mono ?_
      rintro e w1 ⟨rfl, rfl⟩
      go_wp2_with fail
      refine HS.out.mono ?_
      rintro e w1 ⟨rfl, rfl⟩
      go_wp2_with fail
      refine (truthD_any _ true).mono ?_
      rintro e w1 ⟨rfl, rfl⟩
      go_wp2_with fail
      refine (truthD_any _ false).mono ?_
      rintro e w1 ⟨rfl, rfl⟩
      go_wp2_with fail
      refine (truthD_any _ true).mono ?_
      rintro e w1 ⟨rfl, rfl⟩
      go_wp2_with fail
      refine HR0.out.mono ?_
      rintro e w1 ⟨rfl, rfl⟩
      go_wp2_with fail
      refine HFk.out.mono ?_
      rintro e w1 ⟨rfl, rfl⟩
      go_wp2
      go_ret2
      exact ⟨by rw [HV.out]; rfl, rfl⟩
    | false =>
      rw [r0] at HR0
      have HV : Hid (frm name [f, g] = (0, false)) := hide (by unfold frm; rw [if_neg hW, if_neg hZ, if_neg (by rw [ho]; omega), ho, hA, hB, hK, hKn]; rw [if_neg (by simp [r0])])
      clear hf hfl hR hA hB hK hKn ekr ho hW hZ hn1 hn2 hlen c0 c1
      go_enter Tryd.func21, Tryd.ntmps21
      go_wp2_with fail
      refine HOp.out.mono ?_
      rintro e w1 ⟨rfl, rfl⟩
      go_wp2_with fail
      refine HS.out.mono ?_
      rintro e w1 ⟨rfl, rfl⟩
      go_wp2_with fail
      refine (truthD_any _ true).mono ?_
      rintro e w1 ⟨rfl, rfl⟩
      go_wp2_with fail
      refine (truthD_any _ false).mono ?_
      rintro e w1 ⟨rfl, rfl⟩
      go_wp2_with fail
      refine (truthD_any _ true).mono ?_
      rintro e w1 ⟨rfl, rfl⟩
      go_wp2_with fail
      refine HR0.out.mono ?_
      rintro e w1 ⟨rfl, rfl⟩
      go_wp2
      go_ret2
      exact ⟨by rw [HV.out]; rfl, rfl⟩
  · have hb : ((fs.length : Int) == 2) = false := by rw [beq_eq_false_iff_ne]; omega
    have HV : Hid (frm name fs = (0, false)) := hide (by unfold frm; rw [if_neg hW, if_neg hZ, if_neg (by rw [ho]; omega), ho, hA, hB, hK, hKn]; rw [beq_eq_false_iff_ne.2 hlen]; rfl)
    have hc : ¬ (fs.length : Int) = 2 := by omega
    clear hf hfl hR hA hB hK hKn ekr ho hW hZ hn1 hn2
    go_enter Tryd.func21, Tryd.ntmps21
    go_wp2_with fail
    refine HOp.out.mono ?_
    rintro e w1 ⟨rfl, rfl⟩
    go_wp2_with fail
    refine HS.out.mono ?_
    rintro e w1 ⟨rfl, rfl⟩
    go_wp2_with fail
    refine (truthD_any _ true).mono ?_
    rintro e w1 ⟨rfl, rfl⟩
    go_wp2_with fail
    refine (truthD_any _ false).mono ?_
    rintro e w1 ⟨rfl, rfl⟩
    go_wp2_with fail
    refine (truthD_any _ true).mono ?_
    rintro e w1 ⟨rfl, rfl⟩
    go_wp2
    go_ret2
    exact ⟨by rw [HV.out]; rfl, rfl⟩
set_option maxRecDepth 100000 in
set_option maxHeartbeats 2000000 in
theorem formed_102 (name : Tx) (ao : Option Addr) (cap : Nat) (fs : List Tx) (n : Nat) (hW : ¬ name = [46, 119, 111, 114, 100]) (hZ : ¬ name = [46, 122, 101, 114, 111]) (ho : opT name = n) (hn1 : 1 ≤ n) (hn2 : n < 27) (hA : uA n = true) (hB : uB n = false) (hK : kd n = 2) (hf : ∀ f ∈ fs, f.length ≤ 16384) (hfl : fs.length ≤ 16385) (hR : SR w ao fs) (hNm : Nms w) : Calls Tryd.prog 21 #[.string ⟨name.toArray⟩, .slice ao fs.length cap] w fun e w' => e = .returned (.tuple #[.int .i64 (frm name fs).1, .bool (frm name fs).2]) ∧ w' = w := by
  have HOp := hide (opOf_any w name hNm)
  rw [ho] at HOp
  have nW : (name == [46, 119, 111, 114, 100]) = false := by rw [beq_eq_false_iff_ne]; exact hW
  have nZ : (name == [46, 122, 101, 114, 111]) = false := by rw [beq_eq_false_iff_ne]; exact hZ
  have n0 : ((n : Int) == 0) = false := by rw [beq_eq_false_iff_ne]; omega
  clear hNm
  have hKn : (kinds n).length = 2 := by unfold kinds; rw [hA, hB, hK]; rfl
  have HS := hide (shape_in w n hn2)
  have ekr : kr n = 1 := by unfold kr; rw [hK]; rfl
  rw [hA, hB, ekr] at HS
  by_cases hlen : fs.length = 2
  · obtain ⟨f, g, rfl⟩ : ∃ f g, fs = [f, g] := len2 hlen
    obtain ⟨x, rfl, c0⟩ := hR 0 (by simp)
    have d0 : w.cell? x = some (.string ⟨f.toArray⟩) := by rw [← addr0 x]; exact c0
    obtain ⟨x1, ex1, c1⟩ := hR 1 (by simp)
    cases ex1
    have d1 : w.cell? ⟨x.block, x.off + 1, none⟩ = some (.string ⟨g.toArray⟩) := by rw [← addr1 x]; exact c1
    have HFk := hide (fieldOK_any w g (-32768) 32767 true (hf g (by simp)))
    have HR0 := hide (isRegD_any w f (hf f (by simp)))
    cases r0 : isReg f with
    | true =>
      rw [r0] at HR0
      have HV : Hid (frm name [f, g] = (1, fok g (-32768) 32767 true)) := hide (by unfold frm; rw [if_neg hW, if_neg hZ, if_neg (by rw [ho]; omega), ho, hA, hB, hK, hKn]; rw [if_pos (by simp [r0])]; simp [lo, hi])
      clear hf hfl hR hA hB hK hKn ekr ho hW hZ hn1 hn2 hlen c0 c1
      go_enter Tryd.func21, Tryd.ntmps21
      go_wp2_with fail
      refine HOp.out.mono ?_
      rintro e w1 ⟨rfl, rfl⟩
      go_wp2_with fail
      refine HS.out.mono ?_
      rintro e w1 ⟨rfl, rfl⟩
      go_wp2_with fail
      refine (truthD_any _ true).mono ?_
      rintro e w1 ⟨rfl, rfl⟩
      go_wp2_with fail
      refine (truthD_any _ false).mono ?_
      rintro e w1 ⟨rfl, rfl⟩
      go_wp2_with fail
      refine (truthD_any _ true).mono ?_
      rintro e w1 ⟨rfl, rfl⟩
      go_wp2_with fail
      refine HR0.out.mono ?_
      rintro e w1 ⟨rfl, rfl⟩
      go_wp2_with fail
      refine HFk.out.mono ?_
      rintro e w1 ⟨rfl, rfl⟩
      go_wp2
      go_ret2
      exact ⟨by rw [HV.out]; rfl, rfl⟩
    | false =>
      rw [r0] at HR0
      have HV : Hid (frm name [f, g] = (0, false)) := hide (by unfold frm; rw [if_neg hW, if_neg hZ, if_neg (by rw [ho]; omega), ho, hA, hB, hK, hKn]; rw [if_neg (by simp [r0])])
      clear hf hfl hR hA hB hK hKn ekr ho hW hZ hn1 hn2 hlen c0 c1
      go_enter Tryd.func21, Tryd.ntmps21
      go_wp2_with fail
      refine HOp.out.mono ?_
      rintro e w1 ⟨rfl, rfl⟩
      go_wp2_with fail
      refine HS.out.mono ?_
      rintro e w1 ⟨rfl, rfl⟩
      go_wp2_with fail
      refine (truthD_any _ true).mono ?_
      rintro e w1 ⟨rfl, rfl⟩
      go_wp2_with fail
      refine (truthD_any _ false).mono ?_
      rintro e w1 ⟨rfl, rfl⟩
      go_wp2_with fail
      refine (truthD_any _ true).mono ?_
      rintro e w1 ⟨rfl, rfl⟩
      go_wp2_with fail
      refine HR0.out.mono ?_
      rintro e w1 ⟨rfl, rfl⟩
      go_wp2
      go_ret2
      exact ⟨by rw [HV.out]; rfl, rfl⟩
  · have hb : ((fs.length : Int) == 2) = false := by rw [beq_eq_false_iff_ne]; omega
    have HV : Hid (frm name fs = (0, false)) := hide (by unfold frm; rw [if_neg hW, if_neg hZ, if_neg (by rw [ho]; omega), ho, hA, hB, hK, hKn]; rw [beq_eq_false_iff_ne.2 hlen]; rfl)
    have hc : ¬ (fs.length : Int) = 2 := by omega
    clear hf hfl hR hA hB hK hKn ekr ho hW hZ hn1 hn2
    go_enter Tryd.func21, Tryd.ntmps21
    go_wp2_with fail
    refine HOp.out.mono ?_
    rintro e w1 ⟨rfl, rfl⟩
    go_wp2_with fail
    refine HS.out.mono ?_
    rintro e w1 ⟨rfl, rfl⟩
    go_wp2_with fail
    refine (truthD_any _ true).mono ?_
    rintro e w1 ⟨rfl, rfl⟩
    go_wp2_with fail
    refine (truthD_any _ false).mono ?_
    rintro e w1 ⟨rfl, rfl⟩
    go_wp2_with fail
    refine (truthD_any _ true).mono ?_
    rintro e w1 ⟨rfl, rfl⟩
    go_wp2
    go_ret2
    exact ⟨by rw [HV.out]; rfl, rfl⟩
set_option maxRecDepth 100000 in
set_option maxHeartbeats 2000000 in
theorem formed_110 (name : Tx) (ao : Option Addr) (cap : Nat) (fs : List Tx) (n : Nat) (hW : ¬ name = [46, 119, 111, 114, 100]) (hZ : ¬ name = [46, 122, 101, 114, 111]) (ho : opT name = n) (hn1 : 1 ≤ n) (hn2 : n < 27) (hA : uA n = true) (hB : uB n = true) (hK : kd n = 0) (hf : ∀ f ∈ fs, f.length ≤ 16384) (hfl : fs.length ≤ 16385) (hR : SR w ao fs) (hNm : Nms w) : Calls Tryd.prog 21 #[.string ⟨name.toArray⟩, .slice ao fs.length cap] w fun e w' => e = .returned (.tuple #[.int .i64 (frm name fs).1, .bool (frm name fs).2]) ∧ w' = w := by
  have HOp := hide (opOf_any w name hNm)
  rw [ho] at HOp
  have nW : (name == [46, 119, 111, 114, 100]) = false := by rw [beq_eq_false_iff_ne]; exact hW
  have nZ : (name == [46, 122, 101, 114, 111]) = false := by rw [beq_eq_false_iff_ne]; exact hZ
  have n0 : ((n : Int) == 0) = false := by rw [beq_eq_false_iff_ne]; omega
  clear hNm
  have hKn : (kinds n).length = 2 := by unfold kinds; rw [hA, hB, hK]; rfl
  have HS := hide (shape_in w n hn2)
  have ekr : kr n = 0 := by unfold kr; rw [hK]; rfl
  rw [hA, hB, ekr] at HS
  by_cases hlen : fs.length = 2
  · obtain ⟨f, g, rfl⟩ : ∃ f g, fs = [f, g] := len2 hlen
    obtain ⟨x, rfl, c0⟩ := hR 0 (by simp)
    have d0 : w.cell? x = some (.string ⟨f.toArray⟩) := by rw [← addr0 x]; exact c0
    obtain ⟨x1, ex1, c1⟩ := hR 1 (by simp)
    cases ex1
    have d1 : w.cell? ⟨x.block, x.off + 1, none⟩ = some (.string ⟨g.toArray⟩) := by rw [← addr1 x]; exact c1
    have HR0 := hide (isRegD_any w f (hf f (by simp)))
    have HR1 := hide (isRegD_any w g (hf g (by simp)))
    cases r0 : isReg f with
    | true =>
      rw [r0] at HR0
      cases r1 : isReg g with
      | true =>
        rw [r1] at HR1
        have HV : Hid (frm name [f, g] = (1, true)) := hide (by unfold frm; rw [if_neg hW, if_neg hZ, if_neg (by rw [ho]; omega), ho, hA, hB, hK, hKn]; rw [if_pos (by simp [r0, r1])]; rfl)
        clear hf hfl hR hA hB hK hKn ekr ho hW hZ hn1 hn2 hlen c0 c1
        go_enter Tryd.func21, Tryd.ntmps21
        go_wp2_with fail
        refine HOp.out.mono ?_
        rintro e w1 ⟨rfl, rfl⟩
        go_wp2_with fail
        refine HS.out.mono ?_
        rintro e w1 ⟨rfl, rfl⟩
        go_wp2_with fail
        refine (truthD_any _ true).mono ?_
        rintro e w1 ⟨rfl, rfl⟩
        go_wp2_with fail
        refine (truthD_any _ true).mono ?_
        rintro e w1 ⟨rfl, rfl⟩
        go_wp2_with fail
        refine (truthD_any _ false).mono ?_
        rintro e w1 ⟨rfl, rfl⟩
        go_wp2_with fail
        refine HR0.out.mono ?_
        rintro e w1 ⟨rfl, rfl⟩
        go_wp2_with fail
        refine HR1.out.mono ?_
        rintro e w1 ⟨rfl, rfl⟩
        go_wp2
        go_ret2
        exact ⟨by rw [HV.out]; rfl, rfl⟩
      | false =>
        rw [r1] at HR1
        have HV : Hid (frm name [f, g] = (0, false)) := hide (by unfold frm; rw [if_neg hW, if_neg hZ, if_neg (by rw [ho]; omega), ho, hA, hB, hK, hKn]; rw [if_neg (by simp [r1])])
        clear hf hfl hR hA hB hK hKn ekr ho hW hZ hn1 hn2 hlen c0 c1
        go_enter Tryd.func21, Tryd.ntmps21
        go_wp2_with fail
        refine HOp.out.mono ?_
        rintro e w1 ⟨rfl, rfl⟩
        go_wp2_with fail
        refine HS.out.mono ?_
        rintro e w1 ⟨rfl, rfl⟩
        go_wp2_with fail
        refine (truthD_any _ true).mono ?_
        rintro e w1 ⟨rfl, rfl⟩
        go_wp2_with fail
        refine (truthD_any _ true).mono ?_
        rintro e w1 ⟨rfl, rfl⟩
        go_wp2_with fail
        refine (truthD_any _ false).mono ?_
        rintro e w1 ⟨rfl, rfl⟩
        go_wp2_with fail
        refine HR0.out.mono ?_
        rintro e w1 ⟨rfl, rfl⟩
        go_wp2_with fail
        refine HR1.out.mono ?_
        rintro e w1 ⟨rfl, rfl⟩
        go_wp2
        go_ret2
        exact ⟨by rw [HV.out]; rfl, rfl⟩
    | false =>
      rw [r0] at HR0
      have HV : Hid (frm name [f, g] = (0, false)) := hide (by unfold frm; rw [if_neg hW, if_neg hZ, if_neg (by rw [ho]; omega), ho, hA, hB, hK, hKn]; rw [if_neg (by simp [r0])])
      clear hf hfl hR hA hB hK hKn ekr ho hW hZ hn1 hn2 hlen c0 c1
      go_enter Tryd.func21, Tryd.ntmps21
      go_wp2_with fail
      refine HOp.out.mono ?_
      rintro e w1 ⟨rfl, rfl⟩
      go_wp2_with fail
      refine HS.out.mono ?_
      rintro e w1 ⟨rfl, rfl⟩
      go_wp2_with fail
      refine (truthD_any _ true).mono ?_
      rintro e w1 ⟨rfl, rfl⟩
      go_wp2_with fail
      refine (truthD_any _ true).mono ?_
      rintro e w1 ⟨rfl, rfl⟩
      go_wp2_with fail
      refine (truthD_any _ false).mono ?_
      rintro e w1 ⟨rfl, rfl⟩
      go_wp2_with fail
      refine HR0.out.mono ?_
      rintro e w1 ⟨rfl, rfl⟩
      go_wp2
      go_ret2
      exact ⟨by rw [HV.out]; rfl, rfl⟩
  · have hb : ((fs.length : Int) == 2) = false := by rw [beq_eq_false_iff_ne]; omega
    have HV : Hid (frm name fs = (0, false)) := hide (by unfold frm; rw [if_neg hW, if_neg hZ, if_neg (by rw [ho]; omega), ho, hA, hB, hK, hKn]; rw [beq_eq_false_iff_ne.2 hlen]; rfl)
    have hc : ¬ (fs.length : Int) = 2 := by omega
    clear hf hfl hR hA hB hK hKn ekr ho hW hZ hn1 hn2
    go_enter Tryd.func21, Tryd.ntmps21
    go_wp2_with fail
    refine HOp.out.mono ?_
    rintro e w1 ⟨rfl, rfl⟩
    go_wp2_with fail
    refine HS.out.mono ?_
    rintro e w1 ⟨rfl, rfl⟩
    go_wp2_with fail
    refine (truthD_any _ true).mono ?_
    rintro e w1 ⟨rfl, rfl⟩
    go_wp2_with fail
    refine (truthD_any _ true).mono ?_
    rintro e w1 ⟨rfl, rfl⟩
    go_wp2_with fail
    refine (truthD_any _ false).mono ?_
    rintro e w1 ⟨rfl, rfl⟩
    go_wp2
    go_ret2
    exact ⟨by rw [HV.out]; rfl, rfl⟩
set_option maxRecDepth 100000 in
set_option maxHeartbeats 2000000 in
theorem formed_112 (name : Tx) (ao : Option Addr) (cap : Nat) (fs : List Tx) (n : Nat) (hW : ¬ name = [46, 119, 111, 114, 100]) (hZ : ¬ name = [46, 122, 101, 114, 111]) (ho : opT name = n) (hn1 : 1 ≤ n) (hn2 : n < 27) (hA : uA n = true) (hB : uB n = true) (hK : kd n = 2) (hf : ∀ f ∈ fs, f.length ≤ 16384) (hfl : fs.length ≤ 16385) (hR : SR w ao fs) (hNm : Nms w) : Calls Tryd.prog 21 #[.string ⟨name.toArray⟩, .slice ao fs.length cap] w fun e w' => e = .returned (.tuple #[.int .i64 (frm name fs).1, .bool (frm name fs).2]) ∧ w' = w := by
  have HOp := hide (opOf_any w name hNm)
  rw [ho] at HOp
  have nW : (name == [46, 119, 111, 114, 100]) = false := by rw [beq_eq_false_iff_ne]; exact hW
  have nZ : (name == [46, 122, 101, 114, 111]) = false := by rw [beq_eq_false_iff_ne]; exact hZ
  have n0 : ((n : Int) == 0) = false := by rw [beq_eq_false_iff_ne]; omega
  clear hNm
  have hKn : (kinds n).length = 3 := by unfold kinds; rw [hA, hB, hK]; rfl
  have HS := hide (shape_in w n hn2)
  have ekr : kr n = 1 := by unfold kr; rw [hK]; rfl
  rw [hA, hB, ekr] at HS
  by_cases hlen : fs.length = 3
  · obtain ⟨f, g, h, rfl⟩ : ∃ f g h, fs = [f, g, h] := len3 hlen
    obtain ⟨x, rfl, c0⟩ := hR 0 (by simp)
    have d0 : w.cell? x = some (.string ⟨f.toArray⟩) := by rw [← addr0 x]; exact c0
    obtain ⟨x1, ex1, c1⟩ := hR 1 (by simp)
    cases ex1
    have d1 : w.cell? ⟨x.block, x.off + 1, none⟩ = some (.string ⟨g.toArray⟩) := by rw [← addr1 x]; exact c1
    obtain ⟨x2, ex2, c2⟩ := hR 2 (by simp)
    cases ex2
    have d2 : w.cell? ⟨x.block, x.off + 2, none⟩ = some (.string ⟨h.toArray⟩) := by rw [← addr2 x]; exact c2
    have HFk := hide (fieldOK_any w h (-32768) 32767 true (hf h (by simp)))
    have HR0 := hide (isRegD_any w f (hf f (by simp)))
    have HR1 := hide (isRegD_any w g (hf g (by simp)))
    cases r0 : isReg f with
    | true =>
      rw [r0] at HR0
      cases r1 : isReg g with
      | true =>
        rw [r1] at HR1
        have HV : Hid (frm name [f, g, h] = (1, fok h (-32768) 32767 true)) := hide (by unfold frm; rw [if_neg hW, if_neg hZ, if_neg (by rw [ho]; omega), ho, hA, hB, hK, hKn]; rw [if_pos (by simp [r0, r1])]; simp [lo, hi])
        clear hf hfl hR hA hB hK hKn ekr ho hW hZ hn1 hn2 hlen c0 c1 c2
        go_enter Tryd.func21, Tryd.ntmps21
        go_wp2_with fail
        refine HOp.out.mono ?_
        rintro e w1 ⟨rfl, rfl⟩
        go_wp2_with fail
        refine HS.out.mono ?_
        rintro e w1 ⟨rfl, rfl⟩
        go_wp2_with fail
        refine (truthD_any _ true).mono ?_
        rintro e w1 ⟨rfl, rfl⟩
        go_wp2_with fail
        refine (truthD_any _ true).mono ?_
        rintro e w1 ⟨rfl, rfl⟩
        go_wp2_with fail
        refine (truthD_any _ true).mono ?_
        rintro e w1 ⟨rfl, rfl⟩
        go_wp2_with fail
        refine HR0.out.mono ?_
        rintro e w1 ⟨rfl, rfl⟩
        go_wp2_with fail
        refine HR1.out.mono ?_
        rintro e w1 ⟨rfl, rfl⟩
        go_wp2_with fail
        refine HFk.out.mono ?_
        rintro e w1 ⟨rfl, rfl⟩
        go_wp2
        go_ret2
        exact ⟨by rw [HV.out]; rfl, rfl⟩
      | false =>
        rw [r1] at HR1
        have HV : Hid (frm name [f, g, h] = (0, false)) := hide (by unfold frm; rw [if_neg hW, if_neg hZ, if_neg (by rw [ho]; omega), ho, hA, hB, hK, hKn]; rw [if_neg (by simp [r1])])
        clear hf hfl hR hA hB hK hKn ekr ho hW hZ hn1 hn2 hlen c0 c1 c2
        go_enter Tryd.func21, Tryd.ntmps21
        go_wp2_with fail
        refine HOp.out.mono ?_
        rintro e w1 ⟨rfl, rfl⟩
        go_wp2_with fail
        refine HS.out.mono ?_
        rintro e w1 ⟨rfl, rfl⟩
        go_wp2_with fail
        refine (truthD_any _ true).mono ?_
        rintro e w1 ⟨rfl, rfl⟩
        go_wp2_with fail
        refine (truthD_any _ true).mono ?_
        rintro e w1 ⟨rfl, rfl⟩
        go_wp2_with fail
        refine (truthD_any _ true).mono ?_
        rintro e w1 ⟨rfl, rfl⟩
        go_wp2_with fail
        refine HR0.out.mono ?_
        rintro e w1 ⟨rfl, rfl⟩
        go_wp2_with fail
        refine HR1.out.mono ?_
        rintro e w1 ⟨rfl, rfl⟩
        go_wp2
        go_ret2
        exact ⟨by rw [HV.out]; rfl, rfl⟩
    | false =>
      rw [r0] at HR0
      have HV : Hid (frm name [f, g, h] = (0, false)) := hide (by unfold frm; rw [if_neg hW, if_neg hZ, if_neg (by rw [ho]; omega), ho, hA, hB, hK, hKn]; rw [if_neg (by simp [r0])])
      clear hf hfl hR hA hB hK hKn ekr ho hW hZ hn1 hn2 hlen c0 c1 c2
      go_enter Tryd.func21, Tryd.ntmps21
      go_wp2_with fail
      refine HOp.out.mono ?_
      rintro e w1 ⟨rfl, rfl⟩
      go_wp2_with fail
      refine HS.out.mono ?_
      rintro e w1 ⟨rfl, rfl⟩
      go_wp2_with fail
      refine (truthD_any _ true).mono ?_
      rintro e w1 ⟨rfl, rfl⟩
      go_wp2_with fail
      refine (truthD_any _ true).mono ?_
      rintro e w1 ⟨rfl, rfl⟩
      go_wp2_with fail
      refine (truthD_any _ true).mono ?_
      rintro e w1 ⟨rfl, rfl⟩
      go_wp2_with fail
      refine HR0.out.mono ?_
      rintro e w1 ⟨rfl, rfl⟩
      go_wp2
      go_ret2
      exact ⟨by rw [HV.out]; rfl, rfl⟩
  · have hb : ((fs.length : Int) == 3) = false := by rw [beq_eq_false_iff_ne]; omega
    have HV : Hid (frm name fs = (0, false)) := hide (by unfold frm; rw [if_neg hW, if_neg hZ, if_neg (by rw [ho]; omega), ho, hA, hB, hK, hKn]; rw [beq_eq_false_iff_ne.2 hlen]; rfl)
    have hc : ¬ (fs.length : Int) = 3 := by omega
    clear hf hfl hR hA hB hK hKn ekr ho hW hZ hn1 hn2
    go_enter Tryd.func21, Tryd.ntmps21
    go_wp2_with fail
    refine HOp.out.mono ?_
    rintro e w1 ⟨rfl, rfl⟩
    go_wp2_with fail
    refine HS.out.mono ?_
    rintro e w1 ⟨rfl, rfl⟩
    go_wp2_with fail
    refine (truthD_any _ true).mono ?_
    rintro e w1 ⟨rfl, rfl⟩
    go_wp2_with fail
    refine (truthD_any _ true).mono ?_
    rintro e w1 ⟨rfl, rfl⟩
    go_wp2_with fail
    refine (truthD_any _ true).mono ?_
    rintro e w1 ⟨rfl, rfl⟩
    go_wp2
    go_ret2
    exact ⟨by rw [HV.out]; rfl, rfl⟩
set_option maxRecDepth 100000 in
set_option maxHeartbeats 2000000 in
theorem formed_any (name : Tx) (ao : Option Addr) (cap : Nat) (fs : List Tx) (hf : ∀ f ∈ fs, f.length ≤ 16384) (hfl : fs.length ≤ 16385) (hR : SR w ao fs) (hNm : Nms w) : Calls Tryd.prog 21 #[.string ⟨name.toArray⟩, .slice ao fs.length cap] w fun e w' => e = .returned (.tuple #[.int .i64 (frm name fs).1, .bool (frm name fs).2]) ∧ w' = w := by
  by_cases hW : name = [46, 119, 111, 114, 100]
  · exact formed_word w name ao cap fs hW hf hfl hR
  by_cases hZ : name = [46, 122, 101, 114, 111]
  · exact formed_zero w name ao cap fs hZ hf hfl hR
  by_cases h0 : opT name = 0
  · have HOp := hide (opOf_any w name hNm)
    rw [h0] at HOp
    have nW : (name == [46, 119, 111, 114, 100]) = false := by rw [beq_eq_false_iff_ne]; exact hW
    have nZ : (name == [46, 122, 101, 114, 111]) = false := by rw [beq_eq_false_iff_ne]; exact hZ
    have HV : Hid (frm name fs = (0, false)) := hide (by unfold frm; rw [if_neg hW, if_neg hZ, if_pos h0])
    clear hNm hf hfl hR hW hZ h0
    go_enter Tryd.func21, Tryd.ntmps21
    go_wp2_with fail
    refine HOp.out.mono ?_
    rintro e w1 ⟨rfl, rfl⟩
    go_wp2
    go_ret2
    exact ⟨by rw [HV.out]; rfl, rfl⟩
  · have h2 := opT_lt name
    rcases combos (opT name) (by omega) h2 with h | h | h | h | h | h | h | h
    · exact formed_000 w name ao cap fs _ hW hZ rfl (by omega) h2 h.1 h.2.1 h.2.2 hf hfl hR hNm
    · exact formed_001 w name ao cap fs _ hW hZ rfl (by omega) h2 h.1 h.2.1 h.2.2 hf hfl hR hNm
    · exact formed_002 w name ao cap fs _ hW hZ rfl (by omega) h2 h.1 h.2.1 h.2.2 hf hfl hR hNm
    · exact formed_100 w name ao cap fs _ hW hZ rfl (by omega) h2 h.1 h.2.1 h.2.2 hf hfl hR hNm
    · exact formed_101 w name ao cap fs _ hW hZ rfl (by omega) h2 h.1 h.2.1 h.2.2 hf hfl hR hNm
    · exact formed_102 w name ao cap fs _ hW hZ rfl (by omega) h2 h.1 h.2.1 h.2.2 hf hfl hR hNm
    · exact formed_110 w name ao cap fs _ hW hZ rfl (by omega) h2 h.1 h.2.1 h.2.2 hf hfl hR hNm
    · exact formed_112 w name ao cap fs _ hW hZ rfl (by omega) h2 h.1 h.2.1 h.2.2 hf hfl hR hNm
end
end Go.Proofs.YtbfagiofhakjnaaDoor

namespace Go.Proofs.YtbfagiofhakjnaaDoor
open Go.RowKit
/-- a line as the document reads it -/
structure Dl where
  label : Tx
  lab : Bool
  name : Tx
  fields : List Tx
  words : Int
  bad : Bool
def dl0 : Dl := ⟨[], false, [], [], 0, false⟩
def stD (s : Tx) : Dl := if s = [] then dl0 else ⟨[], false, ((cutT [32, 9] s).getD (s, [])).1, sfT ((cutT [32, 9] s).getD (s, [])).2, (frm ((cutT [32, 9] s).getD (s, [])).1 (sfT ((cutT [32, 9] s).getD (s, [])).2)).1, !(frm ((cutT [32, 9] s).getD (s, [])).1 (sfT ((cutT [32, 9] s).getD (s, [])).2)).2⟩
def lineD (s : Tx) : Dl :=
  match cutT [58] (trimT ((cutT [59] s).getD (s, [])).1) with
  | none => stD (trimT ((cutT [59] s).getD (s, [])).1)
  | some (a, b) => if isLbl a then { stD (trimT b) with label := a, lab := true } else { dl0 with bad := true }
def rgl (name : Tx) : Bool := decide (0 < opT name) && kd (opT name) == 0
def lastF (fs : List Tx) : Tx := fs.getLast?.getD []
/-- the label that a line's last field is -/
def useN (d : Dl) : Tx := if (d.fields.isEmpty || (numT (lastF d.fields)).isSome || (isReg (lastF d.fields) && rgl d.name)) = true then [] else lastF d.fields
/-- the digit of a register -/
def rdig (f : Tx) : Int := (((f.getD 1 0).toNat : Int) - 48) % 256
def nOf (adr : Tx → Int) (fs : List Tx) : Int := if fs.isEmpty then 0 else (numT (lastF fs)).getD (adr (lastF fs))
/-- the word that the document lays -/
def wD (adr : Tx → Int) (name : Tx) (fs : List Tx) (at' : Int) : Nat :=
  if name = [46, 119, 111, 114, 100] then (nOf adr fs % 4294967296).toNat
  else if name = [46, 122, 101, 114, 111] then 0
  else encW ⟨(opT name : Nat), if uA (opT name) then rdig (fs.getD 0 []) else 0, if uB (opT name) then rdig (fs.getD 1 []) else 0, if kd (opT name) = 0 then 0 else if ((numT (lastF fs)).isNone && relN (opT name : Nat)) = true then nOf adr fs - at' - 1 else nOf adr fs⟩
theorem let_dig {c : UInt8} (h : isLet c = true) : ¬ digV c < 10 ∧ c ≠ 45 ∧ c ≠ 48 := by
  have k : ∀ n : Fin 256, isLet (UInt8.ofNat n.val) = true → ¬ digV (UInt8.ofNat n.val) < 10 ∧ UInt8.ofNat n.val ≠ 45 ∧ UInt8.ofNat n.val ≠ 48 := by decide +kernel
  have := k ⟨c.toNat, c.toNat_lt⟩
  simp only [UInt8.ofNat_toNat] at this
  exact this h
theorem lbl_num {f : Tx} (h : isLbl f = true) : numT f = none := by
  cases f with
  | nil => rfl
  | cons c r =>
    have hc : isLet c = true := by simp only [isLbl, Bool.and_eq_true] at h; exact h.1
    obtain ⟨h1, h2, h3⟩ := let_dig hc
    have m1 : Lib.hasPrefix (c :: r) [45] = false := by show ((45 == c) && _) = false; rw [beq_eq_false_iff_ne.2 (Ne.symm h2)]; rfl
    have m2 : Lib.hasPrefix (c :: r) [48, 120] = false := by show ((48 == c) && _) = false; rw [beq_eq_false_iff_ne.2 (Ne.symm h3)]; rfl
    have p1 : absT (c :: r) = c :: r := pre_no m1
    have p2 : digT (c :: r) = c :: r := pre_no m2
    have p3 : basT (c :: r) = 10 := by unfold basT hexT; rw [m2]; rfl
    have p4 : mosT (c :: r) = 10 := by unfold mosT hexT; rw [m2]; rfl
    rw [num_parts p1 p2 p3 p4 (show minT (c :: r) = false from m1)]
    split
    · rfl
    · rw [numF, if_neg h1]; rfl
/-- a field in a number's place, both ways -/
theorem imm_fok (l : Ln) (f : Tx) (lo' hi' : Int) : (immT l f lo' hi').isSome = fok f lo' hi' true ∧ (∀ l', immT l f lo' hi' = some l' → (isLbl f = true ∧ numT f = none ∧ l' = { l with name := f }) ∨ (∃ n, numT f = some n ∧ l' = { l with i := { l.i with imm := n } })) := by
  unfold immT fok
  cases hL : isLbl f with
  | true =>
    rw [lbl_num hL]
    refine ⟨rfl, fun l' h => .inl ⟨rfl, rfl, ?_⟩⟩
    simpa using h.symm
  | false =>
    cases hn : numT f with
    | none => exact ⟨rfl, fun l' h => by cases h⟩
    | some n =>
      simp only [Bool.false_eq_true, if_false]
      by_cases hb : lo' ≤ n ∧ n ≤ hi'
      · rw [if_pos hb]
        refine ⟨by simp [hb.1, hb.2], fun l' h => .inr ⟨n, rfl, ?_⟩⟩
        simpa using h.symm
      · rw [if_neg hb]
        refine ⟨?_, fun l' h => by cases h⟩
        by_cases h1 : lo' ≤ n
        · simp [h1]; omega
        · simp [h1]
theorem reg_dig {f : Tx} {n : Nat} (h : regT f = some n) : rdig f = (n : Int) ∧ numT f = none := by
  match f with
  | [] => cases h
  | [_] => cases h
  | _ :: _ :: _ :: _ => cases h
  | [a, b] =>
    have h : (if a.toNat = 114 ∧ 48 ≤ b.toNat ∧ b.toNat < 56 then some (b.toNat - 48) else none) = some n := h
    split at h
    · next hc =>
      have e : b.toNat - 48 = n := by simpa using h
      refine ⟨?_, lbl_num ?_⟩
      · show ((b.toNat : Int) - 48) % 256 = (n : Int)
        omega
      · simp [isLbl, isLet, isDig]
        omega
    · cases h
/-- what a statement is, both ways -/
structure Stm (name : Tx) (fs : List Tx) : Prop where
  ok : (stmT name fs).isSome = (frm name fs).2
  wd : ∀ l, stmT name fs = some l → l.words = (frm name fs).1
  nm : ∀ l, stmT name fs = some l → l.name = useN ⟨[], false, name, fs, 0, false⟩
  pl : ∀ l, stmT name fs = some l → l.label = [] ∧ l.wrong = false
  wr : ∀ l, stmT name fs = some l → ∀ ps at', wrdT ps l at' = wD (fun f => ((atK KS ps f).getD (0, 0)).2) name fs at'
theorem op_word : opT [46, 119, 111, 114, 100] = 0 := by decide +kernel
theorem op_zero : opT [46, 122, 101, 114, 111] = 0 := by decide +kernel
theorem lbl_ne {f : Tx} (h : isLbl f = true) : f ≠ [] := by intro e; subst e; cases h
theorem stm_none {name : Tx} {fs : List Tx} (h1 : stmT name fs = none) (h2 : (frm name fs).2 = false) : Stm name fs where
  ok := by rw [h1, h2]; rfl
  wd := fun l h => by rw [h1] at h; cases h
  nm := fun l h => by rw [h1] at h; cases h
  pl := fun l h => by rw [h1] at h; cases h
  wr := fun l h => by rw [h1] at h; cases h
theorem stm_some {name : Tx} {fs : List Tx} (l : Ln) (h1 : stmT name fs = some l) (h2 : frm name fs = (l.words, true)) (h3 : l.name = useN ⟨[], false, name, fs, 0, false⟩) (h4 : l.label = [] ∧ l.wrong = false) (h5 : ∀ ps at', wrdT ps l at' = wD (fun f => ((atK KS ps f).getD (0, 0)).2) name fs at') : Stm name fs where
  ok := by rw [h1, h2]; rfl
  wd := fun l' h => by rw [h1] at h; obtain rfl := Option.some.inj h; rw [h2]
  nm := fun l' h => by rw [h1] at h; obtain rfl := Option.some.inj h; exact h3
  pl := fun l' h => by rw [h1] at h; obtain rfl := Option.some.inj h; exact h4
  wr := fun l' h => by rw [h1] at h; obtain rfl := Option.some.inj h; exact h5
theorem stm_word' (fs : List Tx) : Stm [46, 119, 111, 114, 100] fs := by
  have e2 : frm [46, 119, 111, 114, 100] fs = (1, fs.length == 1 && fok (fs.getD 0 []) (-2147483648) 4294967295 true) := by unfold frm; rw [if_pos rfl]
  match fs with
  | [] => exact stm_none (by unfold stmT; rw [if_pos rfl]) (by rw [e2]; rfl)
  | _ :: _ :: r => exact stm_none (by unfold stmT; rw [if_pos rfl]) (by rw [e2]; simp)
  | [f] =>
    obtain ⟨k1, k2⟩ := imm_fok { ln0 with words := 1 } f (-2147483648) 4294967295
    have e1 : stmT [46, 119, 111, 114, 100] [f] = immT { ln0 with words := 1 } f (-2147483648) 4294967295 := by unfold stmT; rw [if_pos rfl]
    have e2 : frm [46, 119, 111, 114, 100] [f] = (1, fok f (-2147483648) 4294967295 true) := e2
    cases hi' : immT { ln0 with words := 1 } f (-2147483648) 4294967295 with
    | none => exact stm_none (e1.trans hi') (by rw [e2, ← k1, hi']; rfl)
    | some l =>
      rw [hi'] at k1
      have h3 : frm [46, 119, 111, 114, 100] [f] = (1, true) := by rw [e2, ← k1]; rfl
      rcases k2 l hi' with ⟨h1, h2, rfl⟩ | ⟨n, h2, rfl⟩
      · refine stm_some _ (e1.trans hi') h3 ?_ ⟨rfl, rfl⟩ fun ps at' => ?_
        · simp [useN, lastF, h2, rgl, op_word]
        · unfold wrdT immW wD nOf
          rw [if_pos (show ([46, 119, 111, 114, 100] : Tx) = [46, 119, 111, 114, 100] from rfl)]
          simp [lastF, h2, relN, ln0, lbl_ne h1]
      · refine stm_some _ (e1.trans hi') h3 ?_ ⟨rfl, rfl⟩ fun ps at' => ?_
        · simp [useN, lastF, h2, ln0]
        · unfold wrdT immW wD nOf
          rw [if_pos (show ([46, 119, 111, 114, 100] : Tx) = [46, 119, 111, 114, 100] from rfl)]
          simp [lastF, h2, ln0]
theorem stm_zero' (fs : List Tx) : Stm [46, 122, 101, 114, 111] fs := by
  have e2 : frm [46, 122, 101, 114, 111] fs = if (fs.length == 1 && fok (fs.getD 0 []) 0 512 false) = true then ((numT (fs.getD 0 [])).getD 0, true) else (0, false) := by unfold frm; rw [if_neg (by decide), if_pos rfl]
  match fs with
  | [] => exact stm_none (by unfold stmT; rw [if_neg (by decide), if_pos rfl]) (by rw [e2]; rfl)
  | _ :: _ :: r => exact stm_none (by unfold stmT; rw [if_neg (by decide), if_pos rfl]) (by rw [e2]; simp)
  | [f] =>
    have e1 : stmT [46, 122, 101, 114, 111] [f] = match numT f with
        | some n => if 0 ≤ n ∧ n ≤ 512 then some { ln0 with words := n } else none
        | none => none := by unfold stmT; rw [if_neg (by decide), if_pos rfl]; rfl
    have e2 : frm [46, 122, 101, 114, 111] [f] = if fok f 0 512 false = true then ((numT f).getD 0, true) else (0, false) := e2
    unfold fok at e2
    cases hn : numT f with
    | none =>
      rw [hn] at e1 e2
      exact stm_none e1 (by rw [e2]; simp)
    | some n =>
      rw [hn] at e1 e2
      by_cases hb : 0 ≤ n ∧ n ≤ 512
      · refine stm_some { ln0 with words := n } (by rw [e1]; simp [hb]) (by rw [e2]; simp [hb]) ?_ ⟨rfl, rfl⟩ fun ps at' => ?_
        · simp [useN, lastF, hn, ln0]
        · unfold wrdT immW wD
          rw [if_neg (show ¬ ([46, 122, 101, 114, 111] : Tx) = [46, 119, 111, 114, 100] by decide), if_pos (show ([46, 122, 101, 114, 111] : Tx) = [46, 122, 101, 114, 111] from rfl)]
          simp [ln0]
      · refine stm_none (by rw [e1]; simp; omega) ?_
        rw [e2, if_neg (by simp only [Bool.and_eq_true, decide_eq_true_eq]; exact hb)]
theorem uB_uA : ∀ n : Fin 27, uB n.val = true → uA n.val = true := by decide +kernel
theorem enc_at (o : Nat) (a b x y : Int) (h : x = y) : encW ⟨(o : Nat), a, b, x⟩ = encW ⟨(o : Nat), a, b, y⟩ := by rw [h]
/-- the number's place, at an operation that has one -/
theorem imm_wd {name : Tx} {fs : List Tx} {f : Tx} (hl : lastF fs = f) (hw : name ≠ [46, 119, 111, 114, 100]) (hz : name ≠ [46, 122, 101, 114, 111]) (h0 : opT name ≠ 0) (hk : kd (opT name) ≠ 0) (hne : fs.isEmpty = false) (A B : Int) (hA : A = if uA (opT name) then rdig (fs.getD 0 []) else 0) (hB : B = if uB (opT name) then rdig (fs.getD 1 []) else 0) (l l0 : Ln) (hl0 : l0 = ⟨false, [], ⟨(opT name : Nat), A, B, 0⟩, [], 1⟩) (hi' : immT l0 f (lo (kd (opT name))) (hi (kd (opT name))) = some l) (h1 : stmT name fs = some l) (h2 : frm name fs = (1, true)) : Stm name fs := by
  subst hl0
  have hg : rgl name = false := by unfold rgl; rw [show (kd (opT name) == 0) = false from beq_eq_false_iff_ne.2 hk, Bool.and_false]
  rcases (imm_fok _ f _ _).2 l hi' with ⟨g1, g2, rfl⟩ | ⟨n, g2, rfl⟩
  · refine stm_some _ h1 h2 ?_ ⟨rfl, rfl⟩ fun ps at' => ?_
    · simp [useN, hl, g2, hne, hg]
    · unfold wrdT immW wD nOf
      rw [if_neg hw, if_neg hz, if_neg (lbl_ne g1), hl, g2, hne, if_neg hk, ← hA, ← hB]
      rw [if_neg (show ¬ ((opT name : Nat) : Int) = 0 by omega)]
      refine enc_at _ _ _ _ _ ?_
      cases relN ((opT name : Nat) : Int)
      · simp
      · simp; omega
  · refine stm_some _ h1 h2 ?_ ⟨rfl, rfl⟩ fun ps at' => ?_
    · simp [useN, hl, g2]
    · unfold wrdT immW wD nOf
      rw [if_neg hw, if_neg hz, hl, g2, hne, if_neg hk, ← hA, ← hB]
      rw [if_neg (show ¬ ((opT name : Nat) : Int) = 0 by omega)]
      exact enc_at _ _ _ _ _ (by simp)
/-- an operation without one -/
theorem no_wd {name : Tx} {fs : List Tx} (hw : name ≠ [46, 119, 111, 114, 100]) (hz : name ≠ [46, 122, 101, 114, 111]) (h0 : opT name ≠ 0) (hk : kd (opT name) = 0) (hu : fs.isEmpty = true ∨ isReg (lastF fs) = true) (A B : Int) (hA : A = if uA (opT name) then rdig (fs.getD 0 []) else 0) (hB : B = if uB (opT name) then rdig (fs.getD 1 []) else 0) (h1 : stmT name fs = some ⟨false, [], ⟨(opT name : Nat), A, B, 0⟩, [], 1⟩) (h2 : frm name fs = (1, true)) : Stm name fs := by
  refine stm_some _ h1 h2 ?_ ⟨rfl, rfl⟩ fun ps at' => ?_
  · have hg : rgl name = true := by unfold rgl; rw [hk]; simp; omega
    rcases hu with h | h <;> simp [useN, h, hg]
  · unfold wrdT immW wD
    rw [if_neg hw, if_neg hz, if_pos hk, ← hA, ← hB]
    rw [if_neg (show ¬ ((opT name : Nat) : Int) = 0 by omega)]
    simp
theorem stm_op (name : Tx) (fs : List Tx) (hw : name ≠ [46, 119, 111, 114, 100]) (hz : name ≠ [46, 122, 101, 114, 111]) : Stm name fs := by
  by_cases h0 : opT name = 0
  · exact stm_none (by unfold stmT; rw [if_neg hw, if_neg hz, if_pos h0]) (by unfold frm; rw [if_neg hw, if_neg hz, if_pos h0])
  have e1 : stmT name fs = if fs.length = (kinds (opT name)).length then fldsT (lo (kd (opT name))) (hi (kd (opT name))) ⟨false, [], ⟨(opT name : Nat), 0, 0, 0⟩, [], 1⟩ (kinds (opT name)) fs else none := by unfold stmT; rw [if_neg hw, if_neg hz, if_neg h0]; rfl
  have e2 : frm name fs = if (fs.length == (kinds (opT name)).length && (!uA (opT name) || isReg (fs.getD 0 [])) && (!uB (opT name) || isReg (fs.getD 1 []))) = true then (1, kd (opT name) == 0 || fok (fs.getD ((kinds (opT name)).length - 1) []) (lo (kd (opT name))) (hi (kd (opT name))) true)
    else (0, false) := by unfold frm; rw [if_neg hw, if_neg hz, if_neg h0]
  by_cases hl : fs.length = (kinds (opT name)).length
  · rw [if_pos hl] at e1
    rw [show (fs.length == (kinds (opT name)).length) = true by rw [hl]; simp, Bool.true_and] at e2
    have hBA := uB_uA ⟨opT name, opT_lt name⟩
    simp only at hBA
    cases hB : uB (opT name) with
    | true =>
      have hA := hBA hB
      by_cases hk : kd (opT name) = 0
      · have hK : kinds (opT name) = [0, 1] := by unfold kinds; rw [hA, hB, if_pos hk]; rfl
        rw [hK] at e1 e2 hl
        match fs, hl with
        | [f, g], _ =>
          rw [hA, hB, hk] at e2
          cases hf : regT f with
          | none => exact stm_none (by rw [e1]; simp [fldsT, fldT, hf]) (by rw [e2]; simp [isReg, hf])
          | some a =>
            cases hg : regT g with
            | none => exact stm_none (by rw [e1]; simp [fldsT, fldT, hf, hg]) (by rw [e2]; simp [isReg, hf, hg])
            | some b => exact no_wd hw hz h0 hk (.inr (by simp [lastF, isReg, hg])) a b (by rw [hA]; simp [(reg_dig hf).1]) (by rw [hB]; simp [(reg_dig hg).1]) (by rw [e1]; simp [fldsT, fldT, hf, hg]) (by rw [e2]; simp [isReg, hf, hg])
      · have hK : kinds (opT name) = [0, 1, 2] := by unfold kinds; rw [hA, hB, if_neg hk]; rfl
        rw [hK] at e1 e2 hl
        match fs, hl with
        | [f, g, h], _ =>
          rw [hA, hB, show (kd (opT name) == 0) = false from beq_eq_false_iff_ne.2 hk] at e2
          cases hf : regT f with
          | none => exact stm_none (by rw [e1]; simp [fldsT, fldT, hf]) (by rw [e2]; simp [isReg, hf])
          | some a =>
            cases hg : regT g with
            | none => exact stm_none (by rw [e1]; simp [fldsT, fldT, hf, hg]) (by rw [e2]; simp [isReg, hf, hg])
            | some b =>
              have k1 := (imm_fok ⟨false, [], ⟨(opT name : Nat), a, b, 0⟩, [], 1⟩ h (lo (kd (opT name))) (hi (kd (opT name)))).1
              cases hi' : immT ⟨false, [], ⟨(opT name : Nat), a, b, 0⟩, [], 1⟩ h (lo (kd (opT name))) (hi (kd (opT name))) with
              | none =>
                rw [hi'] at k1
                exact stm_none (by rw [e1]; simp [fldsT, fldT, hf, hg, hi']) (by rw [e2]; simp [isReg, hf, hg, ← k1])
              | some l =>
                rw [hi'] at k1
                exact imm_wd (by simp [lastF]) hw hz h0 hk rfl a b (by rw [hA]; simp [(reg_dig hf).1]) (by rw [hB]; simp [(reg_dig hg).1]) l _ rfl hi' (by rw [e1]; simp [fldsT, fldT, hf, hg, hi']) (by rw [e2]; simp [isReg, hf, hg, ← k1])
    | false =>
      cases hA : uA (opT name) with
      | true =>
        by_cases hk : kd (opT name) = 0
        · have hK : kinds (opT name) = [0] := by unfold kinds; rw [hA, hB, if_pos hk]; rfl
          rw [hK] at e1 e2 hl
          match fs, hl with
          | [f], _ =>
            rw [hA, hB, hk] at e2
            cases hf : regT f with
            | none => exact stm_none (by rw [e1]; simp [fldsT, fldT, hf]) (by rw [e2]; simp [isReg, hf])
            | some a => exact no_wd hw hz h0 hk (.inr (by simp [lastF, isReg, hf])) a 0 (by rw [hA]; simp [(reg_dig hf).1]) (by rw [hB]; simp) (by rw [e1]; simp [fldsT, fldT, hf]) (by rw [e2]; simp [isReg, hf])
        · have hK : kinds (opT name) = [0, 2] := by unfold kinds; rw [hA, hB, if_neg hk]; rfl
          rw [hK] at e1 e2 hl
          match fs, hl with
          | [f, h], _ =>
            rw [hA, hB, show (kd (opT name) == 0) = false from beq_eq_false_iff_ne.2 hk] at e2
            cases hf : regT f with
            | none => exact stm_none (by rw [e1]; simp [fldsT, fldT, hf]) (by rw [e2]; simp [isReg, hf])
            | some a =>
              have k1 := (imm_fok ⟨false, [], ⟨(opT name : Nat), a, 0, 0⟩, [], 1⟩ h (lo (kd (opT name))) (hi (kd (opT name)))).1
              cases hi' : immT ⟨false, [], ⟨(opT name : Nat), a, 0, 0⟩, [], 1⟩ h (lo (kd (opT name))) (hi (kd (opT name))) with
              | none =>
                rw [hi'] at k1
                exact stm_none (by rw [e1]; simp [fldsT, fldT, hf, hi']) (by rw [e2]; simp [isReg, hf, ← k1])
              | some l =>
                rw [hi'] at k1
                exact imm_wd (by simp [lastF]) hw hz h0 hk rfl a 0 (by rw [hA]; simp [(reg_dig hf).1]) (by rw [hB]; simp) l _ rfl hi' (by rw [e1]; simp [fldsT, fldT, hf, hi']) (by rw [e2]; simp [isReg, hf, ← k1])
      | false =>
        by_cases hk : kd (opT name) = 0
        · have hK : kinds (opT name) = [] := by unfold kinds; rw [hA, hB, if_pos hk]; rfl
          rw [hK] at e1 e2 hl
          match fs, hl with
          | [], _ =>
            rw [hA, hB, hk] at e2
            exact no_wd hw hz h0 hk (.inl rfl) 0 0 (by rw [hA]; simp) (by rw [hB]; simp) (by rw [e1]; simp [fldsT]) (by rw [e2]; simp)
        · have hK : kinds (opT name) = [2] := by unfold kinds; rw [hA, hB, if_neg hk]; rfl
          rw [hK] at e1 e2 hl
          match fs, hl with
          | [h], _ =>
            rw [hA, hB, show (kd (opT name) == 0) = false from beq_eq_false_iff_ne.2 hk] at e2
            have k1 := (imm_fok ⟨false, [], ⟨(opT name : Nat), 0, 0, 0⟩, [], 1⟩ h (lo (kd (opT name))) (hi (kd (opT name)))).1
            cases hi' : immT ⟨false, [], ⟨(opT name : Nat), 0, 0, 0⟩, [], 1⟩ h (lo (kd (opT name))) (hi (kd (opT name))) with
            | none =>
              rw [hi'] at k1
              exact stm_none (by rw [e1]; simp [fldsT, fldT, hi']) (by rw [e2]; simp [← k1])
            | some l =>
              rw [hi'] at k1
              exact imm_wd (by simp [lastF]) hw hz h0 hk rfl 0 0 (by rw [hA]; simp) (by rw [hB]; simp) l _ rfl hi' (by rw [e1]; simp [fldsT, fldT, hi']) (by rw [e2]; simp [← k1])
  · exact stm_none (by rw [e1, if_neg hl]) (by rw [e2]; simp [hl])
/-- every statement -/
theorem stm_all (name : Tx) (fs : List Tx) : Stm name fs := by
  by_cases hw : name = [46, 119, 111, 114, 100]
  · subst hw; exact stm_word' fs
  by_cases hz : name = [46, 122, 101, 114, 111]
  · subst hz; exact stm_zero' fs
  exact stm_op name fs hw hz
end Go.Proofs.YtbfagiofhakjnaaDoor

namespace Go.Proofs.YtbfagiofhakjnaaDoor
open Go.RowKit
theorem asm_step {ps : List (Tx × (Nat × Int))} {ls : List Ln} {k : Nat} {ws : List Nat} (h : k < ls.length) : asmL ps (ls.drop k) k ws = if fltT ps ls[k] k ws.length = 0 then asmL ps (ls.drop (k + 1)) (k + 1) (ws ++ List.replicate ls[k].words.toNat (wrdT ps ls[k] ws.length)) else ([], k + 1, fltT ps ls[k] k ws.length) := by
  rw [List.drop_eq_getElem_cons h]
  rfl
theorem flt_room {ps : List (Tx × (Nat × Int))} {l : Ln} {k : Nat} {a : Int} (h : fltT ps l k a = 0) : a + l.words ≤ 512 := by
  unfold fltT at h
  split at h
  · simp at h
  · split at h
    · simp at h
    · split at h
      · simp at h
      · split at h
        · simp at h
        · omega
section
variable (w : World)
set_option maxRecDepth 100000 in
set_option maxHeartbeats 4000000 in
theorem asm_any (s : Tx) (hss : s.length ≤ 9223372036854775807) (hO : Ops w) : Calls Tryd.prog 4 #[.string ⟨s.toArray⟩] w fun e w' => ∃ v, e = .returned (.tuple #[v, .int .i64 ((asmT s).2.1 : Nat), .int .i64 (asmT s).2.2]) ∧ w'.ownsRow w.heap.size 46 1 v (asmT s).1.length (wds (asmT s).1) ∧ Below w.heap.size w w' := by
  by_cases hs : 16384 < s.length
  · have HV : Hid (asmT s = ([], 0, 41)) := hide (by unfold asmT; rw [if_pos hs])
    have hsI : (16384 : Int) < (s.length : Int) := by omega
    go_enter Tryd.func4, Tryd.ntmps4
    go_upto_region 1 with fail
    go_step3
    go_wp2
    rw [Exit.noGoto_ret]
    go_ret3
    exact ⟨_, by rw [HV.out]; rfl, by rw [HV.out]; exact ⟨rfl, .inl ⟨rfl, rfl⟩⟩, Below.refl _ _⟩
  · have HV : Hid (asmT s = asmL (lbs (linesT s) (linesT s).length) (linesT s) 0 []) := hide (by unfold asmT; rw [if_neg hs])
    have hsI : ¬ (16384 : Int) < (s.length : Int) := by omega
    have HRL := hide (readLines_any w s (by omega) hO)
    have hcnt := split_count 10 s
    have HOk : Hid (∀ l ∈ linesT s, LnOk l) := hide (fun l hl => by
      unfold linesT at hl
      obtain ⟨p, _, rfl⟩ := List.mem_map.1 hl
      exact lineT_ok p)
    have hlen : (linesT s).length = (splitT 10 s).length := by simp [linesT]
    have HO := hide hO
    clear hO
    change Hid (Calls _ _ _ _ fun e w' => ∃ v, e = .returned v ∧ w'.ownsRow w.heap.size 35 8 v (splitT 10 s).length (lns (linesT s)) ∧ Below w.heap.size w w') at HRL
    generalize linesT s = ls at *
    rw [← hlen] at hcnt HRL
    clear hlen
    go_enter Tryd.func4, Tryd.ntmps4
    go_upto_region 1 with fail
    go_step3
    go_wp2_with fail
    refine HRL.out.mono ?_
    rintro e w1 ⟨v1, rfl, ho1, hb1⟩
    obtain ⟨_, ao, cc, rfl, hLr⟩ := LRow.of ho1
    have hs1 := hb1.size
    have HB1 := hide hb1
    have HLr := hide hLr
    clear ho1 hb1 hLr HRL
    go_wp2_with fail
    refine (findLabels_any w1 ls ao cc (by omega) (fun l hl => ⟨(HOk.out l hl).w0, (HOk.out l hl).w1⟩) HLr.out).mono ?_
    rintro e w2 ⟨r, rfl, hLb, hr, hb2⟩
    have HLr2 := hide (HLr.out.keep hb2)
    have HLb := hide hLb
    have HB2 := hide (HB1.out.trans (hb2.mono hs1))
    have hs2 := hb2.size
    have HPs := hide (atK_bound (lbs_bound (by omega : ls.length ≤ 16385) (fun l hl => ⟨(HOk.out l hl).w0, (HOk.out l hl).w1⟩) ls.length (Nat.le_refl _)))
    clear hLb hb2 HLr HB1
    generalize lbs ls ls.length = ps at *
    obtain ⟨R, hRR⟩ : ∃ R, asmL ps ls 0 [] = R := ⟨_, rfl⟩
    rw [hRR] at HV
    have HRR := hide hRR
    clear hRR
    go_upto_region 8 with fail
    go_step3
    go_upto_region 8 with fail
    go_loopw [7, 8, 9, 21] (fun v a c u wr => ∃ (k : Nat) (ws : List Nat), a = .int .i64 0 ∧ c = .int .i64 0 ∧ u = .int .i64 (k : Int) ∧ k ≤ ls.length ∧ asmL ps (ls.drop k) k ws = R ∧ ws.length ≤ 512 ∧ wr.ownsRow w2.heap.size 46 1 v ws.length (wds ws) ∧ Below w2.heap.size w2 wr) (fun _ _ _ u _ => ls.length - (intOf u).toNat)
    case atStart => exact ⟨0, [], rfl, rfl, rfl, by omega, HRR.out, by simp, ⟨rfl, .inl ⟨rfl, rfl⟩⟩, Below.refl _ _⟩
    case round =>
    obtain ⟨k, ws, rfl, rfl, rfl, hk, hst, hwl, hOw, hBw⟩ := hrel
    clear HRR
    obtain ⟨au, cu, rfl⟩ := own_shape hOw
    have HOw := hide hOw
    have HBw := hide hBw
    have hsw := hBw.size
    by_cases hlt : k < ls.length
    · obtain ⟨a, rfl, ha⟩ := (HLr2.out.keep hBw) k hlt
      have hd : (k : Int) < (ls.length : Int) := by omega
      have hok := HOk.out ls[k] (List.getElem_mem hlt)
      have HSt := hide (hst.symm.trans (asm_step hlt))
      have HA := hide ha
      have HLbw := hide (HLb.out.keep hBw)
      have HOpw := hide ((HO.out.below HB2.out).below hBw)
      have HM := hide (HPs.out ls[k].name)
      clear hOw hBw ha hst
      generalize ls[k] = L at *
      have hw0 := hok.w0
      have hw1 := hok.w1
      have HRm : Hid (fltT ps L k (ws.length : Int) = 0 → (ws.length : Int) + L.words ≤ 512) := hide flt_room
      obtain ⟨FL, hFL⟩ : ∃ z, fltT ps L k (ws.length : Int) = z := ⟨_, rfl⟩
      have HFl : Hid (∀ W, Lb W r ps → Calls Tryd.prog 9 #[.agg (lnC L), .int .i64 (k : Int), .int .i64 (ws.length : Int), .map (some r)] W fun e w' => e = .returned (.int .i64 FL) ∧ Below W.heap.size W w') := hide (fun W hW => by rw [← hFL]; exact fault_any W ps L k (ws.length : Int) r (by omega) (by omega) hw0 hw1 hW)
      have HG := hide (fun W (hR : W.ownsRow w2.heap.size 46 1 (.slice au ws.length cu) ws.length (wds ws)) (h1 : w2.heap.size ≤ W.heap.size) (h2 : Lb W r ps) (h3 : Ops W) => give_any W ps L ws _ w2.heap.size r hok HM.out hwl hR h1 h2 h3)
      rw [hFL] at HSt HRm
      have HNn : Hid (ws.length ≤ 512) := hide hwl
      clear hFL hok HM
      generalize wrdT ps L (ws.length : Int) = WD at *
      obtain ⟨wrong, label, ⟨op, ia, ib, imm⟩, name, words⟩ := L
      simp only [lnC] at HFl HG hw0 hw1 HSt HRm
      go_upto_region 10 with (refine loadT Tryd.underlying35 rfl [.bool wrong, .string ⟨label.toArray⟩, .int .i64 op, .int .i64 ia, .int .i64 ib, .int .i64 imm, .string ⟨name.toArray⟩, .int .i64 words] (by kernel_rfl) rfl _ rfl (a.add (k * 8)) rfl HA.out ?_)
      have hb3 := bel1 wr (.cells #[.bool wrong, .string ⟨label.toArray⟩, .int .i64 op, .int .i64 ia, .int .i64 ib, .int .i64 imm, .string ⟨name.toArray⟩, .int .i64 words] 35)
      have hG : LnAt (wr.alloc (.cells #[.bool wrong, .string ⟨label.toArray⟩, .int .i64 op, .int .i64 ia, .int .i64 ib, .int .i64 imm, .string ⟨name.toArray⟩, .int .i64 words] 35)) wr.heap.size ⟨wrong, label, ⟨op, ia, ib, imm⟩, name, words⟩ := heap_alloc_last _ _
      have HLb3 := hide (HLbw.out.keep hb3)
      have HOp3 := hide (HOpw.out.below hb3)
      have HO3 := hide (own_keep HOw.out hb3)
      have HB3 := hide (HBw.out.alloc hsw (.cells #[.bool wrong, .string ⟨label.toArray⟩, .int .i64 op, .int .i64 ia, .int .i64 ib, .int .i64 imm, .string ⟨name.toArray⟩, .int .i64 words] 35))
      have hs3 : w2.heap.size ≤ (wr.alloc (.cells #[.bool wrong, .string ⟨label.toArray⟩, .int .i64 op, .int .i64 ia, .int .i64 ib, .int .i64 imm, .string ⟨name.toArray⟩, .int .i64 words] 35)).heap.size := by simp; omega
      clear hb3 HA HLbw HOpw HOw HBw
      generalize wr.alloc (.cells #[.bool wrong, .string ⟨label.toArray⟩, .int .i64 op, .int .i64 ia, .int .i64 ib, .int .i64 imm, .string ⟨name.toArray⟩, .int .i64 words] 35) = W at *
      generalize wr.heap.size = g at *
      obtain ⟨q0, q1, q2, q3, q4, q5, q6, q7⟩ := hG.cells
      have hgl := hG.lt
      go_wp2_with fail
      refine (HFl.out _ HLb3.out).mono ?_
      rintro e w4 ⟨rfl, hb4⟩
      have hG4 := hG.keep hb4
      have HLb4 := hide (HLb3.out.keep hb4)
      have HOp4 := hide (HOp3.out.below hb4)
      have HO4 := hide (own_keep HO3.out hb4)
      have HB4 := hide (HB3.out.trans (hb4.mono hs3))
      have hs4 := Nat.le_trans hs3 hb4.size
      clear hb4 hG HLb3 HOp3 HO3 HB3 q0 q1 q2 q3 q4 q5 q6 q7 HFl
      obtain ⟨q0, q1, q2, q3, q4, q5, q6, q7⟩ := hG4.cells
      by_cases hz : FL = 0
      · subst hz
        have HSt2 : Hid (R = asmL ps (ls.drop (k + 1)) (k + 1) (ws ++ List.replicate words.toNat WD)) := hide (by rw [HSt.out]; rfl)
        have hrm := HRm.out rfl
        have HLen : Hid ((ws ++ List.replicate words.toNat WD).length ≤ 512) := hide (by simp; omega)
        clear HSt HRm
        go_wp2_with fail
        refine (HG.out _ HO4.out hs4 HLb4.out HOp4.out).mono ?_
        rintro e w5 ⟨v5, rfl, ho5, hb5⟩
        have HB5 := hide (HB4.out.trans hb5)
        have HO5 := hide ho5
        obtain ⟨a5, c5, rfl⟩ := own_shape ho5
        clear ho5 hb5 HB4 HO4 HG
        generalize ws ++ List.replicate words.toNat WD = ws5 at *
        go_wp2
        refine ⟨⟨k + 1, ws5, rfl, rfl, by simp, by omega, HSt2.out.symm, HLen.out, HO5.out, HB5.out⟩, ?_⟩
        simp [intOf]
        omega
      · have HSt2 : Hid (R = ([], k + 1, FL)) := hide (by rw [HSt.out, if_neg hz])
        have hzb : (FL == 0) = false := by simpa using hz
        clear HSt HRm HG hz
        go_wp2
        (try rw [Exit.noGoto_ret])
        go_ret3
        exact ⟨_, by rw [HV.out, HSt2.out]; rfl, by rw [HV.out, HSt2.out]; exact ⟨rfl, .inl ⟨rfl, rfl⟩⟩, HB2.out.trans (HB4.out.mono (by omega))⟩
    · obtain rfl : k = ls.length := by omega
      have HSt : Hid (R = (ws, 0, 0)) := hide (by rw [← hst, List.drop_length]; rfl)
      clear hOw hBw hst
      go_wp2
      (try rw [Exit.noGoto_ret])
      go_ret3
      exact ⟨_, by rw [HV.out, HSt.out]; rfl, by rw [HV.out, HSt.out]; exact own_mono HOw.out (by omega), HB2.out.trans (HBw.out.mono (by omega))⟩
end
end Go.Proofs.YtbfagiofhakjnaaDoor
