import Derived.Test.YtogpgchfaalikaaX2
import Derived.Deep.RegionHeld
import Derived.BigQuiet
import Derived.Deep.Cut
import Derived.Deep.DeepCutAuto
import Derived.WalkSmall
namespace Go.Proofs.Ytogpgchfaalikaa
open Go.RowKit

section
variable {P : Program} {ops : Array Oper} {Q : Exit → Act → World → Prop} {S : World → Prop} {fuel : Nat} {listed : Array Bool} {a : Act} {w : World}
/-- the one operation that may come up -/
theorem hd_call (i : Nat) {o : Oper} (hr : Region.ready .any ops listed = [i]) (ho : ops[i]? = some o) (hw : Region.wanted o (yielded ops a.tmps) = true)
    (h : ∀ K : Act → World → Prop, (∀ a w, S w → wpAnyH P .any ops Q S fuel (listed.setIfInBounds i true) a w → K a w) → Oper.wp P o a w K Q) : wpAnyH P .any ops Q S (fuel + 1) listed a w := by
  refine wpAnyH_ready hr (by simp) (AllReadyH.cons ho (fun K hK => ?_) AllReadyH.nil)
  rw [if_pos hw]
  exact h K (fun a w hS hh => hK.out a w hS (fun _ => hh))
/-- what yields in whatever world that meets S -/
theorem hd_take (i : Nat) {o : Oper} (v : Value) (hs : Region.noSelect ops = true) (hf : Region.free .any ops listed i = true) (hr : (Region.ready .any ops listed).contains i = true) (ho : ops[i]? = some o) (hw : Region.wanted o (yielded ops a.tmps) = true)
    (hy : ∀ w, S w → (execOp a.eval o).run P w = .ok (.value v) w)
    (hQ : ∀ c a w, Q (.panic c) (a.put o.dst v) w → Q (.panic c) a w) (h0 : S w) (h : wpAnyH P .any ops Q S fuel (listed.setIfInBounds i true) (a.put o.dst v) w) : wpAnyH P .any ops Q S (fuel + 1) listed a w :=
  wpAnyH_take ho hs hf hr hQ (Or.inl ⟨hw, hy⟩) h0 h
end
section
variable (w : World) (T : Nat) (dv : Value) (C : Nat → Cl)
/-- what Claim answers: a serial that may not be; what choose says -/
def clr (C : Nat → Cl) (n : Nat) (z s : Int) : Int × Int :=
  if s < 1 ∨ 4611686018427387903 < s then (-1, 1) else chr C n z
/-- the claims behind it -/
def clC (C : Nat → Cl) (n : Nat) (z s : Int) : Nat → Cl :=
  if (clr C n z s).2 = 0 then put C (clr C n z s).1.toNat ⟨s, 1⟩ else C
theorem chr_ok {C : Nat → Cl} {n : Nat} {z : Int} (hn : Low C n) (h : (chr C n z).2 = 0) : ∃ k : Nat, k < 32 ∧ (chr C n z).1 = k ∧ (C k).ho = 0 := by
  unfold chr at h ⊢
  by_cases h1 : z = -1
  · rw [if_pos h1] at h ⊢
    by_cases h2 : n = 32
    · rw [if_pos h2] at h; cases h
    · rw [if_neg h2]
      exact ⟨n, by have := hn.le; omega, rfl, hn.fr (by have := hn.le; omega)⟩
  · rw [if_neg h1] at h ⊢
    by_cases h2 : 0 ≤ z ∧ z < 32
    · rw [if_neg (by simpa using h2)] at h ⊢
      obtain ⟨k, rfl⟩ := Int.eq_ofNat_of_zero_le h2.1
      have hk : k < 32 := by omega
      cases hc : isCl C (k : Int)
      · rw [if_neg (by simp)]
        rw [isCl_nat C hk] at hc
        exact ⟨k, hk, rfl, by simpa using hc⟩
      · rw [hc, if_pos rfl] at h; cases h
    · rw [if_pos h2] at h; cases h
theorem chr_no {C : Nat → Cl} {n : Nat} {z : Int} (h : (chr C n z).2 ≠ 0) : (chr C n z).1 = -1 := by
  unfold chr at h ⊢
  split
  · split
    · rfl
    · rename_i h1 h2; rw [if_pos h1, if_neg h2] at h; exact absurd rfl h
  · split
    · rfl
    · split
      · rfl
      · rename_i h1 h2 h3; rw [if_neg h1, if_neg h2, if_neg h3] at h; exact absurd rfl h
set_option maxHeartbeats 800000 in
theorem claim_any (h : Tb w T dv C) (n : Nat) (hn : Low C n) (z s : Int) : Calls Try.prog 10 #[tp T, .int .i64 z, .int .i64 s] w fun e w' =>
    e = .returned (.tuple #[.int .i64 (clr C n z s).1, .int .i64 (clr C n z s).2]) ∧ Tb w' T dv (clC C n z s) ∧ At w T w' := by
  have HC := hide (choose_any w T dv C h n hn z)
  have HT := hide h
  unfold clC
  by_cases hs : s < 1 ∨ 4611686018427387903 < s
  · have he : clr C n z s = (-1, 1) := by unfold clr; rw [if_pos hs]
    rw [he, if_neg (by simp)]
    clear he h
    rcases Int.lt_or_le s 1 with h1 | h1
    · have hd : decide (s < 1) = true := by simp [h1]
      go_enter Try.func10, Try.ntmps10
      go_wp2
      go_ret2
      exact ⟨rfl, HT.out, At.refl _ _⟩
    · have hd : decide (s < 1) = false := by simp; omega
      have hd2 : decide (4611686018427387903 < s) = true := by simp; omega
      go_enter Try.func10, Try.ntmps10
      go_wp2
      go_ret2
      exact ⟨rfl, HT.out, At.refl _ _⟩
  · have he : clr C n z s = chr C n z := by unfold clr; rw [if_neg hs]
    rw [he]
    have hd : decide (s < 1) = false := by simp; omega
    have hd2 : decide (4611686018427387903 < s) = false := by simp; omega
    clear he hs
    by_cases h0 : (chr C n z).2 = 0
    · obtain ⟨k, hk, h1, _⟩ := chr_ok hn h0
      rw [h0, h1] at HC
      rw [if_pos h0, h0, h1]
      have f1 := h.frz (1 + k * 2)
      have f2 := h.frz (1 + k * 2 + 1)
      have q1 := h.ser hk
      have q2 := h.hol hk
      have hS := hide (h.setCl hk ⟨s, 1⟩)
      clear h hn h0 h1
      generalize (C k).se = s0 at *
      generalize (C k).ho = h0 at *
      simp only [Int.toNat_natCast]
      go_enter Try.func10, Try.ntmps10
      go_wp2_with fail
      refine HC.out.mono ?_
      rintro e w1 ⟨rfl, rfl⟩
      go_wp2
      go_ret2
      exact ⟨rfl, hS.out, ((At.refl _ _).set _ _).set _ _⟩
    · have hc := chr_no h0
      rw [hc] at HC
      rw [if_neg h0, hc]
      have hd3 : ((chr C n z).2 == 0) = false := by simp [h0]
      clear h hn h0 hc
      generalize (chr C n z).2 = x at *
      go_enter Try.func10, Try.ntmps10
      go_wp2_with fail
      refine HC.out.mono ?_
      rintro e w1 ⟨rfl, rfl⟩
      go_wp2
      go_ret2
      exact ⟨rfl, HT.out, At.refl _ _⟩
theorem serial_any (h : Tb w T dv C) (z : Int) : Calls Try.prog 18 #[tp T, .int .i64 z] w fun e w' =>
    e = .returned (if isCl C z then .tuple #[.int .i64 (C z.toNat).se, .int .i64 0] else .tuple #[.int .i64 0, .int .i64 100]) ∧ w' = w := by
  have HC := hide (claimed_any w T dv C h z)
  cases hc : isCl C z
  · rw [hc] at HC
    simp only [Bool.false_eq_true, if_false]
    clear h hc
    go_enter Try.func18, Try.ntmps18
    go_wp2_with fail
    refine HC.out.mono ?_
    rintro e w1 ⟨rfl, rfl⟩
    go_wp2
    go_ret2
    exact ⟨rfl, rfl⟩
  · rw [hc] at HC
    simp only [if_true]
    unfold isCl at hc
    have hz : 0 ≤ z ∧ z < 32 := by simp at hc; omega
    obtain ⟨k, rfl⟩ := Int.eq_ofNat_of_zero_le hz.1
    have hk : k < 32 := by omega
    simp only [Int.toNat_natCast]
    have q1 := h.ser hk
    clear h hc hz
    generalize (C k).se = s0 at *
    go_enter Try.func18, Try.ntmps18
    go_wp2_with fail
    refine HC.out.mono ?_
    rintro e w1 ⟨rfl, rfl⟩
    go_wp2
    go_ret2
    exact ⟨rfl, rfl⟩
theorem hold_no (h : Tb w T dv C) (z : Int) (hc : isCl C z = false) : Calls Try.prog 11 #[tp T, .int .i64 z] w fun e w' => e = .returned (.int .i64 100) ∧ w' = w := by
  have HC := hide (claimed_any w T dv C h z)
  rw [hc] at HC
  clear h hc
  go_enter Try.func11, Try.ntmps11
  go_wp2_with fail
  refine HC.out.mono ?_
  rintro e w1 ⟨rfl, rfl⟩
  go_wp2
  go_ret
  exact ⟨rfl, rfl⟩
theorem drop_no (h : Tb w T dv C) (z : Int) (hc : isCl C z = false) : Calls Try.prog 12 #[tp T, .int .i64 z] w fun e w' => e = .returned (.tuple #[.bool false, .int .i64 100]) ∧ w' = w := by
  have HC := hide (claimed_any w T dv C h z)
  rw [hc] at HC
  clear h hc
  go_enter Try.func12, Try.ntmps12
  go_wp2_with fail
  refine HC.out.mono ?_
  rintro e w1 ⟨rfl, rfl⟩
  go_wp2
  go_ret2
  exact ⟨rfl, rfl⟩
theorem drop_last (h : Tb w T dv C) (k : Nat) (hk : k < 32) (hh : (C k).ho = 1) : Calls Try.prog 12 #[tp T, .int .i64 (k : Int)] w fun e w' => e = .returned (.tuple #[.bool true, .int .i64 0]) ∧ Tb w' T dv (put C k Cl.zero) ∧ At w T w' := by
  have HC := hide (claimed_any w T dv C h (k : Int))
  rw [isCl_nat C hk, hh] at HC
  have q1 := h.ser hk
  have q2 := h.hol hk
  rw [hh] at q2
  have f1 := h.frz (1 + k * 2)
  have f2 := h.frz (1 + k * 2 + 1)
  have hS := hide (h.setCl hk Cl.zero)
  clear h hh
  generalize (C k).se = s0 at *
  go_enter Try.func12, Try.ntmps12
  go_wp2_with fail
  refine HC.out.mono ?_
  rintro e w1 ⟨rfl, rfl⟩
  go_wp2
  go_ret2
  exact ⟨rfl, hS.out, ((At.refl _ _).set _ _).set _ _⟩
set_option maxHeartbeats 800000 in
theorem hold_ok (h : Tb w T dv C) (k : Nat) (hk : k < 32) (m : Nat) (hm : (C k).ho = m) (h0 : 0 < m) (hb : m < 9223372036854775807) : Calls Try.prog 11 #[tp T, .int .i64 (k : Int)] w fun e w' => e = .returned (.int .i64 0) ∧ Tb w' T dv (put C k ⟨(C k).se, m + 1⟩) ∧ At w T w' := by
  have HC := hide (claimed_any w T dv C h (k : Int))
  rw [isCl_nat C hk, hm] at HC
  rw [show decide (0 < m) = true by simp [h0]] at HC
  have q2 := h.hol hk
  rw [hm] at q2
  have f2 := h.frz (1 + k * 2 + 1)
  have hS := hide (h.setHo hk (m + 1))
  clear h hm
  generalize (C k).se = s0 at *
  go_enter Try.func11, Try.ntmps11
  go_wp2_with fail
  refine HC.out.mono ?_
  rintro e w1 ⟨rfl, rfl⟩
  go_upto_region 3 with fail
  refine wp_region_held_drew (S := fun _ => True) (by kernel_rfl) trivial (fun _ => ?_)
  obtain ⟨w2, hw2⟩ : ∃ w2, w2 = w1.drew := ⟨_, rfl⟩
  rw [← hw2]
  have q3 : w2.cell? ⟨T, 1 + k * 2 + 1, none⟩ = some (.int .i64 (m : Int)) := by rw [hw2]; exact q2
  have f3 : w2.frozen? ⟨T, 1 + k * 2 + 1, none⟩ = false := by rw [hw2]; exact f2
  have HS2 : Hid (Tb (w2.setCell ⟨T, 1 + k * 2 + 1, none⟩ (.int .i64 (m + 1 : Nat))) T dv (put C k ⟨s0, m + 1⟩) ∧ At w1 T (w2.setCell ⟨T, 1 + k * 2 + 1, none⟩ (.int .i64 (m + 1 : Nat)))) := by
    rw [hw2]; exact hide ⟨⟨hS.out.out⟩, ((At.refl _ _).drew).set _ _⟩
  clear hw2 q2 f2
  refine hd_take 0 (o := ⟨some 9, _, _, _, _, _⟩) (tp T) (by kernel_rfl) (by kernel_rfl) (by kernel_rfl) rfl (by rfl) (fun W hSw => by go_simp) (fun _ _ _ h => h) trivial ?_
  simp only [Act.put, List.setIfInBounds_toArray, List.set_cons_zero, List.set_cons_succ]
  refine hd_take 1 (o := ⟨some 10, _, _, _, _, _⟩) (.int .i64 (k : Int)) (by kernel_rfl) (by kernel_rfl) (by kernel_rfl) rfl (by rfl) (fun W hSw => by go_simp) (fun _ _ _ h => h) trivial ?_
  simp only [Act.put, List.setIfInBounds_toArray, List.set_cons_zero, List.set_cons_succ]
  refine hd_take 2 (o := ⟨some 11, _, _, _, _, _⟩) (.pointer (some ⟨T, 0, none⟩)) (by kernel_rfl) (by kernel_rfl) (by kernel_rfl) rfl (by rfl) (fun W hSw => by go_simp) (fun _ _ _ h => h) trivial ?_
  simp only [Act.put, List.setIfInBounds_toArray, List.set_cons_zero, List.set_cons_succ]
  refine hd_take 3 (o := ⟨some 12, _, _, _, _, _⟩) (.pointer (some ⟨T, 1, none⟩)) (by kernel_rfl) (by kernel_rfl) (by kernel_rfl) rfl (by rfl) (fun W hSw => by go_simp) (fun _ _ _ h => h) trivial ?_
  simp only [Act.put, List.setIfInBounds_toArray, List.set_cons_zero, List.set_cons_succ]
  refine hd_take 4 (o := ⟨some 13, _, _, _, _, _⟩) (.pointer (some ⟨T, 1 + k * 2, none⟩)) (by kernel_rfl) (by kernel_rfl) (by kernel_rfl) rfl (by rfl) (fun W hSw => by go_simp; intro h; omega) (fun _ _ _ h => h) trivial ?_
  simp only [Act.put, List.setIfInBounds_toArray, List.set_cons_zero, List.set_cons_succ]
  refine hd_take 5 (o := ⟨some 14, _, _, _, _, _⟩) (.pointer (some ⟨T, 1 + k * 2 + 1, none⟩)) (by kernel_rfl) (by kernel_rfl) (by kernel_rfl) rfl (by rfl) (fun W hSw => by go_simp) (fun _ _ _ h => h) trivial ?_
  simp only [Act.put, List.setIfInBounds_toArray, List.set_cons_zero, List.set_cons_succ]
  refine hd_take 8 (o := ⟨some 17, _, _, _, _, _⟩) (.pointer (some ⟨T, 0, none⟩)) (by kernel_rfl) (by kernel_rfl) (by kernel_rfl) rfl (by rfl) (fun W hSw => by go_simp) (fun _ _ _ h => h) trivial ?_
  simp only [Act.put, List.setIfInBounds_toArray, List.set_cons_zero, List.set_cons_succ]
  refine hd_take 9 (o := ⟨some 18, _, _, _, _, _⟩) (.pointer (some ⟨T, 1, none⟩)) (by kernel_rfl) (by kernel_rfl) (by kernel_rfl) rfl (by rfl) (fun W hSw => by go_simp) (fun _ _ _ h => h) trivial ?_
  simp only [Act.put, List.setIfInBounds_toArray, List.set_cons_zero, List.set_cons_succ]
  refine hd_call 6 (o := ⟨some 15, _, _, _, _, _⟩) (by kernel_rfl) rfl (by rfl) (fun K hK => ?_)
  go_simp
  refine hK _ _ trivial ?_
  clear hK K
  try simp only [Act.put, List.setIfInBounds_toArray, List.set_cons_zero, List.set_cons_succ]
  refine hd_call 7 (o := ⟨some 16, _, _, _, _, _⟩) (by kernel_rfl) rfl (by rfl) (fun K hK => ?_)
  go_simp
  refine hK _ _ trivial ?_
  clear hK K
  try simp only [Act.put, List.setIfInBounds_toArray, List.set_cons_zero, List.set_cons_succ]
  refine hd_call 10 (o := ⟨some 19, _, _, _, _, _⟩) (by kernel_rfl) rfl (by rfl) (fun K hK => ?_)
  go_simp
  go_wp2_with fail
  refine hK _ _ trivial ?_
  clear hK K
  try simp only [Act.put, List.setIfInBounds_toArray, List.set_cons_zero, List.set_cons_succ]
  refine hd_call 11 (o := ⟨some 20, _, _, _, _, _⟩) (by kernel_rfl) rfl (by rfl) (fun K hK => ?_)
  go_simp
  refine hK _ _ trivial ?_
  clear hK K
  try simp only [Act.put, List.setIfInBounds_toArray, List.set_cons_zero, List.set_cons_succ]
  refine hd_call 12 (o := ⟨none, _, _, _, _, _⟩) (by kernel_rfl) rfl (by rfl) (fun K hK => ?_)
  go_simp
  refine hK _ _ trivial ?_
  clear hK K
  try simp only [Act.put, List.setIfInBounds_toArray, List.set_cons_zero, List.set_cons_succ]
  refine wpAnyH_done (by kernel_rfl) ?_ _
  rw [show ((m + 1 : Nat) : Int) = (m : Int) + 1 by omega] at HS2
  generalize w2.setCell ⟨T, 1 + k * 2 + 1, none⟩ (.int .i64 ((m : Int) + 1)) = w3 at *
  go_wp2
  go_ret
  exact ⟨rfl, HS2.out.1, HS2.out.2⟩
set_option maxHeartbeats 800000 in
theorem drop_some (h : Tb w T dv C) (k : Nat) (hk : k < 32) (m : Nat) (hm : (C k).ho = m) (h0 : 1 < m) (hb : m < 9223372036854775807) : Calls Try.prog 12 #[tp T, .int .i64 (k : Int)] w fun e w' => e = .returned (.tuple #[.bool false, .int .i64 0]) ∧ Tb w' T dv (put C k ⟨(C k).se, m - 1⟩) ∧ At w T w' := by
  have HC := hide (claimed_any w T dv C h (k : Int))
  rw [isCl_nat C hk, hm] at HC
  rw [show decide (0 < m) = true by simp; omega] at HC
  have q2 := h.hol hk
  rw [hm] at q2
  have f2 := h.frz (1 + k * 2 + 1)
  have hS := hide (h.setHo hk (m - 1))
  clear h hm
  generalize (C k).se = s0 at *
  go_enter Try.func12, Try.ntmps12
  go_wp2_with fail
  refine HC.out.mono ?_
  rintro e w1 ⟨rfl, rfl⟩
  go_upto_region 4 with fail
  refine wp_region_held_drew (S := fun _ => True) (by kernel_rfl) trivial (fun _ => ?_)
  obtain ⟨w2, hw2⟩ : ∃ w2, w2 = w1.drew := ⟨_, rfl⟩
  rw [← hw2]
  have q3 : w2.cell? ⟨T, 1 + k * 2 + 1, none⟩ = some (.int .i64 (m : Int)) := by rw [hw2]; exact q2
  have f3 : w2.frozen? ⟨T, 1 + k * 2 + 1, none⟩ = false := by rw [hw2]; exact f2
  have HS2 : Hid (Tb (w2.setCell ⟨T, 1 + k * 2 + 1, none⟩ (.int .i64 (m - 1 : Nat))) T dv (put C k ⟨s0, m - 1⟩) ∧ At w1 T (w2.setCell ⟨T, 1 + k * 2 + 1, none⟩ (.int .i64 (m - 1 : Nat)))) := by
    rw [hw2]; exact hide ⟨⟨hS.out.out⟩, ((At.refl _ _).drew).set _ _⟩
  clear hw2 q2 f2
  refine hd_take 0 (o := ⟨some 18, _, _, _, _, _⟩) (tp T) (by kernel_rfl) (by kernel_rfl) (by kernel_rfl) rfl (by rfl) (fun W hSw => by go_simp) (fun _ _ _ h => h) trivial ?_
  simp only [Act.put, List.setIfInBounds_toArray, List.set_cons_zero, List.set_cons_succ]
  refine hd_take 1 (o := ⟨some 19, _, _, _, _, _⟩) (.int .i64 (k : Int)) (by kernel_rfl) (by kernel_rfl) (by kernel_rfl) rfl (by rfl) (fun W hSw => by go_simp) (fun _ _ _ h => h) trivial ?_
  simp only [Act.put, List.setIfInBounds_toArray, List.set_cons_zero, List.set_cons_succ]
  refine hd_take 2 (o := ⟨some 20, _, _, _, _, _⟩) (.pointer (some ⟨T, 0, none⟩)) (by kernel_rfl) (by kernel_rfl) (by kernel_rfl) rfl (by rfl) (fun W hSw => by go_simp) (fun _ _ _ h => h) trivial ?_
  simp only [Act.put, List.setIfInBounds_toArray, List.set_cons_zero, List.set_cons_succ]
  refine hd_take 3 (o := ⟨some 21, _, _, _, _, _⟩) (.pointer (some ⟨T, 1, none⟩)) (by kernel_rfl) (by kernel_rfl) (by kernel_rfl) rfl (by rfl) (fun W hSw => by go_simp) (fun _ _ _ h => h) trivial ?_
  simp only [Act.put, List.setIfInBounds_toArray, List.set_cons_zero, List.set_cons_succ]
  refine hd_take 4 (o := ⟨some 22, _, _, _, _, _⟩) (.pointer (some ⟨T, 1 + k * 2, none⟩)) (by kernel_rfl) (by kernel_rfl) (by kernel_rfl) rfl (by rfl) (fun W hSw => by go_simp; intro h; omega) (fun _ _ _ h => h) trivial ?_
  simp only [Act.put, List.setIfInBounds_toArray, List.set_cons_zero, List.set_cons_succ]
  refine hd_take 5 (o := ⟨some 23, _, _, _, _, _⟩) (.pointer (some ⟨T, 1 + k * 2 + 1, none⟩)) (by kernel_rfl) (by kernel_rfl) (by kernel_rfl) rfl (by rfl) (fun W hSw => by go_simp) (fun _ _ _ h => h) trivial ?_
  simp only [Act.put, List.setIfInBounds_toArray, List.set_cons_zero, List.set_cons_succ]
  refine hd_take 8 (o := ⟨some 26, _, _, _, _, _⟩) (.pointer (some ⟨T, 0, none⟩)) (by kernel_rfl) (by kernel_rfl) (by kernel_rfl) rfl (by rfl) (fun W hSw => by go_simp) (fun _ _ _ h => h) trivial ?_
  simp only [Act.put, List.setIfInBounds_toArray, List.set_cons_zero, List.set_cons_succ]
  refine hd_take 9 (o := ⟨some 27, _, _, _, _, _⟩) (.pointer (some ⟨T, 1, none⟩)) (by kernel_rfl) (by kernel_rfl) (by kernel_rfl) rfl (by rfl) (fun W hSw => by go_simp) (fun _ _ _ h => h) trivial ?_
  simp only [Act.put, List.setIfInBounds_toArray, List.set_cons_zero, List.set_cons_succ]
  refine hd_call 6 (o := ⟨some 24, _, _, _, _, _⟩) (by kernel_rfl) rfl (by rfl) (fun K hK => ?_)
  go_simp
  refine hK _ _ trivial ?_
  clear hK K
  try simp only [Act.put, List.setIfInBounds_toArray, List.set_cons_zero, List.set_cons_succ]
  refine hd_call 7 (o := ⟨some 25, _, _, _, _, _⟩) (by kernel_rfl) rfl (by rfl) (fun K hK => ?_)
  go_simp
  refine hK _ _ trivial ?_
  clear hK K
  try simp only [Act.put, List.setIfInBounds_toArray, List.set_cons_zero, List.set_cons_succ]
  refine hd_call 10 (o := ⟨some 28, _, _, _, _, _⟩) (by kernel_rfl) rfl (by rfl) (fun K hK => ?_)
  go_simp
  go_wp2_with fail
  refine hK _ _ trivial ?_
  clear hK K
  try simp only [Act.put, List.setIfInBounds_toArray, List.set_cons_zero, List.set_cons_succ]
  refine hd_call 11 (o := ⟨some 29, _, _, _, _, _⟩) (by kernel_rfl) rfl (by rfl) (fun K hK => ?_)
  go_simp
  refine hK _ _ trivial ?_
  clear hK K
  try simp only [Act.put, List.setIfInBounds_toArray, List.set_cons_zero, List.set_cons_succ]
  refine hd_call 12 (o := ⟨none, _, _, _, _, _⟩) (by kernel_rfl) rfl (by rfl) (fun K hK => ?_)
  go_simp
  refine hK _ _ trivial ?_
  clear hK K
  try simp only [Act.put, List.setIfInBounds_toArray, List.set_cons_zero, List.set_cons_succ]
  refine wpAnyH_done (by kernel_rfl) ?_ _
  rw [show ((m - 1 : Nat) : Int) = (m : Int) - 1 by omega] at HS2
  generalize w2.setCell ⟨T, 1 + k * 2 + 1, none⟩ (.int .i64 ((m : Int) - 1)) = w3 at *
  go_wp2
  go_ret2
  exact ⟨rfl, HS2.out.1, HS2.out.2⟩
end
end Go.Proofs.Ytogpgchfaalikaa
