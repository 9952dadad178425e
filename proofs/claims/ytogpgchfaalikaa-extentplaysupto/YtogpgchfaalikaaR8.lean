import Derived.Test.YtogpgchfaalikaaR7
namespace Go.Proofs.Ytogpgchfaalikaa
open Go.RowKit

section
variable {w : World} {K R N : Nat} {C : Nat → Cl} {F : Nat → Prop}
set_option maxRecDepth 100000 in
set_option maxHeartbeats 3200000 in
theorem listK_any (h : TkA K R C N w F) (hN : N ≤ 2000000) : Calls Try.prog 61 #[tp K] w fun e w' => ∃ v, e = .returned v ∧ w'.ownsRow w.heap.size 39 3 v (cld C 32).length (tells C (cld C 32)) ∧ Below w.heap.size w w' := by
  obtain ⟨cv, cl, hT, hRl, hlN, he⟩ := h
  obtain ⟨i3, hi3, hz, hs3, hb⟩ := info39
  have HT := hide hT
  have HR := hide hRl
  have hLN : cl.length ≤ 2000000 := by omega
  clear hT hRl he hlN
  go_enter Try.func61, Try.ntmps61
  go_wp2
  go_loopw [3, 4] (fun u x wr => ∃ k : Nat, k ≤ 32 ∧ x = .int .i64 (k : Int) ∧ Hid (wr.ownsRow w.heap.size 39 3 u (cld C k).length (tells C (cld C k))) ∧ Hid (Below w.heap.size w wr)) (fun _ x _ => 32 - (intOf x).toNat)
  case atStart => exact ⟨0, by omega, rfl, ⟨rfl, .inl ⟨rfl, rfl⟩⟩, Below.refl _ _⟩
  case round =>
  obtain ⟨k, hk, rfl, KO, KB⟩ := hrel
  by_cases h32 : k < 32
  · have HTr := hide (HT.out.below KB.out)
    obtain ⟨c1, _, _⟩ := HTr.out.cv0
    by_cases h0 : (C k).ho = 0
    · have HA := hide (at_no HTr.out HR.out (by omega) (z := (k : Int)) (by rw [isCl_nat C h32]; simp [h0]))
      have HS : Hid (wr.ownsRow w.heap.size 39 3 u3 (cld C (k + 1)).length (tells C (cld C (k + 1)))) := hide (by rw [cld_no h0]; exact KO.out)
      clear h0
      go_wp2_with fail
      refine HA.out.mono ?_
      rintro e w1 ⟨rfl, rfl⟩
      go_wp2
      go_roundw
      case rel =>
        first
          | exact ⟨k + 1, by omega, by go_num, HS, KB⟩
          | ((repeat apply Exists.intro); refine ⟨?_, rfl⟩; exact ⟨k + 1, by omega, by go_num, HS, KB⟩)
      case measure => simp [intOf]; omega
    · have h0' : 0 < (C k).ho := by omega
      obtain ⟨n', i, q1, q2, q3, hi, hA⟩ := at_yes HTr.out HR.out (by omega) (z := (k : Int)) (by rw [isCl_nat C h32]; simp [h0'])
      obtain rfl : n' = k := by omega
      clear q1 q2 q3
      have HA := hide hA
      obtain ⟨g, cap, hv, e0, e1, e2, _⟩ := HTr.out.at hi
      have hil := (List.getElem?_eq_some_iff.1 hi).1
      obtain ⟨Ln, hLn⟩ : ∃ Ln, cl.length = Ln := ⟨_, rfl⟩
      rw [hLn] at hv hil hLN
      subst hv
      have hil' : (i : Int) < (Ln : Int) := by omega
      have hd7 : decide (0 ≤ (i : Int)) = true := by simp
      have HNx := hide (cld_yes h0')
      have hwl := cld_len C n'
      obtain ⟨M, hM⟩ : ∃ M, (cld C n').length = M := ⟨_, rfl⟩
      rw [hM] at KO hwl
      have HM := hide hM
      have HT1 : Hid (tell1 C n' = [.int .i64 (n' : Int), .int .i64 (C n').se, .int .i64 ((C n').ho : Int)]) := hide rfl
      have hw9 := KB.out.size
      obtain ⟨au, cu, rfl⟩ := own_shape KO.out
      simp only at e0 e1 e2
      generalize (C n').se = se at *
      generalize (C n').ho = ho at *
      clear hM hi hA hLn h0
      go_wp2_with fail
      refine HA.out.mono ?_
      rintro e w1 ⟨rfl, rfl⟩
      go_upto_region 4 with (at_builtin; refine wpList_append_own_at _ rfl _ _ 36 rfl w.heap.size 39 i3 (.agg #[.int .i64 0, .int .i64 0, .int .i64 0]) 3 24 Try.underlying36 hi3 hz hs3 hb rfl (by decide) (.slice au M cu) M (tells C (cld C n')) rfl (KO.out.alloc _) ⟨w1.heap.size, 0, none⟩ 1 1 [.int .i64 (n' : Int), .int .i64 se, .int .i64 (ho : Int)] rfl rfl (cell_three_new _ _ _ _ _) (by simp [Value.oneCell']) (by unfold maxLen; omega) (by omega) (by simp; omega) ?_; intro v2 w2 ho2 hg2 _ _)
      have HO2 : Hid (w2.ownsRow w.heap.size 39 3 v2 (cld C (n' + 1)).length (tells C (cld C (n' + 1)))) := by
        refine hide ?_
        rw [HNx.out, tells_snoc, HT1.out, List.length_append, HM.out]
        exact ho2
      have HB2 : Hid (Below w.heap.size w w2) := hide ((KB.out.alloc hw9 _).grown hg2 (by simp; omega) (fun j hj => (KO.out.lt j hj).1))
      clear ho2 hg2
      go_wp2
      go_roundw
      case rel =>
        first
          | exact ⟨n' + 1, by omega, by go_num, HO2, HB2⟩
          | ((repeat apply Exists.intro); refine ⟨?_, rfl⟩; exact ⟨n' + 1, by omega, by go_num, HO2, HB2⟩)
      case measure => simp [intOf]; omega
  · obtain rfl : k = 32 := by omega
    go_wp2
    go_ret
    exact ⟨_, rfl, KO.out, KB.out⟩
end
end Go.Proofs.Ytogpgchfaalikaa
