import Derived.Test.YtogpgchfaalikaaR1
namespace Go.Proofs.Ytogpgchfaalikaa
open Go.RowKit

theorem newK_any (w : World) (R : Nat) : Calls Try.prog 31 #[tp R] w fun e w' => e = .returned (tp w.heap.size) ∧ TkA w.heap.size R (fun _ => Cl.zero) 0 w' (fun b => b = w.heap.size) ∧ Below w.heap.size w w' := by
  go_enter Try.func31, Try.ntmps31
  go_wp2
  go_ret
  refine ⟨rfl, ⟨.slice none 0 0, [], ⟨heap_alloc_last _ _, ⟨rfl, .inl ⟨rfl, rfl⟩⟩, by simp [Value.ownBlock]⟩, ⟨fun i n c h => by simp at h, fun n _ h => absurd h (by simp [Cl.zero]), fun i j n c d h => by simp at h⟩, Nat.le_refl _, fun b => by simp [Value.ownBlock]⟩, (Below.refl _ _).alloc (Nat.le_refl _) _⟩
section
variable {w : World} {K R N : Nat} {C : Nat → Cl} {F : Nat → Prop}
theorem serialK_any (h : TkA K R C N w F) (hN : N ≤ 2097152) (z : Int) : Calls Try.prog 60 #[tp K, .int .i64 z] w fun e w' =>
    e = .returned (if isCl C z then .tuple #[.int .i64 (C z.toNat).se, .int .i64 0] else .tuple #[.int .i64 0, .int .i64 100]) ∧ w' = w := by
  obtain ⟨cv, cl, hT, hRl, hlN, he⟩ := h
  obtain ⟨c0, _, _⟩ := hT.cv0
  cases hc : isCl C z
  · have HA := hide (at_no hT hRl (by omega) hc)
    simp only [Bool.false_eq_true, if_false]
    clear hc hT
    go_enter Try.func60, Try.ntmps60
    go_wp2_with fail
    refine HA.out.mono ?_
    rintro e w1 ⟨rfl, rfl⟩
    go_wp2
    go_ret2
    exact ⟨rfl, rfl⟩
  · obtain ⟨n, i, rfl, hn, hh, hi, hA⟩ := at_yes hT hRl (by omega) hc
    have HA := hide hA
    simp only [if_true, Int.toNat_natCast]
    obtain ⟨g, cap, hv, _, d1, _, _⟩ := hT.at hi
    have hil := (List.getElem?_eq_some_iff.1 hi).1
    obtain ⟨L, hL⟩ : ∃ L, cl.length = L := ⟨_, rfl⟩
    rw [hL] at hv hil
    subst hv
    have hil' : (i : Int) < (L : Int) := by omega
    simp only at d1
    generalize (C n).se = se at *
    clear hc hi hL hT hA hh
    go_enter Try.func60, Try.ntmps60
    go_wp2_with fail
    refine HA.out.mono ?_
    rintro e w1 ⟨rfl, rfl⟩
    go_wp2
    go_ret2
    exact ⟨rfl, rfl⟩
theorem whereK_any (h : TkA K R C N w F) (hN : N ≤ 2097152) (z s : Int) : Calls Try.prog 63 #[tp K, .int .i64 z, .int .i64 s] w fun e w' => e = .returned (.tuple #[.int .i64 (loc C z s).1, .int .i64 (loc C z s).2]) ∧ w' = w := by
  obtain ⟨cv, cl, hT, hRl, hlN, he⟩ := h
  unfold loc
  cases hc : isCl C z
  · have HA := hide (at_no hT hRl (by omega) hc)
    simp only [Bool.false_eq_true, if_false]
    clear hc hT
    go_enter Try.func63, Try.ntmps63
    go_wp2_with fail
    refine HA.out.mono ?_
    rintro e w1 ⟨rfl, rfl⟩
    go_wp2
    go_ret2
    exact ⟨rfl, rfl⟩
  · obtain ⟨n, i, rfl, hn, hh, hi, hA⟩ := at_yes hT hRl (by omega) hc
    have HA := hide hA
    simp only [if_true]
    have hi0 : decide ((i : Int) < 0) = false := by simp
    clear hc hi hA hT hh
    rcases Int.lt_or_le s 0 with h1 | h1
    · have hd : decide (s < 0) = true := by simp [h1]
      rw [if_neg (by omega)]
      go_enter Try.func63, Try.ntmps63
      go_wp2_with fail
      refine HA.out.mono ?_
      rintro e w1 ⟨rfl, rfl⟩
      go_wp2
      go_ret2
      exact ⟨rfl, rfl⟩
    · have hd : decide (s < 0) = false := by simp; omega
      by_cases h2 : s < 32
      · have hd2 : decide (32 ≤ s) = false := by simp; omega
        rw [if_pos ⟨h1, h2⟩]
        go_enter Try.func63, Try.ntmps63
        go_wp2_with fail
        refine HA.out.mono ?_
        rintro e w1 ⟨rfl, rfl⟩
        go_wp2
        go_ret2
        exact ⟨rfl, rfl⟩
      · have hd2 : decide (32 ≤ s) = true := by simp; omega
        rw [if_neg (by omega)]
        go_enter Try.func63, Try.ntmps63
        go_wp2_with fail
        refine HA.out.mono ?_
        rintro e w1 ⟨rfl, rfl⟩
        go_wp2
        go_ret2
        exact ⟨rfl, rfl⟩
theorem readK_no (h : TkA K R C N w F) (hN : N ≤ 2097152) (z s : Int) (hn : (loc C z s).2 ≠ 0) : Calls Try.prog 41 #[tp K, .int .i64 z, .int .i64 s] w fun e w' => e = .returned (.tuple #[.slice none 0 0, .int .i64 (loc C z s).2]) ∧ w' = w := by
  have HL := hide (whereK_any h hN z s)
  have hd : ((loc C z s).2 == 0) = false := by simp [hn]
  generalize (loc C z s).2 = y at *
  generalize (loc C z s).1 = x at *
  clear h hn
  go_enter Try.func41, Try.ntmps41
  go_wp2_with fail
  refine HL.out.mono ?_
  rintro e w1 ⟨rfl, rfl⟩
  go_wp2
  go_ret2
  exact ⟨rfl, rfl⟩
theorem writeK_no (h : TkA K R C N w F) (hN : N ≤ 2097152) (z s : Int) (v : Value) (hn : (loc C z s).2 ≠ 0) : Calls Try.prog 43 #[tp K, .int .i64 z, .int .i64 s, v] w fun e w' => e = .returned (.int .i64 (loc C z s).2) ∧ w' = w := by
  have HL := hide (whereK_any h hN z s)
  have hd : ((loc C z s).2 == 0) = false := by simp [hn]
  generalize (loc C z s).2 = y at *
  generalize (loc C z s).1 = x at *
  clear h hn
  go_enter Try.func43, Try.ntmps43
  go_wp2_with fail
  refine HL.out.mono ?_
  rintro e w1 ⟨rfl, rfl⟩
  go_wp2
  go_ret
  exact ⟨rfl, rfl⟩
theorem readK_via (h : TkA K R C N w F) (hN : N ≤ 2097152) (n s P : Nat) (hn : n < 32) (hs : s < 32) (hc : 0 < (C n).ho) (hP : n * 32 + s = P) (Q : Value → Int → World → Prop)
    (hR : Calls Try.prog 64 #[tp R, .int .i64 (P : Int)] w fun e w' => ∃ r x, e = .returned (.tuple #[r, .int .i64 x]) ∧ Q r x w') :
    Calls Try.prog 41 #[tp K, .int .i64 (n : Int), .int .i64 (s : Int)] w fun e w' => ∃ r x, e = .returned (.tuple #[r, .int .i64 x]) ∧ Q r x w' := by
  have HL := hide (whereK_any h hN (n : Int) (s : Int))
  rw [loc_at hn hs hc hP] at HL
  have HR := hide hR
  obtain ⟨cv, cl, hT, _⟩ := h
  obtain ⟨_, c1, _⟩ := hT.cv0
  clear hT hc hR hP
  go_enter Try.func41, Try.ntmps41
  go_wp2_with fail
  refine HL.out.mono ?_
  rintro e w1 ⟨rfl, rfl⟩
  go_wp2_with fail
  refine HR.out.mono ?_
  rintro e w2 ⟨r, x, rfl, hq⟩
  have HQ := hide hq
  clear hq
  go_wp2
  go_ret2
  exact ⟨r, x, rfl, HQ.out⟩
theorem writeK_via (h : TkA K R C N w F) (hN : N ≤ 2097152) (n s P : Nat) (hn : n < 32) (hs : s < 32) (hc : 0 < (C n).ho) (hP : n * 32 + s = P) (v : Value) (Q : Int → World → Prop)
    (hR : Calls Try.prog 65 #[tp R, .int .i64 (P : Int), v] w fun e w' => ∃ x, e = .returned (.int .i64 x) ∧ Q x w') :
    Calls Try.prog 43 #[tp K, .int .i64 (n : Int), .int .i64 (s : Int), v] w fun e w' => ∃ x, e = .returned (.int .i64 x) ∧ Q x w' := by
  have HL := hide (whereK_any h hN (n : Int) (s : Int))
  rw [loc_at hn hs hc hP] at HL
  have HR := hide hR
  obtain ⟨cv, cl, hT, _⟩ := h
  obtain ⟨_, c1, _⟩ := hT.cv0
  clear hT hc hR hP
  go_enter Try.func43, Try.ntmps43
  go_wp2_with fail
  refine HL.out.mono ?_
  rintro e w1 ⟨rfl, rfl⟩
  go_wp2_with fail
  refine HR.out.mono ?_
  rintro e w2 ⟨x, rfl, hq⟩
  have HQ := hide hq
  clear hq
  go_wp2
  go_ret
  exact ⟨x, rfl, HQ.out⟩
theorem flushK_via (h : TkA K R C N w F) (Q : Int → World → Prop)
    (hR : Calls Try.prog 66 #[tp R] w fun e w' => ∃ x, e = .returned (.int .i64 x) ∧ Q x w') :
    Calls Try.prog 44 #[tp K] w fun e w' => ∃ x, e = .returned (.int .i64 x) ∧ Q x w' := by
  have HR := hide hR
  obtain ⟨cv, cl, hT, _⟩ := h
  obtain ⟨_, c1, _⟩ := hT.cv0
  clear hT hR
  go_enter Try.func44, Try.ntmps44
  go_wp2_with fail
  refine HR.out.mono ?_
  rintro e w2 ⟨x, rfl, hq⟩
  have HQ := hide hq
  clear hq
  go_wp2
  go_ret
  exact ⟨x, rfl, HQ.out⟩
end
end Go.Proofs.Ytogpgchfaalikaa
