import Derived.Test.YtogpgchfaalikaaR6
namespace Go.Proofs.Ytogpgchfaalikaa
open Go.RowKit

theorem TkAt.below {w w' : World} {K R : Nat} {cv : Value} {cl : List (Nat × Cl)} (h : TkAt w K R cv cl) (hb : Below w.heap.size w w') : TkAt w' K R cv cl :=
  ⟨by rw [hb.block K h.lt]; exact h.top, ownsRow_keep h.row (fun b e => hb.block b (ownsRow_lt h.row e)), h.ne⟩
theorem own_base0 {w : World} {base e size n : Nat} {v : Value} {xs : List Value} (h : w.ownsRow base e size v n xs) : w.ownsRow 0 e size v n xs := by
  obtain ⟨q1, ⟨q2, q3⟩ | ⟨g, cp, cur, q2, q3, q4⟩⟩ := h
  · exact ⟨q1, .inl ⟨q2, q3⟩⟩
  · exact ⟨q1, .inr ⟨g, cp, cur, q2, Nat.zero_le _, q4⟩⟩
section
variable {w : World} {K R N : Nat} {C : Nat → Cl} {F : Nat → Prop}
set_option maxRecDepth 100000 in
set_option maxHeartbeats 3200000 in
theorem dropK_last (h : TkA K R C N w F) (hN : N ≤ 2000000) (n : Nat) (hn : n < 32) (hm : (C n).ho = 1) : Calls Try.prog 59 #[tp K, .int .i64 (n : Int)] w fun e w' =>
    e = .returned (.tuple #[.bool true, .int .i64 0]) ∧ ∃ F', TkA K R (put C n Cl.zero) N w' F' ∧ Ext F w F' w' := by
  obtain ⟨cv, cl, hT, hRl, hlN, he⟩ := h
  obtain ⟨i3, hi3, hz, hs3, hb⟩ := info39
  obtain ⟨n', i, q1, q2, q3, hi, hA⟩ := at_yes hT hRl (by omega) (z := (n : Int)) (by rw [isCl_nat C hn, hm]; rfl)
  obtain rfl : n' = n := by omega
  clear q1 q2 q3
  have HA := hide hA
  have HT := hide hT
  obtain ⟨c0, _, _⟩ := hT.cv0
  obtain ⟨g, cap, hv, _, _, d2, _⟩ := hT.at hi
  have hil := (List.getElem?_eq_some_iff.1 hi).1
  have HFin : Hid (∀ (u : Value) (wr : World), wr.ownsRow w.heap.size 39 3 u (without cl i cl.length).length (encCs (without cl i cl.length)) → Below w.heap.size w wr → ∃ F', TkA K R (put C n' Cl.zero) N (wr.setCell ⟨K, 0, none⟩ u) F' ∧ Ext F w F' (wr.setCell ⟨K, 0, none⟩ u)) := by
    refine hide (fun u wr ho hbl => ?_)
    have hne2 : u.ownBlock ≠ some K := fun e => by have := (World.ownsRow.lt ho K e).1; have := hT.lt; omega
    refine ⟨fun b => b = K ∨ u.ownBlock = some b, ⟨u, without cl i cl.length, ⟨?_, ?_, hne2⟩, hRl.cut hi, Nat.le_trans (without_len _ _ _) hlN, fun _ => Iff.rfl⟩, ⟨⟨hbl.os, hbl.tape, hbl.output, by simpa [World.setCell] using hbl.size, fun b hb' hf => ?_⟩, fun b hb' => ?_⟩⟩
    · have hK2 := hT.top
      rw [← hbl.block K hT.lt] at hK2
      rw [heap_setCell_same _ K 0 _ _ u hK2]; rfl
    · exact own_base0 (ownsRow_keep ho (fun b hb' => heap_setCell_other _ _ _ _ (fun e => hne2 (by have e' : b = K := e; rw [← e']; exact hb'))))
    · rw [heap_setCell_other _ _ _ _ (fun e => hf ((he b).2 (.inl e)))]; exact hbl.block b hb'
    · rcases hb' with hb' | hb'
      · exact .inl ((he b).2 (.inl hb'))
      · exact .inr (World.ownsRow.lt ho b hb').1
  obtain ⟨L, hL⟩ : ∃ L, cl.length = L := ⟨_, rfl⟩
  rw [hL] at hv hil HFin
  have HL := hide hL
  have hLN : L ≤ 2000000 := by omega
  subst hv
  have hil' : (i : Int) < (L : Int) := by omega
  simp only [hm] at d2
  clear hA hT hi hRl he hL hlN hm
  go_enter Try.func59, Try.ntmps59
  go_wp2_with fail
  refine HA.out.mono ?_
  rintro e w1 ⟨rfl, rfl⟩
  go_upto_region 9 with fail
  go_loopw [7, 8] (fun u x wr => ∃ k : Nat, k ≤ L ∧ x = .int .i64 (k : Int) ∧ Hid (wr.ownsRow w1.heap.size 39 3 u (without cl i k).length (encCs (without cl i k))) ∧ Hid (Below w1.heap.size w1 wr)) (fun _ x _ => L - (intOf x).toNat)
  case atStart => exact ⟨0, by omega, rfl, ⟨rfl, .inl ⟨rfl, rfl⟩⟩, Below.refl _ _⟩
  case round =>
  obtain ⟨k, hk, rfl, KO, KB⟩ := hrel
  clear d2
  have HTr := hide (HT.out.below KB.out)
  obtain ⟨c1, _, f1⟩ := HTr.out.cv0
  by_cases hlt : k < L
  · have hd : decide ((k : Int) < (L : Int)) = true := by simp; omega
    by_cases hki : k = i
    · subst hki
      have HS : Hid (wr.ownsRow w1.heap.size 39 3 u7 (without cl k (k + 1)).length (encCs (without cl k (k + 1)))) := hide (by rw [without_skip]; exact KO.out)
      go_wp2
      go_roundw
      case rel =>
        first
          | exact ⟨k + 1, by omega, by go_num, HS, KB⟩
          | ((repeat apply Exists.intro); refine ⟨?_, rfl⟩; exact ⟨k + 1, by omega, by go_num, HS, KB⟩)
      case measure => simp [intOf]; omega
    · have hbi : ((k : Int) == (i : Int)) = false := by rw [beq_eq_false_iff_ne]; omega
      have hbi2 : (k == i) = false := by simpa using hki
      obtain ⟨c, hc⟩ : ∃ c, cl[k]? = some c := ⟨_, List.getElem?_eq_getElem (by rw [HL.out]; exact hlt)⟩
      obtain ⟨g', cap', hv', e0, e1, e2, _⟩ := HTr.out.at hc
      rw [HL.out] at hv'
      cases hv'
      have HNx := hide (without_next hki hc)
      have hwl := without_len cl i k
      obtain ⟨M, hM⟩ : ∃ M, (without cl i k).length = M := ⟨_, rfl⟩
      rw [hM] at KO hwl
      have HM := hide hM
      have hw9 := KB.out.size
      obtain ⟨au, cu, rfl⟩ := own_shape KO.out
      clear hM hc hki
      go_upto_region 10 with (at_builtin; refine wpList_append_own_at _ rfl _ _ 36 rfl w1.heap.size 39 i3 (.agg #[.int .i64 0, .int .i64 0, .int .i64 0]) 3 24 Try.underlying36 hi3 hz hs3 hb rfl (by decide) (.slice au M cu) M (encCs (without cl i k)) rfl (KO.out.alloc _) ⟨wr.heap.size, 0, none⟩ 1 1 [.int .i64 (c.1 : Int), .int .i64 c.2.se, .int .i64 (c.2.ho : Int)] rfl rfl (cell_three_new _ _ _ _ _) (by simp [Value.oneCell']) (by unfold maxLen; omega) (by omega) (by simp; omega) ?_; intro v2 w2 ho2 hg2 _ _)
      have HO2 : Hid (w2.ownsRow w1.heap.size 39 3 v2 (without cl i (k + 1)).length (encCs (without cl i (k + 1)))) := by
        refine hide ?_
        rw [HNx.out, encCs_snoc, List.length_append, HM.out]
        exact ho2
      have HB2 : Hid (Below w1.heap.size w1 w2) := hide ((KB.out.alloc hw9 _).grown hg2 (by simp; omega) (fun j hj => (KO.out.lt j hj).1))
      clear ho2 hg2
      go_wp2
      go_roundw
      case rel =>
        first
          | exact ⟨k + 1, by omega, by go_num, HO2, HB2⟩
          | ((repeat apply Exists.intro); refine ⟨?_, rfl⟩; exact ⟨k + 1, by omega, by go_num, HO2, HB2⟩)
      case measure => simp [intOf]; omega
  · obtain rfl : k = L := by omega
    have hd : decide ((k : Int) < (k : Int)) = false := by simp
    have HE := hide (HFin.out u7 wr KO.out KB.out)
    obtain ⟨au, cu, rfl⟩ := own_shape KO.out
    clear HFin KO KB HTr
    go_upto_region 14 with fail
    generalize wr.setCell ⟨K, 0, none⟩ _ = w3 at *
    go_wp2
    go_ret2
    exact ⟨rfl, HE.out⟩
end
end Go.Proofs.Ytogpgchfaalikaa
