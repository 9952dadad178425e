import Derived.Test.YtnpklhjndominaaC3
namespace Go.Proofs.Ytnpklhjndominaa
open Go.RowKit

/-- a pointer to a disk -/
abbrev dp (B : Nat) : Value := .pointer (some ⟨B, 0, none⟩)
theorem down_any {B : Nat} {D : Dsk} {w : World} {F : Nat → Prop} (hd : DkA B D w F) : Calls Try.prog 43 #[dp B] w fun e w' => e = .returned (.bool D.down) ∧ w' = w := by
  obtain ⟨cs, cv, h, he⟩ := hd
  have h1 := h.dwn
  go_enter Try.func43, Try.ntmps43
  go_wp2
  go_ret
  exact ⟨rfl, rfl⟩
theorem acts_any {B : Nat} {D : Dsk} {w : World} {F : Nat → Prop} (hd : DkA B D w F) : Calls Try.prog 45 #[dp B] w fun e w' => e = .returned (.int .i64 (D.acts : Int)) ∧ w' = w := by
  obtain ⟨cs, cv, h, he⟩ := hd
  have h1 := h.act
  go_enter Try.func45, Try.ntmps45
  go_wp2
  go_ret
  exact ⟨rfl, rfl⟩
theorem act_ok {B : Nat} {D : Dsk} {w : World} {F : Nat → Prop} (hd : DkA B D w F) (hw : D.down = false) (hl : D.armed = true → D.left ≠ 0) (ha : D.acts < 1152921504606846976) :
    Calls Try.prog 30 #[dp B] w fun e w' => e = .returned (.int .i64 0) ∧ DkA B D.acted w' F ∧ Ext F w F w' := by
  obtain ⟨cs, cv, h, he⟩ := hd
  have hB := (he B).2 (.inl rfl)
  have h1 := h.dwn
  have h2 := h.act
  have h3 := h.arm
  have h4 := h.lft
  have f1 := h.frz 131073
  have f2 := h.frz 131075
  have hlt := h.ok.l
  rw [hw] at h1
  cases harm : D.armed
  · rw [harm] at h3
    have HH := hide h
    clear h
    obtain ⟨A, hA⟩ : ∃ A, D.acts = A := ⟨_, rfl⟩
    have HA := hide hA
    have HM := hide harm
    rw [hA] at h2 ha
    clear hA harm
    go_enter Try.func30, Try.ntmps30
    go_wp2
    go_ret
    refine ⟨rfl, ⟨_, cv, HH.out.cell1 (D' := D.acted) 131073 _ ?_ rfl HH.out.ok.acted, he⟩, ⟨(Mod.refl _ _).setCell (.inl hB) _, fun _ h => .inl h⟩⟩
    have := HH.out.inn.setAct HH.out.ok (A + 1)
    simpa [Dsk.acted, HM.out, HA.out] using this
  · rw [harm] at h3
    have hl' := hl harm
    have HH := hide h
    clear h hl
    obtain ⟨A, hA⟩ : ∃ A, D.acts = A := ⟨_, rfl⟩
    obtain ⟨L, hL⟩ : ∃ L, D.left = L := ⟨_, rfl⟩
    have HA := hide hA
    have HL := hide hL
    have HM := hide harm
    rw [hA] at h2 ha
    rw [hL] at h4 hl' hlt
    have hd1 : decide ((L : Int) = 0) = false := by simp; omega
    have hd2 : decide (L = 0) = false := by simp; omega
    clear hA harm hL
    go_enter Try.func30, Try.ntmps30
    go_wp2
    go_ret
    have hLe : (L : Int) - 1 = ((L - 1 : Nat) : Int) := by omega
    rw [hLe]
    have hc1 := HH.out.inn.setLft HH.out.ok (L - 1)
    have hk1 : ({ D with left := L - 1 } : Dsk).Ok := ⟨HH.out.ok.m, HH.out.ok.c, by show L - 1 < _; omega⟩
    have hD1 := HH.out.cell1 131075 _ hc1 rfl hk1
    have hc2 := hc1.setAct hk1 (A + 1)
    refine ⟨rfl, ⟨_, cv, hD1.cell1 (D' := D.acted) 131073 _ ?_ rfl HH.out.ok.acted, he⟩, ⟨((Mod.refl _ _).setCell (.inl hB) _).setCell (.inl hB) _, fun _ h => .inl h⟩⟩
    simpa [Dsk.acted, HM.out, HA.out, HL.out] using hc2
theorem Dsk.off_of {D : Dsk} (h : D.down = true) : D.off = D := by cases D; simp at h; subst h; rfl
theorem act_no {B : Nat} {D : Dsk} {w : World} {F : Nat → Prop} (hd : DkA B D w F) (hn : D.down = true ∨ (D.armed = true ∧ D.left = 0)) :
    Calls Try.prog 30 #[dp B] w fun e w' => e = .returned (.int .i64 42) ∧ DkA B D.off w' F ∧ Ext F w F w' := by
  have HD := hide hd
  obtain ⟨cs, cv, h, he⟩ := hd
  have hB := (he B).2 (.inl rfl)
  have h1 := h.dwn
  have h3 := h.arm
  have h4 := h.lft
  have f1 := h.frz 131076
  have hlt := h.ok.l
  by_cases hz : D.armed = true ∧ D.left = 0
  · obtain ⟨harm, hleft⟩ := hz
    rw [harm] at h3
    rw [hleft] at h4
    obtain ⟨dn, hdn⟩ : ∃ dn, D.down = dn := ⟨_, rfl⟩
    rw [hdn] at h1
    have HH := hide h
    clear h hn harm hleft hlt hdn
    go_enter Try.func30, Try.ntmps30
    go_wp2
    go_ret
    exact ⟨rfl, ⟨_, cv, HH.out.cell1 (D' := D.off) 131076 _ (HH.out.inn.setDwn HH.out.ok true) rfl HH.out.ok.off, he⟩, ⟨(Mod.refl _ _).setCell (.inl hB) _, fun _ h => .inl h⟩⟩
  · have hw : D.down = true := by rcases hn with h | h; exact h; exact absurd h hz
    rw [hw] at h1
    have HO := hide (Dsk.off_of hw)
    clear h hn hw
    cases harm : D.armed
    · rw [harm] at h3
      clear harm hz
      go_enter Try.func30, Try.ntmps30
      go_wp2
      go_ret
      exact ⟨rfl, by rw [HO.out]; exact HD.out, Ext.refl _ _⟩
    · rw [harm] at h3
      obtain ⟨L, hL⟩ : ∃ L, D.left = L := ⟨_, rfl⟩
      rw [hL] at h4 hlt
      have hL0 : L ≠ 0 := fun e => hz ⟨harm, by rw [hL, e]⟩
      have hd1 : decide ((L : Int) = 0) = false := by simp; omega
      have hd2 : decide (L = 0) = false := by simp; omega
      clear harm hz hL
      go_enter Try.func30, Try.ntmps30
      go_wp2
      go_ret
      exact ⟨rfl, by rw [HO.out]; exact HD.out, Ext.refl _ _⟩
theorem arm_neg {B : Nat} {w : World} (z : Int) (hz : z < 0) : Calls Try.prog 19 #[dp B, .int .i64 z] w fun e w' => e = .returned (.int .i64 1) ∧ w' = w := by
  have hd1 : decide (z < 0) = true := by simp; omega
  go_enter Try.func19, Try.ntmps19
  go_wp2
  go_ret
  exact ⟨rfl, rfl⟩
theorem arm_down {B : Nat} {D : Dsk} {w : World} {F : Nat → Prop} (hd : DkA B D w F) (n : Nat) (hw : D.down = true) : Calls Try.prog 19 #[dp B, .int .i64 (n : Int)] w fun e w' => e = .returned (.int .i64 42) ∧ w' = w := by
  obtain ⟨cs, cv, h, he⟩ := hd
  have h1 := h.dwn
  rw [hw] at h1
  clear h
  have hd1 : decide ((n : Int) < 0) = false := by simp
  go_enter Try.func19, Try.ntmps19
  go_wp2
  go_ret
  exact ⟨rfl, rfl⟩
theorem arm_ok {B : Nat} {D : Dsk} {w : World} {F : Nat → Prop} (hd : DkA B D w F) (n : Nat) (hn : n < 9223372036854775808) (hw : D.down = false) :
    Calls Try.prog 19 #[dp B, .int .i64 (n : Int)] w fun e w' => e = .returned (.int .i64 0) ∧ DkA B (D.arm n) w' F ∧ Ext F w F w' := by
  obtain ⟨cs, cv, h, he⟩ := hd
  have hB := (he B).2 (.inl rfl)
  have h1 := h.dwn
  have h3 := h.arm
  have h4 := h.lft
  have f1 := h.frz 131074
  have f2 := h.frz 131075
  rw [hw] at h1
  obtain ⟨am, ham⟩ : ∃ am, D.armed = am := ⟨_, rfl⟩
  rw [ham] at h3
  have HH := hide h
  clear h ham
  have hd1 : decide ((n : Int) < 0) = false := by simp
  go_enter Try.func19, Try.ntmps19
  go_wp2
  go_ret
  have hc1 := HH.out.inn.setArm HH.out.ok true
  have hk1 : ({ D with armed := true } : Dsk).Ok := ⟨HH.out.ok.m, HH.out.ok.c, HH.out.ok.l⟩
  exact ⟨rfl, ⟨_, cv, (HH.out.cell1 131074 _ hc1 rfl hk1).cell1 (D' := D.arm n) 131075 _ (hc1.setLft hk1 n) rfl (HH.out.ok.arm hn), he⟩, ⟨((Mod.refl _ _).setCell (.inl hB) _).setCell (.inl hB) _, fun _ h => .inl h⟩⟩
theorem seen_any {B : Nat} {D : Dsk} {w : World} {F : Nat → Prop} (hd : DkA B D w F) (s : Nat) (hs : s < 1024) :
    Calls Try.prog 47 #[dp B, .int .i64 (s : Int)] w fun e w' => ∃ g o, e = .returned (.pointer (some ⟨g, o, none⟩)) ∧ w' = w ∧ Hid (w.rangeAt g o ((D.seen s).map By)) := by
  obtain ⟨cs, cv, h, he⟩ := hd
  obtain ⟨ao, cap, hcv⟩ := h.len
  have h1 := h.cch
  rw [hcv] at h1
  obtain ⟨n, hn⟩ : ∃ n, D.c.length = n := ⟨_, rfl⟩
  rw [hn] at h1 hcv
  have HH := hide h
  have HN := hide hn
  have hbig : n ≤ 9223372036854775807 := by
    have := h.row
    obtain ⟨_, ⟨_, h0⟩ | ⟨g, cp, cur, _, _, _, h2, h3, _⟩⟩ := this
    · omega
    · unfold maxLen at h3; omega
  clear h hn
  go_enter Try.func47, Try.ntmps47
  go_wp2
  go_loop [5] (fun i => ∃ k : Nat, k ≤ n ∧ i = .int .i64 ((k : Int) - 1) ∧ Hid (∀ j y, k ≤ j → D.c[j]? = some y → y.1 ≠ s)) (fun i => (intOf i + 1).toNat)
  case atStart =>
    refine ⟨n, Nat.le_refl _, rfl, fun j y hj hy => ?_⟩
    have := (List.getElem?_eq_some_iff.1 hy).1
    have := HN.out
    omega
  case round =>
    obtain ⟨k, hk, rfl, HK⟩ := hrel
    by_cases h0 : k = 0
    · subst h0
      go_wp2
      go_ret
      refine ⟨B, s * 128, ?_, rfl, ?_⟩
      · rfl
      · have e : D.seen s = D.M s := play_none _ _ _ (fun x hx => by obtain ⟨j, hj⟩ := List.getElem?_of_mem hx; exact HK.out j x (Nat.zero_le _) hj)
        rw [e]; exact HH.out.med hs
    · have hd1 : decide ((0 : Int) ≤ (k : Int) - 1) = true := by simp; omega
      have hkl : k - 1 < D.c.length := by rw [HN.out]; omega
      obtain ⟨x, hx⟩ : ∃ x, D.c[k - 1]? = some x := ⟨_, List.getElem?_eq_getElem hkl⟩
      obtain ⟨g, cp, hcv', hgB, hsec, hbyt⟩ := HH.out.entry hx
      rw [HN.out, hcv] at hcv'
      simp at hcv'
      obtain ⟨rfl, rfl⟩ := hcv'
      obtain ⟨t, ht⟩ : ∃ t, x.1 = t := ⟨_, rfl⟩
      rw [ht] at hsec
      have HX := hide (And.intro hx (And.intro ht hbyt))
      clear hx ht hbyt
      by_cases hst : t = s
      · subst hst
        go_wp2
        go_ret
        refine ⟨g, (k - 1) * 129 + 1, rfl, rfl, ?_⟩
        have e : D.seen t = x.2 := play_found _ _ (k - 1) t x HX.out.1 HX.out.2.1 (fun j y hj hy => HK.out j y (by omega) hy)
        rw [e]; exact HX.out.2.2
      · have hd2 : decide ((t : Int) = (s : Int)) = false := by simp; omega
        have hd3 : decide (t = s) = false := by simp; omega
        go_wp2
        refine ⟨⟨k - 1, by omega, by congr 1; omega, fun j y hj hy => ?_⟩, by simp [intOf]; omega⟩
        by_cases e : j = k - 1
        · subst e
          rw [HX.out.1] at hy
          cases hy
          rw [HX.out.2.1]; exact hst
        · exact HK.out j y (by omega) hy
end Go.Proofs.Ytnpklhjndominaa
