import Derived.Test.YtmflohehnoghhaaPG
import Derived.BigQuiet
namespace Go.Proofs.Ytmflohehnoghhaa
open Go.RowKit

theorem code_page {m : Nat → E} {v s : Int} (h : v < 0 ∨ 16 ≤ v) : code m v s = 60 := by unfold code; rw [if_pos h]
theorem code_slot {m : Nat → E} {v s : Int} (h : ¬ (v < 0 ∨ 16 ≤ v)) (hs : s < 0 ∨ 48 ≤ s) : code m v s = 30 := by unfold code; rw [if_neg h, if_pos hs]
theorem code_there {m : Nat → E} {v s : Int} (h : ¬ (v < 0 ∨ 16 ≤ v)) (hs : ¬ (s < 0 ∨ 48 ≤ s)) (hm : (m v.toNat).isSome = true) : code m v s = 61 := by unfold code; rw [if_neg h, if_neg hs, if_pos hm]
theorem code_free {m : Nat → E} {v s : Int} (h : ¬ (v < 0 ∨ 16 ≤ v)) (hs : ¬ (s < 0 ∨ 48 ≤ s)) (hm : ¬ (m v.toNat).isSome = true) : code m v s = 0 := by unfold code; rw [if_neg h, if_neg hs, if_neg hm]
section
variable {w : World} {R : Nat} {L : List Mp} {m : Nat → E} {F : Nat → Prop}
set_option maxHeartbeats 4000000 in
theorem loadR_any (h : RtA R L w F) (a : Option Addr) (len cap : Nat) (Z : Nat → Mp) (hz : IsMaps w a len Z) (hl : len ≤ maxLen) :
    Calls Try.prog 14 #[rp' R, .slice a len cap] w fun e w' => (∃ c, lay Z len = .error c ∧ e = .returned (.int .i64 c) ∧ Below w.heap.size w w') ∨ (∃ m' K F', lay Z len = .ok m' ∧ e = .returned (.int .i64 0) ∧ Ag m' K ∧ RtA R K w' F' ∧ Ext F w F' w') := by
  obtain ⟨i50, hi, hz0, hsz, hby⟩ := info50'
  obtain ⟨va, hR, he⟩ := h
  have hml : (len : Int) ≤ 9223372036854775807 := by unfold maxLen at hl; omega
  have HR := hide hR
  have HE := hide he
  have HZ := hide hz
  have HL := hide hl
  clear hR he hz hl
  go_enter Try.func14, Try.ntmps14
  go_wp2_with fail
  go_loopw [6, 5] (fun x v wr => ∃ (k : Nat) (m1 : Nat → E) (K : List Mp), k ≤ len ∧ x = .int .i64 (k : Int) ∧ Hid (lay Z k = .ok m1) ∧ Hid (Ag m1 K) ∧ Hid (OwM wr w.heap.size v K) ∧ Hid (Below w.heap.size w wr)) (fun x _ _ => len - (intOf x).toNat)
  case atStart => exact ⟨0, nil, [], by omega, rfl, hide rfl, hide Ag.zero, OwM.nil _ _, Below.refl _ _⟩
  case round =>
  obtain ⟨k, m1, X, hk, rfl, K0, KA, K1, K2⟩ := hrel
  by_cases hlt : k < len
  · have hd : decide (k < len) = true := by simp; omega
    have hki : (k : Int) < (len : Int) := by omega
    have hzr := HZ.out.below K2.out
    obtain ⟨x, hx, hc⟩ := hzr k hlt
    subst hx
    obtain ⟨c0, c1, c2⟩ := hzr.c hlt
    have e0 : (Z k).cells = [.int .i64 (Z k).v, .int .i64 (Z k).s, .bool (Z k).b] := rfl
    rw [e0] at hc
    have HC := hide hc
    have hlen := KA.out.len
    have HBad : Hid (code m1 (Z k).v (Z k).s ≠ 0 → lay Z len = .error (code m1 (Z k).v (Z k).s)) := hide fun hb => lay_bad K0.out hb hlt
    have HOk : Hid (code m1 (Z k).v (Z k).s = 0 → lay Z (k + 1) = .ok (upd m1 (Z k).v.toNat (some ((Z k).s.toNat, (Z k).b)))) := hide fun hb => lay_ok K0.out hb
    generalize (Z k) = z at *
    clear hzr hc e0 K0
    by_cases hp : z.v < 0 ∨ 16 ≤ z.v
    · have hcd := code_page (m := m1) (s := z.s) hp
      rw [hcd] at HBad
      have HX := hide (HBad.out (by omega))
      by_cases hp1 : z.v < 0
      · have d1 : decide (z.v < 0) = true := by simp; omega
        go_wp2
        go_ret
        exact .inl ⟨_, HX.out, rfl, K2.out⟩
      · have d1 : decide (z.v < 0) = false := by simp; omega
        have d2 : decide (16 ≤ z.v) = true := by simp; omega
        go_wp2
        go_ret
        exact .inl ⟨_, HX.out, rfl, K2.out⟩
    · have d1 : decide (z.v < 0) = false := by simp; omega
      have d2 : decide (16 ≤ z.v) = false := by simp; omega
      by_cases hs : z.s < 0 ∨ 48 ≤ z.s
      · have hcd := code_slot (m := m1) hp hs
        rw [hcd] at HBad
        have HX := hide (HBad.out (by omega))
        by_cases hs1 : z.s < 0
        · have d3 : decide (z.s < 0) = true := by simp; omega
          go_wp2
          go_ret
          exact .inl ⟨_, HX.out, rfl, K2.out⟩
        · have d3 : decide (z.s < 0) = false := by simp; omega
          have d4 : decide (48 ≤ z.s) = true := by simp; omega
          go_wp2
          go_ret
          exact .inl ⟨_, HX.out, rfl, K2.out⟩
      · have d3 : decide (z.s < 0) = false := by simp; omega
        have d4 : decide (48 ≤ z.s) = false := by simp; omega
        obtain ⟨zv, zs, zb⟩ := z
        simp only at *
        obtain ⟨v, rfl⟩ : ∃ v : Nat, zv = v := ⟨zv.toNat, by omega⟩
        obtain ⟨s, rfl⟩ : ∃ s : Nat, zs = s := ⟨zs.toNat, by omega⟩
        have hv16 : v < 16 := by omega
        have hs48 : s < 48 := by omega
        cases hm : m1 v with
        | some y =>
          obtain ⟨s', b'⟩ := y
          have hcd := code_there (m := m1) hp hs (by rw [Int.toNat_natCast, hm]; rfl)
          rw [hcd] at HBad
          have HX := hide (HBad.out (by omega))
          obtain ⟨i, hi9⟩ := KA.out.hit hv16 hm
          have HA := hide (at_hit K1.out (by omega) KA.out.ne hi9 (v := (v : Int)) rfl)
          have d5 : decide (0 ≤ (i : Int)) = true := by simp
          clear hm hi9 HOk HBad
          go_wp2_with fail
          refine HA.out.mono ?_
          rintro e w1 ⟨rfl, hw9⟩
          rw [hw9]
          clear hw9 w1 HA
          go_wp2
          go_ret
          exact .inl ⟨_, HX.out, rfl, K2.out⟩
        | none =>
          have hcd := code_free (m := m1) hp hs (by rw [Int.toNat_natCast, hm]; simp)
          have HX := hide (HOk.out hcd)
          simp only [Int.toNat_natCast] at HX
          have HA := hide (at_miss K1.out (by omega) (KA.out.no hv16 hm))
          have HP := hide (KA.out.put (b := zb) hv16 hs48 hm)
          obtain ⟨a2, c2', he2⟩ := K1.out.len
          obtain ⟨u, hu⟩ : ∃ u, X.length = u := ⟨_, rfl⟩
          rw [hu] at he2 hlen
          subst he2
          have HO2 : Hid (wr.ownsRow w.heap.size 64 3 (.slice a2 u c2') u (mcs X)) := hide (by have := K1.out.out; rw [hu] at this; exact this)
          have HU := hide hu
          clear hm hu K1 KA HOk HBad hcd
          go_wp2_with fail
          refine HA.out.mono ?_
          rintro e w1 ⟨rfl, hw9⟩
          rw [hw9]
          clear hw9 w1 HA
          go_wp2_with (first
            | refine load_st 64 _ Try.underlying64 rfl [.int .i64 (v : Int), .int .i64 (s : Int), .bool zb] info50 rfl _ rfl (x.add (k * 3)) rfl HC.out ?_
            | (at_builtin; refine wpList_append_own _ rfl _ _ 32 rfl w.heap.size 64 i50 (.agg #[.int .i64 0, .int .i64 0, .bool false]) 3 24 Try.underlying32 hi hz0 hsz hby rfl (by decide) _ u (mcs X) rfl (HO2.out.alloc _) ⟨wr.heap.size, 0, none⟩ 1 1 (Mp.cells ⟨(v : Int), (s : Int), zb⟩) rfl rfl ?c1 (cells_one _) ?c3 ?c4 ?c5 ?_))
          case c1 => exact cells_new wr ⟨(v : Int), (s : Int), zb⟩
          case c3 => unfold maxLen; omega
          case c4 => omega
          case c5 => simp; have := K2.out.size; omega
          intro r2 w3 hown hg3 _
          have H2 : Hid (OwM w3 w.heap.size r2 (X ++ [⟨(v : Int), (s : Int), zb⟩])) := hide ⟨by rw [List.length_append, HU.out, mcs_snoc]; exact hown⟩
          have HB2 := hide (below_own K2.out HO2.out hg3 K2.out.size)
          clear hown hg3 c0 c1 c2
          go_wp2
          go_roundw
          case rel =>
            first
              | exact ⟨k + 1, _, _, by omega, by go_num, HX, HP, H2, HB2⟩
              | ((repeat apply Exists.intro); refine ⟨?_, rfl⟩; exact ⟨k + 1, _, _, by omega, by go_num, HX, HP, H2, HB2⟩)
          case measure => simp [intOf]; omega
  · obtain rfl : k = len := by omega
    obtain ⟨⟨f3, c3⟩, F', h1, h2⟩ := HR.out.fresh HE.out K1.out K2.out
    obtain ⟨a5, c5, hr5⟩ := K1.out.len
    subst hr5
    have HF := hide (And.intro h1 h2)
    clear h1 h2 K1 K2
    go_wp2
    go_ret
    exact .inr ⟨_, _, F', K0.out, rfl, KA.out, HF.out.1, HF.out.2⟩
end
end Go.Proofs.Ytmflohehnoghhaa
