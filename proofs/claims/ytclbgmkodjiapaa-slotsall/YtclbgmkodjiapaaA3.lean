import Derived.Test.YtclbgmkodjiapaaA2
namespace Go.Proofs.Ytclbgmkodjiapaa
open Go.RowKit
set_option maxRecDepth 8000 in
set_option maxHeartbeats 3200000 in
theorem told_any (w0 w : World) (F : Nat → Prop) (B : Nat) (m : List (Option Int)) (h : Tab KI w F B m) (a1 : Option Addr) (len cap : Nat) (Z : Nat → Int × Int × Int × Int) (hlen : len ≤ maxLen) (hZ : IsQuads w0 a1 len Z) (hb : Below w0.heap.size w0 w) (hF : ∀ b, F b → w0.heap.size ≤ b) (wh : Int) :
    Calls Try.prog 9 #[.pointer (some ⟨B, 0, none⟩), .slice a1 len cap, .int .i64 wh] w fun x w' => x = .returned (.tuple #[.bool (leaveTo Z wh len), .int .i64 (nestsTo Z wh len : Nat)]) ∧ ∃ F', Tab KI w' F' B (actsTo Z wh m len) ∧ Ext F w F' w' := by
  have HZ := hide hZ
  have HT := hide h
  have HB := hide hb
  have HF := hide hF
  have hlen2 : len ≤ 9223372036854775807 := hlen
  clear hZ h hb hF hlen
  go_enter Try.func9, Try.ntmps9
  go_wp2
  go_loopw [8, 9, 10] (fun lv nv i wr => ∃ (k : Nat) (lb : Bool) (ns : Nat) (mk : List (Option Int)) (F1 : Nat → Prop), k ≤ len ∧ i = .int .i64 k ∧ lv = .bool lb ∧ nv = .int .i64 (ns : Nat) ∧ ns ≤ k ∧ Hid (lb = leaveTo Z wh k) ∧ Hid (ns = nestsTo Z wh k) ∧ Hid (mk = actsTo Z wh m k) ∧ Hid (Tab KI wr F1 B mk) ∧ Hid (Ext F w F1 wr)) (fun _ _ i _ => len - (intOf i).toNat)
  case atStart => exact ⟨0, false, 0, m, F, by omega, rfl, rfl, rfl, by omega, rfl, rfl, rfl, HT, hide (Ext.refl F w)⟩
  case round =>
    obtain ⟨k, lb, ns, mk, F1, hk, rfl, rfl, rfl, hnk, HLb, HNs, HMk, HT1, HX⟩ := hrel
    clear HT
    by_cases hlt : k < len
    · have HB1 := hide (HB.out.trans (HX.out.mod.below HF.out HB.out.size))
      obtain ⟨x, rfl, z0, z1, z2, z3⟩ := quad_at HZ.out HB1.out hlt
      have HT2 := hide (HT1.out.keep (w' := wr.alloc (.cells #[.int .i64 (Z k).1, .int .i64 (Z k).2.1, .int .i64 (Z k).2.2.1, .int .i64 (Z k).2.2.2] 67)) (by simp) (fun b hb => Below.heap_alloc _ _ _ (HT1.out.lt b hb)))
      have HX2 : Hid (Ext F w F1 (wr.alloc (.cells #[.int .i64 (Z k).1, .int .i64 (Z k).2.1, .int .i64 (Z k).2.2.1, .int .i64 (Z k).2.2.2] 67))) := hide ⟨HX.out.mod.alloc _, HX.out.new⟩
      have bo := heap_alloc_new wr (.cells #[.int .i64 (Z k).1, .int .i64 (Z k).2.1, .int .i64 (Z k).2.2.1, .int .i64 (Z k).2.2.2] 67)
      obtain ⟨o0, o1, o2, o3⟩ := row4 bo
      clear HT1 HX HB1 bo
      have HA : Hid (actsTo Z wh m (k + 1) = if (Z k).1 = wh then stepK mk (Z k).2.1 (Z k).2.2.1 (Z k).2.2.2 else mk) := hide (by rw [HMk.out]; rfl)
      have HL : Hid (leaveTo Z wh (k + 1) = if (Z k).1 = wh ∧ (Z k).2.1 = 11 then true else lb) := hide (by rw [HLb.out]; rfl)
      have HN : Hid (nestsTo Z wh (k + 1) = if (Z k).1 = wh ∧ (Z k).2.1 = 12 then ns + 1 else ns) := hide (by rw [HNs.out]; rfl)
      clear HMk HLb HNs
      generalize hWA : wr.alloc (.cells #[.int .i64 (Z k).1, .int .i64 (Z k).2.1, .int .i64 (Z k).2.2.1, .int .i64 (Z k).2.2.2] 67) = wA at HT2 HX2 o0 o1 o2 o3
      go_upto_region 7 with fail
      clear z0 z1 z2 z3 hWA
      generalize (Z k).1 = wk at *
      generalize (Z k).2.1 = kd at *
      generalize (Z k).2.2.1 = zi at *
      generalize (Z k).2.2.2 = zv at *
      by_cases hw : wk = wh
      · subst hw
        by_cases k1 : kd = 1
        · subst k1
          go_wp2_with fail
          refine (putI_do _ F1 B mk HT2.out zv).mono ?_
          rintro e w6 ⟨v6, F6, rfl, hT6, hx6⟩
          have HT6 := hide hT6
          have HX6 := hide (HX2.out.trans hx6)
          clear hT6 hx6 HT2 HX2 o0 o1 o2 o3
          go_wp2
          go_roundw
          case rel => exact ⟨k + 1, lb, ns, _, F6, by omega, by go_num, rfl, by first | rfl | go_num, by omega, by rw [Hid, HL.out, if_neg (by omega)], by rw [Hid, HN.out, if_neg (by omega)], by rw [Hid, HA.out]; rfl, HT6, HX6⟩
          case measure => simp [intOf]; omega
        have n1 : (kd == 1) = false := by simp [k1]
        by_cases k2 : kd = 2
        · subst k2
          clear k1
          go_wp2_with fail
          refine (putAtI_do _ F1 B mk HT2.out zi zv).mono ?_
          rintro e w6 ⟨v6, F6, rfl, hT6, hx6⟩
          have HT6 := hide hT6
          have HX6 := hide (HX2.out.trans hx6)
          clear hT6 hx6 HT2 HX2 o0 o1 o2 o3
          go_wp2
          go_roundw
          case rel => exact ⟨k + 1, lb, ns, _, F6, by omega, by go_num, rfl, by first | rfl | go_num, by omega, by rw [Hid, HL.out, if_neg (by omega)], by rw [Hid, HN.out, if_neg (by omega)], by rw [Hid, HA.out]; rfl, HT6, HX6⟩
          case measure => simp [intOf]; omega
        have n2 : (kd == 2) = false := by simp [k2]
        by_cases k4 : kd = 4
        · subst k4
          clear k1 k2
          go_wp2_with fail
          refine (setI_do _ F1 B mk HT2.out zi zv).mono ?_
          rintro e w6 ⟨v6, F6, rfl, hT6, hx6⟩
          have HT6 := hide hT6
          have HX6 := hide (HX2.out.trans hx6)
          clear hT6 hx6 HT2 HX2 o0 o1 o2 o3
          go_wp2
          go_roundw
          case rel => exact ⟨k + 1, lb, ns, _, F6, by omega, by go_num, rfl, by first | rfl | go_num, by omega, by rw [Hid, HL.out, if_neg (by omega)], by rw [Hid, HN.out, if_neg (by omega)], by rw [Hid, HA.out]; rfl, HT6, HX6⟩
          case measure => simp [intOf]; omega
        have n4 : (kd == 4) = false := by simp [k4]
        by_cases k5 : kd = 5
        · subst k5
          clear k1 k2 k4
          go_wp2_with fail
          refine (dropI_do _ F1 B mk HT2.out zi).mono ?_
          rintro e w6 ⟨v6, F6, rfl, hT6, hx6⟩
          have HT6 := hide hT6
          have HX6 := hide (HX2.out.trans hx6)
          clear hT6 hx6 HT2 HX2 o0 o1 o2 o3
          go_wp2
          go_roundw
          case rel => exact ⟨k + 1, lb, ns, _, F6, by omega, by go_num, rfl, by first | rfl | go_num, by omega, by rw [Hid, HL.out, if_neg (by omega)], by rw [Hid, HN.out, if_neg (by omega)], by rw [Hid, HA.out]; rfl, HT6, HX6⟩
          case measure => simp [intOf]; omega
        have n5 : (kd == 5) = false := by simp [k5]
        by_cases k7 : kd = 7
        · subst k7
          clear k1 k2 k4 k5
          go_wp2_with fail
          refine (clearI_do _ F1 B mk HT2.out ).mono ?_
          rintro e w6 ⟨v6, F6, rfl, hT6, hx6⟩
          have HT6 := hide hT6
          have HX6 := hide (HX2.out.trans hx6)
          clear hT6 hx6 HT2 HX2 o0 o1 o2 o3
          go_wp2
          go_roundw
          case rel => exact ⟨k + 1, lb, ns, _, F6, by omega, by go_num, rfl, by first | rfl | go_num, by omega, by rw [Hid, HL.out, if_neg (by omega)], by rw [Hid, HN.out, if_neg (by omega)], by rw [Hid, HA.out]; rfl, HT6, HX6⟩
          case measure => simp [intOf]; omega
        have n7 : (kd == 7) = false := by simp [k7]
        by_cases k12 : kd = 12
        · subst k12
          go_wp2
          go_roundw
          case rel => exact ⟨k + 1, lb, (ns + 1), mk, F1, by omega, by go_num, rfl, by first | rfl | go_num, by omega, by rw [Hid, HL.out, if_neg (by omega)], by rw [Hid, HN.out, if_pos ⟨rfl, rfl⟩], by rw [Hid, HA.out, if_pos rfl]; unfold stepK; simp, HT2, HX2⟩
          case measure => simp [intOf]; omega
        have n12 : (kd == 12) = false := by simp [k12]
        by_cases k11 : kd = 11
        · subst k11
          go_wp2
          go_roundw
          case rel => exact ⟨k + 1, true, ns, mk, F1, by omega, by go_num, rfl, by first | rfl | go_num, by omega, by rw [Hid, HL.out, if_pos ⟨rfl, rfl⟩], by rw [Hid, HN.out, if_neg (by omega)], by rw [Hid, HA.out, if_pos rfl]; unfold stepK; simp, HT2, HX2⟩
          case measure => simp [intOf]; omega
        have n11 : (kd == 11) = false := by simp [k11]
        go_wp2
        go_roundw
        case rel => exact ⟨k + 1, lb, ns, mk, F1, by omega, by go_num, rfl, by first | rfl | go_num, by omega, by rw [Hid, HL.out, if_neg (by omega)], by rw [Hid, HN.out, if_neg (by omega)], by rw [Hid, HA.out, if_pos rfl]; unfold stepK; simp [k1, k2, k4, k5, k7], HT2, HX2⟩
        case measure => simp [intOf]; omega
      · have nw : (wk != wh) = true := by simp [hw]
        go_wp2
        go_roundw
        case rel => exact ⟨k + 1, lb, ns, mk, F1, by omega, by go_num, rfl, by first | rfl | go_num, by omega, by rw [Hid, HL.out, if_neg (by omega)], by rw [Hid, HN.out, if_neg (by omega)], by rw [Hid, HA.out, if_neg hw], HT2, HX2⟩
        case measure => simp [intOf]; omega
    · go_wp2
      go_ret2
      obtain rfl : k = len := by omega
      exact ⟨by rw [← HLb.out, ← HNs.out]; rfl, F1, by rw [← HMk.out]; exact HT1.out, HX.out⟩
end Go.Proofs.Ytclbgmkodjiapaa
