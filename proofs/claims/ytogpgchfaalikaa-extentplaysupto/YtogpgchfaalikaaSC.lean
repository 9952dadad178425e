import Derived.Test.YtogpgchfaalikaaSB
import Derived.Test.YtogpgchfaalikaaXE
namespace Go.Proofs.Ytogpgchfaalikaa
open Go.RowKit

section
variable {w : World} {K R N T : Nat} {C : Nat → Cl} {F : Nat → Prop} {dv : Value}
set_option maxRecDepth 100000 in
set_option maxHeartbeats 3200000 in
theorem claims_list (h : Pr w T dv K R C N F) (hN : N ≤ 2000000) (kd : Int) (k1 : kd ≠ 1) (k2 : kd ≠ 2) (k3 : kd ≠ 3) (k4 : kd ≠ 4) (n sec se ln : Int) (two : Bool) (b : Nat) (kv : Value) : Calls Try.prog 40 #[tp T, tp K, .agg #[.int .i64 kd, .bool two, .int .i64 n, .int .i64 sec, .int .i64 se, .int .u8 (b : Int), .int .i64 ln, kv]] w fun e w' => e = .returned (.bool true) ∧ Pr w' T dv K R C N F ∧ Below w.heap.size w w' := by
  have hb0 : Below w.heap.size w (w.alloc (.cells #[.int .i64 kd, .bool two, .int .i64 n, .int .i64 sec, .int .i64 se, .int .u8 (b : Int), .int .i64 ln, kv] 73)) := (Below.refl w.heap.size w).alloc (Nat.le_refl _) _
  have HP := hide (h.below hb0)
  have HB0 := hide hb0
  have H0 := hide h
  clear hb0 h
  go_enter Try.func40, Try.ntmps40
  go_wp2_with fail
  refine (list_any _ _ _ _ HP.out.tb).mono ?_
  rintro e w1 ⟨v, rfl, ho, hb⟩
  have HP1 := hide (HP.out.below hb)
  have HB1 := hide (HB0.out.trans (hb.mono HB0.out.size))
  have HO := hide ho
  clear ho hb HP HB0
  go_wp2_with fail
  refine (listK_any HP1.out.tk hN).mono ?_
  rintro e w2 ⟨v', rfl, ho, hb⟩
  have HB2 := hide (HB1.out.trans (hb.mono HB1.out.size))
  have HO1 := hide (own_below HO.out hb)
  have HO2 := hide ho
  clear ho hb HP1 HB1 HO
  go_wp2_with fail
  refine (sameList_eq _ _ _ 0 C (cld C 32) (own_zero HO1.out) (own_zero HO2.out) (cld_len C 32)).mono ?_
  rintro e w3 ⟨rfl, hb⟩
  have HB3 := hide (HB2.out.trans (hb.mono HB2.out.size))
  clear hb
  go_wp2
  go_ret
  exact ⟨by simp, H0.out.below HB3.out, HB3.out⟩
end
end Go.Proofs.Ytogpgchfaalikaa
