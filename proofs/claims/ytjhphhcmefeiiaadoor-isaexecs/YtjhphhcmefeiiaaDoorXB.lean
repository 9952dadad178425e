import Derived.Test.YtjhphhcmefeiiaaDoorXA
import Derived.Deep.Cut
import Derived.WalkSmall
import Derived.BigQuiet
namespace Go.Proofs.YtjhphhcmefeiiaaDoor
open Go.RowKit
theorem word_eq (z : Int) : (wrap64 (z.tmod 4294967296 + 4294967296)).tmod 4294967296 % 4294967296 = z % 4294967296 := by
  obtain ⟨t, ht⟩ : ∃ t, z.tmod 4294967296 = t := ⟨_, rfl⟩
  obtain ⟨q, hq⟩ : ∃ q, z.tdiv 4294967296 = q := ⟨_, rfl⟩
  have h1 := Int.tmod_add_mul_tdiv z 4294967296
  have h2 := Int.tmod_lt_of_pos z (show (0 : Int) < 4294967296 by decide)
  have h3 : -4294967296 < z.tmod 4294967296 := by
    have := Int.lt_tmod_of_pos z (show (0 : Int) < 4294967296 by decide)
    omega
  rw [ht] at h1 h2 h3 ⊢
  rw [hq] at h1
  have e : wrap64 (t + 4294967296) = t + 4294967296 := by
    unfold wrap64; omega
  rw [e, Int.tmod_eq_emod_of_nonneg (by omega)]
  omega
theorem small (p : Nat) (h : p < 1125899906842624) : wrap64 (p : Int) = (p : Int) := by unfold wrap64; omega
theorem tm (p m : Nat) : ((p : Nat) : Int).tmod (m : Int) = ((p % m : Nat) : Int) := by
  rw [Int.tmod_eq_emod_of_nonneg (Int.natCast_nonneg p)]
  exact (Int.natCast_emod p m).symm
theorem mulb {x q : Nat} (hx : x < 4294967296) (hq : q < 65536) : x * q < 281474976710656 := by
  have h := Nat.mul_lt_mul_of_lt_of_le hx (Nat.le_of_lt hq) (by decide)
  exact h
theorem prodI (x y : Nat) (hx : x < 4294967296) (hy : y < 4294967296) : (wrap64 (wrap64 ((wrap64 ((x : Int) * ((y : Int) / 65536))).tmod 65536 * 65536) + wrap64 ((x : Int) * ((y : Int) % 65536)))).tmod 4294967296 = ((x * y % 4294967296 : Nat) : Int) := by
  have h1 := mulb hx (q := y / 65536) (by omega)
  have h2 := mulb hx (q := y % 65536) (by omega)
  have e1 : (x : Int) * ((y : Int) / 65536) = ((x * (y / 65536) : Nat) : Int) := by simp
  have e2 : (x : Int) * ((y : Int) % 65536) = ((x * (y % 65536) : Nat) : Int) := by simp
  have e3 := prod_eq x y
  rw [e1, e2, ← e3]
  clear e1 e2 e3
  generalize x * (y / 65536) = p at *
  generalize x * (y % 65536) = q at *
  rw [small p (by omega), small q (by omega), show (65536 : Int) = ((65536 : Nat) : Int) from rfl, tm p 65536, show ((p % 65536 : Nat) : Int) * ((65536 : Nat) : Int) = ((p % 65536 * 65536 : Nat) : Int) by simp]
  rw [small (p % 65536 * 65536) (by omega), show ((p % 65536 * 65536 : Nat) : Int) + (q : Int) = ((p % 65536 * 65536 + q : Nat) : Int) by simp, small (p % 65536 * 65536 + q) (by omega)]
  exact tm (p % 65536 * 65536 + q) 4294967296
theorem shlS {ops : Array Oper} {rest : List Oper} {op : Oper} {a : Act} {w : World} {Q : Exit → Act → World → Prop} (hw : Region.wanted op (yielded ops a.tmps) = true) (x y : Operand) (ho : op.op = .binOp .shl 3 x y 3) (k P : Nat) (hx : a.eval x = .int .i64 1) (hy : a.eval y = .int .i64 (k : Int)) (hk : k < 32) (hP : P = 2 ^ k)
    (h : wpList Tryd.prog ops Q rest (a.put op.dst (.int .i64 (P : Int))) w) : wpList Tryd.prog ops Q (op :: rest) a w :=
  BigFrame.wpList_want hw fun K hK => by
    have hPl : P ≤ 2147483648 := by
      have : 2 ^ k ≤ 2 ^ 31 := Nat.pow_le_pow_right (by decide) (by omega)
      omega
    have hPi : (2 : Int) ^ k = (P : Int) := by rw [hP]; simp
    have hr : (execOp a.eval op).run Tryd.prog w = .ok (.value (.int .i64 (P : Int))) w := by
      unfold execOp
      simp only [ho, hx, hy]
      have hk3 : (k : Int) < 32 := by omega
      clear hP
      go_simp
      first
        | (rw [hPi, IntKind.wrap_i64]; omega)
        | (rw [IntKind.wrap_i64]; omega)
    have h9 := hK _ _ h
    unfold Oper.wp
    rw [hr]
    exact h9
theorem qt {x k P : Nat} (hx : x < 4294967296) (hP : P = 2 ^ k) : (wrap64 ((x : Int) / (P : Int))).tmod 2 = ((bt x k : Nat) : Int) := by
  have h1 : (x : Int) / (P : Int) = ((x / P : Nat) : Int) := by simp
  have h2 : x / P ≤ x := Nat.div_le_self _ _
  rw [h1, small (x / P) (by omega), show (2 : Int) = ((2 : Nat) : Int) from rfl, tm]
  unfold bt
  rw [hP]
section
variable (w : World)
theorem word_any (z : Int) : Calls Tryd.prog 11 #[.int .i64 z] w fun e w' => e = .returned (.int .u32 (z % 4294967296)) ∧ w' = w := by
  go_enter Tryd.func11, Tryd.ntmps11
  go_wp2
  go_ret
  exact ⟨ret_u32 (word_eq z), rfl⟩
theorem rtruth_any (b : Bool) : Calls Tryd.prog 21 #[.bool b] w fun e w' => e = .returned (.int .i64 (if b then 1 else 0)) ∧ w' = w := by
  cases b
  all_goals
    go_enter Tryd.func21, Tryd.ntmps21
    go_wp2
    go_ret
    exact ⟨rfl, rfl⟩
theorem rsigned_any (x : Nat) (hx : x < 4294967296) : Calls Tryd.prog 22 #[.int .i64 (x : Int)] w fun e w' => e = .returned (.int .i64 (sg x)) ∧ w' = w := by
  by_cases h : x < 2147483648
  · have e : sg x = (x : Int) := by unfold sg; rw [if_pos h]
    have h1 : ¬ (2147483648 : Int) ≤ (x : Int) := by omega
    rw [e]
    go_enter Tryd.func22, Tryd.ntmps22
    go_wp2
    go_ret
    exact ⟨rfl, rfl⟩
  · have e : sg x = (x : Int) - 4294967296 := by unfold sg; rw [if_neg h]
    have h1 : (2147483648 : Int) ≤ (x : Int) := by omega
    have h2 : wrap64 ((x : Int) - 4294967296) = (x : Int) - 4294967296 := by unfold wrap64; omega
    rw [e]
    go_enter Tryd.func22, Tryd.ntmps22
    go_wp2
    go_ret
    exact ⟨by simp, rfl⟩
theorem rproduct_any (x y : Nat) (hx : x < 4294967296) (hy : y < 4294967296) : Calls Tryd.prog 19 #[.int .i64 (x : Int), .int .i64 (y : Int)] w fun e w' => e = .returned (.int .i64 ((x * y % 4294967296 : Nat) : Int)) ∧ w' = w := by
  go_enter Tryd.func19, Tryd.ntmps19
  go_wp2
  go_ret
  exact ⟨congrArg (fun z => Ending.returned (.int .i64 z)) (prodI x y hx hy), rfl⟩
set_option maxRecDepth 100000 in
set_option maxHeartbeats 3200000 in
theorem rbitwise_any (x y kind : Nat) (hx : x < 4294967296) (hy : y < 4294967296) (hk : kind ≤ 2) : Calls Tryd.prog 20 #[.int .i64 (x : Int), .int .i64 (y : Int), .int .i64 (kind : Int)] w fun e w' => e = .returned (.int .i64 ((bw kind x y : Nat) : Int)) ∧ w' = w := by
  have HB := hide (bw_lt (kind := kind) hx hy)
  go_enter Tryd.func20, Tryd.ntmps20
  go_upto_region 3 with fail
  go_loopw [7, 8] (fun u i wr => ∃ k : Nat, k ≤ 32 ∧ i = .int .i64 (k : Int) ∧ u = .int .i64 ((bw kind x y % 2 ^ k : Nat) : Int) ∧ wr = w) (fun _ i _ => 32 - (intOf i).toNat)
  case atStart => exact ⟨0, by omega, rfl, by simp [Nat.mod_one], rfl⟩
  case round =>
  obtain ⟨k, hk32, rfl, rfl, rfl⟩ := hrel
  by_cases hlt : k < 32
  · have hd : decide ((k : Int) < 32) = true := by simp; omega
    have hj3 : (k : Int) < 32 := by omega
    obtain ⟨P, hP⟩ : ∃ P : Nat, P = 2 ^ k := ⟨_, rfl⟩
    have hP0 : 0 < P := by rw [hP]; exact Nat.two_pow_pos k
    have hPl : P ≤ 2147483648 := by
      have : 2 ^ k ≤ 2 ^ 31 := Nat.pow_le_pow_right (by decide) (by omega)
      omega
    have hne : ¬ (P : Int) = 0 := by omega
    have HQx := hide (qt hx hP)
    have HQy := hide (qt hy hP)
    have hnx := mod_next (bw kind x y) k
    rw [← bw_bit] at hnx
    have HNx : Hid (bw kind x y % 2 ^ (k + 1) = bw kind x y % 2 ^ k + bc kind (bt x k) (bt y k) * P) := hide (by rw [hnx, hP])
    have HML : Hid (bw kind x y % 2 ^ k < P) := hide (by rw [hP]; exact Nat.mod_lt _ (Nat.two_pow_pos k))
    have HP := hide hP
    generalize bw kind x y % 2 ^ k = m at *
    obtain ⟨m2, hm2⟩ : ∃ m2, m2 = bw kind x y % 2 ^ (k + 1) := ⟨_, rfl⟩
    rw [← hm2] at HNx
    have HM2 := hide hm2
    clear hm2
    clear hnx hP
    go_upto_region 6 with (refine shlS rfl _ _ rfl k P rfl rfl hlt HP.out ?_)
    try rw [HQx.out]
    go_upto_region 7 with (refine shlS rfl _ _ rfl k P rfl rfl hlt HP.out ?_)
    try rw [HQy.out]
    have hal := bt_lt x k
    have hbl := bt_lt y k
    clear HQx HQy
    generalize bt x k = a at *
    generalize bt y k = b at *
    have hk012 : kind = 0 ∨ kind = 1 ∨ kind = 2 := by omega
    have hab : a * b = 0 ∨ a * b = 1 := by
      have : a = 0 ∨ a = 1 := by omega
      rcases this with rfl | rfl
      · exact .inl (Nat.zero_mul b)
      · rw [Nat.one_mul]; omega
    have hab2 : a * b ≤ a + b := by
      have : a = 0 ∨ a = 1 := by omega
      rcases this with rfl | rfl
      · rw [Nat.zero_mul]; omega
      · rw [Nat.one_mul]; omega
    have hmu : wrap64 ((a : Int) * (b : Int)) = ((a * b : Nat) : Int) := by
      rw [show (a : Int) * (b : Int) = ((a * b : Nat) : Int) by simp]
      exact small _ (by omega)
    have HF1 : Hid (∀ c : Nat, c = bc kind a b → c ≤ 1 → wrap64 ((m : Int) + wrap64 ((c : Int) * (P : Int))) = (m2 : Int)) := hide (by
      intro c hc h1
      have hml := HML.out
      have h2 : c * P ≤ P := by
        have : c = 0 ∨ c = 1 := by omega
        rcases this with rfl | rfl
        · rw [Nat.zero_mul]; omega
        · rw [Nat.one_mul]; omega
      rw [show (c : Int) * (P : Int) = ((c * P : Nat) : Int) by simp, small (c * P) (by omega)]
      rw [show (m : Int) + ((c * P : Nat) : Int) = ((m + c * P : Nat) : Int) by simp]
      rw [small _ (by omega), HNx.out, hc])
    have HMu := hide hmu
    clear HML HNx hmu
    rcases hk012 with rfl | rfl | rfl
    · have HG : Hid (wrap64 ((m : Int) + wrap64 (((a : Int) * (b : Int)) * (P : Int))) = (m2 : Int)) := hide (by
        rw [show ((a : Int) * (b : Int)) = ((a * b : Nat) : Int) by simp]
        exact HF1.out (a * b) rfl (by omega))
      go_upto_region 4 with (refine shlS rfl _ _ rfl k P rfl rfl hlt HP.out ?_)
      rw [HG.out]
      clear HG HF1 HMu
      go_wp2
      go_roundw
      case rel =>
        first
          | exact ⟨k + 1, by omega, by go_num, by rw [HM2.out], by trivial⟩
          | ((repeat apply Exists.intro); refine ⟨?_, rfl⟩; exact ⟨k + 1, by omega, by go_num, by rw [HM2.out], by trivial⟩)
      case measure => simp [intOf]; omega
    · have HG : Hid (wrap64 ((m : Int) + wrap64 (((a : Int) + (b : Int) - (a : Int) * (b : Int)) * (P : Int))) = (m2 : Int)) := hide (by
        rw [show ((a : Int) + (b : Int) - (a : Int) * (b : Int)) = ((a + b - a * b : Nat) : Int) by rw [Int.ofNat_sub hab2]; simp]
        exact HF1.out (a + b - a * b) rfl (by
          rcases (show a = 0 ∨ a = 1 by omega) with rfl | rfl
          · rw [Nat.zero_mul]; omega
          · rw [Nat.one_mul]; omega))
      go_upto_region 4 with (refine shlS rfl _ _ rfl k P rfl rfl hlt HP.out ?_)
      rw [HG.out]
      clear HG HF1 HMu
      go_wp2
      go_roundw
      case rel =>
        first
          | exact ⟨k + 1, by omega, by go_num, by rw [HM2.out], by trivial⟩
          | ((repeat apply Exists.intro); refine ⟨?_, rfl⟩; exact ⟨k + 1, by omega, by go_num, by rw [HM2.out], by trivial⟩)
      case measure => simp [intOf]; omega
    · have HG : Hid (wrap64 ((m : Int) + wrap64 ((((a : Int) + (b : Int)) % 2) * (P : Int))) = (m2 : Int)) := hide (by
        rw [show (((a : Int) + (b : Int)) % 2) = (((a + b) % 2 : Nat) : Int) by simp]
        exact HF1.out ((a + b) % 2) rfl (by omega))
      go_upto_region 4 with (refine shlS rfl _ _ rfl k P rfl rfl hlt HP.out ?_)
      rw [HG.out]
      clear HG HF1 HMu
      go_wp2
      go_roundw
      case rel =>
        first
          | exact ⟨k + 1, by omega, by go_num, by rw [HM2.out], by trivial⟩
          | ((repeat apply Exists.intro); refine ⟨?_, rfl⟩; exact ⟨k + 1, by omega, by go_num, by rw [HM2.out], by trivial⟩)
      case measure => simp [intOf]; omega
  · obtain rfl : k = 32 := by omega
    have hE : bw kind x y % 2 ^ 32 = bw kind x y := Nat.mod_eq_of_lt HB.out
    rw [hE]
    clear hE HB
    obtain ⟨m, hm⟩ : ∃ m, m = bw kind x y := ⟨_, rfl⟩
    have HM := hide hm
    rw [← hm]
    clear hm
    go_wp2
    go_ret
    exact ⟨by rw [← HM.out]; rfl, rfl⟩
end
end Go.Proofs.YtjhphhcmefeiiaaDoor
