import Derived.Test.YtikifggencglkaaB2
namespace Go.Proofs.Ytikifggencglkaa
open Go.RowKit

/-- the places that Burst takes -/
def Fits (n : Nat) (a : Int) (m : Nat) : Prop := 0 ≤ a ∧ a ≤ 8 * n ∧ ((bitLen m : Nat) : Int) ≤ 8 * n - a

theorem burst_yes (v : Value) (zs : List Nat) (a : Int) (m : Nat) (w : World) (hv : Rd w v zs) (hl : zs.length ≤ 140737488351232) (hz : ∀ n ∈ zs, n < 256)
    (hm : m < 4294967296) (hf : Fits zs.length a m) :
    Calls Try.prog 5 #[v, .int .i64 a, .int .u32 (m : Int)] w fun e w' => ∃ r, e = .returned (.tuple #[r, .int .i64 0]) ∧ Ow w' w.heap.size r (MB.bt zs a.toNat m 32) ∧ Below w.heap.size w w' := by
  obtain ⟨h1, h2, h3⟩ := hf
  obtain ⟨A, rfl⟩ := Int.eq_ofNat_of_zero_le h1
  rw [Int.toNat_natCast, MB.bt_all zs A m (bitLen m) (bitLen_spec m).1 (bitLen_le32 m hm)]
  refine burst_L v zs A m (bitLen m) w hv hl hz hm (by omega) (by omega) (bitLen_le32 m hm) (hide fun w => ?_)
  have c := len32_any m w (by omega) (by omega)
  rwa [Int.toNat_natCast] at c

set_option maxHeartbeats 400000 in
theorem burst_no (v : Value) (zs : List Nat) (a : Int) (m : Nat) (w : World) (hv : Rd w v zs) (hl : zs.length ≤ 140737488351232)
    (hm : m < 4294967296) (hf : ¬ Fits zs.length a m) (ha : -9223372036854775808 ≤ a) (ha' : a ≤ 9223372036854775807) :
    Calls Try.prog 5 #[v, .int .i64 a, .int .u32 (m : Int)] w fun e w' => e = .returned (.tuple #[.slice none 0 0, .int .i64 1]) ∧ w' = w := by
  obtain ⟨ao, cap, rfl⟩ := hv.len
  clear hv
  have c : ∀ w, Calls Try.prog 11 #[.int .u32 (m : Int)] w fun e w' => e = .returned (.int .i64 (bitLen m : Nat)) ∧ w' = w := fun w => by
    have c := len32_any m w (by omega) (by omega)
    rwa [Int.toNat_natCast] at c
  have hL := bitLen_le32 m hm
  unfold Fits at hf
  generalize zs.length = n at *
  generalize bitLen m = L at *
  have HC := hide c
  clear c
  by_cases h1 : a < 0
  · go_enter Try.func5, Try.ntmps5
    go_wp2_with (go_at_call 11; refine (HC.out _).mono ?_; rintro e w' ⟨rfl, rfl⟩)
    go_ret2
    exact ⟨rfl, rfl⟩
  · by_cases h2 : 8 * (n : Int) < a
    · go_enter Try.func5, Try.ntmps5
      go_wp2_with (go_at_call 11; refine (HC.out _).mono ?_; rintro e w' ⟨rfl, rfl⟩)
      go_ret2
      exact ⟨rfl, rfl⟩
    · have h3 : 8 * (n : Int) - a < (L : Int) := by omega
      go_enter Try.func5, Try.ntmps5
      go_wp2_with (go_at_call 11; refine (HC.out _).mono ?_; rintro e w' ⟨rfl, rfl⟩)
      go_ret2
      exact ⟨rfl, rfl⟩

/-- a bit of the mask that has no place -/
def Past (n A m i : Nat) : Prop := m / 2 ^ i % 2 = 1 ∧ 8 * n ≤ A + i

theorem append_rd {ops : Array Oper} {rest : List Oper} {o : Oper} {a : Act} {w : World} {Q : Exit → Act → World → Prop} (hgd : o.guard = none) (s x : Operand)
    (ho : o.op = .call { callee := .builtin .append, args := #[s, x], argTypes := #[22, 22] }) (hs : a.eval s = .slice none 0 0) (v : Value) (zs : List Nat) (hx : a.eval x = v) (hv : Rd w v zs) (hl : zs.length ≤ 140737488351232)
    (h : ∀ r w1, Ow w1 w.heap.size r zs → Below w.heap.size w w1 → wpList Try.prog ops Q rest (a.put o.dst r) w1) : wpList Try.prog ops Q (o :: rest) a w := by
  obtain ⟨i5, hi, hz, hsz, hb⟩ := info5'
  rcases hv with ⟨rfl, rfl⟩ | ⟨ad, cap, rfl, hc⟩
  · exact wpList_append_own_none hgd s x 22 ho w.heap.size 5 i5 1 Try.underlying22 hi _ 0 [] hs (World.ownsRow_nil _ _ _ _) hx (h _ _ (World.ownsRow_nil _ _ _ _) (Below.refl _ _))
  · refine wpList_append_own _ hgd s x 22 ho w.heap.size 5 i5 (.int .u8 0) 1 1 Try.underlying22 hi hz hsz hb rfl (by decide) _ 0 [] hs (World.ownsRow_nil _ _ _ _) ad zs.length cap (zs.map By) hx (by simp) hc (By_one zs) (by unfold maxLen; omega) (by omega) (Nat.le_refl _) ?_
    intro r w1 hown hg _
    exact h r w1 (by simpa [Ow] using hown) (grown_below hg rfl)
theorem ge_true (a b : Int) (h : b ≤ a) : decide (b ≤ a) = true := by simp [h]
theorem ge_false (a b : Int) (h : ¬ b ≤ a) : decide (b ≤ a) = false := by simp [h]

set_option maxHeartbeats 400000 in
theorem refBurst_in (v : Value) (zs : List Nat) (A m : Nat) (w : World) (hv : Rd w v zs) (hl : zs.length ≤ 140737488351232) (hz : ∀ n ∈ zs, n < 256)
    (hm : m < 4294967296) (hA : A ≤ 8 * zs.length) :
    Calls Try.prog 7 #[v, .int .i64 (A : Int), .int .u32 (m : Int)] w fun e w' => ((∃ r, e = .returned (.tuple #[r, .int .i64 0]) ∧ Ow w' w.heap.size r (MB.bt zs A m 32) ∧ ∀ i, i < 32 → ¬ Past zs.length A m i) ∨ (e = .returned (.tuple #[.slice none 0 0, .int .i64 1]) ∧ ∃ i, i < 32 ∧ Past zs.length A m i)) ∧ Below w.heap.size w w' := by
  have HV := hide hv
  obtain ⟨ao, cap, rfl⟩ := hv.len
  obtain ⟨n, hn⟩ : ∃ n, zs.length = n := ⟨_, rfl⟩
  have HL := hide hl
  rw [hn] at hA hl HV ⊢
  have hd1 : decide ((A : Int) < 0) = false := by simp
  have hd2 : decide (8 * (n : Int) < (A : Int)) = false := by simp; omega
  have HN := hide hn
  clear hv hn
  go_enter Try.func7, Try.ntmps7
  go_wp2_with (at_builtin; refine append_rd rfl _ _ rfl rfl _ zs rfl HV.out HL.out ?_)
  intro r w1 hO hb1
  have HO := hide hO
  clear hO
  go_wp2
  go_loopw [9] (fun i wr => ∃ (k : Nat) (Z : List Nat), k ≤ 32 ∧ i = .int .i64 k ∧ MB.BR zs A m k Z ∧ Ow wr w.heap.size r Z ∧ Below w.heap.size w wr ∧ Hid (∀ i, i < k → ¬ Past n A m i)) (fun i _ => 32 - (intOf i).toNat)
  case atStart => exact ⟨0, zs, by omega, rfl, MB.BR_0 _ _ _, HO.out, hb1, hide fun i h => by omega⟩
  case round =>
    obtain ⟨k, Z, hk, rfl, hT, hO, hbel, HP⟩ := hrel
    have hZl := MB.BR_len hT
    have hZ := MB.BR_lt hT hz
    rw [HN.out] at hZl
    have HZl := hide hZl
    have HZ := hide hZ
    clear hZl hZ
    by_cases hlt : k < 32
    · by_cases hb : m / 2 ^ k % 2 = 1
      · have hbt := bit_true m k hm hb
        have HT := hide (MB.BR_yes hT hb)
        by_cases hin : A + k < 8 * n
        · have HP' := hide (fun i (h : i < k + 1) => show ¬ Past n A m i by
            by_cases e : i = k
            · subst e; intro hp; have := hp.2; omega
            · exact HP.out i (by omega))
          clear hT hb
          obtain ⟨g, cp, rfl, hg⟩ := hO.some_of (by rw [HZl.out]; omega)
          have hj : (A + k) / 8 < n := by omega
          obtain ⟨hc, hf⟩ := hO.cell (j := (A + k) / 8) (by rw [HZl.out]; exact hj)
          have hO' := hO.set (j := (A + k) / 8) (z := Z.getD ((A + k) / 8) 0 ^^^ 2 ^ ((A + k) % 8)) (by rw [HZl.out]; exact hj)
          have hq := MB.getD_lt HZ.out ((A + k) / 8)
          have hsh := shl8 (A + k)
          have hp8 := MB.pow8_lt (A + k)
          have hfl : MB.flip Z (A + k) = Z.set ((A + k) / 8) (Z.getD ((A + k) / 8) 0 ^^^ 2 ^ ((A + k) % 8)) := rfl
          have hzl := HZl.out
          rw [hzl] at hO' HO ⊢
          rw [hfl] at HT
          generalize Z.getD ((A + k) / 8) 0 = z at *
          generalize 2 ^ ((A + k) % 8) = q at *
          have HX := hide (xor8 z q hq hp8)
          have HO1 := hide hO'
          have hg2 := ge_false ((A : Int) + k) (8 * n) (by omega)
          clear hO hO' hfl hzl
          go_wp2
          go_region
          rw [HX.out]
          go_wp2
          go_roundw
          case rel => exact ⟨k + 1, Z.set ((A + k) / 8) (z ^^^ q), by omega, by go_num, HT.out, HO1.out, (hbel.setCell hg _).drew, HP'⟩
          case measure => simp [intOf]; omega
        · have HPast := hide (show Past n A m k from ⟨hb, by omega⟩)
          have HO1 := hide hO
          have hg2 := ge_true ((A : Int) + k) (8 * n) (by omega)
          clear hT hb hO
          go_wp2
          go_ret2
          exact ⟨.inr ⟨rfl, k, by omega, HPast.out⟩, hbel⟩
      · have hbf := bit_false m k hm hb
        have HT := hide (MB.BR_no hT hb)
        have HP' := hide (fun i (h : i < k + 1) => show ¬ Past n A m i by
          by_cases e : i = k
          · subst e; intro hp; exact hb hp.1
          · exact HP.out i (by omega))
        clear hT hb
        have HO1 := hide hO
        clear hO
        go_wp2
        go_roundw
        case rel => exact ⟨k + 1, Z, by omega, by go_num, HT.out, HO1.out, hbel, HP'⟩
        case measure => simp [intOf]; omega
    · go_wp2
      go_ret2
      obtain rfl : k = 32 := by omega
      exact ⟨.inl ⟨r, rfl, by rw [← show Z = _ from hT]; exact hO, HP.out⟩, hbel⟩
end Go.Proofs.Ytikifggencglkaa
