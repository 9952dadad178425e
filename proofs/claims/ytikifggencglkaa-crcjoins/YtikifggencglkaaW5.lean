import Derived.Test.YtikifggencglkaaW3
import Derived.Test.YtikifggencglkaaW4
namespace Go.Proofs.Ytikifggencglkaa
open Go.RowKit

/-- the map that goes over K zero bits -/
def mp (K : Nat) : Nat → Nat := fun i => M.fk K (2 ^ i)
theorem mp_lt (K : Nat) : ∀ i, i < 32 → mp K i < 4294967296 := fun i hi => M.fk_lt K (pow_lt32 i hi)
theorem mp_of (K s : Nat) (hs : s < 4294967296) : M.linAll (mp K) s = M.fk K s := M.lin_fk32 K s hs
theorem mp_dbl (K : Nat) : arr (fun i => M.linAll (mp K) (mp K i)) = arr (mp (2 * K)) := by
  apply arr_congr
  intro i hi
  rw [mp_of K _ (mp_lt K i hi)]
  show M.fk K (M.fk K (2 ^ i)) = M.fk (2 * K) (2 ^ i)
  rw [← M.fk_add, Nat.two_mul]
/-- where the loop of linear.times stands behind k rounds -/
def LT (n s k K S : Nat) : Prop := K = 8 * 2 ^ k ∧ S = M.fk (8 * (n % 2 ^ k)) s
theorem LT_0 (n s : Nat) : LT n s 0 8 s := ⟨rfl, by simp [Nat.mod_one, M.fk]⟩
theorem LT_lt {n s k K S : Nat} (h : LT n s k K S) (hs : s < 4294967296) : S < 4294967296 := by obtain ⟨_, rfl⟩ := h; exact M.fk_lt _ hs
theorem mod_succ (n k : Nat) : n % 2 ^ (k + 1) = n % 2 ^ k + 2 ^ k * (n / 2 ^ k % 2) := by
  rw [Nat.pow_succ, Nat.mod_mul]
theorem LT_yes {n s k K S : Nat} (h : LT n s k K S) (hb : n / 2 ^ k % 2 = 1) : LT n s (k + 1) (2 * K) (M.fk K S) := by
  obtain ⟨rfl, rfl⟩ := h
  refine ⟨by rw [Nat.pow_succ]; omega, ?_⟩
  rw [← M.fk_add, mod_succ, hb]
  congr 1
  generalize 2 ^ k = q
  omega
theorem LT_no {n s k K S : Nat} (h : LT n s k K S) (hb : ¬ n / 2 ^ k % 2 = 1) : LT n s (k + 1) (2 * K) S := by
  obtain ⟨rfl, rfl⟩ := h
  refine ⟨by rw [Nat.pow_succ]; omega, ?_⟩
  rw [mod_succ, show n / 2 ^ k % 2 = 0 by omega]; simp
theorem LT_end {n s K S : Nat} (h : LT n s (bitLen n) K S) : S = M.over8 n s := by
  obtain ⟨_, rfl⟩ := h
  rw [Nat.mod_eq_of_lt (bitLen_spec n).1]; rfl
theorem bitLen_le41 (n : Nat) (h : n ≤ 1099511627776) : bitLen n ≤ 41 := by
  unfold bitLen
  split
  · omega
  · rename_i h0
    have := (Nat.log2_lt h0).2 (show n < 2 ^ 41 by omega)
    omega

theorem and1_64 (n : Nat) (h : n ≤ 1099511627776) : bits .and .i64 (n : Int) 1 = ((n % 2 : Nat) : Int) := by
  have h1 : (BitVec.ofInt 64 (n : Int)).toNat = n := by
    rw [BitVec.ofInt_natCast, BitVec.toNat_ofNat]; exact Nat.mod_eq_of_lt (by omega)
  show IntKind.i64.wrap ((BitVec.ofInt 64 (n : Int) &&& BitVec.ofInt 64 1).toNat : Int) = _
  rw [BitVec.toNat_and, h1, show (BitVec.ofInt 64 1).toNat = 1 from rfl, Nat.and_one_is_mod]
  have := Nat.mod_lt n (show 0 < 2 by decide)
  generalize n % 2 = q at *
  rcases (show q = 0 ∨ q = 1 by omega) with rfl | rfl <;> rfl
theorem shr_and64 (n k : Nat) (h : n ≤ 1099511627776) : bits .and .i64 ((n : Int) / 2 ^ k) 1 = ((n / 2 ^ k % 2 : Nat) : Int) := by
  have e : ((n : Int) / 2 ^ k) = ((n / 2 ^ k : Nat) : Int) := by simp
  rw [e]
  exact and1_64 _ (Nat.le_trans (Nat.div_le_self _ _) h)
theorem bit64_true (s k : Nat) (hs : s ≤ 1099511627776) (h : s / 2 ^ k % 2 = 1) : (bits .and .i64 ((s : Int) / 2 ^ k) 1 == 1) = true := by
  rw [shr_and64 s k hs, h]; rfl
theorem bit64_false (s k : Nat) (hs : s ≤ 1099511627776) (h : ¬ s / 2 ^ k % 2 = 1) : (bits .and .i64 ((s : Int) / 2 ^ k) 1 == 1) = false := by
  rw [shr_and64 s k hs, show s / 2 ^ k % 2 = 0 by omega]; rfl
theorem of_mp (K s : Nat) (w : World) (hs : s < 4294967296) :
    Calls Try.prog 19 #[.agg (arr (mp K)), .int .u32 (s : Int)] w fun e w' => e = .returned (.int .u32 (M.fk K s : Nat)) ∧ Below w.heap.size w w' := by
  have := of_any (mp K) s w (mp_lt K) hs
  rwa [mp_of K s hs] at this
theorem dbl_mp (K : Nat) (w : World) :
    Calls Try.prog 20 #[.agg (arr (mp K))] w fun e w' => e = .returned (.agg (arr (mp (2 * K)))) ∧ Below w.heap.size w w' := by
  have := doubled_any (mp K) w (mp_lt K)
  rwa [mp_dbl K] at this

set_option maxHeartbeats 400000 in
theorem ltimes_any (n s : Nat) (w : World) (hs : s < 4294967296) (hn : n ≤ 1099511627776) :
    Calls Try.prog 15 #[.agg (arr (mp 8)), .int .i64 (n : Int), .int .u32 (s : Int)] w fun e w' => e = .returned (.int .u32 (M.over8 n s : Nat)) ∧ Below w.heap.size w w' := by
  have hL := bitLen_le41 n hn
  have HE := hide (fun K S (h : LT n s (bitLen n) K S) => LT_end h)
  go_enter Try.func15, Try.ntmps15
  go_wp2_with (go_at_call 18; refine (len_any n _ hn).mono ?_; rintro e w' ⟨rfl, rfl⟩)
  generalize bitLen n = L at *
  go_loopw [2, 11] (fun t i wr => ∃ k K S : Nat, k ≤ L ∧ i = .int .i64 k ∧ t = .int .u32 S ∧ LT n s k K S ∧ w.heap.size + 1 ≤ wr.heap.size ∧ Holds wr w.heap.size (mp K) ∧ Below w.heap.size w wr) (fun _ i _ => L - (intOf i).toNat)
  case atStart => exact ⟨0, 8, s, by omega, rfl, rfl, LT_0 n s, by simp, heap_alloc_new _ _, (Below.refl _ _).alloc (Nat.le_refl _) _⟩
  case round =>
    obtain ⟨k, K, S, hk, rfl, rfl, hT, hsz, hM, hbel⟩ := hrel
    by_cases hlt : k < L
    · have hSl := LT_lt hT hs
      by_cases hb : n / 2 ^ k % 2 = 1
      · have hbt := bit64_true n k hn hb
        have HT := hide (LT_yes hT hb)
        have HM := hide hM
        clear hM hT hb
        go_wp2_with (refine load_arr rfl _ rfl _ rfl _ (unhide HM) ?_)
        refine (of_mp K S _ hSl).mono ?_
        rintro e w1 ⟨rfl, hb1⟩
        have z1 := hb1.size
        have HM1 := hide ((unhide HM).below hb1 (by omega))
        go_wp2_with (refine load_arr rfl _ rfl _ rfl _ (unhide HM1) ?_)
        refine (dbl_mp K _).mono ?_
        rintro e w2 ⟨rfl, hb2⟩
        have z2 := hb2.size
        have HM2 := hide ((unhide HM1).below hb2 (by omega))
        go_wp2_with (refine store_arr rfl _ _ rfl _ _ rfl rfl _ (unhide HM2) ?_)
        go_roundw
        case rel => exact ⟨k + 1, 2 * K, M.fk K S, by omega, by go_num, rfl, unhide HT, by simp; omega, (unhide HM2).setRow _, below_setRow (hbel.trans ((hb1.trans (hb2.mono (by omega))).mono (by omega))) (Nat.le_refl _) _⟩
        case measure => simp [intOf]; omega
      · have hbf := bit64_false n k hn hb
        have HT := hide (LT_no hT hb)
        have HM := hide hM
        clear hM hT hb
        go_wp2_with (refine load_arr rfl _ rfl _ rfl _ (unhide HM) ?_)
        refine (dbl_mp K _).mono ?_
        rintro e w2 ⟨rfl, hb2⟩
        have z2 := hb2.size
        have HM2 := hide ((unhide HM).below hb2 (by omega))
        go_wp2_with (refine store_arr rfl _ _ rfl _ _ rfl rfl _ (unhide HM2) ?_)
        go_roundw
        case rel => exact ⟨k + 1, 2 * K, S, by omega, by go_num, rfl, unhide HT, by simp; omega, (unhide HM2).setRow _, below_setRow (hbel.trans (hb2.mono (by omega))) (Nat.le_refl _) _⟩
        case measure => simp [intOf]; omega
    · go_wp2
      go_ret
      obtain rfl : k = L := by omega
      exact ⟨ret_int (by rw [unhide HE _ _ hT]), hbel⟩
end Go.Proofs.Ytikifggencglkaa
