import Derived.Test.YtogpgchfaalikaaCE
namespace Go.Proofs.Ytogpgchfaalikaa
open Go.ChangeShapes Go.WideShapes Go.ChangeAt Go.RowKit Go.Deep

theorem same_ne (a b : Value) (ys zs : List Nat) (w : World) (ha : Rd w a ys) (hb : Rd w b zs) (hne : ((strOf ys).toList == (strOf zs).toList) = false) : Calls Try.prog 16 #[a, b] w fun e w' => e = .returned (.bool false) ∧ w' = w := by
  have h1 := str_run ha
  have h2 := str_run hb
  obtain ⟨a1, c1, rfl⟩ := ha.len
  obtain ⟨a2, c2, rfl⟩ := hb.len
  clear ha hb
  generalize ys.length = m at *
  generalize zs.length = n at *
  generalize strOf ys = s at *
  generalize strOf zs = t at *
  go_enter Try.func16, Try.ntmps16
  go_wp2
  go_ret
  exact ⟨rfl, rfl⟩
theorem strs_ne : ((strOf (List.replicate 128 0)).toList == (strOf (List.replicate 128 195)).toList) = false := by decide +kernel
theorem low32' (z : Int) : wrap64 ((IntKind.u64.wrap z).tmod 32) = (((z % 32).toNat : Nat) : Int) := by
  have e1 : IntKind.u64.wrap z = z % 18446744073709551616 := by simp [IntKind.wrap, IntKind.signed, IntKind.bits]
  have e2 : (z % 18446744073709551616).tmod 32 = z % 18446744073709551616 % 32 := Int.tmod_eq_emod_of_nonneg (by omega)
  rw [e1, e2]
  unfold wrap64
  omega
/-- does n stand among the first k numbers? -/
def tk (Z : Nat → Int) (k n : Nat) : Bool := (List.range k).any (fun j => (Z j % 32).toNat == n)
theorem tk_succ (Z : Nat → Int) (k n : Nat) : tk Z (k + 1) n = (tk Z k n || ((Z k % 32).toNat == n)) := by simp [tk, List.range_succ]
theorem tk_zero (Z : Nat → Int) (n : Nat) : tk Z 0 n = false := rfl
theorem tk_yes {Z : Nat → Int} {j k n : Nat} (hj : j < k) (h : (Z j % 32).toNat = n) : tk Z k n = true := by
  unfold tk; rw [List.any_eq_true]; exact ⟨j, by simpa using hj, by simpa using h⟩
set_option maxHeartbeats 800000 in
theorem taken_any (w : World) (a : Option Addr) (len cap n : Nat) (Z : Nat → Int) (hl : len ≤ 1048576) (hZ : IsInts w a len Z) : Calls Try.prog 27 #[.slice a len cap, .int .i64 (n : Int)] w fun e w' => e = .returned (.bool (tk Z len n)) ∧ w' = w := by
  have HZ := hide hZ
  clear hZ
  go_enter Try.func27, Try.ntmps27
  go_wp2
  go_loopw [5] (fun x wr => ∃ k : Nat, k ≤ len ∧ x = .int .i64 (k : Int) ∧ Hid (tk Z k n = false) ∧ wr = w) (fun x _ => len - (intOf x).toNat)
  case atStart => exact ⟨0, by omega, rfl, tk_zero _ _, rfl⟩
  case round =>
  obtain ⟨k, hk, rfl, KT, rfl⟩ := hrel
  by_cases hlt : k < len
  · have hd : decide ((k : Int) < (len : Int)) = true := by simp; omega
    obtain ⟨x, rfl, hx⟩ := HZ.out k hlt
    have e1 := low32' (Z k)
    by_cases he : (Z k % 32).toNat = n
    · have HT := hide (tk_yes hlt he)
      have hb : (((Z k % 32).toNat : Int) == (n : Int)) = true := by simp [he]
      clear he
      generalize Z k = z at *
      go_upto_region 5 with fail
      go_wp2
      go_ret
      exact ⟨by rw [HT.out]; rfl, rfl⟩
    · have HT : Hid (tk Z (k + 1) n = false) := hide (by rw [tk_succ, KT.out]; simpa using he)
      have hb : (((Z k % 32).toNat : Int) == (n : Int)) = false := by simp; omega
      have hb2 : ((Z k % 32).toNat == n) = false := by simpa using he
      clear he
      generalize Z k = z at *
      go_wp2
      go_roundw
      case rel =>
        first
          | exact ⟨k + 1, by omega, by go_num, HT, by first | rfl | trivial⟩
          | ((repeat apply Exists.intro); refine ⟨?_, rfl⟩; exact ⟨k + 1, by omega, by go_num, HT, by first | rfl | trivial⟩)
      case measure => simp [intOf]; omega
  · obtain rfl : k = len := by omega
    have hd : decide ((k : Int) < (k : Int)) = false := by simp
    go_wp2
    go_ret
    exact ⟨by rw [KT.out]; rfl, rfl⟩
section
variable {H : Type} {enc : TypeId × Value → H} {P : Program} {w : World} {base : Nat} {spare : Nat → Bool} {held : Bool}
theorem open_intsC {t e : TypeId} {fuel : Nat} {cs : List Value} {x : DataW H × List MemPlace} (ht : P.underlying t = some (.slice e)) (he : P.underlying e = some (.int .i64)) (ce : P.cellsOf e = 1)
    (h : DataW.trod enc P w base spare held fuel t cs = some x) : ∃ (a : Option Addr) (len cap : Nat) (I : Nat → Int), cs = [.slice a len cap] ∧ len ≤ Rows.uptoBulk x.1 ∧ len ≤ cap ∧ IsInts w a len I := by
  rcases open_slice1 ht ce h with ⟨rfl, _⟩ | ⟨a, len, cap, m, n, V, D, Pl, rfl, hb, hl, hm, hmm, rfl, hx⟩
  · exact ⟨none, 0, 0, fun _ => 0, rfl, Nat.zero_le _, Nat.zero_le _, fun k hk => by omega⟩
  have hlm : len ≤ m := by rw [hmm]; split <;> omega
  have each : ∀ i, i < len → ∃ z : Int, V i = .int .i64 z := fun i hi => int_cellU he (hx i (by omega)).2
  obtain ⟨Z, hZ⟩ := choose_lt each
  refine ⟨some a, len, cap, Z, rfl, ?_, hl, fun k hk => ⟨a, rfl, ?_⟩⟩
  · have := bulk_slice ((List.range len).map D) ((List.range (m - len)).map fun j => D (len + j))
    simpa using this
  · rw [(hx k (by omega)).1, hZ k hk]
end
end Go.Proofs.Ytogpgchfaalikaa
