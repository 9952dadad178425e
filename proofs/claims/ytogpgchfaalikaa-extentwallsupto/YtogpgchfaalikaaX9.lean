import Derived.Test.YtogpgchfaalikaaX8
namespace Go.Proofs.Ytogpgchfaalikaa
open Go.RowKit

set_option maxHeartbeats 1600000 in
theorem count_any (w : World) (C : Nat → Cl) (A : Array Value) (hA : A.size = 32) (hc : ∀ n, n < 32 → A[n]? = some (.bool (decide (0 < (C n).ho)))) :
    Calls Try.prog 21 #[.agg A] w fun e w' => e = .returned (.int .i64 ((cld C 32).length : Nat)) ∧ Below w.heap.size w w' := by
  have HB := hide ((Below.refl w.heap.size w).alloc (Nat.le_refl _) (.cells A 52))
  have HC : Hid (∀ n, n < 32 → (w.alloc (.cells A 52)).cell? ⟨w.heap.size, n, none⟩ = some (.bool (decide (0 < (C n).ho)))) := hide (fun n hn => by
    rw [cell_of_row _ _ _ _ _ _ (heap_alloc_new w _)]; exact hc n hn)
  have hne : ¬ A = #[] := by intro e; rw [e] at hA; simp at hA
  clear hc
  go_enter Try.func21, Try.ntmps21
  go_wp2
  generalize w.alloc (.cells A 52) = w1 at *
  go_loopw [3, 4] (fun y x wr => ∃ k : Nat, k ≤ 32 ∧ x = .int .i64 (k : Int) ∧ y = .int .i64 ((cld C k).length : Nat) ∧ wr = w1) (fun _ x _ => 32 - (intOf x).toNat)
  case atStart => exact ⟨0, by omega, rfl, rfl, rfl⟩
  case round =>
  obtain ⟨k, hk, rfl, rfl, rfl⟩ := hrel
  by_cases hlt : k < 32
  · have hd : decide ((k : Int) < 32) = true := by simp; omega
    have c1 := HC.out k hlt
    have hcl := cld_len C k
    by_cases h0 : (C k).ho = 0
    · rw [show decide (0 < (C k).ho) = false by simp [h0]] at c1
      have HY := hide (cld_no h0)
      clear h0
      generalize hLn : (cld C k).length = Ln at *
      go_wp2
      go_roundw
      case rel =>
        first
          | exact ⟨k + 1, by omega, by go_num, by rw [HY.out, hLn], by first | rfl | trivial⟩
          | ((repeat apply Exists.intro); refine ⟨?_, rfl⟩; exact ⟨k + 1, by omega, by go_num, by rw [HY.out, hLn], by first | rfl | trivial⟩)
      case measure => simp [intOf]; omega
    · have h0' : 0 < (C k).ho := by omega
      rw [show decide (0 < (C k).ho) = true by simp [h0']] at c1
      have HY := hide (cld_yes h0')
      have HEq : Hid ((cld C (k + 1)).length = (cld C k).length + 1) := hide (by rw [HY.out]; simp)
      clear h0 HY
      generalize (cld C k).length = Ln at *
      go_wp2
      go_roundw
      case rel =>
        first
          | exact ⟨k + 1, by omega, by go_num, by rw [HEq.out]; go_num, by first | rfl | trivial⟩
          | ((repeat apply Exists.intro); refine ⟨?_, rfl⟩; exact ⟨k + 1, by omega, by go_num, by rw [HEq.out]; go_num, by first | rfl | trivial⟩)
      case measure => simp [intOf]; omega
  · obtain rfl : k = 32 := by omega
    go_wp2
    go_ret
    exact ⟨rfl, HB.out⟩
set_option maxRecDepth 100000 in
set_option maxHeartbeats 1600000 in
theorem looked_any {B : Nat} {D : Dsk} {w : World} {F H : Nat → Prop} {v : Value} (hd : DkA B D w F) (hw : D.down = false) (hR : RowsA v (seens D 1024) w H) (z1 z2 : Int) :
    Calls Try.prog 22 #[dp B, v, .int .i64 z1, .int .i64 z2] w fun e w' => e = .returned (.bool true) ∧ Below w.heap.size w w' := by
  have HD := hide hd
  have HR := hide hR
  clear hd hR
  go_enter Try.func22, Try.ntmps22
  go_upto_region 2 with fail
  rw [pl_rest]
  have hP := pl_lt (IntKind.u64.wrap (IntKind.u64.wrap z1 * 32) + IntKind.u64.wrap z2)
  generalize pl (IntKind.u64.wrap (IntKind.u64.wrap z1 * 32) + IntKind.u64.wrap z2) = P at *
  obtain ⟨ao, cp, hvv, hrow⟩ := rows_read HR.out
  rw [seens_len] at hvv
  subst hvv
  have HRow := hide hrow
  clear hrow
  go_wp2
  go_loopw [10] (fun x wr => ∃ k : Nat, 1023 ≤ k ∧ k ≤ 1026 ∧ x = .int .i64 (k : Int) ∧ Hid (Below w.heap.size w wr)) (fun x _ => 1026 - (intOf x).toNat)
  case atStart => exact ⟨1023, by omega, by omega, rfl, Below.refl _ _⟩
  case round =>
  obtain ⟨k, hk1, hk, rfl, KB⟩ := hrel
  by_cases hlt : k < 1026
  · have hd : decide ((k : Int) ≤ 1025) = true := by simp; omega
    have e1 : ((P : Int) + (k : Int)).tmod 1024 = (((P + k) % 1024 : Nat) : Int) := by
      rw [Int.tmod_eq_emod_of_nonneg (by omega)]; omega
    have hq : (P + k) % 1024 < 1024 := Nat.mod_lt _ (by omega)
    generalize (P + k) % 1024 = q at *
    have HDr := hide ((good_dk _ _).below HD.out KB.out)
    obtain ⟨g, r, rfl, hc, hrd⟩ := HRow.out q _ (seens_get D hq)
    have hc1 := cell_belowN KB.out hc
    have HRd := hide (hrd.below KB.out (Nat.le_refl _))
    clear hc hrd
    go_upto_region 6 with fail
    go_wp2_with fail
    refine (read_ok HDr.out q hq hw).mono ?_
    rintro e w2 ⟨r2, rfl, hr2, hb2⟩
    have HB2 := hide (KB.out.trans (hb2.mono KB.out.size))
    have hc2 := cell_belowN hb2 hc1
    have HS := hide (same_eq r2 r _ w2 hr2.rd (HRd.out.below hb2 (Nat.le_refl _)))
    clear hc1 hr2 hb2
    go_wp2_with fail
    refine HS.out.mono ?_
    rintro e w3 ⟨rfl, rfl⟩
    go_wp2
    go_roundw
    case rel =>
      first
        | exact ⟨k + 1, by omega, by omega, by go_num, HB2⟩
        | ((repeat apply Exists.intro); refine ⟨?_, rfl⟩; exact ⟨k + 1, by omega, by omega, by go_num, HB2⟩)
    case measure => simp [intOf]; omega
  · obtain rfl : k = 1026 := by omega
    go_wp2
    go_ret
    exact ⟨rfl, KB.out⟩
end Go.Proofs.Ytogpgchfaalikaa
