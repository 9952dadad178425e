import Derived.Test.YtnpklhjndominaaQI
import Derived.Test.YtnpklhjndominaaQJ
import Derived.Test.YtnpklhjndominaaQK
namespace Go.Proofs.Ytnpklhjndominaa
open Go.RowKit

theorem play_any {w0 w : World} {B R n : Nat} {Rst : Asn} (hS : Sys w0 w (star (PrA B R n) Rst)) (hG : Good Rst) (hn : n ≤ 1048577) (o : Opr) (ho : OpIn w0 o) :
    Calls Try.prog 10 #[dp B, tp R, opv o] w fun e w' => e = .returned (.bool true) ∧ Sys w0 w' (star (PrA B R (n + 1)) Rst) := by
  by_cases k2 : o.kind = 2
  · exact played_write hS hG hn o ho k2
  by_cases k3 : o.kind = 3
  · exact played_flush hS hG hn o ho k3
  by_cases k5 : o.kind = 5
  · exact played_arm hS hG hn o ho k5
  by_cases k7 : o.kind = 7
  · exact played_crash hS hG hn o ho k7
  by_cases k8 : o.kind = 8
  · exact played_edit hS hG hn o ho k8
  exact played_rest hS hG hn o ho ⟨k2, k3, k5, k7, k8⟩
/-- a step that only asks -/
def opk (k s : Int) : Opr := ⟨k, false, s, 0, .slice none 0 0, [], false, .slice none 0 0, []⟩
theorem opIn_k (w : World) (k s : Int) (hs : -9223372036854775808 ≤ s ∧ s ≤ 9223372036854775807) : OpIn w (opk k s) :=
  ⟨.inl ⟨rfl, rfl⟩, fun z hz => by simp [opk] at hz, .inl ⟨rfl, rfl⟩, by simp [opk], by simp [opk], hs, by simp [opk], fun y n c h => by simp [opk] at h⟩
theorem asked_k {w0 w : World} {B R n : Nat} {Rst : Asn} (hS : Sys w0 w (star (PrA B R n) Rst)) (hG : Good Rst) (hn : n ≤ 1048580) (k s : Int) (hs : -9223372036854775808 ≤ s ∧ s ≤ 9223372036854775807) :
    Calls Try.prog 27 #[dp B, tp R, .agg #[.int .i64 k, .bool false, .int .i64 s, .int .i64 0, .slice none 0 0, .bool false, .slice none 0 0]] w fun e w' => e = .returned (.bool true) ∧ Sys w0 w' (star (PrA B R n) Rst) :=
  asked_any hS hG hn (opk k s) (opIn_k w0 k s hs)
set_option maxRecDepth 100000 in
set_option maxHeartbeats 6400000 in
theorem ends_any {w0 w : World} {B R n : Nat} {Rst : Asn} (hS : Sys w0 w (star (PrA B R n) Rst)) (hG : Good Rst) (hn : n ≤ 1048580) (a : Option Addr) (len cap : Nat) (Z : Nat → Opr) (hl : len ≤ 1048576) (hZ : IsOps w0 a len Z) :
    Calls Try.prog 11 #[dp B, tp R, .slice a len cap] w fun e w' => e = .returned (.bool true) ∧ Sys w0 w' (star (PrA B R n) Rst) := by
  have HS := hide hS
  have HG := hide hG
  have HZ := hide hZ
  clear hS hG hZ
  go_enter Try.func11, Try.ntmps11
  go_wp2_with fail
  refine (asked_k HS.out HG.out hn 4 0 (by omega)).mono ?_
  rintro e w1 ⟨rfl, hs1⟩
  have HS1 := hide hs1
  clear hs1
  go_wp2_with fail
  refine (asked_k HS1.out HG.out hn 6 0 (by omega)).mono ?_
  rintro e w2 ⟨rfl, hs2⟩
  have HS2 := hide hs2
  clear hs2
  go_wp2_with fail
  refine (asked_k HS2.out HG.out hn 10 0 (by omega)).mono ?_
  rintro e w3 ⟨rfl, hs3⟩
  have HS3 := hide hs3
  clear hs3 HS HS1 HS2
  go_wp2
  go_loopw [7, 8] (fun i sv wr => ∃ k : Nat, k ≤ len + 2 ∧ i = .int .i64 (k : Int) ∧ Hid (Sys w0 wr (star (PrA B R n) Rst))) (fun i _ _ => len + 2 - (intOf i).toNat)
  case atStart => exact ⟨0, by omega, rfl, HS3⟩
  case round =>
  clear HS3
  obtain ⟨k, hk, rfl, KS⟩ := hrel
  by_cases hlt : k < len + 2
  · have hd : decide ((k : Int) < (len : Int) + 2) = true := by simp; omega
    by_cases hlt2 : k < len
    · have hd2 : decide ((k : Int) < (len : Int)) = true := by simp; omega
      have hki : (k : Int) < (len : Int) := by omega
      obtain ⟨x, hx, hop⟩ := HZ.out k hlt2
      subst hx
      have hopr := hop.below KS.out.bel (Nat.le_refl _)
      have c2 := far_cell (by omega) hopr.c2
      have Hs1 := hide hopr.s1
      generalize (Z k).sec = sec at c2 Hs1
      clear hop hopr
      go_wp2_with fail
      refine (asked_k KS.out HG.out hn 1 sec Hs1.out).mono ?_
      rintro e w4 ⟨rfl, hs4⟩
      have HS4 := hide hs4
      clear hs4 c2 KS
      go_wp2_with fail
      refine (asked_k HS4.out HG.out hn 9 sec Hs1.out).mono ?_
      rintro e w5 ⟨rfl, hs5⟩
      have HS5 := hide hs5
      clear hs5 HS4
      go_wp2
      go_roundw
      case rel => first | exact ⟨k + 1, by omega, by go_num, HS5⟩ | ((repeat apply Exists.intro); refine ⟨?_, rfl⟩; exact ⟨k + 1, by omega, by go_num, HS5⟩)
      case measure => simp [intOf]; omega
    · have hd2 : decide ((k : Int) < (len : Int)) = false := by simp; omega
      have hki : (len : Int) ≤ (k : Int) := by omega
      have hki2 : (k : Int) < (len : Int) + 2 := by omega
      obtain ⟨sec, hsec⟩ : ∃ sec : Int, 1023 * ((k : Int) - (len : Int)) = sec := ⟨_, rfl⟩
      have Hs1 : Hid (-9223372036854775808 ≤ sec ∧ sec ≤ 9223372036854775807) := hide (by omega)
      have hw1 : IntKind.i64.wrap ((k : Int) - (len : Int)) = (k : Int) - (len : Int) := by simp [IntKind.wrap, IntKind.signed, IntKind.bits]; omega
      have hw2 : IntKind.i64.wrap (1023 * ((k : Int) - (len : Int))) = sec := by rw [hsec]; simp [IntKind.wrap, IntKind.signed, IntKind.bits]; omega
      clear hsec
      go_wp2_with fail
      refine (asked_k KS.out HG.out hn 1 sec Hs1.out).mono ?_
      rintro e w4 ⟨rfl, hs4⟩
      have HS4 := hide hs4
      clear hs4 KS
      go_wp2_with fail
      refine (asked_k HS4.out HG.out hn 9 sec Hs1.out).mono ?_
      rintro e w5 ⟨rfl, hs5⟩
      have HS5 := hide hs5
      clear hs5 HS4
      go_wp2
      go_roundw
      case rel => first | exact ⟨k + 1, by omega, by go_num, HS5⟩ | ((repeat apply Exists.intro); refine ⟨?_, rfl⟩; exact ⟨k + 1, by omega, by go_num, HS5⟩)
      case measure => simp [intOf]; omega
  · have hd : decide ((k : Int) < (len : Int) + 2) = false := by simp; omega
    go_wp2
    go_ret
    exact ⟨rfl, KS.out⟩
end Go.Proofs.Ytnpklhjndominaa
