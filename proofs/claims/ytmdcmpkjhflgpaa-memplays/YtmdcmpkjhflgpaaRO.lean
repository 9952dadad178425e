import Derived.Test.YtmdcmpkjhflgpaaRN
namespace Go.Proofs.Ytmdcmpkjhflgpaa
open Go.RowKit

/-- a pair somewhere behind w, no frame with more holds than K -/
def EI (w wr : World) (x : Ix) (K : Nat) : Prop := ∃ m r, Pr wr x m r ∧ (∀ j, (m j).h ≤ K) ∧ Mod (Own x) w wr
theorem EI.step {w wr w' : World} {x : Ix} {m : Nat → Fr} {K : Nat} (hm : Mod (Own x) w wr) (hK : 1 ≤ K) (hb : ∀ j, (m j).h ≤ K) (h : PPost wr w' x m) : EI w w' x (K + 1) := by
  obtain ⟨m', r', h1, h2, h3⟩ := h
  exact ⟨m', r', h1, h3 K hK hb, hm.trans h2⟩
/-- a step on a pair -/
theorem EI.plays {w wr : World} {x : Ix} {K : Nat} (h : EI w wr x K) (hK : 1 ≤ K) (hb : K < 4611686018427387904) (o : Ost) :
    Calls Try.prog 6 #[.pointer (some ⟨x.B, 0, none⟩), .pointer (some ⟨x.B', 0, none⟩), .agg o.cells.toArray] wr fun e w' => e = .returned (.bool true) ∧ EI w w' x (K + 1) := by
  obtain ⟨m, r, h1, h2, h3⟩ := h
  exact (plays_any h1 (fun j => by have := h2 j; omega)).mono (fun e w' ⟨h4, h5⟩ => ⟨h4, EI.step h3 hK h2 h5⟩)
theorem EI.le {w wr : World} {x : Ix} {K K' : Nat} (h : EI w wr x K) (hk : K ≤ K') : EI w wr x K' := by
  obtain ⟨m, r, h1, h2, h3⟩ := h
  exact ⟨m, r, h1, fun j => Nat.le_trans (h2 j) hk, h3⟩
set_option maxRecDepth 10000 in
set_option maxHeartbeats 2000000 in
theorem ends_any {w : World} {x : Ix} {K : Nat} (h : EI w w x K) (hK : 1 ≤ K) (hb : K < 2305843009213693952) :
    Calls Try.prog 7 #[.pointer (some ⟨x.B, 0, none⟩), .pointer (some ⟨x.B', 0, none⟩)] w fun e w' => e = .returned (.bool true) ∧ EI w w' x (K + 134) := by
  have HH := hide h
  clear h
  go_enter Try.func7, Try.ntmps7
  go_wp2
  go_loopw [5] (fun i wr => ∃ j : Nat, j ≤ 66 ∧ i = .int .i64 ((j : Int) - 1) ∧ EI w wr x (K + 2 * j)) (fun i _ => (65 - intOf i).toNat)
  case atStart => exact ⟨0, by omega, rfl, HH.out⟩
  case round =>
    obtain ⟨j, hj, rfl, hE⟩ := hrel
    have HE := hide hE
    clear hE
    by_cases hlt : j < 66
    · have hd : decide ((j : Int) - 1 ≤ 64) = true := by simp; omega
      go_wp2_with fail
      refine (HE.out.plays (by omega) (by omega) ⟨false, 6, (j : Int) - 1, 0, 0, fun _ => 0⟩).mono ?_
      rintro e w1 ⟨rfl, h1⟩
      have H1 := hide h1
      clear h1
      go_wp2_with fail
      refine (H1.out.plays (by omega) (by omega) ⟨false, 11, (j : Int) - 1, 0, 0, fun _ => 0⟩).mono ?_
      rintro e w2 ⟨rfl, h2⟩
      have H2 := hide h2
      clear h2
      go_wp2
      go_roundw
      case rel => exact ⟨j + 1, by omega, by go_num, H2.out.le (by omega)⟩
      case measure => simp [intOf]; omega
    · obtain rfl : j = 66 := by omega
      go_wp2_with fail
      refine (HE.out.plays (by omega) (by omega) ⟨false, 12, 0, 0, 0, fun _ => 0⟩).mono ?_
      rintro e w1 ⟨rfl, h1⟩
      have H1 := hide h1
      clear h1
      go_wp2_with fail
      refine (H1.out.plays (by omega) (by omega) ⟨false, 13, 0, 0, 0, fun _ => 0⟩).mono ?_
      rintro e w2 ⟨rfl, h2⟩
      have H2 := hide h2
      clear h2
      go_wp2
      go_ret
      exact ⟨rfl, H2.out.le (by omega)⟩
end Go.Proofs.Ytmdcmpkjhflgpaa
