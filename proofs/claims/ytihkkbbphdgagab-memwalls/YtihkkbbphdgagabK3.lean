import Derived.Test.YtihkkbbphdgagabK2
namespace Go.Proofs.Ytihkkbbphdgagab
open Go.RowKit
section
variable (w : World) (B G n : Nat) (m : Nat → Fr) (o : Ost)
set_option maxRecDepth 10000 in
set_option maxHeartbeats 1000000 in
theorem play_else (h : MemAt w B G n m) (hk : ∀ c : Int, 1 ≤ c → c ≤ 11 → o.kd ≠ c) :
    Calls Try.prog 10 #[.pointer (some ⟨B, 0, none⟩), .agg o.cells.toArray] w fun e w' => e = .returned (.tuple #[]) ∧ Plays w w' B G n m o := by
  have hO := Ob.new w o
  have hB0 : Below w.heap.size w (w.alloc (.cells o.cells.toArray 34)) := (Below.refl _ _).alloc (Nat.le_refl _) _
  have h1 := h.below hB0
  go_enter Try.func10, Try.ntmps10
  go_upto_region 1 with fail
  generalize w.alloc (.cells o.cells.toArray 34) = w0 at *
  obtain ⟨_, c1, c2, c3, c4, c5⟩ := hO.c
  have r5 := hO.pg
  have k1 : ¬ o.kd = 1 := hk 1 (by decide) (by decide)
  have k2 : ¬ o.kd = 2 := hk 2 (by decide) (by decide)
  have k3 : ¬ o.kd = 3 := hk 3 (by decide) (by decide)
  have k4 : ¬ o.kd = 4 := hk 4 (by decide) (by decide)
  have k5 : ¬ o.kd = 5 := hk 5 (by decide) (by decide)
  have k6 : ¬ o.kd = 6 := hk 6 (by decide) (by decide)
  have k7 : ¬ o.kd = 7 := hk 7 (by decide) (by decide)
  have k8 : ¬ o.kd = 8 := hk 8 (by decide) (by decide)
  have k9 : ¬ o.kd = 9 := hk 9 (by decide) (by decide)
  have k10 : ¬ o.kd = 10 := hk 10 (by decide) (by decide)
  have k11 : ¬ o.kd = 11 := hk 11 (by decide) (by decide)
  have HB := hide hB0
  have H1 := hide h1
  have HE : Hid (Eff n m o m) := hide (.same (fun e => absurd e k5) (fun e => absurd e k7) (fun e => absurd e k8))
  clear hO h hB0 h1 hk
  go_wp2
  go_end0
  exact ⟨rfl, Plays.of_same HB.out H1.out HE.out⟩
theorem play_any (h : MemAt w B G n m) (hn : n ≤ 64) (hb : ∀ j, (m j).h < 4611686018427387904) :
    Calls Try.prog 10 #[.pointer (some ⟨B, 0, none⟩), .agg o.cells.toArray] w fun e w' => e = .returned (.tuple #[]) ∧ Plays w w' B G n m o := by
  by_cases h1 : o.kd = 1
  · exact play_1 w B G n m o h hn h1
  by_cases h2 : o.kd = 2
  · exact play_2 w B G n m o h hb h2
  by_cases h3 : o.kd = 3
  · exact play_3 w B G n m o h hb h3
  by_cases h4 : o.kd = 4
  · exact play_4 w B G n m o h h4
  by_cases h5 : o.kd = 5
  · exact play_5 w B G n m o h h5
  by_cases h6 : o.kd = 6
  · exact play_6 w B G n m o h h6
  by_cases h7 : o.kd = 7
  · exact play_7 w B G n m o h h7
  by_cases h8 : o.kd = 8
  · exact play_8 w B G n m o h h8
  by_cases h9 : o.kd = 9
  · exact play_9 w B G n m o h h9
  by_cases h10 : o.kd = 10
  · exact play_10 w B G n m o h h10
  by_cases h11 : o.kd = 11
  · exact play_11 w B G n m o h h11
  refine play_else w B G n m o h (fun c c1 c2 e => ?_)
  have : c = 1 ∨ c = 2 ∨ c = 3 ∨ c = 4 ∨ c = 5 ∨ c = 6 ∨ c = 7 ∨ c = 8 ∨ c = 9 ∨ c = 10 ∨ c = 11 := by omega
  rcases this with rfl | rfl | rfl | rfl | rfl | rfl | rfl | rfl | rfl | rfl | rfl <;> contradiction
end
end Go.Proofs.Ytihkkbbphdgagab
