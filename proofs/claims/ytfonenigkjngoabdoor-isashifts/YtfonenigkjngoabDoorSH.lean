import Derived.Test.YtfonenigkjngoabDoorRH
import Derived.Test.YtfonenigkjngoabDoorSM
namespace Go.Proofs.YtfonenigkjngoabDoor
open Go.RowKit
section
variable (w : World)
set_option maxRecDepth 100000 in
set_option maxHeartbeats 4000000 in
theorem shifts_far (x y : Nat) (hx : x < 4294967296) (hy : y < 4294967296) (h32 : 32 ≤ y) (hO : Ops w) : Calls Tryd.prog 3 #[.int .u32 (x : Nat), .int .u32 (y : Nat)] w fun e w' => e = .returned (.bool true) ∧ Below w.heap.size w w' := by
  have e1 : res 13 x y 0 = 0 := by simp only [res]; rw [if_neg (by omega)]
  have e2 : res 14 0 y 0 = 0 := by simp only [res]; rw [if_neg (by omega)]
  have e3 : res 14 x y 0 = 0 := by simp only [res]; rw [if_neg (by omega)]
  have e4 : res 13 0 y 0 = 0 := by simp only [res]; rw [if_neg (by omega)]
  have HE := hide (And.intro e1 (And.intro e2 (And.intro e3 e4)))
  clear e1 e2 e3 e4
  have h32i : (32 : Int) ≤ (y : Int) := by omega
  have HO := hide hO
  clear hO
  go_enter Tryd.func3, Tryd.ntmps3
  go_wp2_with fail
  refine (known_any _ HO.out).mono ?_
  rintro e w1 ⟨rfl, hb⟩
  have HB1 := hide hb
  have HO1 := hide (HO.out.below hb)
  clear hb HO
  go_wp2_with fail
  refine (does_r _ 13 x y 0 HE.out.1 (by decide) (by decide) hx hy (fun h => absurd h (by decide)) HO1.out).mono ?_
  rintro e w2 ⟨rfl, hb⟩
  have HB2 := hide (HB1.out.trans (hb.mono HB1.out.size))
  have HO2 := hide (HO1.out.below hb)
  clear hb HO1 HB1
  go_wp2_with fail
  refine (does_r _ 14 0 y 0 HE.out.2.1 (by decide) (by decide) (by decide) hy (fun h => absurd h (by decide)) HO2.out).mono ?_
  rintro e w3 ⟨rfl, hb⟩
  have HB3 := hide (HB2.out.trans (hb.mono HB2.out.size))
  have HO3 := hide (HO2.out.below hb)
  clear hb HO2 HB2
  go_wp2_with fail
  refine (does_r _ 14 x y 0 HE.out.2.2.1 (by decide) (by decide) hx hy (fun h => absurd h (by decide)) HO3.out).mono ?_
  rintro e w4 ⟨rfl, hb⟩
  have HB4 := hide (HB3.out.trans (hb.mono HB3.out.size))
  have HO4 := hide (HO3.out.below hb)
  clear hb HO3 HB3
  go_wp2_with fail
  refine (does_r _ 13 0 y 0 HE.out.2.2.2 (by decide) (by decide) (by decide) hy (fun h => absurd h (by decide)) HO4.out).mono ?_
  rintro e w5 ⟨rfl, hb⟩
  have HB5 := hide (HB4.out.trans (hb.mono HB4.out.size))
  have HO5 := hide (HO4.out.below hb)
  clear hb HO4 HB4
  go_wp2
  go_ret
  exact ⟨rfl, HB5.out⟩
set_option maxRecDepth 100000 in
set_option maxHeartbeats 4000000 in
theorem shifts_near (x y : Nat) (hx : x < 4294967296) (hy : y < 4294967296) (h32 : y < 32) (hO : Ops w) : Calls Tryd.prog 3 #[.int .u32 (x : Nat), .int .u32 (y : Nat)] w fun e w' => e = .returned (.bool true) ∧ Below w.heap.size w w' := by
  obtain ⟨l, hl⟩ : ∃ l, res 13 x y 0 = l := ⟨_, rfl⟩
  obtain ⟨b, hb0⟩ : ∃ b, res 14 l y 0 = b := ⟨_, rfl⟩
  obtain ⟨s, hs⟩ : ∃ s, res 14 x y 0 = s := ⟨_, rfl⟩
  obtain ⟨t, ht⟩ : ∃ t, res 13 s y 0 = t := ⟨_, rfl⟩
  have hll : l < 4294967296 := by rw [← hl]; simp only [res]; rw [if_pos h32]; exact Nat.mod_lt _ (by decide)
  have hsl : s < 4294967296 := by rw [← hs]; simp only [res]; rw [if_pos h32]; exact Nat.lt_of_le_of_lt (Nat.div_le_self _ _) hx
  have hd : res 13 x 1 0 = 2 * x % 4294967296 := by simp only [res]; rw [if_pos (by decide)]; omega
  have he : res 5 x x 0 = 2 * x % 4294967296 := by simp only [res]; omega
  have hh : res 14 x 1 0 = x / 2 := by simp only [res]; rw [if_pos (by decide)]
  have hg : res 8 x 2 0 = x / 2 := rfl
  have HE := hide (And.intro hl (And.intro hb0 (And.intro hs (And.intro ht (And.intro hd (And.intro he (And.intro hh hg)))))))
  clear hl hb0 hs ht hd he hh hg
  have h32i : ¬ (32 : Int) ≤ (y : Int) := by omega
  have hp := sh_p hx h32
  have hlo : (((2 ^ y : Nat) : Int) - 1) % 4294967296 = ((2 ^ y - 1 : Nat) : Int) := by
    have h1 := pow_lt h32
    have h2 : 0 < 2 ^ y := Nat.two_pow_pos y
    generalize 2 ^ y = P at *
    omega
  have A1 := sh_A1 hx h32
  have A2 := sh_A2 hx h32
  have A3 := sh_A3 hx h32
  have A4 := sh_A4 hx h32
  rw [HE.out.1] at A2 A3 A4
  rw [HE.out.2.1] at A2
  rw [HE.out.2.2.1, HE.out.2.2.2.1] at A1
  generalize 2 ^ y - 1 = lo at *
  generalize hpp : ((2 ^ y : Nat) : Int) = p at *
  clear hpp
  generalize 2 * x % 4294967296 = d2 at *
  generalize x / 2 = x2 at *
  have HO := hide hO
  clear hO
  go_enter Tryd.func3, Tryd.ntmps3
  go_wp2_with fail
  refine (known_any _ HO.out).mono ?_
  rintro e w1 ⟨rfl, hb⟩
  have HB1 := hide hb
  have HO1 := hide (HO.out.below hb)
  clear hb HO
  go_wp2_with fail
  refine (does_r _ 13 x y l HE.out.1 (by decide) (by decide) hx hy (fun h => absurd h (by decide)) HO1.out).mono ?_
  rintro e w2 ⟨rfl, hb⟩
  have HB2 := hide (HB1.out.trans (hb.mono HB1.out.size))
  have HO2 := hide (HO1.out.below hb)
  clear hb HO1 HB1
  go_wp2_with fail
  refine (does_r _ 14 l y b HE.out.2.1 (by decide) (by decide) hll hy (fun h => absurd h (by decide)) HO2.out).mono ?_
  rintro e w3 ⟨rfl, hb⟩
  have HB3 := hide (HB2.out.trans (hb.mono HB2.out.size))
  have HO3 := hide (HO2.out.below hb)
  clear hb HO2 HB2
  go_wp2_with fail
  refine (does_r _ 14 x y s HE.out.2.2.1 (by decide) (by decide) hx hy (fun h => absurd h (by decide)) HO3.out).mono ?_
  rintro e w4 ⟨rfl, hb⟩
  have HB4 := hide (HB3.out.trans (hb.mono HB3.out.size))
  have HO4 := hide (HO3.out.below hb)
  clear hb HO3 HB3
  go_wp2_with fail
  refine (does_r _ 13 s y t HE.out.2.2.2.1 (by decide) (by decide) hsl hy (fun h => absurd h (by decide)) HO4.out).mono ?_
  rintro e w5 ⟨rfl, hb⟩
  have HB5 := hide (HB4.out.trans (hb.mono HB4.out.size))
  have HO5 := hide (HO4.out.below hb)
  clear hb HO4 HB4
  go_wp2_with fail
  refine (does_r _ 13 x 1 d2 HE.out.2.2.2.2.1 (by decide) (by decide) hx (by decide) (fun h => absurd h (by decide)) HO5.out).mono ?_
  rintro e w6 ⟨rfl, hb⟩
  have HB6 := hide (HB5.out.trans (hb.mono HB5.out.size))
  have HO6 := hide (HO5.out.below hb)
  clear hb HO5 HB5
  go_wp2_with fail
  refine (does_r _ 5 x x d2 HE.out.2.2.2.2.2.1 (by decide) (by decide) hx hx (fun h => absurd h (by decide)) HO6.out).mono ?_
  rintro e w7 ⟨rfl, hb⟩
  have HB7 := hide (HB6.out.trans (hb.mono HB6.out.size))
  have HO7 := hide (HO6.out.below hb)
  clear hb HO6 HB6
  go_wp2_with fail
  refine (does_r _ 14 x 1 x2 HE.out.2.2.2.2.2.2.1 (by decide) (by decide) hx (by decide) (fun h => absurd h (by decide)) HO7.out).mono ?_
  rintro e w8 ⟨rfl, hb⟩
  have HB8 := hide (HB7.out.trans (hb.mono HB7.out.size))
  have HO8 := hide (HO7.out.below hb)
  clear hb HO7 HB7
  go_wp2_with fail
  refine (does_r _ 8 x 2 x2 HE.out.2.2.2.2.2.2.2 (by decide) (by decide) hx (by decide) (fun _ => by decide) HO8.out).mono ?_
  rintro e w9 ⟨rfl, hb⟩
  have HB9 := hide (HB8.out.trans (hb.mono HB8.out.size))
  have HO9 := hide (HO8.out.below hb)
  clear hb HO8 HB8
  go_wp2
  go_ret
  exact ⟨rfl, HB9.out⟩
theorem shifts_walk (x : Nat) (hx : x < 4294967296) (y : Nat) (hy : y < 4294967296) (hO : Ops w) : Calls Tryd.prog 3 #[.int .u32 (x : Nat), .int .u32 (y : Nat)] w fun e w' => e = .returned (.bool true) ∧ Below w.heap.size w w' := by
  by_cases h : y < 32
  · exact shifts_near w x y hx hy h hO
  · exact shifts_far w x y hx hy (by omega) hO
end
end Go.Proofs.YtfonenigkjngoabDoor
