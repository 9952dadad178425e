import Derived.Test.YtfonenigkjngoaaDoorRH
namespace Go.Proofs.YtfonenigkjngoaaDoor
open Go.RowKit
section
variable (w : World)
set_option maxRecDepth 100000 in
set_option maxHeartbeats 4000000 in
theorem reck_lt (x y : Nat) (hx : x < 4294967296) (hy : y < 4294967296) (hc : x < y) (hy0 : y ≠ 0) (hO : Ops w) : Calls Tryd.prog 7 #[.int .u32 (x : Nat), .int .u32 (y : Nat)] w fun e w' => e = .returned (.bool true) ∧ Below w.heap.size w w' := by
  obtain ⟨s, hs⟩ : ∃ s, res 5 x y 0 = s := ⟨_, rfl⟩
  obtain ⟨A, hA⟩ : ∃ A, res 10 x y 0 = A := ⟨_, rfl⟩
  obtain ⟨O, hOr⟩ : ∃ O, res 11 x y 0 = O := ⟨_, rfl⟩
  obtain ⟨X, hX⟩ : ∃ X, res 12 x y 0 = X := ⟨_, rfl⟩
  obtain ⟨t, ht⟩ : ∃ t, res 16 x y 0 = t := ⟨_, rfl⟩
  have hs' : s = (x + y) % 4294967296 := hs.symm
  have hA' : A = x &&& y := hA.symm
  have hO' : O = x ||| y := hOr.symm
  have hX' : X = x ^^^ y := hX.symm
  have hsl : s < 4294967296 := by rw [hs']; exact Nat.mod_lt _ (by decide)
  have hAO : A + O = x + y := by rw [hA', hO']; exact and_or_add x y
  have hAX : A + X = O := by rw [hA', hO', hX']; exact and_xor_add x y
  have hAl : A < 4294967296 := by rw [hA']; exact Nat.lt_of_le_of_lt Nat.and_le_left hx
  have hOl : O < 4294967296 := by rw [hO']; exact Nat.or_lt_two_pow (n := 32) hx hy
  have hXl : X < 4294967296 := by omega
  have hback : res 6 s y 0 = x := by simp only [res]; omega
  have hL : res 15 x y 0 = 1 := by simp only [res]; rw [if_pos hc]
  have hG : res 15 y x 0 = 0 := by simp only [res]; rw [if_neg (by omega)]
  have hE : res 17 x y 0 = 0 := by simp only [res]; rw [if_neg (by omega)]
  have htop : res 15 (x ^^^ 2147483648) (y ^^^ 2147483648) 0 = t := by
    rw [← ht]; simp only [res]
    by_cases h : sg x < sg y
    · rw [if_pos h, if_pos ((sg_top x y hx hy).1 h)]
    · rw [if_neg h, if_neg (fun h' => h ((sg_top x y hx hy).2 h'))]
  have x31 := bits_xor_u32 x 2147483648 hx (by decide)
  have y31 := bits_xor_u32 y 2147483648 hy (by decide)
  rw [show ((2147483648 : Nat) : Int) = 2147483648 from rfl] at x31 y31
  have hx31 : x ^^^ 2147483648 < 4294967296 := Nat.xor_lt_two_pow (n := 32) hx (by decide)
  have hy31 : y ^^^ 2147483648 < 4294967296 := Nat.xor_lt_two_pow (n := 32) hy (by decide)
  generalize x ^^^ 2147483648 = x' at *
  generalize y ^^^ 2147483648 = y' at *
  have f1 : ((s : Int) - (y : Int)) % 4294967296 = (x : Int) := by omega
  have f2 : ((A : Int) + (O : Int)) % 4294967296 = (s : Int) := by omega
  have f3 : ((A : Int) + (X : Int)) % 4294967296 = (O : Int) := by omega
  have f4 : ((O : Int) - (A : Int)) % 4294967296 = (X : Int) := by omega
  have f5 : bits .andNot .u32 (A : Int) (x : Int) = 0 := by rw [hA']; exact andNot_one x y
  have f6 : bits .andNot .u32 (x : Int) (O : Int) = 0 := by rw [hO']; exact andNot_two x y
  have g1 : ¬ (x : Int) = (y : Int) := by omega
  have g1b : ¬ x = y := by omega
  have g2 : decide ((x : Int) < (y : Int)) = true := by simp <;> omega
  have g3 : decide (x < y) = true := by simp <;> omega
  have hy0i : ¬ (y : Int) = 0 := by omega
  obtain ⟨q, hq⟩ : ∃ q, res 8 x y 0 = q := ⟨_, rfl⟩
  obtain ⟨m, hm⟩ : ∃ m, res 9 x y 0 = m := ⟨_, rfl⟩
  have hq' : q = x / y := hq.symm
  have hm' : m = x % y := hm.symm
  have hdm : q * y + m = x := by rw [hq', hm', Nat.mul_comm]; exact Nat.div_add_mod x y
  have hml : m < y := by rw [hm']; exact Nat.mod_lt _ (by omega)
  obtain ⟨P, hP⟩ : ∃ P, q * y = P := ⟨_, rfl⟩
  rw [hP] at hdm
  have hql : q < 4294967296 := by rw [hq']; exact Nat.lt_of_le_of_lt (Nat.div_le_self x y) hx
  have hPr : res 7 q y 0 = P := by simp only [res]; rw [hP]; omega
  have hZ : res 5 P m 0 = x := by simp only [res]; omega
  have hS : res 15 m y 0 = 1 := by simp only [res]; rw [if_pos hml]
  have hPl : P < 4294967296 := by omega
  have hmL : m < 4294967296 := by omega
  have fP : (q : Int) * (y : Int) = (P : Int) := by rw [← hP]; simp
  have fZ : (P : Int) + (m : Int) = (x : Int) := by omega
  clear hs' hA' hO' hX' hAO hAX
  clear hq' hm' hdm hP
  have HC := hide (And.intro hc hy0)
  clear hc hy0
  have HK := hide (And.intro hs (And.intro hA (And.intro hOr (And.intro hX (And.intro ht (And.intro hback (And.intro hL (And.intro hG (And.intro hE htop)))))))))
  clear hs hA hOr hX ht hback hL hG hE htop
  have HK2 := hide (And.intro hq (And.intro hm (And.intro hPr (And.intro hZ hS))))
  clear hq hm hPr hZ hS
  have HO := hide hO
  clear hO
  go_enter Tryd.func7, Tryd.ntmps7
  go_wp2_with fail
  refine (known_any _ HO.out).mono ?_
  rintro e w1 ⟨rfl, hb⟩
  have HB := hide hb
  have HO1 := hide (HO.out.below hb)
  clear hb HO
  go_wp2_with fail
  refine (does_r _ 5 x y s HK.out.1 (by decide) (by decide) hx hy (fun h => absurd h (by decide)) HO1.out).mono ?_
  rintro e w2 ⟨rfl, hb⟩
  have HB2 := hide (HB.out.trans (hb.mono HB.out.size))
  have HO2 := hide (HO1.out.below hb)
  clear hb HO1 HB
  go_wp2_with fail
  refine (does_r _ 6 s y x HK.out.2.2.2.2.2.1 (by decide) (by decide) hsl hy (fun h => absurd h (by decide)) HO2.out).mono ?_
  rintro e w3 ⟨rfl, hb⟩
  have HB3 := hide (HB2.out.trans (hb.mono HB2.out.size))
  have HO3 := hide (HO2.out.below hb)
  clear hb HO2 HB2
  go_wp2_with fail
  refine (does_r _ 10 x y A HK.out.2.1 (by decide) (by decide) hx hy (fun h => absurd h (by decide)) HO3.out).mono ?_
  rintro e w4 ⟨rfl, hb⟩
  have HB4 := hide (HB3.out.trans (hb.mono HB3.out.size))
  have HO4 := hide (HO3.out.below hb)
  clear hb HO3 HB3
  go_wp2_with fail
  refine (does_r _ 11 x y O HK.out.2.2.1 (by decide) (by decide) hx hy (fun h => absurd h (by decide)) HO4.out).mono ?_
  rintro e w5 ⟨rfl, hb⟩
  have HB5 := hide (HB4.out.trans (hb.mono HB4.out.size))
  have HO5 := hide (HO4.out.below hb)
  clear hb HO4 HB4
  go_wp2_with fail
  refine (does_r _ 12 x y X HK.out.2.2.2.1 (by decide) (by decide) hx hy (fun h => absurd h (by decide)) HO5.out).mono ?_
  rintro e w6 ⟨rfl, hb⟩
  have HB6 := hide (HB5.out.trans (hb.mono HB5.out.size))
  have HO6 := hide (HO5.out.below hb)
  clear hb HO5 HB5
  go_wp2_with fail
  refine (does_r _ 15 x y 1 HK.out.2.2.2.2.2.2.1 (by decide) (by decide) hx hy (fun h => absurd h (by decide)) HO6.out).mono ?_
  rintro e w7 ⟨rfl, hb⟩
  have HB7 := hide (HB6.out.trans (hb.mono HB6.out.size))
  have HO7 := hide (HO6.out.below hb)
  clear hb HO6 HB6
  go_wp2_with fail
  refine (does_r _ 15 y x 0 HK.out.2.2.2.2.2.2.2.1 (by decide) (by decide) hy hx (fun h => absurd h (by decide)) HO7.out).mono ?_
  rintro e w8 ⟨rfl, hb⟩
  have HB8 := hide (HB7.out.trans (hb.mono HB7.out.size))
  have HO8 := hide (HO7.out.below hb)
  clear hb HO7 HB7
  go_wp2_with fail
  refine (does_r _ 17 x y 0 HK.out.2.2.2.2.2.2.2.2.1 (by decide) (by decide) hx hy (fun h => absurd h (by decide)) HO8.out).mono ?_
  rintro e w9 ⟨rfl, hb⟩
  have HB9 := hide (HB8.out.trans (hb.mono HB8.out.size))
  have HO9 := hide (HO8.out.below hb)
  clear hb HO8 HB8
  go_wp2_with fail
  refine (does_r _ 16 x y t HK.out.2.2.2.2.1 (by decide) (by decide) hx hy (fun h => absurd h (by decide)) HO9.out).mono ?_
  rintro e w10 ⟨rfl, hb⟩
  have HB10 := hide (HB9.out.trans (hb.mono HB9.out.size))
  have HO10 := hide (HO9.out.below hb)
  clear hb HO9 HB9
  go_wp2_with fail
  refine (does_r _ 15 x' y' t HK.out.2.2.2.2.2.2.2.2.2 (by decide) (by decide) hx31 hy31 (fun h => absurd h (by decide)) HO10.out).mono ?_
  rintro e w11 ⟨rfl, hb⟩
  have HB11 := hide (HB10.out.trans (hb.mono HB10.out.size))
  have HO11 := hide (HO10.out.below hb)
  clear hb HO10 HB10
  go_wp2_with fail
  refine (does_r _ 8 x y q HK2.out.1 (by decide) (by decide) hx hy (fun _ => HC.out.2) HO11.out).mono ?_
  rintro e w12 ⟨rfl, hb⟩
  have HB12 := hide (HB11.out.trans (hb.mono HB11.out.size))
  have HO12 := hide (HO11.out.below hb)
  clear hb HO11 HB11
  go_wp2_with fail
  refine (does_r _ 9 x y m HK2.out.2.1 (by decide) (by decide) hx hy (fun _ => HC.out.2) HO12.out).mono ?_
  rintro e w13 ⟨rfl, hb⟩
  have HB13 := hide (HB12.out.trans (hb.mono HB12.out.size))
  have HO13 := hide (HO12.out.below hb)
  clear hb HO12 HB12
  go_wp2_with fail
  refine (does_r _ 7 q y P HK2.out.2.2.1 (by decide) (by decide) hql hy (fun h => absurd h (by decide)) HO13.out).mono ?_
  rintro e w14 ⟨rfl, hb⟩
  have HB14 := hide (HB13.out.trans (hb.mono HB13.out.size))
  have HO14 := hide (HO13.out.below hb)
  clear hb HO13 HB13
  go_wp2_with fail
  refine (does_r _ 5 P m x HK2.out.2.2.2.1 (by decide) (by decide) hPl hmL (fun h => absurd h (by decide)) HO14.out).mono ?_
  rintro e w15 ⟨rfl, hb⟩
  have HB15 := hide (HB14.out.trans (hb.mono HB14.out.size))
  have HO15 := hide (HO14.out.below hb)
  clear hb HO14 HB14
  go_wp2_with fail
  refine (does_r _ 15 m y 1 HK2.out.2.2.2.2 (by decide) (by decide) hmL hy (fun h => absurd h (by decide)) HO15.out).mono ?_
  rintro e w16 ⟨rfl, hb⟩
  have HB16 := hide (HB15.out.trans (hb.mono HB15.out.size))
  have HO16 := hide (HO15.out.below hb)
  clear hb HO15 HB15
  go_wp2
  go_ret
  exact ⟨rfl, HB16.out⟩
end
end Go.Proofs.YtfonenigkjngoaaDoor
