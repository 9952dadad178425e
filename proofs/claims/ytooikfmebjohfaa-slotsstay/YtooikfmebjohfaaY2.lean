import Derived.Test.YtooikfmebjohfaaY1
namespace Go.Proofs.Ytooikfmebjohfaa
open Go.RowKit

set_option maxRecDepth 8000 in
set_option maxHeartbeats 3200000 in
theorem stay_walk (a0 place v : Int) (a1 : Option Addr) (len cap : Nat) (Z : Nat → Int × Int × Int × Int) (w : World) (hlen : len ≤ maxLen) (hv : Quads w a1 len Z) :
    Calls Try.prog 6 #[.int .i64 a0, .int .i64 place, .int .i64 v, .slice a1 len cap] w fun e w' => e = .returned (.bool true) ∧ Below w.heap.size w w' := by
  have HV := hide hv
  have hl2 : len ≤ 9223372036854775807 := by unfold maxLen at hlen; omega
  clear hv hlen
  go_enter Try.func6, Try.ntmps6
  go_wp2_with fail
  refine (newI_any _ a0).mono ?_
  rintro e w1 ⟨rfl, hT1, hb1⟩
  obtain ⟨b, hb⟩ : ∃ b, clp a0 = b := ⟨_, rfl⟩
  rw [hb] at hT1
  have HS1 : Hid (SI w w1 (w.heap.size + 1) (List.replicate b none)) := ⟨_, hT1, fun x hx => by omega, hb1⟩
  have HB := hide hb
  clear hT1 hb1 hb
  generalize w.heap.size + 1 = B at *
  go_wp2_with fail
  refine (clamp_any _ a0).mono ?_
  rintro e w1' ⟨rfl, rfl⟩
  rw [HB.out]
  obtain ⟨m0, hm0⟩ : ∃ m0, List.replicate b (none : Option Int) = m0 := ⟨_, rfl⟩
  have HL0 := hide (show m0.length = b by rw [← hm0]; simp)
  have HC0 := hide (show m0.countP Option.isSome = 0 by rw [← hm0]; exact List.countP_eq_zero.2 (fun a ha => by rw [(List.mem_replicate.1 ha).2]; simp))
  have HN0 := hide (show ∀ (q : Nat) (c : Int), m0[q]? ≠ some (some c) from fun q c h => by
    have := List.mem_of_getElem? h
    rw [← hm0, List.mem_replicate] at this
    cases this.2)
  rw [hm0] at HS1
  clear hm0 HB
  go_wp2_with fail
  refine (fixed_any _).mono ?_
  rintro e w2 ⟨rfl, hb2⟩
  have HS2 := hide (HS1.out.below hb2)
  clear hb2 HS1
  go_wp2_with fail
  refine (HS2.out.putAt place v).mono ?_
  rintro e w3 ⟨ev, m1, rfl, hS3, h3⟩
  have HS3 := hide hS3
  clear hS3 HS2
  rcases h3 with ⟨h1, rfl, rfl⟩ | ⟨k, x, rfl, hx, _⟩ | ⟨pl, rfl, hx, rfl, rfl⟩
  · rw [HL0.out] at h1
    have fin : ∀ w', SI w w' B m1 → Below w.heap.size w w' := fun w' h => h.bel
    rcases h1 with h1 | h1
    · go_wp2_with fail
      refine HS3.out.len.mono ?_
      rintro e w4 ⟨rfl, rfl⟩
      rw [HC0.out]
      go_wp2
      go_ret
      exact ⟨rfl, HS3.out.bel⟩
    · have hd0 : decide (place < 0) = false := by simp; omega
      have hd1 : decide ((b : Int) ≤ place) = true := by simpa using h1
      clear h1
      go_wp2_with fail
      refine HS3.out.len.mono ?_
      rintro e w4 ⟨rfl, rfl⟩
      rw [HC0.out]
      go_wp2
      go_ret
      exact ⟨rfl, HS3.out.bel⟩
  · exact absurd hx (HN0.out k x)
  · have hpl : pl < b := by rw [← HL0.out]; exact (List.getElem?_eq_some_iff.1 hx).1
    have hd0 : decide ((pl : Int) < 0) = false := by simp
    have hd1 : decide (b ≤ pl) = false := by simp; omega
    have HK3 := hide (show (m0.set pl (some v))[pl]? = some (some v) by rw [List.getElem?_set]; simp [HL0.out, hpl])
    generalize m0.set pl (some v) = m1 at *
    clear hx HN0 HC0
    go_wp2
    go_loopw [12] (fun i wr => ∃ (k : Nat) (m : List (Option Int)), k ≤ len ∧ i = .int .i64 k ∧ SI w wr B m ∧ Hid (m[pl]? = some (some v))) (fun i _ => len - (intOf i).toNat)
    case atStart => exact ⟨0, m1, by omega, rfl, HS3.out, HK3⟩
    case round =>
      obtain ⟨k, m, hk, rfl, hS, HK⟩ := hrel
      have HS := hide hS
      clear hS HS3 HK3
      by_cases hlt : k < len
      · obtain ⟨x, z0, z1, z2, z3, hx, e0, e1, e2, e3⟩ := HV.out.at HS.out.bel hlt
        subst hx
        have HSA := hide (HS.out.below ((Below.refl wr.heap.size wr).alloc (Nat.le_refl _) (.cells #[.int .i64 z0, .int .i64 z1, .int .i64 z2, .int .i64 z3] 61)))
        clear HS
        rcases Classical.em (z2 = (pl : Int)) with rfl | hne
        · go_wp2_with fail
          · refine (HSA.out.put _).mono ?_
            rintro e w6 ⟨kq, eq, m', rfl, hS6, h6⟩
            have hkne : ¬ kq = (pl : Int) := by
              rcases h6 with ⟨h7, rfl, _⟩ | ⟨rfl, _⟩
              · have := ff_ne HK.out h7; omega
              · omega
            have hkb : (kq == (pl : Int)) = false := by simpa using hkne
            have HK6 := hide (show m'[pl]? = some (some v) by
              rcases h6 with ⟨h7, _, rfl⟩ | ⟨_, rfl⟩
              · exact keep_set HK.out (ff_ne HK.out h7) _
              · exact HK.out)
            have HS6 := hide hS6
            clear h6 hS6 HSA hkne
            go_wp2_with fail
            refine (HS6.out.get pl).mono ?_
            rintro e w7 ⟨rfl, rfl⟩
            rw [show look m' (pl : Int) = some v by rw [look_nat, HK6.out]; rfl]
            simp only [Option.getD_some, Option.isSome_some]
            go_wp2_with fail
            refine (HS6.out.find v).mono ?_
            rintro e w8 ⟨r, rfl, hf, hS8⟩
            obtain ⟨kk, rfl, hkk⟩ := found_pl HK6.out hf
            have HS8 := hide hS8
            clear hf hS8
            have hd1 : decide ((kk : Int) < 0) = false := by simp
            have hd2 : decide (pl < kk) = false := by simp; omega
            go_wp2_with fail
            refine (HS8.out.next pl).mono ?_
            rintro e w9 ⟨q, rfl, hq, rfl⟩
            obtain rfl := at_pl HK6.out hq
            clear hq
            go_wp2
            go_roundw
            case rel =>
              first
                | exact ⟨k + 1, m', by omega, by go_num, HS8.out, HK6⟩
                | ((repeat apply Exists.intro); refine ⟨?_, rfl⟩; exact ⟨k + 1, m', by omega, by go_num, HS8.out, HK6⟩)
            case measure => simp [intOf]; omega
          · refine (HSA.out.putAt _ _).mono ?_
            rintro e w6 ⟨ev, m', rfl, hS6, h6⟩
            have HK6 := hide (show m'[pl]? = some (some v) by
              rcases h6 with ⟨_, _, rfl⟩ | ⟨_, _, _, _, _, rfl⟩ | ⟨kk, _, hx, _, rfl⟩
              · exact HK.out
              · exact HK.out
              · exact keep_set HK.out (fun e => by subst e; rw [HK.out] at hx; cases hx) _)
            have HS6 := hide hS6
            clear h6 hS6 HSA
            go_wp2_with fail
            refine (HS6.out.get pl).mono ?_
            rintro e w7 ⟨rfl, rfl⟩
            rw [show look m' (pl : Int) = some v by rw [look_nat, HK6.out]; rfl]
            simp only [Option.getD_some, Option.isSome_some]
            go_wp2_with fail
            refine (HS6.out.find v).mono ?_
            rintro e w8 ⟨r, rfl, hf, hS8⟩
            obtain ⟨kk, rfl, hkk⟩ := found_pl HK6.out hf
            have HS8 := hide hS8
            clear hf hS8
            have hd1 : decide ((kk : Int) < 0) = false := by simp
            have hd2 : decide (pl < kk) = false := by simp; omega
            go_wp2_with fail
            refine (HS8.out.next pl).mono ?_
            rintro e w9 ⟨q, rfl, hq, rfl⟩
            obtain rfl := at_pl HK6.out hq
            clear hq
            go_wp2
            go_roundw
            case rel =>
              first
                | exact ⟨k + 1, m', by omega, by go_num, HS8.out, HK6⟩
                | ((repeat apply Exists.intro); refine ⟨?_, rfl⟩; exact ⟨k + 1, m', by omega, by go_num, HS8.out, HK6⟩)
            case measure => simp [intOf]; omega
          · go_wp2_with fail
            refine (HSA.out.get pl).mono ?_
            rintro e w7 ⟨rfl, rfl⟩
            rw [show look m (pl : Int) = some v by rw [look_nat, HK.out]; rfl]
            simp only [Option.getD_some, Option.isSome_some]
            go_wp2_with fail
            refine (HSA.out.find v).mono ?_
            rintro e w8 ⟨r, rfl, hf, hS8⟩
            obtain ⟨kk, rfl, hkk⟩ := found_pl HK.out hf
            have HS8 := hide hS8
            clear hf hS8
            have hd1 : decide ((kk : Int) < 0) = false := by simp
            have hd2 : decide (pl < kk) = false := by simp; omega
            go_wp2_with fail
            refine (HS8.out.next pl).mono ?_
            rintro e w9 ⟨q, rfl, hq, rfl⟩
            obtain rfl := at_pl HK.out hq
            clear hq
            go_wp2
            go_roundw
            case rel =>
              first
                | exact ⟨k + 1, m, by omega, by go_num, HS8.out, HK⟩
                | ((repeat apply Exists.intro); refine ⟨?_, rfl⟩; exact ⟨k + 1, m, by omega, by go_num, HS8.out, HK⟩)
            case measure => simp [intOf]; omega
          · go_wp2_with fail
            refine (HSA.out.get pl).mono ?_
            rintro e w7 ⟨rfl, rfl⟩
            rw [show look m (pl : Int) = some v by rw [look_nat, HK.out]; rfl]
            simp only [Option.getD_some, Option.isSome_some]
            go_wp2_with fail
            refine (HSA.out.find v).mono ?_
            rintro e w8 ⟨r, rfl, hf, hS8⟩
            obtain ⟨kk, rfl, hkk⟩ := found_pl HK.out hf
            have HS8 := hide hS8
            clear hf hS8
            have hd1 : decide ((kk : Int) < 0) = false := by simp
            have hd2 : decide (pl < kk) = false := by simp; omega
            go_wp2_with fail
            refine (HS8.out.next pl).mono ?_
            rintro e w9 ⟨q, rfl, hq, rfl⟩
            obtain rfl := at_pl HK.out hq
            clear hq
            go_wp2
            go_roundw
            case rel =>
              first
                | exact ⟨k + 1, m, by omega, by go_num, HS8.out, HK⟩
                | ((repeat apply Exists.intro); refine ⟨?_, rfl⟩; exact ⟨k + 1, m, by omega, by go_num, HS8.out, HK⟩)
            case measure => simp [intOf]; omega
          · refine HSA.out.copy.mono ?_
            rintro e w6 ⟨C, rfl, hC6, hS6⟩
            have HC6 := hide hC6
            clear hC6 hS6
            go_wp2_with fail
            refine (HC6.out.drop _).mono ?_
            rintro e w6b ⟨ev, m', rfl, hS6, h6⟩
            have HS6 := hide (HSA.out.below hS6.bel)
            clear h6 hS6 HC6
            go_wp2_with fail
            refine (HS6.out.get pl).mono ?_
            rintro e w7 ⟨rfl, rfl⟩
            rw [show look m (pl : Int) = some v by rw [look_nat, HK.out]; rfl]
            simp only [Option.getD_some, Option.isSome_some]
            go_wp2_with fail
            refine (HS6.out.find v).mono ?_
            rintro e w8 ⟨r, rfl, hf, hS8⟩
            obtain ⟨kk, rfl, hkk⟩ := found_pl HK.out hf
            have HS8 := hide hS8
            clear hf hS8
            have hd1 : decide ((kk : Int) < 0) = false := by simp
            have hd2 : decide (pl < kk) = false := by simp; omega
            go_wp2_with fail
            refine (HS8.out.next pl).mono ?_
            rintro e w9 ⟨q, rfl, hq, rfl⟩
            obtain rfl := at_pl HK.out hq
            clear hq
            go_wp2
            go_roundw
            case rel =>
              first
                | exact ⟨k + 1, m, by omega, by go_num, HS8.out, HK⟩
                | ((repeat apply Exists.intro); refine ⟨?_, rfl⟩; exact ⟨k + 1, m, by omega, by go_num, HS8.out, HK⟩)
            case measure => simp [intOf]; omega
          · go_wp2_with fail
            refine (HSA.out.get pl).mono ?_
            rintro e w7 ⟨rfl, rfl⟩
            rw [show look m (pl : Int) = some v by rw [look_nat, HK.out]; rfl]
            simp only [Option.getD_some, Option.isSome_some]
            go_wp2_with fail
            refine (HSA.out.find v).mono ?_
            rintro e w8 ⟨r, rfl, hf, hS8⟩
            obtain ⟨kk, rfl, hkk⟩ := found_pl HK.out hf
            have HS8 := hide hS8
            clear hf hS8
            have hd1 : decide ((kk : Int) < 0) = false := by simp
            have hd2 : decide (pl < kk) = false := by simp; omega
            go_wp2_with fail
            refine (HS8.out.next pl).mono ?_
            rintro e w9 ⟨q, rfl, hq, rfl⟩
            obtain rfl := at_pl HK.out hq
            clear hq
            go_wp2
            go_roundw
            case rel =>
              first
                | exact ⟨k + 1, m, by omega, by go_num, HS8.out, HK⟩
                | ((repeat apply Exists.intro); refine ⟨?_, rfl⟩; exact ⟨k + 1, m, by omega, by go_num, HS8.out, HK⟩)
            case measure => simp [intOf]; omega
        · go_wp2_with fail
          · refine (HSA.out.put _).mono ?_
            rintro e w6 ⟨kq, eq, m', rfl, hS6, h6⟩
            have hkne : ¬ kq = (pl : Int) := by
              rcases h6 with ⟨h7, rfl, _⟩ | ⟨rfl, _⟩
              · have := ff_ne HK.out h7; omega
              · omega
            have hkb : (kq == (pl : Int)) = false := by simpa using hkne
            have HK6 := hide (show m'[pl]? = some (some v) by
              rcases h6 with ⟨h7, _, rfl⟩ | ⟨_, rfl⟩
              · exact keep_set HK.out (ff_ne HK.out h7) _
              · exact HK.out)
            have HS6 := hide hS6
            clear h6 hS6 HSA hkne
            go_wp2_with fail
            refine (HS6.out.get pl).mono ?_
            rintro e w7 ⟨rfl, rfl⟩
            rw [show look m' (pl : Int) = some v by rw [look_nat, HK6.out]; rfl]
            simp only [Option.getD_some, Option.isSome_some]
            go_wp2_with fail
            refine (HS6.out.find v).mono ?_
            rintro e w8 ⟨r, rfl, hf, hS8⟩
            obtain ⟨kk, rfl, hkk⟩ := found_pl HK6.out hf
            have HS8 := hide hS8
            clear hf hS8
            have hd1 : decide ((kk : Int) < 0) = false := by simp
            have hd2 : decide (pl < kk) = false := by simp; omega
            go_wp2_with fail
            refine (HS8.out.next pl).mono ?_
            rintro e w9 ⟨q, rfl, hq, rfl⟩
            obtain rfl := at_pl HK6.out hq
            clear hq
            go_wp2
            go_roundw
            case rel =>
              first
                | exact ⟨k + 1, m', by omega, by go_num, HS8.out, HK6⟩
                | ((repeat apply Exists.intro); refine ⟨?_, rfl⟩; exact ⟨k + 1, m', by omega, by go_num, HS8.out, HK6⟩)
            case measure => simp [intOf]; omega
          · refine (HSA.out.putAt _ _).mono ?_
            rintro e w6 ⟨ev, m', rfl, hS6, h6⟩
            have HK6 := hide (show m'[pl]? = some (some v) by
              rcases h6 with ⟨_, _, rfl⟩ | ⟨_, _, _, _, _, rfl⟩ | ⟨kk, _, hx, _, rfl⟩
              · exact HK.out
              · exact HK.out
              · exact keep_set HK.out (fun e => by subst e; rw [HK.out] at hx; cases hx) _)
            have HS6 := hide hS6
            clear h6 hS6 HSA
            go_wp2_with fail
            refine (HS6.out.get pl).mono ?_
            rintro e w7 ⟨rfl, rfl⟩
            rw [show look m' (pl : Int) = some v by rw [look_nat, HK6.out]; rfl]
            simp only [Option.getD_some, Option.isSome_some]
            go_wp2_with fail
            refine (HS6.out.find v).mono ?_
            rintro e w8 ⟨r, rfl, hf, hS8⟩
            obtain ⟨kk, rfl, hkk⟩ := found_pl HK6.out hf
            have HS8 := hide hS8
            clear hf hS8
            have hd1 : decide ((kk : Int) < 0) = false := by simp
            have hd2 : decide (pl < kk) = false := by simp; omega
            go_wp2_with fail
            refine (HS8.out.next pl).mono ?_
            rintro e w9 ⟨q, rfl, hq, rfl⟩
            obtain rfl := at_pl HK6.out hq
            clear hq
            go_wp2
            go_roundw
            case rel =>
              first
                | exact ⟨k + 1, m', by omega, by go_num, HS8.out, HK6⟩
                | ((repeat apply Exists.intro); refine ⟨?_, rfl⟩; exact ⟨k + 1, m', by omega, by go_num, HS8.out, HK6⟩)
            case measure => simp [intOf]; omega
          · refine (HSA.out.set _ _).mono ?_
            rintro e w6 ⟨ev, m', rfl, hS6, h6⟩
            have HK6 := hide (show m'[pl]? = some (some v) by
              rcases h6 with ⟨_, rfl⟩ | ⟨kk, _, hz, _, rfl⟩
              · exact HK.out
              · exact keep_set HK.out (fun e => by subst e; exact hne hz) _)
            have HS6 := hide hS6
            clear h6 hS6 HSA
            go_wp2_with fail
            refine (HS6.out.get pl).mono ?_
            rintro e w7 ⟨rfl, rfl⟩
            rw [show look m' (pl : Int) = some v by rw [look_nat, HK6.out]; rfl]
            simp only [Option.getD_some, Option.isSome_some]
            go_wp2_with fail
            refine (HS6.out.find v).mono ?_
            rintro e w8 ⟨r, rfl, hf, hS8⟩
            obtain ⟨kk, rfl, hkk⟩ := found_pl HK6.out hf
            have HS8 := hide hS8
            clear hf hS8
            have hd1 : decide ((kk : Int) < 0) = false := by simp
            have hd2 : decide (pl < kk) = false := by simp; omega
            go_wp2_with fail
            refine (HS8.out.next pl).mono ?_
            rintro e w9 ⟨q, rfl, hq, rfl⟩
            obtain rfl := at_pl HK6.out hq
            clear hq
            go_wp2
            go_roundw
            case rel =>
              first
                | exact ⟨k + 1, m', by omega, by go_num, HS8.out, HK6⟩
                | ((repeat apply Exists.intro); refine ⟨?_, rfl⟩; exact ⟨k + 1, m', by omega, by go_num, HS8.out, HK6⟩)
            case measure => simp [intOf]; omega
          · refine (HSA.out.drop _).mono ?_
            rintro e w6 ⟨ev, m', rfl, hS6, h6⟩
            have HK6 := hide (show m'[pl]? = some (some v) by
              rcases h6 with ⟨_, rfl⟩ | ⟨kk, _, hz, _, rfl⟩
              · exact HK.out
              · exact keep_set HK.out (fun e => by subst e; exact hne hz) _)
            have HS6 := hide hS6
            clear h6 hS6 HSA
            go_wp2_with fail
            refine (HS6.out.get pl).mono ?_
            rintro e w7 ⟨rfl, rfl⟩
            rw [show look m' (pl : Int) = some v by rw [look_nat, HK6.out]; rfl]
            simp only [Option.getD_some, Option.isSome_some]
            go_wp2_with fail
            refine (HS6.out.find v).mono ?_
            rintro e w8 ⟨r, rfl, hf, hS8⟩
            obtain ⟨kk, rfl, hkk⟩ := found_pl HK6.out hf
            have HS8 := hide hS8
            clear hf hS8
            have hd1 : decide ((kk : Int) < 0) = false := by simp
            have hd2 : decide (pl < kk) = false := by simp; omega
            go_wp2_with fail
            refine (HS8.out.next pl).mono ?_
            rintro e w9 ⟨q, rfl, hq, rfl⟩
            obtain rfl := at_pl HK6.out hq
            clear hq
            go_wp2
            go_roundw
            case rel =>
              first
                | exact ⟨k + 1, m', by omega, by go_num, HS8.out, HK6⟩
                | ((repeat apply Exists.intro); refine ⟨?_, rfl⟩; exact ⟨k + 1, m', by omega, by go_num, HS8.out, HK6⟩)
            case measure => simp [intOf]; omega
          · refine HSA.out.copy.mono ?_
            rintro e w6 ⟨C, rfl, hC6, hS6⟩
            have HC6 := hide hC6
            clear hC6 hS6
            go_wp2_with fail
            refine (HC6.out.drop _).mono ?_
            rintro e w6b ⟨ev, m', rfl, hS6, h6⟩
            have HS6 := hide (HSA.out.below hS6.bel)
            clear h6 hS6 HC6
            go_wp2_with fail
            refine (HS6.out.get pl).mono ?_
            rintro e w7 ⟨rfl, rfl⟩
            rw [show look m (pl : Int) = some v by rw [look_nat, HK.out]; rfl]
            simp only [Option.getD_some, Option.isSome_some]
            go_wp2_with fail
            refine (HS6.out.find v).mono ?_
            rintro e w8 ⟨r, rfl, hf, hS8⟩
            obtain ⟨kk, rfl, hkk⟩ := found_pl HK.out hf
            have HS8 := hide hS8
            clear hf hS8
            have hd1 : decide ((kk : Int) < 0) = false := by simp
            have hd2 : decide (pl < kk) = false := by simp; omega
            go_wp2_with fail
            refine (HS8.out.next pl).mono ?_
            rintro e w9 ⟨q, rfl, hq, rfl⟩
            obtain rfl := at_pl HK.out hq
            clear hq
            go_wp2
            go_roundw
            case rel =>
              first
                | exact ⟨k + 1, m, by omega, by go_num, HS8.out, HK⟩
                | ((repeat apply Exists.intro); refine ⟨?_, rfl⟩; exact ⟨k + 1, m, by omega, by go_num, HS8.out, HK⟩)
            case measure => simp [intOf]; omega
          · go_wp2_with fail
            refine (HSA.out.get pl).mono ?_
            rintro e w7 ⟨rfl, rfl⟩
            rw [show look m (pl : Int) = some v by rw [look_nat, HK.out]; rfl]
            simp only [Option.getD_some, Option.isSome_some]
            go_wp2_with fail
            refine (HSA.out.find v).mono ?_
            rintro e w8 ⟨r, rfl, hf, hS8⟩
            obtain ⟨kk, rfl, hkk⟩ := found_pl HK.out hf
            have HS8 := hide hS8
            clear hf hS8
            have hd1 : decide ((kk : Int) < 0) = false := by simp
            have hd2 : decide (pl < kk) = false := by simp; omega
            go_wp2_with fail
            refine (HS8.out.next pl).mono ?_
            rintro e w9 ⟨q, rfl, hq, rfl⟩
            obtain rfl := at_pl HK.out hq
            clear hq
            go_wp2
            go_roundw
            case rel =>
              first
                | exact ⟨k + 1, m, by omega, by go_num, HS8.out, HK⟩
                | ((repeat apply Exists.intro); refine ⟨?_, rfl⟩; exact ⟨k + 1, m, by omega, by go_num, HS8.out, HK⟩)
            case measure => simp [intOf]; omega
      · go_wp2
        go_ret
        exact ⟨rfl, HS.out.bel⟩
end Go.Proofs.Ytooikfmebjohfaa
