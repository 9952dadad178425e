import Derived.Test.YteloomlcaimlaabU2
namespace Go.Proofs.Yteloomlcaimlaab
open Go.RowKit
theorem un_c1 {p : List Nat} (h : (uf p).1 ≠ 0) : un p = ((uf p).1, [], 0) := by rw [uf_un, if_pos h]
theorem un_c2 {p : List Nat} (h : (uf p).1 = 0) (h2 : pkd (uf p).2.1 ≠ p) : un p = (200, [], 0) := by rw [uf_un, if_neg (by rw [h]; simp), if_pos h2]
theorem un_c3 {p : List Nat} (h : (uf p).1 = 0) (h2 : pkd (uf p).2.1 = p) : un p = uf p := by rw [uf_un, if_neg (by rw [h]; simp), if_neg (by rw [h2]; simp)]
section
variable (w : World)
set_option maxRecDepth 100000 in
set_option maxHeartbeats 2000000 in
theorem whole_any (v : Value) (p : List Nat) (hv : Rb w w.heap.size v p) (hy : Bys p) (hl : p.length ≤ 140737488351232) :
    Calls Try.prog 18 #[v] w fun e w' => UnR w p e w' := by
  have HV := hide hv
  have HY := hide hy
  have HUn := hide (unfold_any w v p hv hy hl)
  have HF := hide (uf_fits hy)
  have HL := hide hl
  obtain ⟨ao, cap, rfl, hcap⟩ := hv.len
  obtain ⟨n, hn⟩ : ∃ n, p.length = n := ⟨_, rfl⟩
  have HLn := hide hn
  rw [hn] at HV HUn hl hcap ⊢
  clear hv hy hn
  go_enter Try.func18, Try.ntmps18
  go_wp2_with fail
  refine HUn.out.mono ?_
  rintro e w1 ⟨r1, rfl, hO1, hb1⟩
  have HC1 := hide (fun h => un_c1 (p := p) h)
  have HC2 := hide (fun h h2 => un_c2 (p := p) h h2)
  have HC3 := hide (fun h h2 => un_c3 (p := p) h h2)
  obtain ⟨D, hD⟩ : ∃ D, uf p = D := ⟨_, rfl⟩
  rw [hD] at hO1 HC1 HC2 HC3 HF ⊢
  clear hD HUn
  obtain ⟨dcode, dpl, dt⟩ := D
  simp only at hO1 HC1 HC2 HC3 HF
  have HO1 := hide hO1
  have HB1 := hide hb1
  have HV1 := hide (HV.out.keep hb1)
  have hs1 := hb1.size
  obtain ⟨a1, k1, c1, rfl, HK1, _⟩ := hO1.len2
  clear hO1 hb1
  by_cases hc : dcode = 0
  · subst hc
    have HC2' := hide (HC2.out rfl)
    have HC3' := hide (HC3.out rfl)
    clear HC1 HC2 HC3
    go_wp2_with fail
    refine (RPack_ok w1 _ dpl HO1.out.rb HF.out.1 HF.out.2).mono ?_
    rintro e w2 ⟨r2, rfl, hO2, hb2⟩
    have HO2 := hide hO2
    have HB2 := hide (HB1.out.trans (hb2.mono hs1))
    have HV2 := hide (HV1.out.keep (hb2.mono hs1))
    have HO12 := hide (HO1.out.keep hb2 (Nat.le_refl _))
    have hs2 := HB2.out.size
    obtain ⟨a2, k2, c2, rfl, HK2, _⟩ := hO2.len2
    clear hO2 hb2 HO1 HB1 HV1
    by_cases hkn : k2 = n
    · subst hkn
      go_upto_region 8 with fail
      go_loopw [10] (fun iv wr => ∃ k : Nat, iv = .int .i64 (k : Nat) ∧ k ≤ k2 ∧ Hid (∀ j, j < k → p.getD j 0 = (pkd dpl).getD j 0) ∧ Below w2.heap.size w2 wr) (fun iv _ => k2 - (intOf iv).toNat)
      case atStart => exact ⟨0, rfl, Nat.zero_le _, hide fun j h => by omega, Below.refl _ _⟩
      case round =>
        obtain ⟨k, rfl, hk, HA, hB⟩ := hrel
        by_cases hlt : k < k2
        · have hkI : (k : Int) < (k2 : Int) := by omega
          obtain ⟨x1, rfl, _, d1⟩ := HV2.out.some_of (by rw [HLn.out]; omega)
          obtain ⟨x2, rfl, _, d2⟩ := HO2.out.rb.some_of (by rw [HK2.out]; omega)
          have e1 := d1 k (by rw [HLn.out]; exact hlt)
          have e2 := d2 k (by rw [HK2.out]; exact hlt)
          rw [← hB.cell (World.block_lt_of_cell? w2 _ e1)] at e1
          rw [← hB.cell (World.block_lt_of_cell? w2 _ e2)] at e2
          have HBr := hide hB
          clear d1 d2 hB
          by_cases heq : p.getD k 0 = (pkd dpl).getD k 0
          · have HA2 : Hid (∀ j, j < k + 1 → p.getD j 0 = (pkd dpl).getD j 0) := hide (fun j hj => by
              by_cases e : j = k
              · rw [e]; exact heq
              · exact HA.out j (by omega))
            have he := eqN _ _ heq
            clear HA heq
            generalize p.getD k 0 = p1 at *
            generalize (pkd dpl).getD k 0 = p2 at *
            go_upto_region 10 with fail
            go_quiet (fail)
            go_wp2
            go_roundw
            case rel => exact ⟨k + 1, by go_num, by omega, HA2, HBr.out.trans (drewN_below _ _ _)⟩
            case measure => simp [intOf]; omega
          · have HU := hide (HC2'.out (fun e => heq (by rw [e])))
            have he := neN _ _ heq
            clear HA heq
            generalize p.getD k 0 = p1 at *
            generalize (pkd dpl).getD k 0 = p2 at *
            go_upto_region 10 with fail
            go_quiet (fail)
            go_wp2
            go_ret3
            exact UnR.bad HU.out (HB2.out.trans ((HBr.out.trans (drewN_below _ _ _)).mono hs2))
        · obtain rfl : k = k2 := by omega
          have HU := hide (HC3'.out (eq_of_get (by rw [HK2.out, HLn.out]) (fun j hj => (HA.out j (by rw [← HK2.out]; exact hj)).symm)))
          have hkI : ¬ (k : Int) < (k : Int) := by omega
          have HO3 := hide (HO12.out.keep hB (Nat.le_refl _))
          have HB3 := hide (HB2.out.trans (hB.mono hs2))
          clear hB
          go_wp2
          go_ret3
          exact ⟨.slice a1 k1 c1, by rw [HU.out]; rfl, by rw [HU.out]; exact HO3.out, fun h => absurd (by rw [HU.out]) h, HB3.out⟩
    · have HU := hide (HC2'.out (fun e => hkn (by rw [← HK2.out, e, HLn.out])))
      have hkI : ((k2 : Int) == (n : Int)) = false := neN _ _ hkn
      go_wp2
      go_ret3
      exact UnR.bad HU.out HB2.out
  · have HU := hide (HC1.out hc)
    have hcI : ((dcode : Int) == 0) = false := by simp; omega
    clear HC1 HC2 HC3
    go_wp2
    go_ret3
    exact UnR.bad HU.out HB1.out
set_option maxHeartbeats 1000000 in
theorem RUnpack_any (v : Value) (p : List Nat) (hv : Rb w w.heap.size v p) (hy : Bys p) (hl : p.length ≤ 140737488351232) :
    Calls Try.prog 13 #[v] w fun e w' => ∃ r, e = .returned (.tuple #[r, .int .i64 ((un p).1 : Nat)]) ∧ Ow w' w.heap.size r (un p).2.1 ∧ ((un p).1 ≠ 0 → r = .slice none 0 0) ∧ Below w.heap.size w w' := by
  have HC := hide (whole_any w v p hv hy hl)
  clear hv hy
  go_enter Try.func13, Try.ntmps13
  go_wp2_with fail
  refine HC.out.mono ?_
  rintro e w1 ⟨r, rfl, hO, hr, hB⟩
  have HO := hide hO
  have HR := hide hr
  have HB := hide hB
  obtain ⟨a, k, c, rfl, HK, _⟩ := hO.len2
  clear hO hr hB HC
  go_wp2
  go_ret2
  exact ⟨_, rfl, HO.out, HR.out, HB.out⟩
set_option maxHeartbeats 1000000 in
theorem RSize_any (v : Value) (p : List Nat) (hv : Rb w w.heap.size v p) (hy : Bys p) (hl : p.length ≤ 140737488351232) :
    Calls Try.prog 14 #[v] w fun e w' => e = .returned (.tuple #[.int .i64 ((un p).2.1.length : Nat), .int .i64 ((un p).1 : Nat)]) ∧ Below w.heap.size w w' := by
  have HC := hide (whole_any w v p hv hy hl)
  clear hv hy
  go_enter Try.func14, Try.ntmps14
  go_wp2_with fail
  refine HC.out.mono ?_
  rintro e w1 ⟨r, rfl, hO, hr, hB⟩
  have HB := hide hB
  obtain ⟨a, k, c, rfl, HK, _⟩ := hO.len2
  clear hO hr hB HC
  go_wp2
  go_ret2
  rw [HK.out]
  exact ⟨rfl, HB.out⟩
set_option maxHeartbeats 1000000 in
theorem RTokens_any (v : Value) (p : List Nat) (hv : Rb w w.heap.size v p) (hy : Bys p) (hl : p.length ≤ 140737488351232) :
    Calls Try.prog 15 #[v] w fun e w' => e = .returned (.tuple #[.int .i64 ((un p).2.2 : Nat), .int .i64 ((un p).1 : Nat)]) ∧ Below w.heap.size w w' := by
  have HC := hide (whole_any w v p hv hy hl)
  clear hv hy
  go_enter Try.func15, Try.ntmps15
  go_wp2_with fail
  refine HC.out.mono ?_
  rintro e w1 ⟨r, rfl, hO, hr, hB⟩
  have HB := hide hB
  obtain ⟨a, k, c, rfl, HK, _⟩ := hO.len2
  clear hO hr hB HC
  go_wp2
  go_ret2
  exact ⟨rfl, HB.out⟩
end
end Go.Proofs.Yteloomlcaimlaab
