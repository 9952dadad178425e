import Derived.Test.YteloomlcaimlaabAC
namespace Go.Proofs.Yteloomlcaimlaab
open Go.RowKit
theorem four_drop0 (p : List Nat) : four (p.drop 0) = four p := by rw [List.drop_zero]
theorem dc_fits (n : Nat) (p : List Nat) (hp : Bys p) : (dc n p [] 0).2.1.length ≤ n ∧ Bys (dc n p [] 0).2.1 := dcF_fits n _ p [] 0 (Nat.zero_le _) (fun _ h => by cases h) hp
theorem hd_bys (n : Nat) : Bys (hd n) := by
  intro c hc
  simp [hd] at hc
  rcases hc with rfl | rfl | rfl | rfl <;> omega
theorem cp_dist (b : List Nat) (i : Nat) : (cp b i).1 ≤ 131 := Nat.le_trans (cp_le b i) (mst_le b i)
theorem enc_bys {b : List Nat} (hb : Bys b) : ∀ {ts : List Tok} {i o : Nat}, Gr b i o ts → Bys (encs ts)
  | [], _, _, _ => fun c hc => by cases hc
  | .inl r :: ts, i, o, h => by
    obtain ⟨h1, h2, _, _, h4, _, h5⟩ := h
    rw [encs_cons]
    refine Bys.app ?_ (enc_bys hb h5)
    intro c hc
    simp only [enc, List.mem_cons] at hc
    rcases hc with rfl | hc
    · omega
    · rw [h4] at hc
      exact hb c (List.mem_of_mem_take (List.mem_of_mem_drop hc))
  | .inr c :: ts, i, o, h => by
    obtain ⟨h1, h2, h3, h4⟩ := h
    rw [encs_cons]
    refine Bys.app ?_ (enc_bys hb h4)
    have := cp_dist b i
    rw [h2] at this
    intro x hx
    simp only [enc, List.mem_cons, List.not_mem_nil, or_false] at hx
    rcases hx with rfl | rfl | rfl <;> omega
theorem pkd_bys {b : List Nat} (hb : Bys b) : Bys (pkd b) := Bys.app (hd_bys _) (enc_bys hb (gr_all b))
theorem un_short {p : List Nat} (h : p.length < 4) : un p = (20, [], 0) := by unfold un; rw [if_pos h]
theorem un_long {p : List Nat} (h : ¬ p.length < 4) (h2 : 65536 < four p) : un p = (200, [], 0) := by unfold un; rw [if_neg h, if_pos h2]
theorem un_err {p : List Nat} (h : ¬ p.length < 4) (h2 : ¬ 65536 < four p) (h3 : (dc (four p) (p.drop 4) [] 0).1 ≠ 0) : un p = ((dc (four p) (p.drop 4) [] 0).1, [], 0) := by unfold un; rw [if_neg h, if_neg h2, if_pos h3]
theorem un_no {p : List Nat} (h : ¬ p.length < 4) (h2 : ¬ 65536 < four p) (h3 : (dc (four p) (p.drop 4) [] 0).1 = 0) (h4 : (dc (four p) (p.drop 4) [] 0).2.1.length < four p ∨ pkd (dc (four p) (p.drop 4) [] 0).2.1 ≠ p) : un p = (200, [], 0) := by
  unfold un; rw [if_neg h, if_neg h2, if_neg (by rw [h3]; simp), if_pos h4]
theorem un_yes {p : List Nat} (h : ¬ p.length < 4) (h2 : ¬ 65536 < four p) (h3 : (dc (four p) (p.drop 4) [] 0).1 = 0) (h4 : ¬ ((dc (four p) (p.drop 4) [] 0).2.1.length < four p ∨ pkd (dc (four p) (p.drop 4) [] 0).2.1 ≠ p)) : un p = dc (four p) (p.drop 4) [] 0 := by
  unfold un; rw [if_neg h, if_neg h2, if_neg (by rw [h3]; simp), if_neg h4]
/-- what unpack leaves -/
def UnR (w : World) (p : List Nat) (e : Ending) (w' : World) : Prop :=
  ∃ r, e = .returned (.tuple #[r, .int .i64 ((un p).2.2 : Nat), .int .i64 ((un p).1 : Nat)]) ∧ Ow w' w.heap.size r (un p).2.1 ∧ ((un p).1 ≠ 0 → r = .slice none 0 0) ∧ Below w.heap.size w w'
theorem UnR.bad {w w' : World} {p : List Nat} {c : Nat} (h : un p = (c, [], 0)) (hb : Below w.heap.size w w') : UnR w p (.returned (.tuple #[.slice none 0 0, .int .i64 0, .int .i64 (c : Nat)])) w' := by
  refine ⟨.slice none 0 0, by rw [h]; rfl, by rw [h]; exact ow_none _ _, fun _ => rfl, hb⟩
section
variable (w : World)
set_option maxRecDepth 100000 in
set_option maxHeartbeats 1000000 in
theorem unpack_any (v : Value) (p : List Nat) (hv : Rb w w.heap.size v p) (hy : Bys p) (hl : p.length ≤ 140737488351232) :
    Calls Try.prog 17 #[v] w fun e w' => UnR w p e w' := by
  have HV := hide hv
  have HY := hide hy
  obtain ⟨ao, cap, rfl, hcap⟩ := hv.len
  obtain ⟨n, hn⟩ : ∃ n, p.length = n := ⟨_, rfl⟩
  have HLn := hide hn
  by_cases h4 : n < 4
  · have HU := hide (un_short (by rw [hn]; exact h4))
    rw [hn] at hl HV hcap ⊢
    have h4I : (n : Int) < 4 := by omega
    clear hv hy hn
    go_enter Try.func17, Try.ntmps17
    go_wp2
    go_ret3
    exact UnR.bad HU.out (Below.refl _ _)
  have hf := fourAt_any w _ p 0 _ hv hy (by omega) (by omega)
  rw [four_drop0, show (((0 : Nat) : Nat) : Int) = 0 from rfl] at hf
  have hb0 := hy.get 0
  have hb1 := hy.get 1
  have hb2 := hy.get 2
  have hb3 := hy.get 3
  have hF : four p < 4294967296 := by unfold four; omega
  obtain ⟨y, rfl, _, _⟩ := hv.some_of (by omega)
  have HL4 := hide (show ¬ p.length < 4 by omega)
  rw [hn] at hl HV hcap hf ⊢
  have HF4 := hide hf
  have h4I : ¬ (n : Int) < 4 := by omega
  clear hv hy hn hf hb0 hb1 hb2 hb3
  obtain ⟨F, hFe⟩ : ∃ F, four p = F := ⟨_, rfl⟩
  have HFe := hide hFe
  rw [hFe] at HF4 hF
  clear hFe
  go_enter Try.func17, Try.ntmps17
  go_wp2_with fail
  refine HF4.out.mono ?_
  rintro e w1 ⟨rfl, hb1⟩
  have HV1 := hide (HV.out.keep hb1)
  have HB1 := hide hb1
  have hsz1 := hb1.size
  clear hb1 HF4 HV
  by_cases h6 : 65536 < F
  · have HU := hide (un_long HL4.out (by rw [HFe.out]; exact h6))
    have h6I : (65536 : Int) < (F : Int) := by omega
    go_wp2
    go_ret3
    exact UnR.bad HU.out HB1.out
  · have h6I : ¬ (65536 : Int) < (F : Int) := by omega
    have hwF : IntKind.i64.wrap (F : Int) = (F : Int) := wi _ (by omega) (by omega)
    by_cases hc4 : cap = 4
    · obtain rfl : n = 4 := by omega
      subst hc4
      have HR : Hid (Rb w1 w.heap.size (.slice (some y) 0 0) (p.drop 4)) := hide (by
        rw [List.drop_of_length_le (by rw [HLn.out]; exact Nat.le_refl _)]
        exact .inr ⟨y, 0, rfl, Nat.le_refl _, fun i u hu => by simp at hu⟩)
      go_wp2_with fail
      refine (readTokens_any w1 _ (p.drop 4) F (HR.out.mono hsz1) (HY.out.drop 4) (by rw [List.length_drop]; have := HLn.out; omega) (by omega)).mono ?_
      rintro e w2 ⟨r2, rfl, hO2, hr2, hb2⟩
      have HDf := hide (dc_fits F (p.drop 4) (HY.out.drop 4))
      have HUe := hide (fun h3 => un_err HL4.out (by rw [HFe.out]; exact h6) h3)
      have HUn := hide (fun h3 h4 => un_no HL4.out (by rw [HFe.out]; exact h6) h3 h4)
      have HUy := hide (fun h3 h4 => un_yes HL4.out (by rw [HFe.out]; exact h6) h3 h4)
      rw [HFe.out] at HUe HUn HUy
      obtain ⟨D, hD⟩ : ∃ D, dc F (p.drop 4) [] 0 = D := ⟨_, rfl⟩
      rw [hD] at hO2 hr2 HDf HUe HUn HUy
      rw [hD]
      clear hD HR
      obtain ⟨dcode, dpl, dt⟩ := D
      simp only at hO2 hr2 HDf HUe HUn HUy
      have HO2 := hide hO2
      have HB2 := hide (HB1.out.trans (hb2.mono hsz1))
      have HV2 := hide (HV1.out.keep (hb2.mono hsz1))
      have hsz2 := HB2.out.size
      clear hb2
      by_cases hc : dcode = 0
      · have HU2 := hide (HUn.out hc)
        have HU3 := hide (HUy.out hc)
        subst hc
        obtain ⟨a2, k2, c2, rfl, HK2, _⟩ := hO2.len2
        clear hO2 hr2 HUe HUn HUy
        by_cases hlt : k2 < F
        · have HU4 := hide (HU2.out (.inl (by rw [HK2.out]; exact hlt)))
          have hltI : (k2 : Int) < (F : Int) := by omega
          go_wp2
          go_ret3
          exact UnR.bad HU4.out HB2.out
        · have hltI : ¬ (k2 : Int) < (F : Int) := by omega
          go_wp2_with fail
          refine (pack_any w2 _ dpl HO2.out.rb HDf.out.2 (by have := HDf.out.1; omega)).mono ?_
          rintro e w3 ⟨r3, rfl, hO3, hb3⟩
          have HO3 := hide hO3
          have HO23 := hide (HO2.out.keep hb3 (Nat.le_refl _))
          have HB3 := hide (HB2.out.trans (hb3.mono hsz2))
          have HV3 := hide (HV2.out.keep (hb3.mono hsz2))
          obtain ⟨a3, k3, c3, rfl, HK3, _⟩ := hO3.len2
          clear hO3 hb3
          go_wp2_with fail
          refine (Equal_any w3 _ _ (pkd dpl) p _ _ HO3.out.rb HV3.out (pkd_bys HDf.out.2) HY.out).mono ?_
          rintro e w4 ⟨rfl, rfl⟩
          by_cases hp : pkd dpl = p
          · have HU4 := hide (HU3.out (by rw [HK2.out]; exact fun h => h.elim hlt (fun h => h hp)))
            rw [decide_eq_true hp]
            clear hp
            go_wp2
            go_ret3
            exact ⟨_, by rw [HU4.out]; rfl, by rw [HU4.out]; exact HO23.out.mono hsz1, fun h => absurd (by rw [HU4.out]) h, HB3.out⟩
          · have HU4 := hide (HU2.out (.inr hp))
            rw [decide_eq_false hp]
            clear hp
            go_wp2
            go_ret3
            exact UnR.bad HU4.out HB3.out
      · have HU2 := hide (HUe.out hc)
        obtain rfl := hr2 hc
        have hcI : ((dcode : Int) == 0) = false := by simp; omega
        clear hO2 hr2 HUe HUn HUy HO2
        go_wp2
        go_ret3
        exact UnR.bad HU2.out HB2.out
    · have HR : Hid (Rb w1 w.heap.size (.slice (some ⟨y.block, y.off + 4, none⟩) (n - 4) (cap - 4)) (p.drop 4)) := hide (by
        have := HV1.out.tail (k := 4) (d := n - 4) (c := cap - 4) (by rw [HLn.out]; omega) (by rw [HLn.out]) (by omega)
        simpa [Addr.add] using this)
      go_wp2_with fail
      refine (readTokens_any w1 _ (p.drop 4) F (HR.out.mono hsz1) (HY.out.drop 4) (by rw [List.length_drop]; have := HLn.out; omega) (by omega)).mono ?_
      rintro e w2 ⟨r2, rfl, hO2, hr2, hb2⟩
      have HDf := hide (dc_fits F (p.drop 4) (HY.out.drop 4))
      have HUe := hide (fun h3 => un_err HL4.out (by rw [HFe.out]; exact h6) h3)
      have HUn := hide (fun h3 h4 => un_no HL4.out (by rw [HFe.out]; exact h6) h3 h4)
      have HUy := hide (fun h3 h4 => un_yes HL4.out (by rw [HFe.out]; exact h6) h3 h4)
      rw [HFe.out] at HUe HUn HUy
      obtain ⟨D, hD⟩ : ∃ D, dc F (p.drop 4) [] 0 = D := ⟨_, rfl⟩
      rw [hD] at hO2 hr2 HDf HUe HUn HUy
      rw [hD]
      clear hD HR
      obtain ⟨dcode, dpl, dt⟩ := D
      simp only at hO2 hr2 HDf HUe HUn HUy
      have HO2 := hide hO2
      have HB2 := hide (HB1.out.trans (hb2.mono hsz1))
      have HV2 := hide (HV1.out.keep (hb2.mono hsz1))
      have hsz2 := HB2.out.size
      clear hb2
      by_cases hc : dcode = 0
      · have HU2 := hide (HUn.out hc)
        have HU3 := hide (HUy.out hc)
        subst hc
        obtain ⟨a2, k2, c2, rfl, HK2, _⟩ := hO2.len2
        clear hO2 hr2 HUe HUn HUy
        by_cases hlt : k2 < F
        · have HU4 := hide (HU2.out (.inl (by rw [HK2.out]; exact hlt)))
          have hltI : (k2 : Int) < (F : Int) := by omega
          go_wp2
          go_ret3
          exact UnR.bad HU4.out HB2.out
        · have hltI : ¬ (k2 : Int) < (F : Int) := by omega
          go_wp2_with fail
          refine (pack_any w2 _ dpl HO2.out.rb HDf.out.2 (by have := HDf.out.1; omega)).mono ?_
          rintro e w3 ⟨r3, rfl, hO3, hb3⟩
          have HO3 := hide hO3
          have HO23 := hide (HO2.out.keep hb3 (Nat.le_refl _))
          have HB3 := hide (HB2.out.trans (hb3.mono hsz2))
          have HV3 := hide (HV2.out.keep (hb3.mono hsz2))
          obtain ⟨a3, k3, c3, rfl, HK3, _⟩ := hO3.len2
          clear hO3 hb3
          go_wp2_with fail
          refine (Equal_any w3 _ _ (pkd dpl) p _ _ HO3.out.rb HV3.out (pkd_bys HDf.out.2) HY.out).mono ?_
          rintro e w4 ⟨rfl, rfl⟩
          by_cases hp : pkd dpl = p
          · have HU4 := hide (HU3.out (by rw [HK2.out]; exact fun h => h.elim hlt (fun h => h hp)))
            rw [decide_eq_true hp]
            clear hp
            go_wp2
            go_ret3
            exact ⟨_, by rw [HU4.out]; rfl, by rw [HU4.out]; exact HO23.out.mono hsz1, fun h => absurd (by rw [HU4.out]) h, HB3.out⟩
          · have HU4 := hide (HU2.out (.inr hp))
            rw [decide_eq_false hp]
            clear hp
            go_wp2
            go_ret3
            exact UnR.bad HU4.out HB3.out
      · have HU2 := hide (HUe.out hc)
        obtain rfl := hr2 hc
        have hcI : ((dcode : Int) == 0) = false := by simp; omega
        clear hO2 hr2 HUe HUn HUy HO2
        go_wp2
        go_ret3
        exact UnR.bad HU2.out HB2.out
end
end Go.Proofs.Yteloomlcaimlaab
