import Derived.Test.YtionncfpcbjchaaDoorFH
import Derived.Test.YtionncfpcbjchaaDoorFE
namespace Go.Proofs.YtionncfpcbjchaaDoor
open Go.RowKit
def fo0 : Fo := ⟨0, fun _ => ⟨0, 0, 0, 0, false, [], 0, 0, 0, 0⟩, 0, fun _ => ⟨0, 0, 0, 0, false, 0, 0, 0⟩, 0, fun _ => ⟨0, 0, 0, false⟩, 0, fun _ => [], 0, fun _ => ⟨0, 0⟩⟩
def fv0 : Fv := ⟨none, 0, none, 0, none, 0, none, 0, none, 0⟩
theorem fo0_ok : fo0.Ok := ⟨fun k h => absurd h (Nat.not_lt_zero k), fun k h => absurd h (Nat.not_lt_zero k), fun k h => absurd h (Nat.not_lt_zero k), fun k h => absurd h (Nat.not_lt_zero k), fun k h => absurd h (Nat.not_lt_zero k), by decide⟩
theorem fo0_at (B : Nat) (w : World) : FoAt B w fv0 fo0 := ⟨fun k h => absurd h (Nat.not_lt_zero k), fun k h => absurd h (Nat.not_lt_zero k), fun k h => absurd h (Nat.not_lt_zero k), fun k h => absurd h (Nat.not_lt_zero k), fun k h => absurd h (Nat.not_lt_zero k)⟩
theorem fo0_text : fo0.text = [] := rfl
theorem fo0_cells : fv0.cells fo0 = [.slice none 0 0, .slice none 0 0, .slice none 0 0, .slice none 0 0, .slice none 0 0] := rfl
set_option maxRecDepth 100000 in
set_option maxHeartbeats 4000000 in
theorem tells_walk (w : World) (v v' : Fv) (F G : Fo) (hF : F.Ok) (hG : G.Ok) (h3 : 3 ≤ w.heap.size) (hA : FoAt w.heap.size w v F) (hA' : FoAt w.heap.size w v' G) (hT : Tb w) :
    Calls Tryd.prog 3 #[.agg (v.cells F).toArray, .agg (v'.cells G).toArray] w fun e w' => e = .returned (.bool true) ∧ Below w.heap.size w w' := by
  have hb1 : Below w.heap.size w (w.alloc (.cells (v.cells F).toArray 28)) := (Below.refl _ _).alloc (Nat.le_refl _) _
  have hb2 : Below w.heap.size w ((w.alloc (.cells (v.cells F).toArray 28)).alloc (.cells (v'.cells G).toArray 28)) := hb1.alloc hb1.size _
  have hv1 : Blk ((w.alloc (.cells (v.cells F).toArray 28)).alloc (.cells (v'.cells G).toArray 28)) w.heap.size 28 (v.cells F) := (Blk.new w _ _).below ((Below.refl (w.alloc (.cells (v.cells F).toArray 28)).heap.size _).alloc (Nat.le_refl _) _) (by simp)
  have hv2 : Blk ((w.alloc (.cells (v.cells F).toArray 28)).alloc (.cells (v'.cells G).toArray 28)) (w.heap.size + 1) 28 (v'.cells G) := by
    have := Blk.new (w.alloc (.cells (v.cells F).toArray 28)) (v'.cells G) 28
    simpa using this
  have S1 : Hid (∀ w1, w.heap.size + 2 ≤ w1.heap.size → Below w.heap.size w w1 → Calls Tryd.prog 5 #[.agg (v.cells F).toArray, .agg (v'.cells G).toArray] w1 (SamePost w1 F G)) := hide fun w1 h1 h2 => same_any w1 v v' F G hF hG w.heap.size (by omega) (hA.keep h2) (hA'.keep h2)
  have S2 : Hid (∀ w1, w.heap.size + 2 ≤ w1.heap.size → Below w.heap.size w w1 → Calls Tryd.prog 6 #[.agg (v.cells F).toArray] w1 fun e w' => e = .returned (.string ⟨F.text.toArray⟩) ∧ Below w1.heap.size w1 w') := hide fun w1 h1 h2 => Forest_any w1 v F hF (by omega) ((hA.keep h2).mono (by omega)) (hT.up h3 h2)
  have S3 : Hid (∀ w1, w.heap.size + 2 ≤ w1.heap.size → Below w.heap.size w w1 → Calls Tryd.prog 6 #[.agg (v'.cells G).toArray] w1 fun e w' => e = .returned (.string ⟨G.text.toArray⟩) ∧ Below w1.heap.size w1 w') := hide fun w1 h1 h2 => Forest_any w1 v' G hG (by omega) ((hA'.keep h2).mono (by omega)) (hT.up h3 h2)
  have S4 : Hid (∀ w1, w.heap.size + 2 ≤ w1.heap.size → Below w.heap.size w w1 → Calls Tryd.prog 6 #[.agg #[.slice none 0 0, .slice none 0 0, .slice none 0 0, .slice none 0 0, .slice none 0 0]] w1 fun e w' => e = .returned (.string ⟨#[]⟩) ∧ Below w1.heap.size w1 w') := hide fun w1 h1 h2 => Forest_any w1 fv0 fo0 fo0_ok (by omega) (fo0_at _ _) (hT.up h3 h2)
  have hIff := text_iff hF hG
  have hGe := fun h => text_ge hF h
  have hSz : F.text.length ≤ 600000000 := by
    have e1 := hF.e5 F.nE (Nat.le_refl _)
    have e2 := hF.c5 F.nC (Nat.le_refl _)
    have e3 := hF.m5 F.nM (Nat.le_refl _)
    have e4 := hF.p5 F.nP (Nat.le_refl _)
    have e5 := hF.o5 F.nO (Nat.le_refl _)
    have e6 := hF.sz
    simp only [Fo.text, List.length_append]
    omega
  have hs2 : w.heap.size + 2 ≤ ((w.alloc (.cells (v.cells F).toArray 28)).alloc (.cells (v'.cells G).toArray 28)).heap.size := by simp
  have HB := hide (And.intro hb2 (And.intro hv1 (And.intro hv2 hs2)))
  have v0 : (v.cells F)[0]? = some (.slice v.aE F.nE v.cE) := rfl
  have hVl : (v.cells F).length = 5 := rfl
  have hVl' : (v'.cells G).length = 5 := rfl
  have hnE : F.nE ≤ 1048576 := by have := hF.sz; omega
  clear hA hA' hT hb1 hb2 hv1 hv2 hs2 hF hG
  obtain ⟨V, hV⟩ : ∃ V, v.cells F = V := ⟨_, rfl⟩
  obtain ⟨V', hV'⟩ : ∃ V', v'.cells G = V' := ⟨_, rfl⟩
  obtain ⟨T, hTx⟩ : ∃ T, F.text = T := ⟨_, rfl⟩
  obtain ⟨T', hTx'⟩ : ∃ T', G.text = T' := ⟨_, rfl⟩
  rw [hV] at S1 S2 HB hVl v0 ⊢
  rw [hV'] at S1 S3 HB hVl' ⊢
  rw [hTx] at S2 hIff hGe hSz
  rw [hTx'] at S3 hIff
  obtain ⟨nE, hn⟩ : ∃ n, F.nE = n := ⟨_, rfl⟩
  obtain ⟨aE, hae⟩ : ∃ a, v.aE = a := ⟨_, rfl⟩
  obtain ⟨cE, hce⟩ : ∃ a, v.cE = a := ⟨_, rfl⟩
  rw [hn] at v0 hGe hnE
  rw [hae, hce] at v0
  have HI := hide hIff
  have HG := hide hGe
  clear hV hV' hTx hTx' hn hae hce hIff hGe
  go_enter Tryd.func3, Tryd.ntmps3
  go_upto_region 1 with fail
  generalize (w.alloc (.cells V.toArray 28)).alloc (.cells V'.toArray 28) = w0 at *
  have e9 : (w.alloc (.cells V.toArray 28)).heap.size = w.heap.size + 1 := by simp
  try rw [e9]
  clear e9
  go_wp2_with (first | (refine loadT Tryd.underlying28 rfl V (by rw [hVl]; exact info_fo) (by rfl) (.tmp 2) rfl ⟨w.heap.size, 0, none⟩ rfl (Blk.cells HB.out.2.1) ?_) | (refine loadT Tryd.underlying28 rfl V' (by rw [hVl']; exact info_fo) (by rfl) (.tmp 3) rfl ⟨w.heap.size + 1, 0, none⟩ rfl (Blk.cells HB.out.2.2.1) ?_))
  refine (S1.out w0 HB.out.2.2.2 HB.out.1).mono ?_
  rintro e w1 ⟨b, rfl, hb, hb1⟩
  have HE := hide hb
  have HB1 : Hid (Below w.heap.size w w1 ∧ Blk w1 w.heap.size 28 V ∧ Blk w1 (w.heap.size + 1) 28 V' ∧ w.heap.size + 2 ≤ w1.heap.size) := hide ⟨HB.out.1.trans (hb1.mono HB.out.1.size), HB.out.2.1.below hb1 HB.out.2.1.lt, HB.out.2.2.1.below hb1 HB.out.2.2.1.lt, Nat.le_trans HB.out.2.2.2 hb1.size⟩
  clear hb hb1 HB
  go_wp2_with (first | (refine loadT Tryd.underlying28 rfl V (by rw [hVl]; exact info_fo) (by rfl) (.tmp 2) rfl ⟨w.heap.size, 0, none⟩ rfl (Blk.cells HB1.out.2.1) ?_) | (refine loadT Tryd.underlying28 rfl V' (by rw [hVl']; exact info_fo) (by rfl) (.tmp 3) rfl ⟨w.heap.size + 1, 0, none⟩ rfl (Blk.cells HB1.out.2.2.1) ?_))
  refine (S2.out w1 HB1.out.2.2.2 HB1.out.1).mono ?_
  rintro e w2 ⟨rfl, hb1⟩
  have HB2 : Hid (Below w.heap.size w w2 ∧ Blk w2 w.heap.size 28 V ∧ Blk w2 (w.heap.size + 1) 28 V' ∧ w.heap.size + 2 ≤ w2.heap.size) := hide ⟨HB1.out.1.trans (hb1.mono HB1.out.1.size), HB1.out.2.1.below hb1 HB1.out.2.1.lt, HB1.out.2.2.1.below hb1 HB1.out.2.2.1.lt, Nat.le_trans HB1.out.2.2.2 hb1.size⟩
  clear hb1 HB1
  go_wp2_with (first | (refine loadT Tryd.underlying28 rfl V (by rw [hVl]; exact info_fo) (by rfl) (.tmp 2) rfl ⟨w.heap.size, 0, none⟩ rfl (Blk.cells HB2.out.2.1) ?_) | (refine loadT Tryd.underlying28 rfl V' (by rw [hVl']; exact info_fo) (by rfl) (.tmp 3) rfl ⟨w.heap.size + 1, 0, none⟩ rfl (Blk.cells HB2.out.2.2.1) ?_))
  refine (S3.out w2 HB2.out.2.2.2 HB2.out.1).mono ?_
  rintro e w3 ⟨rfl, hb1⟩
  have HB3 : Hid (Below w.heap.size w w3 ∧ Blk w3 w.heap.size 28 V ∧ Blk w3 (w.heap.size + 1) 28 V' ∧ w.heap.size + 2 ≤ w3.heap.size) := hide ⟨HB2.out.1.trans (hb1.mono HB2.out.1.size), HB2.out.2.1.below hb1 HB2.out.2.1.lt, HB2.out.2.2.1.below hb1 HB2.out.2.2.1.lt, Nat.le_trans HB2.out.2.2.2 hb1.size⟩
  clear hb1 HB2
  go_wp2_with fail
  refine (S4.out w3 HB3.out.2.2.2 HB3.out.1).mono ?_
  rintro e w4 ⟨rfl, hb1⟩
  have HB4 : Hid (Below w.heap.size w w4 ∧ Blk w4 w.heap.size 28 V ∧ Blk w4 (w.heap.size + 1) 28 V' ∧ w.heap.size + 2 ≤ w4.heap.size) := hide ⟨HB3.out.1.trans (hb1.mono HB3.out.1.size), HB3.out.2.1.below hb1 HB3.out.2.1.lt, HB3.out.2.2.1.below hb1 HB3.out.2.2.1.lt, Nat.le_trans HB3.out.2.2.2 hb1.size⟩
  clear hb1 HB3
  have c0 := HB4.out.2.1.get v0
  have HBs : Hid (∀ b2 : Bool, (b2 = true ↔ Eqv F G) → b2 = b) := hide (fun b2 h2 => by
    have := h2.trans HE.out.symm
    cases b2 <;> cases b <;> simp_all)
  have key : (T == T') = b := by
    by_cases h : T = T'
    · subst h
      have := HE.out.2 (HI.out.1 rfl)
      rw [this]; simp
    · have hb : b = false := by
        cases hb : b with
        | false => rfl
        | true => exact absurd (HI.out.2 (HE.out.1 hb)) h
      rw [hb]
      simpa using h
  have key2 : (b == b) = true := by simp
  have fin : ∀ (hd : (decide ((0 : Int) < (nE : Int)) = false ∧ ¬ (0 : Int) < (nE : Int)) ∨ (decide ((0 : Int) < (nE : Int)) = true ∧ (0 : Int) < (nE : Int) ∧ decide ((T.length : Int) < 20) = false ∧ ¬ (T.length : Int) < 20)), True := fun _ => trivial
  clear fin
  have hcase : nE = 0 ∨ (0 < nE ∧ 20 ≤ T.length) := by
    rcases Nat.eq_zero_or_pos nE with h | h
    · exact .inl h
    · exact .inr ⟨h, HG.out h⟩
  rcases hcase with h0 | ⟨h0, h20⟩
  · have d0 : decide ((0 : Int) < (nE : Int)) = false := by rw [decide_eq_false_iff_not]; omega
    have d0' : ¬ (0 : Int) < (nE : Int) := by omega
    clear h0
    go_wp2_with (first | (refine loadT Tryd.underlying28 rfl V (by rw [hVl]; exact info_fo) (by rfl) (.tmp 2) rfl ⟨w.heap.size, 0, none⟩ rfl (Blk.cells HB4.out.2.1) ?_) | (refine loadT Tryd.underlying28 rfl V' (by rw [hVl']; exact info_fo) (by rfl) (.tmp 3) rfl ⟨w.heap.size + 1, 0, none⟩ rfl (Blk.cells HB4.out.2.2.1) ?_))
    refine (S1.out w4 HB4.out.2.2.2 HB4.out.1).mono ?_
    rintro e w5 ⟨b2, rfl, hb2, hb5⟩
    obtain rfl : b = b2 := (HBs.out b2 hb2).symm
    have HB5 := hide (HB4.out.1.trans (hb5.mono HB4.out.1.size))
    clear hb2 hb5 HB4 c0
    go_wp2
    go_ret
    exact ⟨rfl, HB5.out⟩
  · have d0 : decide ((0 : Int) < (nE : Int)) = true := by rw [decide_eq_true_iff]; omega
    have d0' : (0 : Int) < (nE : Int) := by omega
    have d1 : decide ((T.length : Int) < 20) = false := by rw [decide_eq_false_iff_not]; omega
    have d1' : ¬ (T.length : Int) < 20 := by omega
    clear h0 h20
    go_wp2_with (first | (refine loadT Tryd.underlying28 rfl V (by rw [hVl]; exact info_fo) (by rfl) (.tmp 2) rfl ⟨w.heap.size, 0, none⟩ rfl (Blk.cells HB4.out.2.1) ?_) | (refine loadT Tryd.underlying28 rfl V' (by rw [hVl']; exact info_fo) (by rfl) (.tmp 3) rfl ⟨w.heap.size + 1, 0, none⟩ rfl (Blk.cells HB4.out.2.2.1) ?_))
    refine (S1.out w4 HB4.out.2.2.2 HB4.out.1).mono ?_
    rintro e w5 ⟨b2, rfl, hb2, hb5⟩
    obtain rfl : b = b2 := (HBs.out b2 hb2).symm
    have HB5 := hide (HB4.out.1.trans (hb5.mono HB4.out.1.size))
    clear hb2 hb5 HB4 c0
    go_wp2
    go_ret
    exact ⟨rfl, HB5.out⟩
end Go.Proofs.YtionncfpcbjchaaDoor
