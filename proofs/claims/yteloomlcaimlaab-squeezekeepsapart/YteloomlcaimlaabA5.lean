import Derived.Test.YteloomlcaimlaabA4
namespace Go.Proofs.Yteloomlcaimlaab
open Go.RowKit
theorem mt_four {b : List Nat} (h : Bys b) {i e : Nat} (hi : i + 4 ≤ b.length) (_he : e ≤ i) : 4 ≤ mt b i e ↔ fr b (i - e) = fr b i := by
  rw [fr_iff h]
  have hm : 4 ≤ mst b i := by unfold mst; omega
  constructor
  · intro h4 j hj
    exact agr_at b (mst b i) _ _ j (by unfold mt at h4; omega)
  · intro hj
    exact agr_ge b hm hj
theorem mt_low {b : List Nat} {i e : Nat} (hi : ¬ i + 4 ≤ b.length) : mt b i e < 4 := by
  have h1 := mt_le b i e
  have h2 := mst_le2 b i
  omega
/-- how far the search has come: the next place, the longest match so far -/
def St (b : List Nat) (i : Nat) (pv : Int) (l d : Nat) : Prop :=
  (pv = -1 ∧ cp b i = (l, d)) ∨ ∃ p : Nat, pv = (p : Int) ∧ p < i ∧ i + 4 ≤ b.length ∧ fr b p = fr b i ∧ cd b i (i - p - 1) = (l, d)
theorem cd_to {b : List Nat} {i d e : Nat} (hde : d ≤ e) (h : ∀ x, d < x → x ≤ e → mt b i x < 4) : cd b i e = cd b i d := by
  obtain ⟨k, rfl⟩ : ∃ k, e = d + k := ⟨e - d, by omega⟩
  exact cd_far k h
theorem st_begin {b : List Nat} (hy : Bys b) {i : Nat} {v : Int} (h : BfAt b i v) : St b i v 0 0 := by
  rcases h with ⟨rfl, h⟩ | ⟨p, rfl, h1, h2, h3, h4⟩
  · refine .inl ⟨rfl, ?_⟩
    show cd b i i = _
    rw [cd_to (Nat.zero_le i) (fun x g1 g2 => ?_)]
    · rfl
    · by_cases hi : i + 4 ≤ b.length
      · rcases Nat.lt_or_ge (mt b i x) 4 with g | g
        · exact g
        · exact absurd ((mt_four hy hi g2).1 g) (h hi _ (by omega))
      · exact mt_low hi
  · refine .inr ⟨p, rfl, h1, h2, h3, ?_⟩
    rw [cd_to (Nat.zero_le _) (fun x g1 g2 => ?_)]
    · rfl
    · rcases Nat.lt_or_ge (mt b i x) 4 with g | g
      · exact g
      · exact absurd ((mt_four hy h2 (by omega)).1 g) (h4 (i - x) (by omega) (by omega))
theorem st_next {b : List Nat} (hy : Bys b) {i p l d : Nat} {v : Int} (hp : p < i) (hi : i + 4 ≤ b.length) (hf : fr b p = fr b i) (hc : cd b i (i - p) = (l, d)) (h : BfAt b p v) : St b i v l d := by
  rcases h with ⟨rfl, h⟩ | ⟨q, rfl, h1, h2, h3, h4⟩
  · refine .inl ⟨rfl, ?_⟩
    show cd b i i = _
    rw [← hc]
    refine cd_to (by omega) (fun x g1 g2 => ?_)
    rcases Nat.lt_or_ge (mt b i x) 4 with g | g
    · exact g
    · exact absurd ((mt_four hy hi g2).1 g) (fun e => h (by omega) (i - x) (by omega) (e.trans hf.symm))
  · refine .inr ⟨q, rfl, by omega, hi, h3.trans hf, ?_⟩
    rw [← hc]
    refine cd_to (by omega) (fun x g1 g2 => ?_)
    rcases Nat.lt_or_ge (mt b i x) 4 with g | g
    · exact g
    · exact absurd ((mt_four hy hi (by omega)).1 g) (fun e => h4 (i - x) (by omega) (by omega) (e.trans hf.symm))
theorem st_done {b : List Nat} {i p l d : Nat} (hp : p < i) (hc : cd b i (i - p - 1) = (l, d)) (hm : mst b i ≤ l) : cp b i = (l, d) := by
  have := cd_top (b := b) (i := i) (d := i - p - 1) (by rw [hc]; exact hm) (p + 1)
  rw [hc] at this
  show cd b i i = _
  rw [← this]
  congr 1
  omega
theorem st_less {b : List Nat} {i p l d : Nat} (hp : p < i) (hc : cd b i (i - p - 1) = (l, d)) (hm : mt b i (i - p) ≤ l) : cd b i (i - p) = (l, d) := by
  have e : i - p = i - p - 1 + 1 := by omega
  rw [e] at hm ⊢
  rw [cd_no (.inr (by rw [hc]; exact hm)), hc]
theorem st_skip {b : List Nat} {i p l : Nat} (hp : p < i) (hn : b.getD (p + l) 0 ≠ b.getD (i + l) 0) : mt b i (i - p) ≤ l := by
  rcases Nat.lt_or_ge l (mt b i (i - p)) with h | h
  · have := agr_at b _ _ _ l h
    rw [show i - (i - p) = p by omega] at this
    exact absurd this hn
  · exact h
theorem st_more {b : List Nat} (hy : Bys b) {i p l d : Nat} (hp : p < i) (hi : i + 4 ≤ b.length) (hf : fr b p = fr b i) (hc : cd b i (i - p - 1) = (l, d)) (hm : l < mt b i (i - p)) : cd b i (i - p) = (mt b i (i - p), i - p) := by
  have h4 := (mt_four hy hi (show i - p ≤ i by omega)).2 (by rw [show i - (i - p) = p by omega]; exact hf)
  have e : i - p = i - p - 1 + 1 := by omega
  rw [e] at hm h4 ⊢
  exact cd_yes h4 (by rw [hc]; exact hm)
theorem mt_agr {b : List Nat} {i p : Nat} (hp : p < i) : mt b i (i - p) = agr b p i (mst b i) := by
  unfold mt
  rw [show i - (i - p) = p by omega]
section
variable (w : World)
set_option maxRecDepth 100000 in
set_option maxHeartbeats 1000000 in
theorem longest_any (v : Value) (b : List Nat) (i g c base : Nat) (is : List Int) (hv : Rb w w.heap.size v b) (hy : Bys b) (hl : b.length ≤ 65536) (hi : i < b.length)
    (hO : Oi w base (.slice (some ⟨g, 0, none⟩) b.length c) is) (hil : is.length = b.length) (hF : ∀ x, x < b.length → BfAt b x (is.getD x 0)) :
    Calls Try.prog 20 #[v, .slice (some ⟨g, 0, none⟩) b.length c, .int .i64 (i : Nat)] w fun e w' => e = .returned (.tuple #[.int .i64 ((cp b i).1 : Nat), .int .i64 ((cp b i).2 : Nat)]) ∧ Below w.heap.size w w' := by
  have HV := hide hv
  have HY := hide hy
  have HO := hide hO
  have HF := hide hF
  have hc0 := (hO.cell (j := i) (by omega)).1
  have HS := hide (st_begin hy (hF i hi))
  obtain ⟨ao, cap, rfl, hcap⟩ := hv.len
  obtain ⟨n, hn⟩ : ∃ n, b.length = n := ⟨_, rfl⟩
  have HLn := hide hn
  rw [hn] at hl HV hcap HO HF hil hi ⊢
  clear hn hv hy hO hF
  have hi0 : (i : Int) < n := by omega
  obtain ⟨m, hm⟩ : ∃ m, mst b i = m := ⟨_, rfl⟩
  have hm0 : (if (n : Int) - (i : Int) < 131 then (n : Int) - (i : Int) else 131) = (m : Int) := by
    rw [← hm]; unfold mst; rw [HLn.out]; split <;> omega
  have hm1 : i + m ≤ n := by have := mst_le2 b i; rw [hm, HLn.out] at this; omega
  have HM := hide hm
  clear hm
  generalize is.getD i 0 = v0 at *
  go_enter Try.func20, Try.ntmps20
  go_upto_region 3 with fail
  clear hc0 hm0
  go_loopw [6, 7, 9] (fun a d pv wr => ∃ (l k : Nat) (x : Int), a = .int .i64 (l : Nat) ∧ d = .int .i64 (k : Nat) ∧ pv = .int .i64 x ∧ St b i x l k ∧ Below w.heap.size w wr) (fun _ _ pv _ => (intOf pv + 1).toNat)
  case atStart => exact ⟨0, 0, _, rfl, rfl, rfl, HS.out, Below.refl _ _⟩
  case round =>
    obtain ⟨l, k, x, rfl, rfl, rfl, hSt, hB⟩ := hrel
    clear HS
    rcases hSt with ⟨rfl, hcp⟩ | ⟨p, rfl, hpi, hi4, hfr, hcd⟩
    · have HC := hide hcp
      clear hcp
      go_wp2
      go_ret2
      rw [HC.out]
      exact ⟨rfl, hB⟩
    · have hpm : ((p : Int) == -1) = false := by simp
      have HB := hide hB
      by_cases hlm : l < m
      · have hpl : p + l < n := by omega
        have hil2 : i + l < n := by omega
        obtain ⟨a, rfl, hab, hc⟩ := HV.out.some_of (by rw [HLn.out]; omega)
        have hc1 := hc (p + l) (by rw [HLn.out]; omega)
        have hc2 := hc (i + l) (by rw [HLn.out]; omega)
        rw [← hB.cell (by rw [blk_add]; exact hab)] at hc1 hc2
        have HNX : Hid (∀ (l' d' : Nat) (v : Int), cd b i (i - p) = (l', d') → BfAt b p v → St b i v l' d') := hide (fun l' d' v h1 h2 => st_next HY.out hpi hi4 hfr h1 h2)
        have HSK : Hid (b.getD (p + l) 0 ≠ b.getD (i + l) 0 → cd b i (i - p) = (l, k)) := hide (fun h => st_less hpi hcd (st_skip hpi h))
        have HLE : Hid (mt b i (i - p) ≤ l → cd b i (i - p) = (l, k)) := hide (fun h => st_less hpi hcd h)
        have HMO : Hid (l < mt b i (i - p) → cd b i (i - p) = (mt b i (i - p), i - p)) := hide (fun h => st_more HY.out hpi hi4 hfr hcd h)
        clear hcd hfr hi4 hc hB
        generalize b.getD (p + l) 0 = b1 at *
        generalize b.getD (i + l) 0 = b2 at *
        by_cases heq : b1 = b2
        · have he := eqN b1 b2 heq
          go_upto_region 5 with fail
          go_quiet (fail)
          have HB2 := hide (HB.out.trans (drewN_below wr _ nq))
          clear HB hc1 hc2 HSK he heq
          generalize wr.drewN nq = w2 at *
          have HV2 := hide (HV.out.keep HB2.out)
          go_wp2_with fail
          refine (agree_any _ _ b p i m _ HV2.out (by rw [HLn.out]; omega) (by rw [HLn.out]; omega) (by rw [HLn.out]; omega)).mono ?_
          rintro e w3 ⟨rfl, hb3⟩
          have HB3 := hide (HB2.out.trans (hb3.mono HB2.out.size))
          rw [show agr b p i m = mt b i (i - p) by rw [mt_agr hpi, HM.out]]
          clear hb3 HB2 HV2
          generalize mt b i (i - p) = r at *
          by_cases hr : l < r
          · have hrI : (l : Int) < (r : Int) := by omega
            obtain ⟨hcn, _⟩ := (HO.out.keep HB3.out (Nat.le_refl _)).cell (j := p) (by omega)
            have HSn := hide (HNX.out _ _ _ (HMO.out hr) (HF.out p (by omega)))
            have hp0 : (p : Int) < n := by omega
            have hbf := HF.out p (by omega)
            have HPn : Hid (is.getD p 0 + 1 ≤ (p : Int)) := hide (by
              rcases hbf with ⟨e, _⟩ | ⟨q, e, h, _⟩ <;> omega)
            clear hbf
            generalize is.getD p 0 = pn at *
            go_wp2
            go_roundw
            case rel => exact ⟨_, _, _, rfl, by rw [Int.ofNat_sub (Nat.le_of_lt hpi)], rfl, HSn.out, HB3.out⟩
            case measure =>
              have := HPn.out
              simp [intOf]
              omega
          · have hrI : ¬ (l : Int) < (r : Int) := by omega
            obtain ⟨hcn, _⟩ := (HO.out.keep HB3.out (Nat.le_refl _)).cell (j := p) (by omega)
            have HSn := hide (HNX.out _ _ _ (HLE.out (by omega)) (HF.out p (by omega)))
            have hp0 : (p : Int) < n := by omega
            have hbf := HF.out p (by omega)
            have HPn : Hid (is.getD p 0 + 1 ≤ (p : Int)) := hide (by
              rcases hbf with ⟨e, _⟩ | ⟨q, e, h, _⟩ <;> omega)
            clear hbf
            generalize is.getD p 0 = pn at *
            go_wp2
            go_roundw
            case rel => exact ⟨_, _, _, rfl, rfl, rfl, HSn.out, HB3.out⟩
            case measure =>
              have := HPn.out
              simp [intOf]
              omega
        · have he := neN b1 b2 heq
          go_upto_region 5 with fail
          go_quiet (fail)
          have HB3 := hide (HB.out.trans (drewN_below wr _ nq))
          clear HB hc1 hc2
          generalize wr.drewN nq = w3 at *
          obtain ⟨hcn, _⟩ := (HO.out.keep HB3.out (Nat.le_refl _)).cell (j := p) (by omega)
          have HSn := hide (HNX.out _ _ _ (HSK.out heq) (HF.out p (by omega)))
          have hp0 : (p : Int) < n := by omega
          have hbf := HF.out p (by omega)
          have HPn : Hid (is.getD p 0 + 1 ≤ (p : Int)) := hide (by
            rcases hbf with ⟨e, _⟩ | ⟨q, e, h, _⟩ <;> omega)
          clear hbf
          generalize is.getD p 0 = pn at *
          go_wp2
          go_roundw
          case rel => exact ⟨_, _, _, rfl, rfl, rfl, HSn.out, HB3.out⟩
          case measure =>
            have := HPn.out
            simp [intOf]
            omega
      · have hlmI : ¬ (l : Int) < (m : Int) := by omega
        have HC := hide (st_done hpi hcd (by rw [HM.out]; omega))
        clear hcd
        go_wp2
        go_ret2
        rw [HC.out]
        exact ⟨rfl, HB.out⟩
end
end Go.Proofs.Yteloomlcaimlaab
