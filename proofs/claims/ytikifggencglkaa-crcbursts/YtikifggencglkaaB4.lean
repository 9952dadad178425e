import Derived.Test.YtikifggencglkaaB3
namespace Go.Proofs.Ytikifggencglkaa
open Go.RowKit

set_option maxHeartbeats 400000 in
theorem refBurst_out (v : Value) (zs : List Nat) (a m : Int) (w : World) (hv : Rd w v zs) (hl : zs.length ≤ 140737488351232) (hf : a < 0 ∨ 8 * (zs.length : Int) < a) :
    Calls Try.prog 7 #[v, .int .i64 a, .int .u32 m] w fun e w' => e = .returned (.tuple #[.slice none 0 0, .int .i64 1]) ∧ w' = w := by
  obtain ⟨ao, cap, rfl⟩ := hv.len
  clear hv
  generalize zs.length = n at *
  by_cases h1 : a < 0
  · go_enter Try.func7, Try.ntmps7
    go_wp2
    go_ret2
    exact ⟨rfl, rfl⟩
  · have h2 : 8 * (n : Int) < a := by omega
    go_enter Try.func7, Try.ntmps7
    go_wp2
    go_ret2
    exact ⟨rfl, rfl⟩

theorem fits_of {n A m : Nat} (hA : A ≤ 8 * n) (h : ∀ i, i < 32 → ¬ Past n A m i) (hm : m < 4294967296) : Fits n A m := by
  refine ⟨by omega, by omega, ?_⟩
  by_cases h0 : m = 0
  · subst h0; simp [bitLen]; omega
  · obtain ⟨h1, h2⟩ := bitLen_spec m
    have hL := bitLen_le32 m hm
    have hp : 0 < bitLen m := by
      rcases Nat.eq_zero_or_pos (bitLen m) with e | e
      · rw [e] at h1; simp at h1; omega
      · exact e
    have ht := MB.top_bit h0 h1 (h2 h0)
    have := h (bitLen m - 1) (by omega)
    have hn : ¬ 8 * n ≤ A + (bitLen m - 1) := fun e => this ⟨ht, e⟩
    omega
theorem not_fits_of {n A m i : Nat} (h : Past n A m i) : ¬ Fits n A m := by
  intro hf
  obtain ⟨_, _, h3⟩ := hf
  obtain ⟨hb, hi⟩ := h
  have hlt : i < bitLen m := by
    rcases Nat.lt_or_ge i (bitLen m) with e | e
    · exact e
    · exact absurd hb (MB.bit_above (bitLen_spec m).1 e)
  omega

/-- the string of bytes -/
def stg (zs : List Nat) : ByteArray := strOfNums (zs.map Int.ofNat)
theorem Ow.conv {w : World} {base : Nat} {v : Value} {zs : List Nat} (h : Ow w base v zs) : (convert 22 9 v).run Try.prog w = .ok (.string (stg zs)) w := by
  rcases Nat.eq_zero_or_pos zs.length with h0 | hp
  · obtain rfl := List.eq_nil_of_length_eq_zero h0
    obtain ⟨hl, ⟨rfl, _⟩ | ⟨g, cap, cur, rfl, hb, hg, hn, hm, hs, ht⟩⟩ := h
    · exact run_convert_bytes_nil w 22 5 Try.underlying22 Try.underlying5 0 0 9 Try.underlying9
    · exact run_convert_bytes_arg w 22 5 Try.underlying22 Try.underlying5 g 0 0 cap [] rfl (fun i hi => by omega) 9 Try.underlying9
  · obtain ⟨g, cap, rfl, hg⟩ := h.some_of hp
    refine run_convert_bytes_arg w 22 5 Try.underlying22 Try.underlying5 g 0 zs.length cap (zs.map Int.ofNat) (by simp) (fun i hi => ?_) 9 Try.underlying9
    rw [Nat.zero_add, (h.cell hi).1]
    simp [List.getD, List.getElem?_eq_getElem hi]
theorem Ow.len {w : World} {base : Nat} {v : Value} {zs : List Nat} (h : Ow w base v zs) : ∃ ao cap, v = .slice ao zs.length cap := h.rd.len

set_option maxHeartbeats 400000 in
theorem same_any (v1 v2 : Value) (zs : List Nat) (b1 b2 : Nat) (w : World) (h1 : Ow w b1 v1 zs) (h2 : Ow w b2 v2 zs) :
    Calls Try.prog 8 #[v1, v2] w fun e w' => e = .returned (.bool true) ∧ w' = w := by
  have c1 := h1.conv
  have c2 := h2.conv
  clear h1 h2
  generalize stg zs = S at *
  go_enter Try.func8, Try.ntmps8
  go_wp2
  go_ret
  exact ⟨rfl, rfl⟩

set_option maxHeartbeats 400000 in
theorem bursts_walk (v : Value) (zs : List Nat) (a : Int) (m : Nat) (w : World) (hv : Rd w v zs) (hl : zs.length ≤ 140737488351232) (hz : ∀ n ∈ zs, n < 256)
    (hm : m < 4294967296) (ha : -9223372036854775808 ≤ a) (ha' : a ≤ 9223372036854775807) :
    Calls Try.prog 3 #[v, .int .i64 a, .int .u32 (m : Int)] w fun e w' => e = .returned (.bool true) ∧ Below w.heap.size w w' := by
  by_cases hf : Fits zs.length a m
  · obtain ⟨A, rfl⟩ := Int.eq_ofNat_of_zero_le hf.1
    have HF := hide hf
    have HV := hide hv
    have hA : A ≤ 8 * zs.length := by have := hf.2.1; omega
    clear hf hv
    go_enter Try.func3, Try.ntmps3
    go_wp2_with fail
    refine (copied_any v zs _ HV.out hl).mono ?_
    rintro e w1 ⟨r1, rfl, hr1, hb1⟩
    have HR1 := hide hr1.rd
    clear hr1
    go_wp2_with fail
    refine (burst_yes r1 zs A m _ HR1.out hl hz hm HF.out).mono ?_
    rintro e w2 ⟨r2, rfl, hr2, hb2⟩
    rw [Int.toNat_natCast] at hr2
    have HR2 := hide hr2
    have HV2 := hide ((HV.out.below hb1 (Nat.le_refl _)).below hb2 (Nat.le_refl _))
    have z1 := hb1.size
    have z2 := hb2.size
    clear hr2
    go_wp2_with fail
    refine (refBurst_in v zs A m _ HV2.out hl hz hm hA).mono ?_
    rintro e w3 ⟨⟨r3, rfl, hr3, _⟩ | ⟨rfl, i, _, hp⟩, hb3⟩
    · have HR3 := hide hr3
      have HR2' := hide (HR2.out.below hb3 (Nat.le_refl _))
      have HB := hide (hb1.trans ((hb2.trans (hb3.mono z2)).mono z1))
      clear hr3
      go_wp2_with fail
      refine (same_any r2 r3 _ _ _ _ HR2'.out HR3.out).mono ?_
      rintro e w4 ⟨rfl, rfl⟩
      go_wp2
      go_ret
      exact ⟨rfl, HB.out⟩
    · exact absurd HF.out (not_fits_of hp)
  · have HF := hide hf
    have HV := hide hv
    have hn1 : ∀ W : World, Ow W 0 (.slice none 0 0) [] := fun W => World.ownsRow_nil _ _ _ _
    have H1 := hide hn1
    have hr : ∀ W : World, Below w.heap.size w W → Calls Try.prog 7 #[v, .int .i64 a, .int .u32 (m : Int)] W fun e w' => e = .returned (.tuple #[.slice none 0 0, .int .i64 1]) ∧ Below W.heap.size W w' := by
      intro W hW
      have hvW : Rd W v zs := hv.below hW (Nat.le_refl _)
      by_cases hin : 0 ≤ a ∧ a ≤ 8 * zs.length
      · obtain ⟨A, rfl⟩ := Int.eq_ofNat_of_zero_le hin.1
        refine (refBurst_in v zs A m W hvW hl hz hm (by omega)).mono ?_
        rintro e w' ⟨⟨r, _, _, hp⟩ | ⟨rfl, _⟩, hb⟩
        · exact absurd (fits_of (by omega) hp hm) hf
        · exact ⟨rfl, hb⟩
      · refine (refBurst_out v zs a m W hvW hl (by omega)).mono ?_
        rintro e w' ⟨rfl, rfl⟩
        exact ⟨rfl, Below.refl _ _⟩
    have HR := hide hr
    clear hf hv hn1 hr
    go_enter Try.func3, Try.ntmps3
    go_wp2_with fail
    refine (copied_any v zs _ HV.out hl).mono ?_
    rintro e w1 ⟨r1, rfl, hr1, hb1⟩
    have HR1 := hide hr1.rd
    clear hr1
    go_wp2_with fail
    refine (burst_no r1 zs a m _ HR1.out hl hm HF.out ha ha').mono ?_
    rintro e w2 ⟨rfl, rfl⟩
    go_wp2_with fail
    refine (HR.out _ hb1).mono ?_
    rintro e w3 ⟨rfl, hb3⟩
    go_wp2_with fail
    refine (same_any _ _ _ _ _ _ (H1.out _) (H1.out _)).mono ?_
    rintro e w4 ⟨rfl, rfl⟩
    have z1 := hb1.size
    go_wp2
    go_ret
    exact ⟨rfl, hb1.trans (hb3.mono z1)⟩
end Go.Proofs.Ytikifggencglkaa
