import Derived.WalkSmall
import Derived.Test.YtbfagiofhakjnaaDoorMA14
namespace Go.Proofs.YtbfagiofhakjnaaDoor
open Go.RowKit
theorem Nms.below {w w' : World} (h : Nms w) (hb : Below w.heap.size w w') : Nms w' := fun n hn => by
  have := h n hn
  rw [hb.cell (cell_blk this)]; exact this
theorem SR.below {w w' : World} {ao : Option Addr} {fs : List Tx} (h : SR w ao fs) (hb : Below w.heap.size w w') : SR w' ao fs := fun j hj => by
  obtain ⟨a, h1, h2⟩ := h j hj
  exact ⟨a, h1, by rw [hb.cell (cell_blk h2)]; exact h2⟩
theorem DRow.below {w w' : World} {ao : Option Addr} {ds : List Dl} (h : DRow w ao ds) (hb : Below w.heap.size w w') : DRow w' ao ds := fun k hk => by
  obtain ⟨a, fo, c, h1, h2, h3⟩ := h k hk
  exact ⟨a, fo, c, h1, fun j v hv => by rw [hb.cell (cell_blk (h2 j v hv))]; exact h2 j v hv, h3.below hb⟩
theorem addr3 (x : Addr) : x.add 3 = ⟨x.block, x.off + 3, none⟩ := by simp [Addr.add]
theorem adr_neg {ds : List Dl} (hw : ∀ k, k ≤ ds.length → 0 ≤ ahdD ds k ∧ ahdD ds k ≤ 512 * k) (s : Tx) : decide (adrD ds s < 0) = (fstD ds s).isNone := by
  unfold adrD
  cases h : fstD ds s with
  | none => rfl
  | some j =>
    obtain ⟨h1, _⟩ := List.findIdx?_eq_some_iff_getElem.1 h
    have := hw j (by omega)
    simp
    omega
theorem last_snoc (fs : List Tx) (f : Tx) : lastF (fs ++ [f]) = f := by simp [lastF]
section
variable (w : World)
set_option maxRecDepth 100000 in
set_option maxHeartbeats 2000000 in
theorem usesMissing_any (ds : List Dl) (ao : Option Addr) (cap : Nat) (d : Dl) (fo : Option Addr) (c : Nat) (hl : ds.length ≤ 16385) (hw : ∀ k, k ≤ ds.length → 0 ≤ ahdD ds k ∧ ahdD ds k ≤ 512 * k) (hR : DRow w ao ds) (hS : SR w fo d.fields) (hf : ∀ f ∈ d.fields, f.length ≤ 16384) (hfl : d.fields.length ≤ 16385) (hNm : Nms w) : Calls Tryd.prog 22 #[.slice ao ds.length cap, .agg (dlL d fo c).toArray] w fun e w' => e = .returned (.bool (misD ds d)) ∧ Below w.heap.size w w' := by
  have HB : Hid (Below w.heap.size w (w.alloc (.cells (dlL d fo c).toArray 42))) := hide (bel1 _ _)
  have HR := hide (hR.below HB.out)
  have HS := hide (hS.below HB.out)
  have HN := hide (hNm.below HB.out)
  have q2 := cells_new w (dlL d fo c) 42 2 _ rfl
  have q3 := cells_new w (dlL d fo c) 42 3 _ rfl
  rw [addr2] at q2
  rw [addr3] at q3
  have HM : Hid (misD ds d = (!(d.fields.isEmpty || (numT (lastF d.fields)).isSome || (isReg (lastF d.fields) && rgl d.name)) && (fstD ds (lastF d.fields)).isNone)) := hide rfl
  clear hR hS hNm
  obtain ⟨label, lab, name, fields, words, bad⟩ := d
  simp only [dlL] at *
  rcases List.eq_nil_or_concat fields with rfl | ⟨fs, f, rfl⟩
  · go_enter Tryd.func22, Tryd.ntmps22
    go_wp2
    go_ret
    exact ⟨by rw [HM.out]; rfl, HB.out⟩
  · simp only [List.concat_eq_append] at *
    have hlen : (fs ++ [f]).length = fs.length + 1 := by simp
    obtain ⟨x, rfl, hx⟩ := HS.out fs.length (by omega)
    rw [List.getElem_concat_length rfl] at hx
    rw [last_snoc, show (fs ++ [f]).isEmpty = false by simp, Bool.false_or] at HM
    have hf1 := hf f (by simp)
    have HVv := hide (value_any (w.alloc (.cells (dlL ⟨label, lab, name, fs ++ [f], words, bad⟩ (some x) c).toArray 42)) f hf1)
    have HRg := hide (isRegD_any (w.alloc (.cells (dlL ⟨label, lab, name, fs ++ [f], words, bad⟩ (some x) c).toArray 42)) f hf1)
    have HRl := hide (registerLast_any (w.alloc (.cells (dlL ⟨label, lab, name, fs ++ [f], words, bad⟩ (some x) c).toArray 42)) name HN.out)
    have HAd := hide (address_any (w.alloc (.cells (dlL ⟨label, lab, name, fs ++ [f], words, bad⟩ (some x) c).toArray 42)) ds ao cap f hl hw HR.out)
    have HNg := hide (adr_neg hw f)
    simp only [dlL] at HVv HRg HRl HAd
    have hfm : fs.length + 1 ≤ 16385 := by rw [← hlen]; exact hfl
    clear hfl
    rw [hlen] at *
    generalize fs.length = m at *
    have hm2 : wrap64 (m : Int) = (m : Int) := by unfold wrap64; omega
    have hm3 : (((m + 1 : Nat) : Int) == 0) = false := by rw [beq_eq_false_iff_ne]; omega
    clear HS HR HN hf hw hlen
    cases hn : numT f with
    | some n =>
      rw [hn] at HVv HM
      clear hn
      go_enter Tryd.func22, Tryd.ntmps22
      go_wp2_with fail
      refine HVv.out.mono ?_
      rintro e w1 ⟨rfl, rfl⟩
      go_wp2
      go_ret
      exact ⟨by rw [HM.out]; rfl, HB.out⟩
    | none =>
      rw [hn] at HVv HM
      clear hn
      simp only [Option.isSome_none, Bool.false_or] at HM
      cases hr : isReg f with
      | true =>
        rw [hr] at HRg HM
        simp only [Bool.true_and] at HM
        cases hg : rgl name with
        | true =>
          rw [hg] at HRl HM
          clear hg hr
          go_enter Tryd.func22, Tryd.ntmps22
          go_wp2_with fail
          refine HVv.out.mono ?_
          rintro e w1 ⟨rfl, rfl⟩
          go_wp2_with fail
          refine HRg.out.mono ?_
          rintro e w1 ⟨rfl, rfl⟩
          go_wp2_with fail
          refine HRl.out.mono ?_
          rintro e w1 ⟨rfl, rfl⟩
          go_wp2
          go_ret
          exact ⟨by rw [HM.out]; rfl, HB.out⟩
        | false =>
          rw [hg] at HRl HM
          clear hg hr
          go_enter Tryd.func22, Tryd.ntmps22
          go_wp2_with fail
          refine HVv.out.mono ?_
          rintro e w1 ⟨rfl, rfl⟩
          go_wp2_with fail
          refine HRg.out.mono ?_
          rintro e w1 ⟨rfl, rfl⟩
          go_wp2_with fail
          refine HRl.out.mono ?_
          rintro e w1 ⟨rfl, rfl⟩
          go_wp2_with fail
          refine HAd.out.mono ?_
          rintro e w1 ⟨rfl, rfl⟩
          go_wp2
          go_ret
          exact ⟨by rw [HM.out, ← HNg.out]; rfl, HB.out⟩
      | false =>
        rw [hr] at HRg HM
        clear hr
        go_enter Tryd.func22, Tryd.ntmps22
        go_wp2_with fail
        refine HVv.out.mono ?_
        rintro e w1 ⟨rfl, rfl⟩
        go_wp2_with fail
        refine HRg.out.mono ?_
        rintro e w1 ⟨rfl, rfl⟩
        go_wp2_with fail
        refine HAd.out.mono ?_
        rintro e w1 ⟨rfl, rfl⟩
        go_wp2
        go_ret
        exact ⟨by rw [HM.out, ← HNg.out]; rfl, HB.out⟩
end
end Go.Proofs.YtbfagiofhakjnaaDoor

namespace Go.Proofs.YtbfagiofhakjnaaDoor
open Go.RowKit
theorem addr5 (x : Addr) : x.add 5 = ⟨x.block, x.off + 5, none⟩ := by simp [Addr.add]
theorem any_no {ds : List Dl} {k : Nat} {s : Tx} (h : ∀ j (hj : j < ds.length), j < k → (ds[j].lab && ds[j].label == s) = false) : (ds.take k).any (fun e => e.lab && e.label == s) = false := by
  rw [List.any_eq_false]
  intro x hx
  obtain ⟨j, hj, rfl⟩ := List.getElem_of_mem hx
  rw [List.length_take] at hj
  rw [List.getElem_take]
  simp [h j (by omega) (by omega)]
theorem any_yes {ds : List Dl} {k j : Nat} {s : Tx} (hj : j < ds.length) (hk : j < k) (h : (ds[j].lab && ds[j].label == s) = true) : (ds.take k).any (fun e => e.lab && e.label == s) = true := by
  rw [List.any_eq_true]
  have : j < (ds.take k).length := by rw [List.length_take]; omega
  exact ⟨(ds.take k)[j], List.getElem_mem this, by rw [List.getElem_take]; exact h⟩
section
variable (w : World)
set_option maxRecDepth 100000 in
set_option maxHeartbeats 4000000 in
theorem faultD_any (ds : List Dl) (ao : Option Addr) (cap : Nat) (k : Nat) (ah : Int) (hk : k < ds.length) (ha0 : 0 ≤ ah) (ha1 : ah ≤ 8389120) (hwk : 0 ≤ ds[k].words ∧ ds[k].words ≤ 512) (hl : ds.length ≤ 16385) (hw : ∀ k, k ≤ ds.length → 0 ≤ ahdD ds k ∧ ahdD ds k ≤ 512 * k) (hR : DRow w ao ds) (hf : ∀ f ∈ ds[k].fields, f.length ≤ 16384) (hfl : ds[k].fields.length ≤ 16385) (hNm : Nms w) : Calls Tryd.prog 13 #[.slice ao ds.length cap, .int .i64 (k : Nat), .int .i64 ah] w fun e w' => e = .returned (.int .i64 (fltD ds ds[k] k ah)) ∧ Below w.heap.size w w' := by
  obtain ⟨a, fo, c, rfl, ha, hS⟩ := hR k hk
  have HU : Hid (∀ W, Below w.heap.size w W → Calls Tryd.prog 22 #[.slice (some a) ds.length cap, .agg (dlL ds[k] fo c).toArray] W fun e w' => e = .returned (.bool (misD ds ds[k])) ∧ Below W.heap.size W w') := hide fun W hb => usesMissing_any W ds (some a) cap ds[k] fo c hl hw (hR.below hb) (hS.below hb) hf hfl (hNm.below hb)
  have HR := hide hR
  have HFl : Hid (fltD ds ds[k] k ah = if ds[k].bad then 71 else if (ds[k].lab && (ds.take k).any fun e => e.lab && e.label == ds[k].label) = true then 72 else if misD ds ds[k] = true then 72 else if 512 < ah + ds[k].words then 2 else 0) := hide rfl
  have hd : (k : Int) < (ds.length : Int) := by omega
  have q0 := ha 0 _ rfl
  have q1 := ha 1 _ rfl
  have q4 := ha 4 _ rfl
  have q5 := ha 5 _ rfl
  have HA := hide ha
  have HAw := hide ha
  rw [addr0] at q0
  rw [addr1] at q1
  rw [addr4] at q4
  rw [addr5] at q5
  have q4w := hide q4
  have HQ4 := hide (cell_blk q4)
  have HQ0 := hide (cell_blk q0)
  have HB0 := hide (Below.refl w.heap.size w)
  clear ha hS hR hf hfl hNm hw
  generalize ds[k] = L at *
  obtain ⟨label, lab, name, fields, words, bad⟩ := L
  simp only [dlL] at *
  cases bad with
  | true =>
    go_enter Tryd.func13, Tryd.ntmps13
    go_wp2
    go_ret
    exact ⟨by rw [HFl.out]; rfl, Below.refl _ _⟩
  | false =>
    simp only [Bool.false_eq_true, if_false] at HFl
    cases lab with
    | false =>
      simp only [Bool.false_and, Bool.false_eq_true, if_false] at HFl
      go_enter Tryd.func13, Tryd.ntmps13
      cases hm : misD ds ⟨label, false, name, fields, words, false⟩ with
      | true =>
        rw [hm] at HU
        have HV : Hid (fltD ds ⟨label, false, name, fields, words, false⟩ k ah = 72) := hide (by rw [HFl.out]; simp [hm])
        go_wp2_with (refine loadT Tryd.underlying42 rfl [.string ⟨label.toArray⟩, .bool false, .string ⟨name.toArray⟩, .slice fo fields.length c, .int .i64 words, .bool false] (by kernel_rfl) rfl _ rfl (a.add (k * 6)) rfl HA.out ?_)
        refine (HU.out _ HB0.out).mono ?_
        rintro e w1 ⟨rfl, HB9⟩
        have HB1 := HB0.out.trans (HB9.mono HB0.out.size)
        clear HB9
        go_wp2
        go_ret
        exact ⟨by rw [HV.out]; rfl, HB1⟩
      | false =>
        rw [hm] at HU
        have HV : Hid (fltD ds ⟨label, false, name, fields, words, false⟩ k ah = if 512 < ah + words then 2 else 0) := hide (by rw [HFl.out]; simp [hm])
        go_wp2_with (refine loadT Tryd.underlying42 rfl [.string ⟨label.toArray⟩, .bool false, .string ⟨name.toArray⟩, .slice fo fields.length c, .int .i64 words, .bool false] (by kernel_rfl) rfl _ rfl (a.add (k * 6)) rfl HA.out ?_)
        refine (HU.out _ HB0.out).mono ?_
        rintro e w1 ⟨rfl, HB9⟩
        have HB1 := HB0.out.trans (HB9.mono HB0.out.size)
        clear HB9
        have q4' : w1.cell? ⟨(a.add (k * 6)).block, (a.add (k * 6)).off + 4, none⟩ = some (.int .i64 words) := by rw [HB1.cell (cell_blk q4w.out)]; exact q4w.out
        have HB2 := hide HB1
        clear HB1 HA HU
        by_cases hg : 512 < ah + words
        · rw [if_pos hg] at HV
          go_wp2
          go_ret
          exact ⟨by rw [HV.out]; rfl, HB2.out⟩
        · rw [if_neg hg] at HV
          go_wp2
          go_ret
          exact ⟨by rw [HV.out]; rfl, HB2.out⟩
    | true =>
      simp only [Bool.true_and] at HFl
      go_enter Tryd.func13, Tryd.ntmps13
      go_upto_region 5 with fail
      go_loopw [7] (fun v wr => ∃ j : Nat, v = .int .i64 (j : Int) ∧ j ≤ k ∧ Below w.heap.size w wr ∧ ∀ i (hi : i < ds.length), i < j → (ds[i].lab && ds[i].label == label) = false) (fun v _ => k - (intOf v).toNat)
      case atStart => exact ⟨0, rfl, by omega, Below.refl _ _, fun j _ h => by omega⟩
      case round =>
      obtain ⟨j, rfl, hj, hB, hno⟩ := hrel
      have HB1 := hide hB
      have r0 : wr.cell? (a.add (k * 6)) = some (.string ⟨label.toArray⟩) := by rw [hB.cell HQ0.out]; exact q0
      have HAr : Hid (∀ (j : Nat) (v : Value), [Value.string ⟨label.toArray⟩, .bool true, .string ⟨name.toArray⟩, .slice fo fields.length c, .int .i64 words, .bool false][j]? = some v → wr.cell? ((a.add (k * 6)).add j) = some v) := hide fun j v hv => by rw [hB.cell (cell_blk (HAw.out j v hv))]; exact HAw.out j v hv
      clear HB0 HA q0 q1 q4 q5
      have HB0 := HB1
      have HA := HAr
      clear HB1 HAr
      by_cases hlt : j < k
      · have hlt2 : j < ds.length := by omega
        obtain ⟨a', fo', c', ea, ha', _⟩ := (HR.out.below hB) j hlt2
        cases ea
        have hdj : (j : Int) < (ds.length : Int) := by omega
        have hdk : (j : Int) < (k : Int) := by omega
        have HN := hide hno
        have HY : Hid ((ds[j].lab && ds[j].label == label) = true → fltD ds ⟨label, true, name, fields, words, false⟩ k ah = 72) := hide fun h => by rw [HFl.out, if_pos (any_yes hlt2 hlt h)]
        have HG : Hid ((ds[j].lab && ds[j].label == label) = false → ∀ i (hi : i < ds.length), i < j + 1 → (ds[i].lab && ds[i].label == label) = false) := hide fun h i hi h2 => by
          by_cases e : i = j
          · subst e; exact h
          · exact HN.out i hi (by omega)
        have p0 := ha' 0 _ rfl
        have p1 := ha' 1 _ rfl
        rw [addr0] at p0
        rw [addr1] at p1
        clear ha' hno HN HU HA HAw hB
        generalize ds[j] = M at *
        obtain ⟨label2, lab2, name2, fields2, words2, bad2⟩ := M
        simp only at p0 p1 HY HG
        cases lab2 with
        | false =>
          go_upto_region 7 with fail
          go_quiet (fail)
          go_wp2
          go_roundw
          case rel => exact ⟨j + 1, by go_num, by omega, below_drewN HB0.out _, HG.out rfl⟩
          case measure => simp [intOf]; omega
        | true =>
          by_cases he : label2 = label
          · subst he
            go_upto_region 7 with fail
            go_quiet (fail)
            go_wp2
            go_ret
            exact ⟨by rw [HY.out (by simp)]; rfl, below_drewN HB0.out _⟩
          · have hq : (label2 == label) = false := by rw [beq_eq_false_iff_ne]; exact he
            go_upto_region 7 with fail
            go_quiet (fail)
            go_wp2
            go_roundw
            case rel => exact ⟨j + 1, by go_num, by omega, below_drewN HB0.out _, HG.out (by simp [hq])⟩
            case measure => simp [intOf]; omega
      · have hdk : ¬ (j : Int) < (k : Int) := by omega
        rw [any_no fun i hi h => hno i hi (by omega)] at HFl
        simp only [Bool.false_eq_true, if_false] at HFl
        clear hno
        cases hm : misD ds ⟨label, true, name, fields, words, false⟩ with
        | true =>
          rw [hm] at HU
          have HV : Hid (fltD ds ⟨label, true, name, fields, words, false⟩ k ah = 72) := hide (by rw [HFl.out]; simp [hm])
          go_wp2_with (refine loadT Tryd.underlying42 rfl [.string ⟨label.toArray⟩, .bool true, .string ⟨name.toArray⟩, .slice fo fields.length c, .int .i64 words, .bool false] (by kernel_rfl) rfl _ rfl (a.add (k * 6)) rfl HA.out ?_)
          refine (HU.out _ HB0.out).mono ?_
          rintro e w1 ⟨rfl, HB9⟩
          have HB1 := HB0.out.trans (HB9.mono HB0.out.size)
          clear HB9
          go_wp2
          go_ret
          exact ⟨by rw [HV.out]; rfl, HB1⟩
        | false =>
          rw [hm] at HU
          have HV : Hid (fltD ds ⟨label, true, name, fields, words, false⟩ k ah = if 512 < ah + words then 2 else 0) := hide (by rw [HFl.out]; simp [hm])
          go_wp2_with (refine loadT Tryd.underlying42 rfl [.string ⟨label.toArray⟩, .bool true, .string ⟨name.toArray⟩, .slice fo fields.length c, .int .i64 words, .bool false] (by kernel_rfl) rfl _ rfl (a.add (k * 6)) rfl HA.out ?_)
          refine (HU.out _ HB0.out).mono ?_
          rintro e w1 ⟨rfl, HB9⟩
          have HB1 := HB0.out.trans (HB9.mono HB0.out.size)
          clear HB9
          have q4' : w1.cell? ⟨(a.add (k * 6)).block, (a.add (k * 6)).off + 4, none⟩ = some (.int .i64 words) := by rw [HB1.cell (cell_blk q4w.out)]; exact q4w.out
          have HB2 := hide HB1
          clear HB1 HA HU
          by_cases hg : 512 < ah + words
          · rw [if_pos hg] at HV
            go_wp2
            go_ret
            exact ⟨by rw [HV.out]; rfl, HB2.out⟩
          · rw [if_neg hg] at HV
            go_wp2
            go_ret
            exact ⟨by rw [HV.out]; rfl, HB2.out⟩
end
end Go.Proofs.YtbfagiofhakjnaaDoor

namespace Go.Proofs.YtbfagiofhakjnaaDoor
open Go.RowKit
theorem adrD_bound {ds : List Dl} (hl : ds.length ≤ 16385) (hw : ∀ k, k ≤ ds.length → 0 ≤ ahdD ds k ∧ ahdD ds k ≤ 512 * k) (s : Tx) : -1 ≤ adrD ds s ∧ adrD ds s ≤ 8389120 := by
  unfold adrD
  cases h : fstD ds s with
  | none => simp
  | some j =>
    obtain ⟨h1, _⟩ := List.findIdx?_eq_some_iff_getElem.1 h
    have := hw j (by omega)
    simp
    omega
theorem ret_u32 {x y : Int} (h : x = y) : Ending.returned (.int .u32 x) = .returned (.int .u32 y) := by rw [h]
theorem tmod_eq (z : Int) : (wrap64 (z.tmod 4294967296 + 4294967296)).tmod 4294967296 % 4294967296 = z % 4294967296 := by
  obtain ⟨t, ht⟩ : ∃ t, z.tmod 4294967296 = t := ⟨_, rfl⟩
  obtain ⟨q, hq⟩ : ∃ q, z.tdiv 4294967296 = q := ⟨_, rfl⟩
  have h1 := Int.tmod_add_mul_tdiv z 4294967296
  have h2 := Int.tmod_lt_of_pos z (show (0 : Int) < 4294967296 by decide)
  have h3 : -4294967296 < z.tmod 4294967296 := by
    have := Int.lt_tmod_of_pos z (show (0 : Int) < 4294967296 by decide)
    omega
  rw [ht] at h1 h2 h3 ⊢
  rw [hq] at h1
  have e : wrap64 (t + 4294967296) = t + 4294967296 := by
    unfold wrap64; omega
  rw [e, Int.tmod_eq_emod_of_nonneg (by omega)]
  omega
section
variable (w : World)
theorem wordD_any (z : Int) : Calls Tryd.prog 25 #[.int .i64 z] w fun e w' => e = .returned (.int .u32 (z % 4294967296)) ∧ w' = w := by
  go_enter Tryd.func25, Tryd.ntmps25
  go_wp2
  go_ret
  exact ⟨ret_u32 (tmod_eq z), rfl⟩
theorem renc_any (i : I) : Calls Tryd.prog 28 #[.agg i.cells.toArray] w fun e w' => e = .returned (.tuple #[.int .u32 (encW i : Nat), .int .i64 (encE i)]) ∧ Below w.heap.size w w' := by
  cases h : isI i with
  | true =>
    rw [show encW i = word i by unfold encW; rw [h]; rfl, show encE i = 0 by unfold encE; rw [h]; rfl]
    exact renc_yes w i h
  | false =>
    rw [show encW i = 0 by unfold encW; rw [h]; rfl, show encE i = 70 by unfold encE; rw [h]; rfl]
    exact renc_no w i h
end
theorem enc_step {w1 W2 : World} {Q : Ending → World → Prop} (i : I) (hb : Below w1.heap.size w1 W2) (h : ∀ w5, Below w1.heap.size w1 w5 → Q (.returned (.tuple #[.int .u32 (encW i : Nat), .int .i64 (encE i)])) w5) : Calls Tryd.prog 28 #[.agg i.cells.toArray] W2 Q :=
  (renc_any W2 i).mono fun e w' ⟨he, hb'⟩ => by subst he; exact h w' (hb.trans (hb'.mono hb.size))
section
variable (w : World)
set_option maxRecDepth 100000 in
set_option maxHeartbeats 4000000 in
theorem put_zip (ds : List Dl) (ao : Option Addr) (cap : Nat) (d : Dl) (fo : Option Addr) (c : Nat) (ws : List Nat) (v : Value) (base : Nat) (at' : Int) (h0 : d.words = 0) (hO : w.ownsRow base 46 1 v ws.length (wds ws)) (hB : base ≤ w.heap.size) : Calls Tryd.prog 14 #[v, .slice ao ds.length cap, .agg (dlL d fo c).toArray, .int .i64 at'] w fun e w' => ∃ v', e = .returned v' ∧ w'.ownsRow base 46 1 v' ws.length (wds ws) ∧ Below base w w' := by
  have HB : Hid (Below w.heap.size w (w.alloc (.cells (dlL d fo c).toArray 42))) := hide (bel1 _ _)
  have HO := hide (own_keep hO HB.out)
  have q4 := cells_new w (dlL d fo c) 42 4 _ rfl
  rw [addr4] at q4
  clear hO
  obtain ⟨label, lab, name, fields, words, bad⟩ := d
  simp only at h0
  subst h0
  simp only [dlL] at *
  go_enter Tryd.func14, Tryd.ntmps14
  go_wp2
  go_ret
  exact ⟨_, rfl, HO.out, HB.out.mono hB⟩
set_option maxRecDepth 100000 in
set_option maxHeartbeats 4000000 in
theorem put_word (ds : List Dl) (ao : Option Addr) (cap : Nat) (d : Dl) (fo : Option Addr) (c : Nat) (ws : List Nat) (v : Value) (base : Nat) (at' : Int) (f : Tx) (hnm : d.name = [46, 119, 111, 114, 100]) (hfs : d.fields = [f]) (hf : f.length ≤ 16384) (h1 : d.words = 1) (hn : ws.length ≤ 512) (hl : ds.length ≤ 16385) (hw : ∀ k, k ≤ ds.length → 0 ≤ ahdD ds k ∧ ahdD ds k ≤ 512 * k) (hR : DRow w ao ds) (hS : SR w fo d.fields) (hO : w.ownsRow base 46 1 v ws.length (wds ws)) (hB : base ≤ w.heap.size) : Calls Tryd.prog 14 #[v, .slice ao ds.length cap, .agg (dlL d fo c).toArray, .int .i64 at'] w fun e w' => ∃ v', e = .returned v' ∧ w'.ownsRow base 46 1 v' (ws.length + 1) (wds ws ++ [.int .u32 ((((numT f).getD (adrD ds f)) % 4294967296))]) ∧ Below base w w' := by
  obtain ⟨i9, hi, hz, hsz, hb⟩ := info_w
  have HB : Hid (Below w.heap.size w (w.alloc (.cells (dlL d fo c).toArray 42))) := hide (bel1 _ _)
  have HO := hide (own_keep hO HB.out)
  have q2 := cells_new w (dlL d fo c) 42 2 _ rfl
  have q3 := cells_new w (dlL d fo c) 42 3 _ rfl
  have q4 := cells_new w (dlL d fo c) 42 4 _ rfl
  rw [addr2] at q2
  rw [addr3] at q3
  rw [addr4] at q4
  have hS1 := hS.below HB.out
  have HVv := hide (value_any (w.alloc (.cells (dlL d fo c).toArray 42)) f hf)
  have HAd := hide (address_any (w.alloc (.cells (dlL d fo c).toArray 42)) ds ao cap f hl hw (hR.below HB.out))
  have HB1 := hide (HB.out.mono hB)
  have hs1 : base ≤ (w.alloc (.cells (dlL d fo c).toArray 42)).heap.size := by simp; omega
  obtain ⟨au, cu, rfl⟩ := own_shape hO
  clear hO hS hR hw HB
  obtain ⟨label, lab, name, fields, words, bad⟩ := d
  simp only at h1 hnm hfs
  subst h1; subst hnm; subst hfs
  obtain ⟨x, rfl, c0⟩ := hS1 0 (by simp)
  rw [addr0] at c0
  clear hS1
  simp only [dlL, List.length_singleton, List.getElem_cons_zero] at *
  cases hm : numT f with
  | some z =>
    rw [hm] at HVv
    clear hm HAd
    go_enter Tryd.func14, Tryd.ntmps14
    go_wp2_with fail
    refine HVv.out.mono ?_
    rintro e w1 ⟨rfl, rfl⟩
    go_wp2_with fail
    refine HVv.out.mono ?_
    rintro e w1 ⟨rfl, rfl⟩
    go_wp2_with fail
    refine (wordD_any _ _).mono ?_
    rintro e w1 ⟨rfl, rfl⟩
    clear HVv c0 q2 q3 q4
    try clear HAd
    generalize w.alloc (.cells #[.string ⟨label.toArray⟩, .bool lab, .string ⟨#[46, 119, 111, 114, 100]⟩, .slice (some x) 1 c, .int .i64 1, .bool bad] 42) = W at *
    go_wp2_with (at_builtin; refine wpList_append_own _ rfl _ _ 22 rfl base 46 i9 (.int .u32 0) 1 4 Tryd.underlying22 hi hz hsz hb rfl (by decide) _ _ _ rfl (HO.out.alloc _) ⟨_, 0, none⟩ 1 1 [.int .u32 (z % 4294967296)] rfl rfl (cell_one_new _ _ _) (by simp [Value.oneCell']) (by unfold maxLen; omega) (by omega) (by simp; omega) ?_; intro v3 w3 ho3 hg3 _; obtain ⟨a3, c3, rfl⟩ := own_shape ho3)
    go_ret
    exact ⟨_, rfl, ho3, (HB1.out.alloc hs1 _).grown hg3 (by simp; omega) (fun k hk => (HO.out.lt k hk).1)⟩
  | none =>
    rw [hm] at HVv
    clear hm
    go_enter Tryd.func14, Tryd.ntmps14
    go_wp2_with fail
    refine HVv.out.mono ?_
    rintro e w1 ⟨rfl, rfl⟩
    go_wp2_with fail
    refine HAd.out.mono ?_
    rintro e w1 ⟨rfl, rfl⟩
    go_wp2_with fail
    refine HVv.out.mono ?_
    rintro e w1 ⟨rfl, rfl⟩
    go_wp2_with fail
    refine (wordD_any _ _).mono ?_
    rintro e w1 ⟨rfl, rfl⟩
    clear HVv c0 q2 q3 q4
    try clear HAd
    generalize w.alloc (.cells #[.string ⟨label.toArray⟩, .bool lab, .string ⟨#[46, 119, 111, 114, 100]⟩, .slice (some x) 1 c, .int .i64 1, .bool bad] 42) = W at *
    go_wp2_with (at_builtin; refine wpList_append_own _ rfl _ _ 22 rfl base 46 i9 (.int .u32 0) 1 4 Tryd.underlying22 hi hz hsz hb rfl (by decide) _ _ _ rfl (HO.out.alloc _) ⟨_, 0, none⟩ 1 1 [.int .u32 (adrD ds f % 4294967296)] rfl rfl (cell_one_new _ _ _) (by simp [Value.oneCell']) (by unfold maxLen; omega) (by omega) (by simp; omega) ?_; intro v3 w3 ho3 hg3 _; obtain ⟨a3, c3, rfl⟩ := own_shape ho3)
    go_ret
    exact ⟨_, rfl, ho3, (HB1.out.alloc hs1 _).grown hg3 (by simp; omega) (fun k hk => (HO.out.lt k hk).1)⟩
end
end Go.Proofs.YtbfagiofhakjnaaDoor
