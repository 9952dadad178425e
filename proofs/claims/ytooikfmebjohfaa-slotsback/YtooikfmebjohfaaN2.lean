import Derived.Test.YtooikfmebjohfaaN1
namespace Go.Proofs.Ytooikfmebjohfaa
open Go.RowKit

theorem hid_int {c n : Nat} (h : c = n) : Hid (Value.int .i64 (n : Int) = Value.int .i64 (c : Int)) := by rw [h]; exact rfl
theorem hid_int1 {c n : Nat} (h : c = n + 1) : Hid (Value.int .i64 ((n : Int) + 1) = Value.int .i64 (c : Int)) := by rw [h]; exact rfl
theorem step_none (A : Nat → Int) (i : Nat) (ks : List Int) (hn : ks.Nodup) (h : A i ∉ ks) : ks.countP (sn A (i + 1)) = ks.countP (sn A i) := by
  rw [count_step A i ks hn, if_neg (fun e => h e.1)]; rfl
theorem step_seen (A : Nat → Int) (i : Nat) (ks : List Int) (hn : ks.Nodup) (h : sn A i (A i) = true) : ks.countP (sn A (i + 1)) = ks.countP (sn A i) := by
  rw [count_step A i ks hn, if_neg (fun e => by rw [h] at e; cases e.2)]; rfl
theorem step_new (A : Nat → Int) (i : Nat) (ks : List Int) (hn : ks.Nodup) (hm : A i ∈ ks) (h : sn A i (A i) = false) : ks.countP (sn A (i + 1)) = ks.countP (sn A i) + 1 := by
  rw [count_step A i ks hn, if_pos ⟨hm, h⟩]
theorem atK_mem {qs : List (Int × Int)} (hn : (qs.map Prod.fst).Nodup) {a b : Int} (h : (a, b) ∈ qs) : atK KI64 qs a = some b := by
  cases hq : atK KI64 qs a with
  | none => exact absurd (List.mem_map.2 ⟨_, h, rfl⟩) (atK_none key_int hq)
  | some b' =>
    have h2 := atK_some key_int hq
    obtain ⟨i, hi⟩ := List.getElem?_of_mem h
    obtain ⟨j, hj⟩ := List.getElem?_of_mem h2
    have e1 := idx_of key_int (qs.map Prod.fst) i a hn (by simp [hi])
    have e2 := idx_of key_int (qs.map Prod.fst) j a hn (by simp [hj])
    rw [e1] at e2
    cases e2
    rw [hi] at hj
    cases hj
    rfl
theorem back_of {ps : List (Int × Int)} (hn : (ps.map Prod.snd).Nodup) {a b : Int} (h : atK KI64 ps a = some b) : atK KI64 (ps.map Prod.swap) b = some a :=
  atK_mem (by rw [swap_keys]; exact hn) (List.mem_map.2 ⟨_, atK_some key_int h, rfl⟩)
theorem to_of {ps : List (Int × Int)} (hn : (ps.map Prod.fst).Nodup) {a b : Int} (h : atK KI64 (ps.map Prod.swap) b = some a) : atK KI64 ps a = some b := by
  obtain ⟨p, hp, e⟩ := List.mem_map.1 (atK_some key_int h)
  cases p with
  | mk x y => cases e; exact atK_mem hn hp
set_option maxRecDepth 8000 in
set_option maxHeartbeats 3200000 in
theorem oneToOne_any (w wa : World) (F : Nat → Prop) (B : Nat) (ps : List (Int × Int)) (hT : Tie 82 KI64 wa F B ps) (a1 : Option Addr) (len cap : Nat) (Z : Nat → Int × Int × Int × Int) (hlen : len ≤ maxLen) (hv : Quads w a1 len Z) (hb : Below w.heap.size w wa)
    (hps : ps.length ≤ len) (hA : ∀ k ∈ ps.map Prod.fst, sn (fun k => (Z k).2.2.1) len k = true) (hBB : ∀ k ∈ ps.map Prod.snd, sn (fun k => (Z k).2.2.2) len k = true) :
    Calls Try.prog 27 #[.pointer (some ⟨B, 0, none⟩), .slice a1 len cap] wa fun e w' => e = .returned (.bool true) ∧ Below wa.heap.size wa w' := by
  have hl2 : len ≤ 9223372036854775807 := by unfold maxLen at hlen; omega
  have HLn := hide hlen
  have HV := hide hv
  have HBl := hide hb
  have HTa := hide hT
  have HD1 := hide (show (ps.map Prod.fst).Nodup by obtain ⟨r1, r2, h⟩ := hT; exact h.nd1)
  have HD2 := hide (show (ps.map Prod.snd).Nodup by obtain ⟨r1, r2, h⟩ := hT; exact h.nd2)
  have HCA := hide (count_all (fun k => (Z k).2.2.1) len (ps.map Prod.fst) hA)
  have HCB := hide (count_all (fun k => (Z k).2.2.2) len (ps.map Prod.snd) hBB)
  clear hT hv hb hA hBB hlen
  go_enter Try.func27, Try.ntmps27
  go_wp2
  go_loopw [5, 6, 7] (fun v5 v6 v7 wr => ∃ i : Nat, i ≤ len ∧ v7 = .int .i64 i ∧ Hid (v5 = .int .i64 ((ps.map Prod.fst).countP (sn (fun k => (Z k).2.2.1) i) : Nat)) ∧ Hid (v6 = .int .i64 ((ps.map Prod.snd).countP (sn (fun k => (Z k).2.2.2) i) : Nat)) ∧ Below wa.heap.size wa wr) (fun _ _ v7 _ => len - (intOf v7).toNat)
  case atStart => exact ⟨0, by omega, rfl, by rw [count_zero]; rfl, by rw [count_zero]; rfl, Below.refl _ _⟩
  case round =>
    obtain ⟨i, hi, rfl, H5, H6, hbr⟩ := hrel
    have e5 := H5.out
    have e6 := H6.out
    obtain ⟨n0, hn0⟩ : ∃ n0, (ps.map Prod.fst).countP (sn (fun k => (Z k).2.2.1) i) = n0 := ⟨_, rfl⟩
    obtain ⟨m0, hm0⟩ : ∃ m0, (ps.map Prod.snd).countP (sn (fun k => (Z k).2.2.2) i) = m0 := ⟨_, rfl⟩
    have HN0 := hide hn0
    have HM0 := hide hm0
    rw [hn0] at e5
    rw [hm0] at e6
    subst e5 e6
    clear H5 H6 hn0 hm0
    by_cases hil : i < len
    · have hbw := HBl.out.trans (hbr.mono HBl.out.size)
      obtain ⟨x, hx, _, _, e2, e3⟩ := HV.out.at hbw hil
      subst hx
      have HT1 := hide (HTa.out.below hbr)
      have hii : (i : Int) < (len : Int) := by omega
      go_wp2_with fail
      refine (toB_any _ F B ps HT1.out (Z i).2.2.1).mono ?_
      rintro e wz ⟨rfl, rfl⟩
      cases hqa : atK KI64 ps (Z i).2.2.1 with
      | none =>
        have HNA := hide (step_none (fun k => (Z k).2.2.1) i (ps.map Prod.fst) HD1.out (atK_none key_int hqa) |>.trans HN0.out)
        clear hqa
        simp only [Option.getD_none, Option.isSome_none]
        go_wp2_with fail
        refine (backB_any _ F B ps HT1.out (Z i).2.2.2).mono ?_
        rintro e wb ⟨rfl, rfl⟩
        cases hqb : atK KI64 (ps.map Prod.swap) (Z i).2.2.2 with
        | none =>
          have HNB := hide (step_none (fun k => (Z k).2.2.2) i (ps.map Prod.snd) HD2.out (by rw [← swap_keys]; exact atK_none key_int hqb) |>.trans HM0.out)
          clear hqb
          simp only [Option.getD_none, Option.isSome_none]
          go_wp2
          go_roundw
          case rel =>
            first
              | exact ⟨i + 1, by omega, by go_num, (by first | exact hid_int HNA.out | exact hid_int1 HNA.out), (by first | exact hid_int HNB.out | exact hid_int1 HNB.out), hbr⟩
              | ((repeat apply Exists.intro); refine ⟨?_, rfl⟩; exact ⟨i + 1, by omega, by go_num, (by first | exact hid_int HNA.out | exact hid_int1 HNA.out), (by first | exact hid_int HNB.out | exact hid_int1 HNB.out), hbr⟩)
          case measure => simp [intOf]; omega
        | some ab =>
          have HA2 := hide (to_of HD1.out hqb)
          have hmem : (Z i).2.2.2 ∈ ps.map Prod.snd := by rw [← swap_keys]; exact List.mem_map.2 ⟨_, atK_some key_int hqb, rfl⟩
          have HM2 := hide hmem
          clear hqb hmem
          simp only [Option.getD_some, Option.isSome_some]
          go_wp2_with fail
          refine (toB_any _ F B ps HT1.out ab).mono ?_
          rintro e wc ⟨rfl, rfl⟩
          rw [HA2.out]
          simp only [Option.getD_some, Option.isSome_some]
          go_wp2_with fail
          refine (firstB_any w _ (some x) len cap Z HLn.out HV.out (HBl.out.trans (hbr.mono HBl.out.size)) i hil).mono ?_
          rintro e wd ⟨rfl, hbd⟩
          have HBd := hide (hbr.trans (hbd.mono (hbr).size))
          clear hbd
          cases hsb : sn (fun k => (Z k).2.2.2) i (Z i).2.2.2 with
          | true =>
            have HNB := hide ((step_seen (fun k => (Z k).2.2.2) i (ps.map Prod.snd) HD2.out hsb).trans HM0.out)
            clear hsb
            simp only [Bool.not_true]
            go_wp2
            go_roundw
            case rel =>
              first
                | exact ⟨i + 1, by omega, by go_num, (by first | exact hid_int HNA.out | exact hid_int1 HNA.out), (by first | exact hid_int HNB.out | exact hid_int1 HNB.out), HBd.out⟩
                | ((repeat apply Exists.intro); refine ⟨?_, rfl⟩; exact ⟨i + 1, by omega, by go_num, (by first | exact hid_int HNA.out | exact hid_int1 HNA.out), (by first | exact hid_int HNB.out | exact hid_int1 HNB.out), HBd.out⟩)
            case measure => simp [intOf]; omega
          | false =>
            have HNB := hide ((step_new (fun k => (Z k).2.2.2) i (ps.map Prod.snd) HD2.out HM2.out hsb).trans (by rw [HM0.out]))
            have hmb : m0 + 1 ≤ 9223372036854775807 := by
              have h1 := HNB.out
              have h2 : (ps.map Prod.snd).countP (sn (fun k => (Z k).2.2.2) (i + 1)) ≤ (ps.map Prod.snd).length := List.countP_le_length
              rw [List.length_map] at h2
              omega
            clear hsb
            simp only [Bool.not_false]
            go_wp2
            go_roundw
            case rel =>
              first
                | exact ⟨i + 1, by omega, by go_num, (by first | exact hid_int HNA.out | exact hid_int1 HNA.out), (by first | exact hid_int HNB.out | exact hid_int1 HNB.out), HBd.out⟩
                | ((repeat apply Exists.intro); refine ⟨?_, rfl⟩; exact ⟨i + 1, by omega, by go_num, (by first | exact hid_int HNA.out | exact hid_int1 HNA.out), (by first | exact hid_int HNB.out | exact hid_int1 HNB.out), HBd.out⟩)
            case measure => simp [intOf]; omega
      | some bb =>
        have HA1 := hide (back_of HD2.out hqa)
        have HM1 := hide (show (Z i).2.2.1 ∈ ps.map Prod.fst from List.mem_map.2 ⟨_, atK_some key_int hqa, rfl⟩)
        clear hqa
        simp only [Option.getD_some, Option.isSome_some]
        go_wp2_with fail
        refine (backB_any _ F B ps HT1.out bb).mono ?_
        rintro e wy ⟨rfl, rfl⟩
        rw [HA1.out]
        simp only [Option.getD_some, Option.isSome_some]
        go_wp2_with fail
        refine (firstA_any w _ (some x) len cap Z HLn.out HV.out (HBl.out.trans (hbr.mono HBl.out.size)) i hil).mono ?_
        rintro e wv ⟨rfl, hbv⟩
        have HBv := hide (hbr.trans (hbv.mono hbr.size))
        have HTv := hide (HTa.out.below HBv.out)
        obtain ⟨x', hx', _, _, e2', e3'⟩ := HV.out.at (HBl.out.trans (HBv.out.mono HBl.out.size)) hil
        cases hx'
        clear hbv
        cases hsa : sn (fun k => (Z k).2.2.1) i (Z i).2.2.1 with
        | true =>
          have HNA := hide ((step_seen (fun k => (Z k).2.2.1) i (ps.map Prod.fst) HD1.out hsa).trans HN0.out)
          clear hsa
          simp only [Bool.not_true]
          go_wp2_with fail
          refine (backB_any _ F B ps HTv.out (Z i).2.2.2).mono ?_
          rintro e wb ⟨rfl, rfl⟩
          cases hqb : atK KI64 (ps.map Prod.swap) (Z i).2.2.2 with
          | none =>
            have HNB := hide (step_none (fun k => (Z k).2.2.2) i (ps.map Prod.snd) HD2.out (by rw [← swap_keys]; exact atK_none key_int hqb) |>.trans HM0.out)
            clear hqb
            simp only [Option.getD_none, Option.isSome_none]
            go_wp2
            go_roundw
            case rel =>
              first
                | exact ⟨i + 1, by omega, by go_num, (by first | exact hid_int HNA.out | exact hid_int1 HNA.out), (by first | exact hid_int HNB.out | exact hid_int1 HNB.out), HBv.out⟩
                | ((repeat apply Exists.intro); refine ⟨?_, rfl⟩; exact ⟨i + 1, by omega, by go_num, (by first | exact hid_int HNA.out | exact hid_int1 HNA.out), (by first | exact hid_int HNB.out | exact hid_int1 HNB.out), HBv.out⟩)
            case measure => simp [intOf]; omega
          | some ab =>
            have HA2 := hide (to_of HD1.out hqb)
            have hmem : (Z i).2.2.2 ∈ ps.map Prod.snd := by rw [← swap_keys]; exact List.mem_map.2 ⟨_, atK_some key_int hqb, rfl⟩
            have HM2 := hide hmem
            clear hqb hmem
            simp only [Option.getD_some, Option.isSome_some]
            go_wp2_with fail
            refine (toB_any _ F B ps HTv.out ab).mono ?_
            rintro e wc ⟨rfl, rfl⟩
            rw [HA2.out]
            simp only [Option.getD_some, Option.isSome_some]
            go_wp2_with fail
            refine (firstB_any w _ (some x) len cap Z HLn.out HV.out (HBl.out.trans (HBv.out.mono HBl.out.size)) i hil).mono ?_
            rintro e wd ⟨rfl, hbd⟩
            have HBd := hide (HBv.out.trans (hbd.mono (HBv.out).size))
            clear hbd
            cases hsb : sn (fun k => (Z k).2.2.2) i (Z i).2.2.2 with
            | true =>
              have HNB := hide ((step_seen (fun k => (Z k).2.2.2) i (ps.map Prod.snd) HD2.out hsb).trans HM0.out)
              clear hsb
              simp only [Bool.not_true]
              go_wp2
              go_roundw
              case rel =>
                first
                  | exact ⟨i + 1, by omega, by go_num, (by first | exact hid_int HNA.out | exact hid_int1 HNA.out), (by first | exact hid_int HNB.out | exact hid_int1 HNB.out), HBd.out⟩
                  | ((repeat apply Exists.intro); refine ⟨?_, rfl⟩; exact ⟨i + 1, by omega, by go_num, (by first | exact hid_int HNA.out | exact hid_int1 HNA.out), (by first | exact hid_int HNB.out | exact hid_int1 HNB.out), HBd.out⟩)
              case measure => simp [intOf]; omega
            | false =>
              have HNB := hide ((step_new (fun k => (Z k).2.2.2) i (ps.map Prod.snd) HD2.out HM2.out hsb).trans (by rw [HM0.out]))
              have hmb : m0 + 1 ≤ 9223372036854775807 := by
                have h1 := HNB.out
                have h2 : (ps.map Prod.snd).countP (sn (fun k => (Z k).2.2.2) (i + 1)) ≤ (ps.map Prod.snd).length := List.countP_le_length
                rw [List.length_map] at h2
                omega
              clear hsb
              simp only [Bool.not_false]
              go_wp2
              go_roundw
              case rel =>
                first
                  | exact ⟨i + 1, by omega, by go_num, (by first | exact hid_int HNA.out | exact hid_int1 HNA.out), (by first | exact hid_int HNB.out | exact hid_int1 HNB.out), HBd.out⟩
                  | ((repeat apply Exists.intro); refine ⟨?_, rfl⟩; exact ⟨i + 1, by omega, by go_num, (by first | exact hid_int HNA.out | exact hid_int1 HNA.out), (by first | exact hid_int HNB.out | exact hid_int1 HNB.out), HBd.out⟩)
              case measure => simp [intOf]; omega
        | false =>
          have HNA := hide ((step_new (fun k => (Z k).2.2.1) i (ps.map Prod.fst) HD1.out HM1.out hsa).trans (by rw [HN0.out]))
          have hna : n0 + 1 ≤ 9223372036854775807 := by
            have h1 := HNA.out
            have h2 : (ps.map Prod.fst).countP (sn (fun k => (Z k).2.2.1) (i + 1)) ≤ (ps.map Prod.fst).length := List.countP_le_length
            rw [List.length_map] at h2
            omega
          clear hsa
          simp only [Bool.not_false]
          go_wp2_with fail
          refine (backB_any _ F B ps HTv.out (Z i).2.2.2).mono ?_
          rintro e wb ⟨rfl, rfl⟩
          cases hqb : atK KI64 (ps.map Prod.swap) (Z i).2.2.2 with
          | none =>
            have HNB := hide (step_none (fun k => (Z k).2.2.2) i (ps.map Prod.snd) HD2.out (by rw [← swap_keys]; exact atK_none key_int hqb) |>.trans HM0.out)
            clear hqb
            simp only [Option.getD_none, Option.isSome_none]
            go_wp2
            go_roundw
            case rel =>
              first
                | exact ⟨i + 1, by omega, by go_num, (by first | exact hid_int HNA.out | exact hid_int1 HNA.out), (by first | exact hid_int HNB.out | exact hid_int1 HNB.out), HBv.out⟩
                | ((repeat apply Exists.intro); refine ⟨?_, rfl⟩; exact ⟨i + 1, by omega, by go_num, (by first | exact hid_int HNA.out | exact hid_int1 HNA.out), (by first | exact hid_int HNB.out | exact hid_int1 HNB.out), HBv.out⟩)
            case measure => simp [intOf]; omega
          | some ab =>
            have HA2 := hide (to_of HD1.out hqb)
            have hmem : (Z i).2.2.2 ∈ ps.map Prod.snd := by rw [← swap_keys]; exact List.mem_map.2 ⟨_, atK_some key_int hqb, rfl⟩
            have HM2 := hide hmem
            clear hqb hmem
            simp only [Option.getD_some, Option.isSome_some]
            go_wp2_with fail
            refine (toB_any _ F B ps HTv.out ab).mono ?_
            rintro e wc ⟨rfl, rfl⟩
            rw [HA2.out]
            simp only [Option.getD_some, Option.isSome_some]
            go_wp2_with fail
            refine (firstB_any w _ (some x) len cap Z HLn.out HV.out (HBl.out.trans (HBv.out.mono HBl.out.size)) i hil).mono ?_
            rintro e wd ⟨rfl, hbd⟩
            have HBd := hide (HBv.out.trans (hbd.mono (HBv.out).size))
            clear hbd
            cases hsb : sn (fun k => (Z k).2.2.2) i (Z i).2.2.2 with
            | true =>
              have HNB := hide ((step_seen (fun k => (Z k).2.2.2) i (ps.map Prod.snd) HD2.out hsb).trans HM0.out)
              clear hsb
              simp only [Bool.not_true]
              go_wp2
              go_roundw
              case rel =>
                first
                  | exact ⟨i + 1, by omega, by go_num, (by first | exact hid_int HNA.out | exact hid_int1 HNA.out), (by first | exact hid_int HNB.out | exact hid_int1 HNB.out), HBd.out⟩
                  | ((repeat apply Exists.intro); refine ⟨?_, rfl⟩; exact ⟨i + 1, by omega, by go_num, (by first | exact hid_int HNA.out | exact hid_int1 HNA.out), (by first | exact hid_int HNB.out | exact hid_int1 HNB.out), HBd.out⟩)
              case measure => simp [intOf]; omega
            | false =>
              have HNB := hide ((step_new (fun k => (Z k).2.2.2) i (ps.map Prod.snd) HD2.out HM2.out hsb).trans (by rw [HM0.out]))
              have hmb : m0 + 1 ≤ 9223372036854775807 := by
                have h1 := HNB.out
                have h2 : (ps.map Prod.snd).countP (sn (fun k => (Z k).2.2.2) (i + 1)) ≤ (ps.map Prod.snd).length := List.countP_le_length
                rw [List.length_map] at h2
                omega
              clear hsb
              simp only [Bool.not_false]
              go_wp2
              go_roundw
              case rel =>
                first
                  | exact ⟨i + 1, by omega, by go_num, (by first | exact hid_int HNA.out | exact hid_int1 HNA.out), (by first | exact hid_int HNB.out | exact hid_int1 HNB.out), HBd.out⟩
                  | ((repeat apply Exists.intro); refine ⟨?_, rfl⟩; exact ⟨i + 1, by omega, by go_num, (by first | exact hid_int HNA.out | exact hid_int1 HNA.out), (by first | exact hid_int HNB.out | exact hid_int1 HNB.out), HBd.out⟩)
              case measure => simp [intOf]; omega
    · obtain rfl : i = len := by omega
      have HT1 := hide (HTa.out.below hbr)
      have hn : n0 = ps.length := by rw [← HN0.out, HCA.out]; simp
      have hm : m0 = ps.length := by rw [← HM0.out, HCB.out]; simp
      subst hn hm
      clear HN0 HM0 HCA HCB
      generalize hpl : ps.length = pl at *
      have HPL := hide hpl
      clear hpl
      go_wp2_with fail
      refine (lenB_any _ F B ps HT1.out).mono ?_
      rintro e wq ⟨rfl, rfl⟩
      rw [HPL.out]
      go_wp2
      go_ret
      exact ⟨rfl, hbr⟩
end Go.Proofs.Ytooikfmebjohfaa
