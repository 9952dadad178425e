import Derived.Test.YtooikfmebjohfaaN2
namespace Go.Proofs.Ytooikfmebjohfaa
open Go.RowKit

theorem gone {ps : List (Int × Int)} {i : Nat} {a b : Int} (hn : (ps.map Prod.fst).Nodup) (hi : ps[i]? = some (a, b)) : atK KI64 (ps.eraseIdx i) a = none := by
  cases hq : atK KI64 (ps.eraseIdx i) a with
  | none => rfl
  | some b' =>
    exfalso
    have h1 : a ∈ (ps.map Prod.fst).eraseIdx i := by rw [erase_map]; exact List.mem_map.2 ⟨_, atK_some key_int hq, rfl⟩
    have hg : (ps.map Prod.fst)[i]? = some a := by simp [hi]
    obtain ⟨hl, e⟩ := List.getElem?_eq_some_iff.1 hg
    rw [List.eraseIdx_eq_take_drop_succ] at h1
    have h2 : (ps.map Prod.fst) = (ps.map Prod.fst).take i ++ a :: (ps.map Prod.fst).drop (i + 1) := by
      rw [← e, ← List.drop_eq_getElem_cons hl, List.take_append_drop]
    rw [h2] at hn
    have h3 := List.nodup_append.1 hn
    rcases List.mem_append.1 h1 with h | h
    · exact h3.2.2 a h a (by simp) rfl
    · exact (List.nodup_cons.1 h3.2.1).1 h
theorem len_erase {ps : List (Int × Int)} {i : Nat} {p : Int × Int} (hi : ps[i]? = some p) : (ps.eraseIdx i).length + 1 = ps.length := by
  have := (List.getElem?_eq_some_iff.1 hi).1
  rw [List.length_eraseIdx]; simp [this]; omega
theorem snoc_to {ps : List (Int × Int)} {a b : Int} (h : atK KI64 ps a = none) : atK KI64 (ps ++ [(a, b)]) a = some b := by
  unfold atK at h ⊢
  rw [Option.map_eq_none_iff] at h
  rw [List.find?_append, h]
  simp [KI64]
theorem snoc_back {ps : List (Int × Int)} {a b : Int} (h : atK KI64 (ps.map Prod.swap) b = none) : atK KI64 ((ps ++ [(a, b)]).map Prod.swap) b = some a := by
  rw [List.map_append]
  exact snoc_to h
theorem sn_of (A : Nat → Int) {i n : Nat} (h : i < n) : sn A n (A i) = true := (sn_iff _ _ _).2 ⟨i, h, rfl⟩
set_option maxRecDepth 8000 in
set_option maxHeartbeats 6400000 in
theorem back_walk (a1 : Option Addr) (len cap : Nat) (Z : Nat → Int × Int × Int × Int) (w : World) (hlen : len ≤ maxLen) (hv : Quads w a1 len Z) :
    Calls Try.prog 4 #[.slice a1 len cap] w fun e w' => e = .returned (.bool true) ∧ Below w.heap.size w w' := by
  have HLn := hide hlen
  have HV := hide hv
  have hl2 : len ≤ 9223372036854775807 := by unfold maxLen at hlen; omega
  clear hv hlen
  go_enter Try.func4, Try.ntmps4
  go_wp2_with fail
  refine (tied_any _).mono ?_
  rintro e w1 ⟨rfl, hb1⟩
  have Hb1 := hide hb1
  clear hb1
  go_wp2_with fail
  refine (newB_any _).mono ?_
  rintro e w2 ⟨rfl, hT2, hb2⟩
  have HT2 := hide hT2
  have Hb2 := hide (Hb1.out.trans (hb2.mono Hb1.out.size))
  have HF := hide (show ∀ b, (fun b => b = w1.heap.size ∨ b = w1.heap.size + 1 ∨ b = w1.heap.size + 2) b → w.heap.size ≤ b by intro b hb; have := Hb1.out.size; rcases hb with hb | hb | hb <;> omega)
  clear hT2 hb2 Hb1
  generalize (fun b => b = w1.heap.size ∨ b = w1.heap.size + 1 ∨ b = w1.heap.size + 2) = F at *
  generalize w1.heap.size + 2 = B at *
  go_wp2
  go_loopw [4] (fun v wr => ∃ (i : Nat) (ps : List (Int × Int)), i ≤ len ∧ v = .int .i64 i ∧ Hid (Tie 82 KI64 wr F B ps) ∧ Hid (Below w.heap.size w wr) ∧ Hid (ps.length ≤ i) ∧ Hid (∀ k ∈ ps.map Prod.fst, sn (fun k => (Z k).2.2.1) len k = true) ∧ Hid (∀ k ∈ ps.map Prod.snd, sn (fun k => (Z k).2.2.2) len k = true)) (fun v _ => len - (intOf v).toNat)
  case atStart => exact ⟨0, [], by omega, rfl, HT2, Hb2, Nat.le_refl 0, fun k hk => by simp at hk, fun k hk => by simp at hk⟩
  case round =>
    obtain ⟨i, ps, hi, rfl, HT, Hb, HLp, HA, HB⟩ := hrel
    clear HT2 Hb2
    by_cases hil : i < len
    · obtain ⟨x, hx, e0, e1, e2, e3⟩ := HV.out.at Hb.out hil
      subst hx
      have HTa := hide (HT.out.below ((Below.refl wr.heap.size wr).alloc (Nat.le_refl _) (.cells #[.int .i64 (Z i).1, .int .i64 (Z i).2.1, .int .i64 (Z i).2.2.1, .int .i64 (Z i).2.2.2] 32)))
      have Hba := hide (Hb.out.alloc Hb.out.size (.cells #[.int .i64 (Z i).1, .int .i64 (Z i).2.1, .int .i64 (Z i).2.2.1, .int .i64 (Z i).2.2.2] 32))
      have HnF := hide (show ¬ F wr.heap.size from fun h => by obtain ⟨r1, r2, hh⟩ := HT.out; exact Nat.lt_irrefl _ (hh.lt _ h))
      have HD1 := hide (show (ps.map Prod.fst).Nodup by obtain ⟨r1, r2, h⟩ := HT.out; exact h.nd1)
      have HD2 := hide (show (ps.map Prod.snd).Nodup by obtain ⟨r1, r2, h⟩ := HT.out; exact h.nd2)
      have hpl := HLp.out
      have HLp1 := hide (show ps.length ≤ i + 1 by omega)
      obtain ⟨n, hn⟩ : ∃ n, ps.length = n := ⟨_, rfl⟩
      have HN := hide hn
      rw [hn] at hpl
      clear hn HT Hb
      go_wp2_with fail
      refine (lenB_any _ F B ps HTa.out).mono ?_
      rintro e w5 ⟨rfl, rfl⟩
      rw [HN.out]
      go_wp2_with fail
      refine (toB_any _ F B ps HTa.out (Z i).2.2.1).mono ?_
      rintro e w5 ⟨rfl, rfl⟩
      go_wp2_with fail
      refine (backB_any _ F B ps HTa.out (Z i).2.2.2).mono ?_
      rintro e w5 ⟨rfl, rfl⟩
      obtain ⟨ta, hta⟩ : ∃ ta, atK KI64 ps (Z i).2.2.1 = ta := ⟨_, rfl⟩
      obtain ⟨tb, htb⟩ : ∃ tb, atK KI64 (ps.map Prod.swap) (Z i).2.2.2 = tb := ⟨_, rfl⟩
      rw [hta, htb]
      have HTA := hide hta
      have HTB := hide htb
      clear hta htb
      have hne : ((n : Int) == (n : Int) + 1) = false := by simp; omega
      have hne2 : ((n : Int) == (n : Int) - 1) = false := by simp; omega
      go_wp2_with fail
      · refine (tieB_any _ F B ps HTa.out (Z i).2.2.1 (Z i).2.2.2).mono ?_
        rintro e w6 ⟨r, ps', rfl, hT6, hE6, h6⟩
        have HT6 := hide hT6
        have Hb6 := hide (Hba.out.trans (hE6.mod.below HF.out Hba.out.size))
        obtain ⟨l1, k0, k1, k2, k3⟩ := row4 ((hE6.mod.block wr.heap.size (by simp) HnF.out).trans (heap_alloc_new wr _))
        clear hT6 hE6
        rcases h6 with ⟨b', hq, rfl, rfl⟩ | ⟨hq, ⟨a', hq2⟩, rfl, rfl⟩ | ⟨hq, hq2, rfl, rfl⟩
        · obtain rfl : ta = some b' := HTA.out.symm.trans hq
          have HQ := hide hq
          by_cases hbb : b' = (Z i).2.2.2
          · subst hbb
            obtain rfl : tb = some (Z i).2.2.1 := HTB.out.symm.trans (back_of HD2.out hq)
            have hr : ((Z i).2.2.2 == (Z i).2.2.2) = true := by simp
            clear hq
            simp only [Option.getD_some, Option.isSome_some]
            go_wp2_with fail
            refine (toB_any _ F B ps' HT6.out (Z i).2.2.1).mono ?_
            rintro e w7 ⟨rfl, rfl⟩
            rw [HQ.out]
            simp only [Option.getD_some, Option.isSome_some]
            go_wp2_with fail
            refine (backB_any _ F B ps' HT6.out (Z i).2.2.2).mono ?_
            rintro e w7 ⟨rfl, rfl⟩
            rw [HTB.out]
            simp only [Option.getD_some, Option.isSome_some]
            go_wp2_with fail
            refine (lenB_any _ F B ps' HT6.out).mono ?_
            rintro e w7 ⟨rfl, rfl⟩
            rw [HN.out]
            go_wp2_with fail
            refine (oneToOne_any w _ F B ps' HT6.out (some x) len cap Z HLn.out HV.out Hb6.out (by have := HLp1.out; omega) HA.out HB.out).mono ?_
            rintro e w9 ⟨rfl, hb9⟩
            have HT9 := hide (HT6.out.below hb9)
            have Hb9 := hide (Hb6.out.trans (hb9.mono Hb6.out.size))
            clear hb9
            go_wp2
            go_roundw
            case rel =>
              first
                | exact ⟨i + 1, ps', by omega, by go_num, HT9, Hb9, HLp1, HA, HB⟩
                | ((repeat apply Exists.intro); refine ⟨?_, rfl⟩; exact ⟨i + 1, ps', by omega, by go_num, HT9, Hb9, HLp1, HA, HB⟩)
            case measure => simp [intOf]; omega
          · have hr : (b' == (Z i).2.2.2) = false := by simpa using hbb
            clear hq
            cases tb with
            | none =>
              simp only [Option.getD_some, Option.isSome_some, Option.getD_none, Option.isSome_none]
              go_wp2_with fail
              refine (toB_any _ F B ps' HT6.out (Z i).2.2.1).mono ?_
              rintro e w7 ⟨rfl, rfl⟩
              rw [HQ.out]
              simp only [Option.getD_some, Option.isSome_some]
              go_wp2_with fail
              refine (backB_any _ F B ps' HT6.out (Z i).2.2.2).mono ?_
              rintro e w7 ⟨rfl, rfl⟩
              rw [HTB.out]
              simp only [Option.getD_none, Option.isSome_none]
              go_wp2_with fail
              refine (lenB_any _ F B ps' HT6.out).mono ?_
              rintro e w7 ⟨rfl, rfl⟩
              rw [HN.out]
              go_wp2_with fail
              refine (oneToOne_any w _ F B ps' HT6.out (some x) len cap Z HLn.out HV.out Hb6.out (by have := HLp1.out; omega) HA.out HB.out).mono ?_
              rintro e w9 ⟨rfl, hb9⟩
              have HT9 := hide (HT6.out.below hb9)
              have Hb9 := hide (Hb6.out.trans (hb9.mono Hb6.out.size))
              clear hb9
              go_wp2
              go_roundw
              case rel =>
                first
                  | exact ⟨i + 1, ps', by omega, by go_num, HT9, Hb9, HLp1, HA, HB⟩
                  | ((repeat apply Exists.intro); refine ⟨?_, rfl⟩; exact ⟨i + 1, ps', by omega, by go_num, HT9, Hb9, HLp1, HA, HB⟩)
              case measure => simp [intOf]; omega
            | some a' =>
              simp only [Option.getD_some, Option.isSome_some]
              go_wp2_with fail
              refine (toB_any _ F B ps' HT6.out (Z i).2.2.1).mono ?_
              rintro e w7 ⟨rfl, rfl⟩
              rw [HQ.out]
              simp only [Option.getD_some, Option.isSome_some]
              go_wp2_with fail
              refine (backB_any _ F B ps' HT6.out (Z i).2.2.2).mono ?_
              rintro e w7 ⟨rfl, rfl⟩
              rw [HTB.out]
              simp only [Option.getD_some, Option.isSome_some]
              go_wp2_with fail
              refine (lenB_any _ F B ps' HT6.out).mono ?_
              rintro e w7 ⟨rfl, rfl⟩
              rw [HN.out]
              go_wp2_with fail
              refine (oneToOne_any w _ F B ps' HT6.out (some x) len cap Z HLn.out HV.out Hb6.out (by have := HLp1.out; omega) HA.out HB.out).mono ?_
              rintro e w9 ⟨rfl, hb9⟩
              have HT9 := hide (HT6.out.below hb9)
              have Hb9 := hide (Hb6.out.trans (hb9.mono Hb6.out.size))
              clear hb9
              go_wp2
              go_roundw
              case rel =>
                first
                  | exact ⟨i + 1, ps', by omega, by go_num, HT9, Hb9, HLp1, HA, HB⟩
                  | ((repeat apply Exists.intro); refine ⟨?_, rfl⟩; exact ⟨i + 1, ps', by omega, by go_num, HT9, Hb9, HLp1, HA, HB⟩)
              case measure => simp [intOf]; omega
        · obtain rfl : ta = none := HTA.out.symm.trans hq
          obtain rfl : tb = some a' := HTB.out.symm.trans hq2
          clear hq hq2
          simp only [Option.getD_some, Option.isSome_some, Option.getD_none, Option.isSome_none]
          go_wp2_with fail
          refine (toB_any _ F B ps' HT6.out (Z i).2.2.1).mono ?_
          rintro e w7 ⟨rfl, rfl⟩
          rw [HTA.out]
          simp only [Option.getD_none, Option.isSome_none]
          go_wp2_with fail
          refine (backB_any _ F B ps' HT6.out (Z i).2.2.2).mono ?_
          rintro e w7 ⟨rfl, rfl⟩
          rw [HTB.out]
          simp only [Option.getD_some, Option.isSome_some]
          go_wp2_with fail
          refine (lenB_any _ F B ps' HT6.out).mono ?_
          rintro e w7 ⟨rfl, rfl⟩
          rw [HN.out]
          go_wp2_with fail
          refine (oneToOne_any w _ F B ps' HT6.out (some x) len cap Z HLn.out HV.out Hb6.out (by have := HLp1.out; omega) HA.out HB.out).mono ?_
          rintro e w9 ⟨rfl, hb9⟩
          have HT9 := hide (HT6.out.below hb9)
          have Hb9 := hide (Hb6.out.trans (hb9.mono Hb6.out.size))
          clear hb9
          go_wp2
          go_roundw
          case rel =>
            first
              | exact ⟨i + 1, ps', by omega, by go_num, HT9, Hb9, HLp1, HA, HB⟩
              | ((repeat apply Exists.intro); refine ⟨?_, rfl⟩; exact ⟨i + 1, ps', by omega, by go_num, HT9, Hb9, HLp1, HA, HB⟩)
          case measure => simp [intOf]; omega
        · obtain rfl : ta = none := HTA.out.symm.trans hq
          obtain rfl : tb = none := HTB.out.symm.trans hq2
          have HQ := hide (snoc_to (b := (Z i).2.2.2) hq)
          have HQ2 := hide (snoc_back (a := (Z i).2.2.1) hq2)
          have HLen3 := hide (show (((ps ++ [((Z i).2.2.1, (Z i).2.2.2)]).length : Nat) : Int) = (n : Int) + 1 by rw [← HN.out]; simp)
          have HLp3 := hide (show (ps ++ [((Z i).2.2.1, (Z i).2.2.2)]).length ≤ i + 1 by have := HLp.out; simp; omega)
          have HA3 := hide (show ∀ k ∈ (ps ++ [((Z i).2.2.1, (Z i).2.2.2)]).map Prod.fst, sn (fun k => (Z k).2.2.1) len k = true by
            intro k hk
            rw [List.map_append] at hk
            rcases List.mem_append.1 hk with hk | hk
            · exact HA.out k hk
            · simp at hk; subst hk; exact sn_of (fun k => (Z k).2.2.1) hil)
          have HB3 := hide (show ∀ k ∈ (ps ++ [((Z i).2.2.1, (Z i).2.2.2)]).map Prod.snd, sn (fun k => (Z k).2.2.2) len k = true by
            intro k hk
            rw [List.map_append] at hk
            rcases List.mem_append.1 hk with hk | hk
            · exact HB.out k hk
            · simp at hk; subst hk; exact sn_of (fun k => (Z k).2.2.2) hil)
          clear hq hq2
          generalize ps ++ [((Z i).2.2.1, (Z i).2.2.2)] = ps3 at *
          simp only [Option.getD_none, Option.isSome_none]
          go_wp2_with fail
          refine (toB_any _ F B ps3 HT6.out (Z i).2.2.1).mono ?_
          rintro e w7 ⟨rfl, rfl⟩
          rw [HQ.out]
          simp only [Option.getD_some, Option.isSome_some]
          go_wp2_with fail
          refine (backB_any _ F B ps3 HT6.out (Z i).2.2.2).mono ?_
          rintro e w7 ⟨rfl, rfl⟩
          rw [HQ2.out]
          simp only [Option.getD_some, Option.isSome_some]
          go_wp2_with fail
          refine (lenB_any _ F B ps3 HT6.out).mono ?_
          rintro e w7 ⟨rfl, rfl⟩
          rw [HLen3.out]
          go_wp2_with fail
          refine (oneToOne_any w _ F B ps3 HT6.out (some x) len cap Z HLn.out HV.out Hb6.out (by have := HLp3.out; omega) HA3.out HB3.out).mono ?_
          rintro e w9 ⟨rfl, hb9⟩
          have HT9 := hide (HT6.out.below hb9)
          have Hb9 := hide (Hb6.out.trans (hb9.mono Hb6.out.size))
          clear hb9
          go_wp2
          go_roundw
          case rel =>
            first
              | exact ⟨i + 1, ps3, by omega, by go_num, HT9, Hb9, HLp3, HA3, HB3⟩
              | ((repeat apply Exists.intro); refine ⟨?_, rfl⟩; exact ⟨i + 1, ps3, by omega, by go_num, HT9, Hb9, HLp3, HA3, HB3⟩)
          case measure => simp [intOf]; omega
      · refine (cutB_any _ F B ps HTa.out (Z i).2.2.1).mono ?_
        rintro e w6 ⟨ps', rfl, hT6, hE6, h6⟩
        have HT6 := hide hT6
        have Hb6 := hide (Hba.out.trans (hE6.mod.below HF.out Hba.out.size))
        obtain ⟨l1, k0, k1, k2, k3⟩ := row4 ((hE6.mod.block wr.heap.size (by simp) HnF.out).trans (heap_alloc_new wr _))
        clear hT6 hE6
        rcases h6 with ⟨hq, rfl⟩ | ⟨j, bb, hj, hq, rfl⟩
        · obtain rfl : ta = none := HTA.out.symm.trans hq
          rw [hq]
          have HQ := hide hq
          clear hq
          simp only [Option.getD_none, Option.isSome_none]
          go_wp2_with fail
          refine (toB_any _ F B ps' HT6.out (Z i).2.2.1).mono ?_
          rintro e w7 ⟨rfl, rfl⟩
          rw [HQ.out]
          simp only [Option.getD_none, Option.isSome_none]
          go_wp2_with fail
          refine (lenB_any _ F B ps' HT6.out).mono ?_
          rintro e w7 ⟨rfl, rfl⟩
          rw [HN.out]
          go_wp2_with fail
          refine (oneToOne_any w _ F B ps' HT6.out (some x) len cap Z HLn.out HV.out Hb6.out (by have := HLp1.out; omega) HA.out HB.out).mono ?_
          rintro e w9 ⟨rfl, hb9⟩
          have HT9 := hide (HT6.out.below hb9)
          have Hb9 := hide (Hb6.out.trans (hb9.mono Hb6.out.size))
          clear hb9
          go_wp2
          go_roundw
          case rel =>
            first
              | exact ⟨i + 1, ps', by omega, by go_num, HT9, Hb9, HLp1, HA, HB⟩
              | ((repeat apply Exists.intro); refine ⟨?_, rfl⟩; exact ⟨i + 1, ps', by omega, by go_num, HT9, Hb9, HLp1, HA, HB⟩)
          case measure => simp [intOf]; omega
        · obtain rfl : ta = some bb := HTA.out.symm.trans hq
          rw [hq]
          have HQ := hide (gone HD1.out hj)
          have hle := len_erase hj
          have HLen3 := hide (show (((ps.eraseIdx j).length : Nat) : Int) = (n : Int) - 1 by rw [← HN.out, ← hle]; simp)
          have HLp3 := hide (show (ps.eraseIdx j).length ≤ i + 1 by have := HLp.out; omega)
          have HA3 := hide (show ∀ k ∈ (ps.eraseIdx j).map Prod.fst, sn (fun k => (Z k).2.2.1) len k = true by
            intro k hk
            rw [← erase_map] at hk
            exact HA.out k (List.mem_of_mem_eraseIdx hk))
          have HB3 := hide (show ∀ k ∈ (ps.eraseIdx j).map Prod.snd, sn (fun k => (Z k).2.2.2) len k = true by
            intro k hk
            rw [← erase_map] at hk
            exact HB.out k (List.mem_of_mem_eraseIdx hk))
          clear hq hj hle
          generalize ps.eraseIdx j = ps3 at *
          simp only [Option.getD_some, Option.isSome_some]
          go_wp2_with fail
          refine (toB_any _ F B ps3 HT6.out (Z i).2.2.1).mono ?_
          rintro e w7 ⟨rfl, rfl⟩
          rw [HQ.out]
          simp only [Option.getD_none, Option.isSome_none]
          go_wp2_with fail
          refine (lenB_any _ F B ps3 HT6.out).mono ?_
          rintro e w7 ⟨rfl, rfl⟩
          rw [HLen3.out]
          go_wp2_with fail
          refine (oneToOne_any w _ F B ps3 HT6.out (some x) len cap Z HLn.out HV.out Hb6.out (by have := HLp3.out; omega) HA3.out HB3.out).mono ?_
          rintro e w9 ⟨rfl, hb9⟩
          have HT9 := hide (HT6.out.below hb9)
          have Hb9 := hide (Hb6.out.trans (hb9.mono Hb6.out.size))
          clear hb9
          go_wp2
          go_roundw
          case rel =>
            first
              | exact ⟨i + 1, ps3, by omega, by go_num, HT9, Hb9, HLp3, HA3, HB3⟩
              | ((repeat apply Exists.intro); refine ⟨?_, rfl⟩; exact ⟨i + 1, ps3, by omega, by go_num, HT9, Hb9, HLp3, HA3, HB3⟩)
          case measure => simp [intOf]; omega
      · go_wp2_with fail
        refine (oneToOne_any w _ F B ps HTa.out (some x) len cap Z HLn.out HV.out Hba.out (by have := HLp1.out; omega) HA.out HB.out).mono ?_
        rintro e w9 ⟨rfl, hb9⟩
        have HT9 := hide (HTa.out.below hb9)
        have Hb9 := hide (Hba.out.trans (hb9.mono Hba.out.size))
        clear hb9
        go_wp2
        go_roundw
        case rel =>
          first
            | exact ⟨i + 1, ps, by omega, by go_num, HT9, Hb9, HLp1, HA, HB⟩
            | ((repeat apply Exists.intro); refine ⟨?_, rfl⟩; exact ⟨i + 1, ps, by omega, by go_num, HT9, Hb9, HLp1, HA, HB⟩)
        case measure => simp [intOf]; omega
    · go_wp2
      go_ret
      exact ⟨rfl, Hb.out⟩
end Go.Proofs.Ytooikfmebjohfaa
