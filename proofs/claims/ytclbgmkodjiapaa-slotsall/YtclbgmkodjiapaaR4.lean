import Derived.Test.YtclbgmkodjiapaaR3
namespace Go.Proofs.Ytclbgmkodjiapaa
open Go.RowKit

/-- the first k places of one, the rest of another -/
theorem upto_set {m m' : List (Option Int)} (h : m'.length = m.length) {k : Nat} (hk : k < m.length) (o : Option Int) (ho : m[k]? = some o) : (m.take k ++ m'.drop k).set k o = m.take (k + 1) ++ m'.drop (k + 1) := by
  apply List.ext_getElem?
  intro j
  rw [List.getElem?_set]
  have hl : (m.take k).length = k := by simp; omega
  have hl2 : (m.take (k + 1)).length = k + 1 := by simp; omega
  split
  · rename_i e; subst e
    rw [if_pos (by simp; omega), List.getElem?_append_left (by omega), List.getElem?_take_of_lt (by omega), ho]
  · rcases Nat.lt_or_ge j k with h3 | h3
    · rw [List.getElem?_append_left (by omega), List.getElem?_append_left (by omega), List.getElem?_take_of_lt h3, List.getElem?_take_of_lt (by omega)]
    · rw [List.getElem?_append_right (by omega), List.getElem?_append_right (by omega), hl, hl2, List.getElem?_drop, List.getElem?_drop]
      congr 1; omega
set_option maxHeartbeats 800000 in
theorem clearR_any (w : World) (F : Nat → Prop) (R : Nat) (m : List (Option Int)) (h : Ref w F R m) :
    Calls Try.prog 30 #[.pointer (some ⟨R, 0, none⟩)] w fun x w' => x = .returned (.tuple #[]) ∧ Ref w' F R (List.replicate m.length none) ∧ Ext F w F w' := by
  have hcap := h.cap
  obtain ⟨p, q, h⟩ := h
  obtain ⟨m0, hm0⟩ : ∃ m0 : List (Option Int), m0 = List.replicate m.length none := ⟨_, rfl⟩
  have HL : Hid (m0.length = m.length) := hide (by rw [hm0]; simp)
  have H0 : Hid (∀ k, k < m.length → m0[k]? = some none) := hide (fun k hk => by rw [hm0]; simp [hk])
  have HN : Hid (∀ k, k < m.length → (m0.take k ++ m.drop k).length = m.length) := hide (fun k hk => by simp [HL.out]; omega)
  have HS : Hid (∀ k, k < m.length → (m0.take k ++ m.drop k).set k none = m0.take (k + 1) ++ m.drop (k + 1)) := hide (fun k hk => upto_set HL.out.symm (by rw [HL.out]; exact hk) none (H0.out k hk))
  have HZ : Hid (∀ k, m.length ≤ k → m0.take k ++ m.drop k = m0) := hide (fun k hk => by rw [List.take_of_length_le (by rw [HL.out]; exact hk), List.drop_eq_nil_of_le hk]; simp)
  have HB : Hid (m0.take 0 ++ m.drop 0 = m) := hide (by simp)
  rw [← hm0]
  clear hm0
  have HR := hide h
  clear h
  generalize hn : m.length = n at *
  have HNm := hide hn
  clear hn
  go_enter Try.func30, Try.ntmps30
  go_wp2
  go_loopw [2] (fun i wr => ∃ k : Nat, k ≤ n ∧ i = .int .i64 k ∧ Hid (RefAt wr F R p q (m0.take k ++ m.drop k) ∧ Mod F w wr)) (fun i _ => n - (intOf i).toNat)
  case atStart => exact ⟨0, by omega, rfl, hide ⟨by rw [HB.out]; exact HR.out, Mod.refl _ _⟩⟩
  case round =>
    obtain ⟨k, hk, rfl, hH⟩ := hrel
    have hH1 := hH.out.1
    obtain ⟨c0, c1⟩ := hH1.cells
    by_cases hlt : k < n
    · rw [HN.out k hlt] at c0 c1
      obtain ⟨o, ho⟩ : ∃ o, (m0.take k ++ m.drop k)[k]? = some o := ⟨_, List.getElem?_eq_getElem (by rw [HN.out k hlt]; exact hlt)⟩
      obtain ⟨a0, a1, f0, f1⟩ := hH1.at ho
      have HD := hide (hH1.set k none)
      rw [HS.out k hlt] at HD
      simp only [Option.getD_none, Option.isSome_none] at HD
      have HM := hide ((hH.out.2.setCell (p := ⟨p, k, none⟩) (.inl hH1.fp) (.bool false)).setCell (p := ⟨q, k, none⟩) (.inl hH1.fq) (.int .i64 0))
      have hnp := hH1.npq
      have hn1 := hH1.npR
      have hn2 := hH1.nqR
      clear ho hH1 hH HR
      go_wp2
      go_roundw
      case rel => exact ⟨k + 1, by omega, by go_num, hide ⟨HD.out, HM.out⟩⟩
      case measure => simp [intOf]; omega
    · have HE := hide (And.intro hH.out.1 hH.out.2)
      have hlen : (m0.take k ++ m.drop k).length = n := by rw [HZ.out k (by omega), HL.out]
      rw [hlen] at c0 c1
      rw [HZ.out k (by omega)] at HE
      clear hH hH1 HR hlen
      go_wp2
      go_end0
      exact ⟨rfl, ⟨_, _, HE.out.1⟩, HE.out.2, fun _ h => .inl h⟩
set_option maxHeartbeats 1600000 in
theorem copyR_any (w : World) (F : Nat → Prop) (R : Nat) (m : List (Option Int)) (h : Ref w F R m) :
    Calls Try.prog 8 #[.pointer (some ⟨R, 0, none⟩)] w fun x w' => ∃ C Fc, x = .returned (.pointer (some ⟨C, 0, none⟩)) ∧ Ref w' Fc C m ∧ (∀ b, Fc b → w.heap.size ≤ b) ∧ Below w.heap.size w w' := by
  have hcap := h.cap
  obtain ⟨p, q, h⟩ := h
  obtain ⟨c0, c1⟩ := h.cells
  obtain ⟨m0, hm0⟩ : ∃ m0 : List (Option Int), m0 = List.replicate m.length none := ⟨_, rfl⟩
  have HL : Hid (m0.length = m.length) := hide (by rw [hm0]; simp)
  have H0 : Hid (∀ k, k < m.length → ∃ o, m[k]? = some o) := hide (fun k hk => ⟨_, List.getElem?_eq_getElem hk⟩)
  have HN : Hid (∀ k, k < m.length → (m.take k ++ m0.drop k).length = m.length) := hide (fun k hk => by simp [HL.out]; omega)
  have HS : Hid (∀ k o, k < m.length → m[k]? = some o → (m.take k ++ m0.drop k).set k o = m.take (k + 1) ++ m0.drop (k + 1)) := hide (fun k o hk ho => upto_set HL.out hk o ho)
  have HZ : Hid (∀ k, m.length ≤ k → m.take k ++ m0.drop k = m) := hide (fun k hk => by rw [List.take_of_length_le hk, List.drop_eq_nil_of_le (by rw [HL.out]; exact hk)]; simp)
  have HB : Hid (m.take 0 ++ m0.drop 0 = m0) := hide (by simp)
  have HNW := hide (newR_any w (m.length : Nat))
  rw [clp_nat _ hcap, ← hm0] at HNW
  clear hm0
  have HR := hide h
  clear h
  generalize hn : m.length = n at *
  have HNm := hide hn
  clear hn
  go_enter Try.func8, Try.ntmps8
  go_wp2_with fail
  refine HNW.out.mono ?_
  rintro e w1 ⟨C, Fc, rfl, ⟨p1, q1, hC⟩, hlo, hb1⟩
  have HC := hide hC
  have HLo := hide hlo
  have HB1 := hide hb1
  clear hC hlo hb1 HNW c0 c1
  go_wp2
  go_loopw [4] (fun i wr => ∃ k : Nat, k ≤ n ∧ i = .int .i64 k ∧ Hid (RefAt wr Fc C p1 q1 (m.take k ++ m0.drop k) ∧ Below w.heap.size w wr)) (fun i _ => n - (intOf i).toNat)
  case atStart => exact ⟨0, by omega, rfl, hide ⟨by rw [HB.out]; exact HC.out, HB1.out⟩⟩
  case round =>
    obtain ⟨k, hk, rfl, hH⟩ := hrel
    have hH1 := hH.out.1
    have hO := HR.out.keep hH.out.2.size (fun b hb => hH.out.2.block b (HR.out.lt b hb))
    obtain ⟨c0, c1⟩ := hO.cells
    rw [HNm.out] at c0 c1
    by_cases hlt : k < n
    · obtain ⟨d0, d1⟩ := hH1.cells
      rw [HN.out k hlt] at d0 d1
      obtain ⟨o, ho⟩ := H0.out k hlt
      obtain ⟨a0, a1, _, _⟩ := hO.at ho
      obtain ⟨o', ho'⟩ : ∃ o, (m.take k ++ m0.drop k)[k]? = some o := ⟨_, List.getElem?_eq_getElem (by rw [HN.out k hlt]; exact hlt)⟩
      obtain ⟨e0, e1, f0, f1⟩ := hH1.at ho'
      have HD := hide (hH1.set k o)
      rw [HS.out k o hlt ho] at HD
      have HM := hide ((hH.out.2.setCell (p := ⟨p1, k, none⟩) (HLo.out p1 hH1.fp) (.bool o.isSome)).setCell (p := ⟨q1, k, none⟩) (HLo.out q1 hH1.fq) (.int .i64 (o.getD 0)))
      have hnp := hH1.npq
      have hn1 := hH1.npR
      have hn2 := hH1.nqR
      have far : ∀ b, F b → b ≠ p1 ∧ b ≠ q1 := fun b hb => by
        have := HR.out.lt b hb
        have := HLo.out p1 hH1.fp
        have := HLo.out q1 hH1.fq
        omega
      have g1 := far R HR.out.fR
      have g2 := far q HR.out.fq
      generalize o.isSome = ob at *
      generalize o.getD 0 = ov at *
      generalize o'.isSome = ob' at *
      generalize o'.getD 0 = ov' at *
      clear ho ho' hH1 hH HC hO far
      go_wp2
      go_region
      all_goals
        go_wp2
        go_region
        all_goals
          go_wp2
          go_roundw
          case rel => exact ⟨k + 1, by omega, by go_num, hide ⟨HD.out.keep (Nat.le_refl _) (fun _ _ => rfl), ⟨HM.out.os, HM.out.tape, HM.out.output, HM.out.size, HM.out.block⟩⟩⟩
          case measure => simp [intOf]; omega
    · have HE := hide hH.out
      rw [HZ.out k (by omega)] at HE
      clear hH hH1 HC hO
      go_wp2
      go_ret
      exact ⟨C, Fc, rfl, ⟨_, _, HE.out.1⟩, HLo.out, HE.out.2⟩
end Go.Proofs.Ytclbgmkodjiapaa
