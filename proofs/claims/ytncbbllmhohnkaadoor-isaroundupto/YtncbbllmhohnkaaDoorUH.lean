import Derived.Test.YtncbbllmhohnkaaDoorUG
namespace Go.Proofs.YtncbbllmhohnkaaDoor
open Go.RowKit
theorem let_byte (b : UInt8) : isLet b = letN b.toNat := rfl
theorem dig_byte (b : UInt8) : isDig b = digN b.toNat := rfl
theorem dv_byte (b : UInt8) : digV b = dvN b.toNat := rfl
/-- what stands at place j is allowed in a label -/
def okAt (j c : Nat) : Bool := letN c || (decide (j ≠ 0) && digN c)
theorem lbl_true {s : Tx} (h0 : s ≠ []) (h : ∀ j (hj : j < s.length), okAt j s[j].toNat = true) : isLbl s = true := by
  rw [lbl_iff]
  refine ⟨h0, fun j hj => ?_⟩
  have := h j hj
  unfold okAt at this
  simp only [Bool.or_eq_true, Bool.and_eq_true, decide_eq_true_eq] at this
  exact this
theorem lbl_false {s : Tx} {j : Nat} (hj : j < s.length) (h : okAt j s[j].toNat = false) : isLbl s = false := by
  cases e : isLbl s with
  | false => rfl
  | true =>
    have h2 := (lbl_iff s).1 e |>.2 j hj
    unfold okAt at h
    simp only [Bool.or_eq_false_iff, Bool.and_eq_false_iff, decide_eq_false_iff_not] at h
    rcases h2 with h2 | h2
    · rw [let_byte, h.1] at h2; simp at h2
    · rcases h.2 with h3 | h3
      · exact absurd h2.1 h3
      · rw [dig_byte, h3] at h2; simp at h2
section
variable (w : World)
set_option maxRecDepth 100000 in
set_option maxHeartbeats 1000000 in
theorem isLabel_any (l : Tx) (hl : l.length ≤ 16384) : Calls Tryd.prog 56 #[.string ⟨l.toArray⟩] w fun e w' => e = .returned (.bool (isLbl l)) ∧ Below w.heap.size w w' := by
  go_enter Tryd.func56, Tryd.ntmps56
  go_upto_region 2 with fail
  go_loopw [2] (fun u wr => ∃ pos : Nat, u = .bool false ∧ pos ≤ l.length ∧ (∀ j (hj : j < l.length), j < pos → okAt j l[j].toNat = true) ∧ It wr w.heap.size ⟨l.toArray⟩ pos ∧ Below w.heap.size w wr) (fun _ wr => l.length - itPos wr w.heap.size)
  case atStart => exact ⟨0, rfl, by omega, fun j _ h => by omega, heap_alloc_last _ _, bel1 _ _⟩
  case round =>
  obtain ⟨pos, rfl, hp, hno, hI, hB⟩ := hrel
  by_cases hlt : pos < l.length
  · obtain ⟨c, q, nx, hq, hql, hc⟩ := it_step (P := Tryd.prog) hI hlt
    have HI := hide (it_to hI q)
    have HB := hide (it_below (s := ⟨l.toArray⟩) hB (Nat.le_refl _) q)
    have HP := hide (it_pos hI)
    have HN := hide hno
    have HT : Hid (okAt pos c = true → q = pos + 1 ∧ c = l[pos].toNat) := hide (by
      intro h
      rcases hc with ⟨_, h1, h2⟩ | ⟨h1, _⟩
      · exact ⟨h2, h1⟩
      · unfold okAt at h; rw [let_hi h1, dig_hi h1] at h; simp at h)
    have HF : Hid (okAt pos c = false → isLbl l = false) := hide (by
      intro h
      rcases hc with ⟨_, h1, h2⟩ | ⟨h1, _, h3⟩
      · rw [h1] at h; exact lbl_false hlt h
      · have h4 := h3 pos hlt (Nat.le_refl _) hq
        refine lbl_false hlt ?_
        unfold okAt; rw [let_hi h4, dig_hi h4]; simp)
    have HL := hide (letter_any (World.itTo wr w.heap.size ⟨l.toArray⟩ q) c)
    have HG := hide (digit1_any (World.itTo wr w.heap.size ⟨l.toArray⟩ q) c)
    clear hc hI hB hno
    cases hx : letN c with
    | true =>
      rw [hx] at HL
      have HO : Hid (okAt pos c = true) := hide (by simp [okAt, hx])
      clear hx
      go_wp2_with fail
      refine HL.out.mono ?_
      rintro e w1 ⟨rfl, rfl⟩
      go_wp2
      obtain ⟨e1, e2⟩ := HT.out HO.out
      refine ⟨⟨q, rfl, hql, fun j hj hjq => ?_, HI.out, HB.out⟩, ?_⟩
      · by_cases hjp : j < pos
        · exact HN.out j hj hjp
        · obtain rfl : j = pos := by omega
          rw [← e2]; exact HO.out
      · rw [it_pos HI.out, HP.out]
        omega
    | false =>
      rw [hx] at HL
      by_cases h0 : pos = 0
      · have HO : Hid (okAt pos c = false) := hide (by simp [okAt, hx, h0])
        clear hx
        subst h0
        go_wp2_with fail
        refine HL.out.mono ?_
        rintro e w1 ⟨rfl, rfl⟩
        go_wp2
        go_ret
        exact ⟨by rw [HF.out HO.out]; rfl, HB.out⟩
      · have h0' : ((pos : Int) == 0) = false := by simp; omega
        cases hy : digN c with
        | true =>
          have HO : Hid (okAt pos c = true) := hide (by simp [okAt, hx, hy, h0])
          rw [hy] at HG
          clear hx hy h0
          go_wp2_with fail
          refine HL.out.mono ?_
          rintro e w1 ⟨rfl, rfl⟩
          go_wp2_with fail
          refine HG.out.mono ?_
          rintro e w1 ⟨rfl, rfl⟩
          go_wp2
          obtain ⟨e1, e2⟩ := HT.out HO.out
          refine ⟨⟨q, rfl, hql, fun j hj hjq => ?_, HI.out, HB.out⟩, ?_⟩
          · by_cases hjp : j < pos
            · exact HN.out j hj hjp
            · obtain rfl : j = pos := by omega
              rw [← e2]; exact HO.out
          · rw [it_pos HI.out, HP.out]
            omega
        | false =>
          have HO : Hid (okAt pos c = false) := hide (by simp [okAt, hx, hy])
          rw [hy] at HG
          clear hx hy h0
          go_wp2_with fail
          refine HL.out.mono ?_
          rintro e w1 ⟨rfl, rfl⟩
          go_wp2_with fail
          refine HG.out.mono ?_
          rintro e w1 ⟨rfl, rfl⟩
          go_wp2
          go_ret
          exact ⟨by rw [HF.out HO.out]; rfl, HB.out⟩
  · have nx := it_stop (P := Tryd.prog) hI hlt
    have HB := hide hB
    by_cases h0 : l = []
    · subst h0
      clear hI hB hno
      go_wp2
      go_ret
      exact ⟨rfl, HB.out⟩
    · have HV : Hid (isLbl l = true) := hide (lbl_true h0 fun j hj => hno j hj (by omega))
      have hne : List.isEmpty l = false := by simpa using h0
      clear hI hB hno h0
      go_wp2
      go_ret
      exact ⟨by rw [HV.out]; rfl, HB.out⟩
theorem register_any' (l : Tx) : Calls Tryd.prog 104 #[.string ⟨l.toArray⟩] w fun e w' => e = .returned (.tuple #[.int .i64 ((regT l).getD 0 : Nat), .bool (regT l).isSome]) ∧ w' = w := by
  match l with
  | [] =>
    go_enter Tryd.func104, Tryd.ntmps104
    go_wp2
    go_ret2
    exact ⟨rfl, rfl⟩
  | [a] =>
    go_enter Tryd.func104, Tryd.ntmps104
    go_wp2
    go_ret2
    exact ⟨rfl, rfl⟩
  | a :: b :: c :: r =>
    have hlen : ¬ ((r.length + 1 + 1 + 1 : Nat) : Int) = 2 := by omega
    go_enter Tryd.func104, Tryd.ntmps104
    go_wp2
    go_ret2
    exact ⟨rfl, rfl⟩
  | [a, b] =>
    have hx0 : ∀ h, (⟨#[a, b]⟩ : ByteArray)[0]'h = a := fun _ => rfl
    have hx1 : ∀ h, (⟨#[a, b]⟩ : ByteArray)[1]'h = b := fun _ => rfl
    by_cases h1 : a.toNat = 114
    · by_cases h2 : 48 ≤ b.toNat
      · by_cases h3 : b.toNat < 56
        · have a0 : ((a.toNat : Int) != 114) = false := by simp; omega
          have a1 : ¬ (b.toNat : Int) < 48 := by omega
          have a2 : ¬ (56 : Int) ≤ (b.toNat : Int) := by omega
          have a3 : (48 : Int) ≤ (b.toNat : Int) := by omega
          have a4 : (b.toNat : Int) < 56 := by omega
          have HE : Hid (((b.toNat - 48 : Nat) : Int) = (b.toNat : Int) - 48) := hide (by omega)
          have HV : Hid (regT [a, b] = some (b.toNat - 48)) := hide (by simp [regT]; omega)
          go_enter Tryd.func104, Tryd.ntmps104
          go_wp2
          go_ret2
          exact ⟨by rw [HV.out]; simp only [Option.getD_some]; rw [HE.out]; rfl, rfl⟩
        · have a0 : ((a.toNat : Int) != 114) = false := by simp; omega
          have a1 : ¬ (b.toNat : Int) < 48 := by omega
          have a2 : (56 : Int) ≤ (b.toNat : Int) := by omega
          have HV : Hid (regT [a, b] = none) := hide (by simp [regT]; omega)
          go_enter Tryd.func104, Tryd.ntmps104
          go_wp2
          go_ret2
          exact ⟨by rw [HV.out]; rfl, rfl⟩
      · have a0 : ((a.toNat : Int) != 114) = false := by simp; omega
        have a1 : (b.toNat : Int) < 48 := by omega
        have HV : Hid (regT [a, b] = none) := hide (by simp [regT]; omega)
        go_enter Tryd.func104, Tryd.ntmps104
        go_wp2
        go_ret2
        exact ⟨by rw [HV.out]; rfl, rfl⟩
    · have a0 : ((a.toNat : Int) != 114) = true := by simp; omega
      have HV : Hid (regT [a, b] = none) := hide (by simp [regT]; omega)
      go_enter Tryd.func104, Tryd.ntmps104
      go_wp2
      go_ret2
      exact ⟨by rw [HV.out]; rfl, rfl⟩
theorem dv_le (c : Nat) : dvN c ≤ 16 := by
  unfold dvN digN
  split
  · next h => simp at h; omega
  · split <;> omega
set_option maxRecDepth 100000 in
set_option maxHeartbeats 1000000 in
theorem number_any' (l : Tx) (hl : l.length ≤ 16384) : Calls Tryd.prog 103 #[.string ⟨l.toArray⟩] w fun e w' => e = .returned (.tuple #[.int .i64 ((numT l).getD 0), .bool (numT l).isSome]) ∧ Below w.heap.size w w' := by
  have h1 := Tryd.cutPre l [45] w
  have h2 := Tryd.cutPre (absT l) [48, 120] w
  have HV : Hid (numT l = if (digT (absT l)).length = 0 ∨ mosT (absT l) < (digT (absT l)).length then none else (numF (basT (absT l)) 0 (digT (absT l))).map fun n => if minT l then -(n : Int) else (n : Int)) := hide rfl
  have HD : Hid (hexT (absT l) = false → digT (absT l) = absT l) := hide (by
    intro h
    unfold digT Lib.trimPrefix
    unfold hexT at h
    rw [h]; rfl)
  change Calls _ _ _ _ fun e w' => e = .returned (.tuple #[.string ⟨(absT l).toArray⟩, .bool (minT l)]) ∧ w' = w at h1
  change Calls _ _ _ _ fun e w' => e = .returned (.tuple #[.string ⟨(digT (absT l)).toArray⟩, .bool (hexT (absT l))]) ∧ w' = w at h2
  have hab : (absT l).length ≤ 16384 := by
    unfold absT Lib.trimPrefix
    split
    · simp; omega
    · exact hl
  generalize absT l = A at *
  generalize minT l = mi at *
  unfold mosT basT at HV
  have hdl : (digT A).length ≤ 16384 := by
    unfold digT Lib.trimPrefix
    split
    · simp; omega
    · exact hab
  generalize digT A = D at *
  cases hx : hexT A with
  | true =>
    rw [hx] at HV h2
    simp only [if_true] at HV
    have H1 := hide h1
    have H2 := hide h2
    clear h1 h2 HD hx
    by_cases h0 : D = []
    · have HN : Hid (numT l = none) := hide (by rw [HV.out, h0]; rfl)
      subst h0
      clear HV
      go_enter Tryd.func103, Tryd.ntmps103
      go_wp2_with fail
      refine H1.out.mono ?_
      rintro e w1 ⟨rfl, rfl⟩
      go_wp2_with fail
      refine H2.out.mono ?_
      rintro e w2 ⟨rfl, rfl⟩
      go_wp2
      go_ret2
      exact ⟨by rw [HN.out]; rfl, Below.refl _ _⟩
    have he : List.isEmpty D = false := by simpa using h0
    have hdp : 0 < D.length := List.length_pos_iff.2 h0
    by_cases hm : 8 < D.length
    · have HN : Hid (numT l = none) := hide (by rw [HV.out, if_pos (.inr hm)])
      have hm2 : (8 : Int) < (D.length : Int) := by omega
      clear HV h0 hm
      go_enter Tryd.func103, Tryd.ntmps103
      go_wp2_with fail
      refine H1.out.mono ?_
      rintro e w1 ⟨rfl, rfl⟩
      go_wp2_with fail
      refine H2.out.mono ?_
      rintro e w2 ⟨rfl, rfl⟩
      go_wp2
      go_ret2
      exact ⟨by rw [HN.out]; rfl, Below.refl _ _⟩
    have hm2 : ¬ (8 : Int) < (D.length : Int) := by omega
    have HW : Hid (numT l = (numF 16 0 D).map fun n => if mi then -(n : Int) else (n : Int)) := hide (by rw [HV.out, if_neg (by omega)])
    have hbd : ∀ (k m : Nat), numF 16 0 (D.take k) = some m → m < 10000000000 := fun k m h => by
      have h3 := numF_lt 16 (by decide) (D.take k) 0 m 0 (by decide) h
      have h4 : (0 + (D.take k).length) ≤ 8 := by simp; omega
      have h5 : 16 ^ (0 + (D.take k).length) ≤ 16 ^ 8 := Nat.pow_le_pow_right (by decide) h4
      have h6 : 16 ^ 8 ≤ 10000000000 := by decide
      omega
    have HBD := hide hbd
    clear HV h0 hm hbd
    go_enter Tryd.func103, Tryd.ntmps103
    go_wp2_with fail
    refine H1.out.mono ?_
    rintro e w1 ⟨rfl, rfl⟩
    go_wp2_with fail
    refine H2.out.mono ?_
    rintro e w2 ⟨rfl, rfl⟩
    clear H1 H2
    go_upto_region 10 with fail
    go_loopw [2, 3, 10] (fun r x u wr => ∃ pos m : Nat, r = .int .i64 0 ∧ x = .bool false ∧ u = .int .i64 (m : Int) ∧ pos ≤ D.length ∧ numF 16 0 (D.take pos) = some m ∧ It wr w2.heap.size ⟨D.toArray⟩ pos ∧ Below w2.heap.size w2 wr) (fun _ _ _ wr => D.length - itPos wr w2.heap.size)
    case atStart => exact ⟨0, 0, rfl, rfl, rfl, by omega, rfl, heap_alloc_last _ _, bel1 _ _⟩
    case round =>
    obtain ⟨pos, m, rfl, rfl, rfl, hp, hnf, hI, hB⟩ := hrel
    have hmb := HBD.out _ _ hnf
    by_cases hlt : pos < D.length
    · obtain ⟨c, q, nx, hq, hql, hc⟩ := it_step (P := Tryd.prog) hI hlt
      have HI := hide (it_to hI q)
      have HB := hide (it_below (s := ⟨D.toArray⟩) hB (Nat.le_refl _) q)
      have HP := hide (it_pos hI)
      have HNF := hide hnf
      have hc1 : c ≤ 1114111 := by rcases hc with ⟨h, _⟩ | ⟨_, h, _⟩ <;> omega
      have HT : Hid (dvN c < 16 → q = pos + 1 ∧ dvN c = digV D[pos]) := hide (by
        intro h
        rcases hc with ⟨_, h1, h2⟩ | ⟨h1, _⟩
        · exact ⟨h2, by rw [dv_byte, h1]⟩
        · rw [dv_hi h1] at h; omega)
      have HF : Hid (¬ dvN c < 16 → ¬ digV D[pos] < 16) := hide (by
        intro h
        rcases hc with ⟨_, h1, h2⟩ | ⟨h1, _, h3⟩
        · rw [dv_byte, ← h1]; exact h
        · have h4 := h3 pos hlt (Nat.le_refl _) hq
          rw [dv_byte, dv_hi h4]; omega)
      have HG := hide (digit_any (World.itTo wr w2.heap.size ⟨D.toArray⟩ q) c hc1)
      have hdv := dv_le c
      clear hc hI hB hnf hc1
      generalize dvN c = dv at *
      by_cases hd : dv < 16
      · have hd2 : ¬ (16 : Int) ≤ (dv : Int) := by omega
        obtain ⟨e1, e2⟩ := HT.out hd
        have HS : Hid (numF 16 0 (D.take q) = some (m * 16 + dv)) := hide (by rw [e1, e2]; exact numF_step hlt HNF.out (by rw [← e2]; exact hd))
        clear HT HF e1 e2
        go_wp2_with fail
        refine HG.out.mono ?_
        rintro e w3 ⟨rfl, rfl⟩
        go_wp2
        refine ⟨⟨q, m * 16 + dv, rfl, rfl, by simp, hql, HS.out, HI.out, HB.out⟩, ?_⟩
        rw [it_pos HI.out, HP.out]
        omega
      · have hd2 : (16 : Int) ≤ (dv : Int) := by omega
        have HN : Hid (numT l = none) := hide (by rw [HW.out, numF_none hlt HNF.out (HF.out hd)]; rfl)
        clear HT HF
        go_wp2_with fail
        refine HG.out.mono ?_
        rintro e w3 ⟨rfl, rfl⟩
        go_wp2
        go_ret2
        exact ⟨by rw [HN.out]; rfl, HB.out⟩
    · have nx := it_stop (P := Tryd.prog) hI hlt
      have HB := hide hB
      obtain rfl : pos = D.length := by omega
      rw [List.take_length] at hnf
      clear hI hB
      cases mi with
      | false =>
        have HN : Hid (numT l = some (m : Int)) := hide (by rw [HW.out, hnf]; rfl)
        clear hnf HW
        go_wp2
        go_ret2
        exact ⟨by rw [HN.out]; rfl, HB.out⟩
      | true =>
        have HN : Hid (numT l = some (-(m : Int))) := hide (by rw [HW.out, hnf]; rfl)
        clear hnf HW
        go_wp2
        go_ret2
        exact ⟨by rw [HN.out]; rfl, HB.out⟩
  | false =>
    rw [hx] at HV h2
    simp only [if_false, Bool.false_eq_true] at HV
    have H1 := hide h1
    have H2 := hide h2
    obtain rfl := HD.out hx
    clear h1 h2 HD hx
    by_cases h0 : D = []
    · have HN : Hid (numT l = none) := hide (by rw [HV.out, h0]; rfl)
      subst h0
      clear HV
      go_enter Tryd.func103, Tryd.ntmps103
      go_wp2_with fail
      refine H1.out.mono ?_
      rintro e w1 ⟨rfl, rfl⟩
      go_wp2_with fail
      refine H2.out.mono ?_
      rintro e w2 ⟨rfl, rfl⟩
      go_wp2
      go_ret2
      exact ⟨by rw [HN.out]; rfl, Below.refl _ _⟩
    have he : List.isEmpty D = false := by simpa using h0
    have hdp : 0 < D.length := List.length_pos_iff.2 h0
    by_cases hm : 10 < D.length
    · have HN : Hid (numT l = none) := hide (by rw [HV.out, if_pos (.inr hm)])
      have hm2 : (10 : Int) < (D.length : Int) := by omega
      clear HV h0 hm
      go_enter Tryd.func103, Tryd.ntmps103
      go_wp2_with fail
      refine H1.out.mono ?_
      rintro e w1 ⟨rfl, rfl⟩
      go_wp2_with fail
      refine H2.out.mono ?_
      rintro e w2 ⟨rfl, rfl⟩
      go_wp2
      go_ret2
      exact ⟨by rw [HN.out]; rfl, Below.refl _ _⟩
    have hm2 : ¬ (10 : Int) < (D.length : Int) := by omega
    have HW : Hid (numT l = (numF 10 0 D).map fun n => if mi then -(n : Int) else (n : Int)) := hide (by rw [HV.out, if_neg (by omega)])
    have hbd : ∀ (k m : Nat), numF 10 0 (D.take k) = some m → m < 10000000000 := fun k m h => by
      have h3 := numF_lt 10 (by decide) (D.take k) 0 m 0 (by decide) h
      have h4 : (0 + (D.take k).length) ≤ 10 := by simp; omega
      have h5 : 10 ^ (0 + (D.take k).length) ≤ 10 ^ 10 := Nat.pow_le_pow_right (by decide) h4
      have h6 : 10 ^ 10 ≤ 10000000000 := by decide
      omega
    have HBD := hide hbd
    clear HV h0 hm hbd
    go_enter Tryd.func103, Tryd.ntmps103
    go_wp2_with fail
    refine H1.out.mono ?_
    rintro e w1 ⟨rfl, rfl⟩
    go_wp2_with fail
    refine H2.out.mono ?_
    rintro e w2 ⟨rfl, rfl⟩
    clear H1 H2
    go_upto_region 10 with fail
    go_loopw [2, 3, 10] (fun r x u wr => ∃ pos m : Nat, r = .int .i64 0 ∧ x = .bool false ∧ u = .int .i64 (m : Int) ∧ pos ≤ D.length ∧ numF 10 0 (D.take pos) = some m ∧ It wr w2.heap.size ⟨D.toArray⟩ pos ∧ Below w2.heap.size w2 wr) (fun _ _ _ wr => D.length - itPos wr w2.heap.size)
    case atStart => exact ⟨0, 0, rfl, rfl, rfl, by omega, rfl, heap_alloc_last _ _, bel1 _ _⟩
    case round =>
    obtain ⟨pos, m, rfl, rfl, rfl, hp, hnf, hI, hB⟩ := hrel
    have hmb := HBD.out _ _ hnf
    by_cases hlt : pos < D.length
    · obtain ⟨c, q, nx, hq, hql, hc⟩ := it_step (P := Tryd.prog) hI hlt
      have HI := hide (it_to hI q)
      have HB := hide (it_below (s := ⟨D.toArray⟩) hB (Nat.le_refl _) q)
      have HP := hide (it_pos hI)
      have HNF := hide hnf
      have hc1 : c ≤ 1114111 := by rcases hc with ⟨h, _⟩ | ⟨_, h, _⟩ <;> omega
      have HT : Hid (dvN c < 10 → q = pos + 1 ∧ dvN c = digV D[pos]) := hide (by
        intro h
        rcases hc with ⟨_, h1, h2⟩ | ⟨h1, _⟩
        · exact ⟨h2, by rw [dv_byte, h1]⟩
        · rw [dv_hi h1] at h; omega)
      have HF : Hid (¬ dvN c < 10 → ¬ digV D[pos] < 10) := hide (by
        intro h
        rcases hc with ⟨_, h1, h2⟩ | ⟨h1, _, h3⟩
        · rw [dv_byte, ← h1]; exact h
        · have h4 := h3 pos hlt (Nat.le_refl _) hq
          rw [dv_byte, dv_hi h4]; omega)
      have HG := hide (digit_any (World.itTo wr w2.heap.size ⟨D.toArray⟩ q) c hc1)
      have hdv := dv_le c
      clear hc hI hB hnf hc1
      generalize dvN c = dv at *
      by_cases hd : dv < 10
      · have hd2 : ¬ (10 : Int) ≤ (dv : Int) := by omega
        obtain ⟨e1, e2⟩ := HT.out hd
        have HS : Hid (numF 10 0 (D.take q) = some (m * 10 + dv)) := hide (by rw [e1, e2]; exact numF_step hlt HNF.out (by rw [← e2]; exact hd))
        clear HT HF e1 e2
        go_wp2_with fail
        refine HG.out.mono ?_
        rintro e w3 ⟨rfl, rfl⟩
        go_wp2
        refine ⟨⟨q, m * 10 + dv, rfl, rfl, by simp, hql, HS.out, HI.out, HB.out⟩, ?_⟩
        rw [it_pos HI.out, HP.out]
        omega
      · have hd2 : (10 : Int) ≤ (dv : Int) := by omega
        have HN : Hid (numT l = none) := hide (by rw [HW.out, numF_none hlt HNF.out (HF.out hd)]; rfl)
        clear HT HF
        go_wp2_with fail
        refine HG.out.mono ?_
        rintro e w3 ⟨rfl, rfl⟩
        go_wp2
        go_ret2
        exact ⟨by rw [HN.out]; rfl, HB.out⟩
    · have nx := it_stop (P := Tryd.prog) hI hlt
      have HB := hide hB
      obtain rfl : pos = D.length := by omega
      rw [List.take_length] at hnf
      clear hI hB
      cases mi with
      | false =>
        have HN : Hid (numT l = some (m : Int)) := hide (by rw [HW.out, hnf]; rfl)
        clear hnf HW
        go_wp2
        go_ret2
        exact ⟨by rw [HN.out]; rfl, HB.out⟩
      | true =>
        have HN : Hid (numT l = some (-(m : Int))) := hide (by rw [HW.out, hnf]; rfl)
        clear hnf HW
        go_wp2
        go_ret2
        exact ⟨by rw [HN.out]; rfl, HB.out⟩
end
end Go.Proofs.YtncbbllmhohnkaaDoor
