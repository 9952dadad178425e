import Derived.Laws.AppendOwn
import Derived.Test.YtbfagiofhakjnaaDoorMA02
import Derived.Test.YtbfagiofhakjnaaDoorMA04
namespace Go.Proofs.YtbfagiofhakjnaaDoor
open Go.RowKit
theorem let_byte (b : UInt8) : isLet b = letN b.toNat := rfl
theorem dig_byte (b : UInt8) : isDig b = digN b.toNat := rfl
theorem dv_byte (b : UInt8) : digV b = dvN b.toNat := rfl
/-- what stands at place j is allowed in a label -/
def okAt (j c : Nat) : Bool := letN c || (decide (j ≠ 0) && digN c)
theorem lbl_true {s : Tx} (h0 : s ≠ []) (h : ∀ j (hj : j < s.length), okAt j s[j].toNat = true) : isLbl s = true := by
  rw [lbl_iff]
  refine ⟨h0, fun j hj => ?_⟩
  have := h j hj
  unfold okAt at this
  simp only [Bool.or_eq_true, Bool.and_eq_true, decide_eq_true_eq] at this
  exact this
theorem lbl_false {s : Tx} {j : Nat} (hj : j < s.length) (h : okAt j s[j].toNat = false) : isLbl s = false := by
  cases e : isLbl s with
  | false => rfl
  | true =>
    have h2 := (lbl_iff s).1 e |>.2 j hj
    unfold okAt at h
    simp only [Bool.or_eq_false_iff, Bool.and_eq_false_iff, decide_eq_false_iff_not] at h
    rcases h2 with h2 | h2
    · rw [let_byte, h.1] at h2; simp at h2
    · rcases h.2 with h3 | h3
      · exact absurd h2.1 h3
      · rw [dig_byte, h3] at h2; simp at h2
section
variable (w : World)
set_option maxRecDepth 100000 in
set_option maxHeartbeats 1000000 in
theorem isLabel_any (l : Tx) (hl : l.length ≤ 16384) : Calls Tryd.prog 32 #[.string ⟨l.toArray⟩] w fun e w' => e = .returned (.bool (isLbl l)) ∧ Below w.heap.size w w' := by
  go_enter Tryd.func32, Tryd.ntmps32
  go_upto_region 2 with fail
  go_loopw [2] (fun u wr => ∃ pos : Nat, u = .bool false ∧ pos ≤ l.length ∧ (∀ j (hj : j < l.length), j < pos → okAt j l[j].toNat = true) ∧ It wr w.heap.size ⟨l.toArray⟩ pos ∧ Below w.heap.size w wr) (fun _ wr => l.length - itPos wr w.heap.size)
  case atStart => exact ⟨0, rfl, by omega, fun j _ h => by omega, heap_alloc_last _ _, bel1 _ _⟩
  case round =>
  obtain ⟨pos, rfl, hp, hno, hI, hB⟩ := hrel
  by_cases hlt : pos < l.length
  · obtain ⟨c, q, nx, hq, hql, hc⟩ := it_step (P := Tryd.prog) hI hlt
    have HI := hide (it_to hI q)
    have HB := hide (it_below (s := ⟨l.toArray⟩) hB (Nat.le_refl _) q)
    have HP := hide (it_pos hI)
    have HN := hide hno
    have HT : Hid (okAt pos c = true → q = pos + 1 ∧ c = l[pos].toNat) := hide (by
      intro h
      rcases hc with ⟨_, h1, h2⟩ | ⟨h1, _⟩
      · exact ⟨h2, h1⟩
      · unfold okAt at h; rw [let_hi h1, dig_hi h1] at h; simp at h)
    have HF : Hid (okAt pos c = false → isLbl l = false) := hide (by
      intro h
      rcases hc with ⟨_, h1, h2⟩ | ⟨h1, _, h3⟩
      · rw [h1] at h; exact lbl_false hlt h
      · have h4 := h3 pos hlt (Nat.le_refl _) hq
        refine lbl_false hlt ?_
        unfold okAt; rw [let_hi h4, dig_hi h4]; simp)
    have HL := hide (letter_any (World.itTo wr w.heap.size ⟨l.toArray⟩ q) c)
    have HG := hide (digit1_any (World.itTo wr w.heap.size ⟨l.toArray⟩ q) c)
    clear hc hI hB hno
    cases hx : letN c with
    | true =>
      rw [hx] at HL
      have HO : Hid (okAt pos c = true) := hide (by simp [okAt, hx])
      clear hx
      go_wp2_with fail
      refine HL.out.mono ?_
      rintro e w1 ⟨rfl, rfl⟩
      go_wp2
      obtain ⟨e1, e2⟩ := HT.out HO.out
      refine ⟨⟨q, rfl, hql, fun j hj hjq => ?_, HI.out, HB.out⟩, ?_⟩
      · by_cases hjp : j < pos
        · exact HN.out j hj hjp
        · obtain rfl : j = pos := by omega
          rw [← e2]; exact HO.out
      · rw [it_pos HI.out, HP.out]
        omega
    | false =>
      rw [hx] at HL
      by_cases h0 : pos = 0
      · have HO : Hid (okAt pos c = false) := hide (by simp [okAt, hx, h0])
        clear hx
        subst h0
        go_wp2_with fail
        refine HL.out.mono ?_
        rintro e w1 ⟨rfl, rfl⟩
        go_wp2
        go_ret
        exact ⟨by rw [HF.out HO.out]; rfl, HB.out⟩
      · have h0' : ((pos : Int) == 0) = false := by simp; omega
        cases hy : digN c with
        | true =>
          have HO : Hid (okAt pos c = true) := hide (by simp [okAt, hx, hy, h0])
          rw [hy] at HG
          clear hx hy h0
          go_wp2_with fail
          refine HL.out.mono ?_
          rintro e w1 ⟨rfl, rfl⟩
          go_wp2_with fail
          refine HG.out.mono ?_
          rintro e w1 ⟨rfl, rfl⟩
          go_wp2
          obtain ⟨e1, e2⟩ := HT.out HO.out
          refine ⟨⟨q, rfl, hql, fun j hj hjq => ?_, HI.out, HB.out⟩, ?_⟩
          · by_cases hjp : j < pos
            · exact HN.out j hj hjp
            · obtain rfl : j = pos := by omega
              rw [← e2]; exact HO.out
          · rw [it_pos HI.out, HP.out]
            omega
        | false =>
          have HO : Hid (okAt pos c = false) := hide (by simp [okAt, hx, hy])
          rw [hy] at HG
          clear hx hy h0
          go_wp2_with fail
          refine HL.out.mono ?_
          rintro e w1 ⟨rfl, rfl⟩
          go_wp2_with fail
          refine HG.out.mono ?_
          rintro e w1 ⟨rfl, rfl⟩
          go_wp2
          go_ret
          exact ⟨by rw [HF.out HO.out]; rfl, HB.out⟩
  · have nx := it_stop (P := Tryd.prog) hI hlt
    have HB := hide hB
    by_cases h0 : l = []
    · subst h0
      clear hI hB hno
      go_wp2
      go_ret
      exact ⟨rfl, HB.out⟩
    · have HV : Hid (isLbl l = true) := hide (lbl_true h0 fun j hj => hno j hj (by omega))
      have hne : List.isEmpty l = false := by simpa using h0
      clear hI hB hno h0
      go_wp2
      go_ret
      exact ⟨by rw [HV.out]; rfl, HB.out⟩
theorem register_any' (l : Tx) : Calls Tryd.prog 74 #[.string ⟨l.toArray⟩] w fun e w' => e = .returned (.tuple #[.int .i64 ((regT l).getD 0 : Nat), .bool (regT l).isSome]) ∧ w' = w := by
  match l with
  | [] =>
    go_enter Tryd.func74, Tryd.ntmps74
    go_wp2
    go_ret2
    exact ⟨rfl, rfl⟩
  | [a] =>
    go_enter Tryd.func74, Tryd.ntmps74
    go_wp2
    go_ret2
    exact ⟨rfl, rfl⟩
  | a :: b :: c :: r =>
    have hlen : ¬ ((r.length + 1 + 1 + 1 : Nat) : Int) = 2 := by omega
    go_enter Tryd.func74, Tryd.ntmps74
    go_wp2
    go_ret2
    exact ⟨rfl, rfl⟩
  | [a, b] =>
    have hx0 : ∀ h, (⟨#[a, b]⟩ : ByteArray)[0]'h = a := fun _ => rfl
    have hx1 : ∀ h, (⟨#[a, b]⟩ : ByteArray)[1]'h = b := fun _ => rfl
    by_cases h1 : a.toNat = 114
    · by_cases h2 : 48 ≤ b.toNat
      · by_cases h3 : b.toNat < 56
        · have a0 : ((a.toNat : Int) != 114) = false := by simp; omega
          have a1 : ¬ (b.toNat : Int) < 48 := by omega
          have a2 : ¬ (56 : Int) ≤ (b.toNat : Int) := by omega
          have a3 : (48 : Int) ≤ (b.toNat : Int) := by omega
          have a4 : (b.toNat : Int) < 56 := by omega
          have HE : Hid (((b.toNat - 48 : Nat) : Int) = (b.toNat : Int) - 48) := hide (by omega)
          have HV : Hid (regT [a, b] = some (b.toNat - 48)) := hide (by simp [regT]; omega)
          go_enter Tryd.func74, Tryd.ntmps74
          go_wp2
          go_ret2
          exact ⟨by rw [HV.out]; simp only [Option.getD_some]; rw [HE.out]; rfl, rfl⟩
        · have a0 : ((a.toNat : Int) != 114) = false := by simp; omega
          have a1 : ¬ (b.toNat : Int) < 48 := by omega
          have a2 : (56 : Int) ≤ (b.toNat : Int) := by omega
          have HV : Hid (regT [a, b] = none) := hide (by simp [regT]; omega)
          go_enter Tryd.func74, Tryd.ntmps74
          go_wp2
          go_ret2
          exact ⟨by rw [HV.out]; rfl, rfl⟩
      · have a0 : ((a.toNat : Int) != 114) = false := by simp; omega
        have a1 : (b.toNat : Int) < 48 := by omega
        have HV : Hid (regT [a, b] = none) := hide (by simp [regT]; omega)
        go_enter Tryd.func74, Tryd.ntmps74
        go_wp2
        go_ret2
        exact ⟨by rw [HV.out]; rfl, rfl⟩
    · have a0 : ((a.toNat : Int) != 114) = true := by simp; omega
      have HV : Hid (regT [a, b] = none) := hide (by simp [regT]; omega)
      go_enter Tryd.func74, Tryd.ntmps74
      go_wp2
      go_ret2
      exact ⟨by rw [HV.out]; rfl, rfl⟩
theorem dv_le (c : Nat) : dvN c ≤ 16 := by
  unfold dvN digN
  split
  · next h => simp at h; omega
  · split <;> omega
set_option maxRecDepth 100000 in
set_option maxHeartbeats 1000000 in
theorem number_any' (l : Tx) (hl : l.length ≤ 16384) : Calls Tryd.prog 72 #[.string ⟨l.toArray⟩] w fun e w' => e = .returned (.tuple #[.int .i64 ((numT l).getD 0), .bool (numT l).isSome]) ∧ Below w.heap.size w w' := by
  have h1 := Tryd.cutPre l [45] w
  have h2 := Tryd.cutPre (absT l) [48, 120] w
  have HV : Hid (numT l = if (digT (absT l)).length = 0 ∨ mosT (absT l) < (digT (absT l)).length then none else (numF (basT (absT l)) 0 (digT (absT l))).map fun n => if minT l then -(n : Int) else (n : Int)) := hide rfl
  have HD : Hid (hexT (absT l) = false → digT (absT l) = absT l) := hide (by
    intro h
    unfold digT Lib.trimPrefix
    unfold hexT at h
    rw [h]; rfl)
  change Calls _ _ _ _ fun e w' => e = .returned (.tuple #[.string ⟨(absT l).toArray⟩, .bool (minT l)]) ∧ w' = w at h1
  change Calls _ _ _ _ fun e w' => e = .returned (.tuple #[.string ⟨(digT (absT l)).toArray⟩, .bool (hexT (absT l))]) ∧ w' = w at h2
  have hab : (absT l).length ≤ 16384 := by
    unfold absT Lib.trimPrefix
    split
    · simp; omega
    · exact hl
  generalize absT l = A at *
  generalize minT l = mi at *
  unfold mosT basT at HV
  have hdl : (digT A).length ≤ 16384 := by
    unfold digT Lib.trimPrefix
    split
    · simp; omega
    · exact hab
  generalize digT A = D at *
  cases hx : hexT A with
  | true =>
    rw [hx] at HV h2
    simp only [if_true] at HV
    have H1 := hide h1
    have H2 := hide h2
    clear h1 h2 HD hx
    by_cases h0 : D = []
    · have HN : Hid (numT l = none) := hide (by rw [HV.out, h0]; rfl)
      subst h0
      clear HV
      go_enter Tryd.func72, Tryd.ntmps72
      go_wp2_with fail
      refine H1.out.mono ?_
      rintro e w1 ⟨rfl, rfl⟩
      go_wp2_with fail
      refine H2.out.mono ?_
      rintro e w2 ⟨rfl, rfl⟩
      go_wp2
      go_ret2
      exact ⟨by rw [HN.out]; rfl, Below.refl _ _⟩
    have he : List.isEmpty D = false := by simpa using h0
    have hdp : 0 < D.length := List.length_pos_iff.2 h0
    by_cases hm : 8 < D.length
    · have HN : Hid (numT l = none) := hide (by rw [HV.out, if_pos (.inr hm)])
      have hm2 : (8 : Int) < (D.length : Int) := by omega
      clear HV h0 hm
      go_enter Tryd.func72, Tryd.ntmps72
      go_wp2_with fail
      refine H1.out.mono ?_
      rintro e w1 ⟨rfl, rfl⟩
      go_wp2_with fail
      refine H2.out.mono ?_
      rintro e w2 ⟨rfl, rfl⟩
      go_wp2
      go_ret2
      exact ⟨by rw [HN.out]; rfl, Below.refl _ _⟩
    have hm2 : ¬ (8 : Int) < (D.length : Int) := by omega
    have HW : Hid (numT l = (numF 16 0 D).map fun n => if mi then -(n : Int) else (n : Int)) := hide (by rw [HV.out, if_neg (by omega)])
    have hbd : ∀ (k m : Nat), numF 16 0 (D.take k) = some m → m < 10000000000 := fun k m h => by
      have h3 := numF_lt 16 (by decide) (D.take k) 0 m 0 (by decide) h
      have h4 : (0 + (D.take k).length) ≤ 8 := by simp; omega
      have h5 : 16 ^ (0 + (D.take k).length) ≤ 16 ^ 8 := Nat.pow_le_pow_right (by decide) h4
      have h6 : 16 ^ 8 ≤ 10000000000 := by decide
      omega
    have HBD := hide hbd
    clear HV h0 hm hbd
    go_enter Tryd.func72, Tryd.ntmps72
    go_wp2_with fail
    refine H1.out.mono ?_
    rintro e w1 ⟨rfl, rfl⟩
    go_wp2_with fail
    refine H2.out.mono ?_
    rintro e w2 ⟨rfl, rfl⟩
    clear H1 H2
    go_upto_region 10 with fail
    go_loopw [2, 3, 10] (fun r x u wr => ∃ pos m : Nat, r = .int .i64 0 ∧ x = .bool false ∧ u = .int .i64 (m : Int) ∧ pos ≤ D.length ∧ numF 16 0 (D.take pos) = some m ∧ It wr w2.heap.size ⟨D.toArray⟩ pos ∧ Below w2.heap.size w2 wr) (fun _ _ _ wr => D.length - itPos wr w2.heap.size)
    case atStart => exact ⟨0, 0, rfl, rfl, rfl, by omega, rfl, heap_alloc_last _ _, bel1 _ _⟩
    case round =>
    obtain ⟨pos, m, rfl, rfl, rfl, hp, hnf, hI, hB⟩ := hrel
    have hmb := HBD.out _ _ hnf
    by_cases hlt : pos < D.length
    · obtain ⟨c, q, nx, hq, hql, hc⟩ := it_step (P := Tryd.prog) hI hlt
      have HI := hide (it_to hI q)
      have HB := hide (it_below (s := ⟨D.toArray⟩) hB (Nat.le_refl _) q)
      have HP := hide (it_pos hI)
      have HNF := hide hnf
      have hc1 : c ≤ 1114111 := by rcases hc with ⟨h, _⟩ | ⟨_, h, _⟩ <;> omega
      have HT : Hid (dvN c < 16 → q = pos + 1 ∧ dvN c = digV D[pos]) := hide (by
        intro h
        rcases hc with ⟨_, h1, h2⟩ | ⟨h1, _⟩
        · exact ⟨h2, by rw [dv_byte, h1]⟩
        · rw [dv_hi h1] at h; omega)
      have HF : Hid (¬ dvN c < 16 → ¬ digV D[pos] < 16) := hide (by
        intro h
        rcases hc with ⟨_, h1, h2⟩ | ⟨h1, _, h3⟩
        · rw [dv_byte, ← h1]; exact h
        · have h4 := h3 pos hlt (Nat.le_refl _) hq
          rw [dv_byte, dv_hi h4]; omega)
      have HG := hide (digit_any (World.itTo wr w2.heap.size ⟨D.toArray⟩ q) c hc1)
      have hdv := dv_le c
      clear hc hI hB hnf hc1
      generalize dvN c = dv at *
      by_cases hd : dv < 16
      · have hd2 : ¬ (16 : Int) ≤ (dv : Int) := by omega
        obtain ⟨e1, e2⟩ := HT.out hd
        have HS : Hid (numF 16 0 (D.take q) = some (m * 16 + dv)) := hide (by rw [e1, e2]; exact numF_step hlt HNF.out (by rw [← e2]; exact hd))
        clear HT HF e1 e2
        go_wp2_with fail
        refine HG.out.mono ?_
        rintro e w3 ⟨rfl, rfl⟩
        go_wp2
        refine ⟨⟨q, m * 16 + dv, rfl, rfl, by simp, hql, HS.out, HI.out, HB.out⟩, ?_⟩
        rw [it_pos HI.out, HP.out]
        omega
      · have hd2 : (16 : Int) ≤ (dv : Int) := by omega
        have HN : Hid (numT l = none) := hide (by rw [HW.out, numF_none hlt HNF.out (HF.out hd)]; rfl)
        clear HT HF
        go_wp2_with fail
        refine HG.out.mono ?_
        rintro e w3 ⟨rfl, rfl⟩
        go_wp2
        go_ret2
        exact ⟨by rw [HN.out]; rfl, HB.out⟩
    · have nx := it_stop (P := Tryd.prog) hI hlt
      have HB := hide hB
      obtain rfl : pos = D.length := by omega
      rw [List.take_length] at hnf
      clear hI hB
      cases mi with
      | false =>
        have HN : Hid (numT l = some (m : Int)) := hide (by rw [HW.out, hnf]; rfl)
        clear hnf HW
        go_wp2
        go_ret2
        exact ⟨by rw [HN.out]; rfl, HB.out⟩
      | true =>
        have HN : Hid (numT l = some (-(m : Int))) := hide (by rw [HW.out, hnf]; rfl)
        clear hnf HW
        go_wp2
        go_ret2
        exact ⟨by rw [HN.out]; rfl, HB.out⟩
  | false =>
    rw [hx] at HV h2
    simp only [if_false, Bool.false_eq_true] at HV
    have H1 := hide h1
    have H2 := hide h2
    obtain rfl := HD.out hx
    clear h1 h2 HD hx
    by_cases h0 : D = []
    · have HN : Hid (numT l = none) := hide (by rw [HV.out, h0]; rfl)
      subst h0
      clear HV
      go_enter Tryd.func72, Tryd.ntmps72
      go_wp2_with fail
      refine H1.out.mono ?_
      rintro e w1 ⟨rfl, rfl⟩
      go_wp2_with fail
      refine H2.out.mono ?_
      rintro e w2 ⟨rfl, rfl⟩
      go_wp2
      go_ret2
      exact ⟨by rw [HN.out]; rfl, Below.refl _ _⟩
    have he : List.isEmpty D = false := by simpa using h0
    have hdp : 0 < D.length := List.length_pos_iff.2 h0
    by_cases hm : 10 < D.length
    · have HN : Hid (numT l = none) := hide (by rw [HV.out, if_pos (.inr hm)])
      have hm2 : (10 : Int) < (D.length : Int) := by omega
      clear HV h0 hm
      go_enter Tryd.func72, Tryd.ntmps72
      go_wp2_with fail
      refine H1.out.mono ?_
      rintro e w1 ⟨rfl, rfl⟩
      go_wp2_with fail
      refine H2.out.mono ?_
      rintro e w2 ⟨rfl, rfl⟩
      go_wp2
      go_ret2
      exact ⟨by rw [HN.out]; rfl, Below.refl _ _⟩
    have hm2 : ¬ (10 : Int) < (D.length : Int) := by omega
    have HW : Hid (numT l = (numF 10 0 D).map fun n => if mi then -(n : Int) else (n : Int)) := hide (by rw [HV.out, if_neg (by omega)])
    have hbd : ∀ (k m : Nat), numF 10 0 (D.take k) = some m → m < 10000000000 := fun k m h => by
      have h3 := numF_lt 10 (by decide) (D.take k) 0 m 0 (by decide) h
      have h4 : (0 + (D.take k).length) ≤ 10 := by simp; omega
      have h5 : 10 ^ (0 + (D.take k).length) ≤ 10 ^ 10 := Nat.pow_le_pow_right (by decide) h4
      have h6 : 10 ^ 10 ≤ 10000000000 := by decide
      omega
    have HBD := hide hbd
    clear HV h0 hm hbd
    go_enter Tryd.func72, Tryd.ntmps72
    go_wp2_with fail
    refine H1.out.mono ?_
    rintro e w1 ⟨rfl, rfl⟩
    go_wp2_with fail
    refine H2.out.mono ?_
    rintro e w2 ⟨rfl, rfl⟩
    clear H1 H2
    go_upto_region 10 with fail
    go_loopw [2, 3, 10] (fun r x u wr => ∃ pos m : Nat, r = .int .i64 0 ∧ x = .bool false ∧ u = .int .i64 (m : Int) ∧ pos ≤ D.length ∧ numF 10 0 (D.take pos) = some m ∧ It wr w2.heap.size ⟨D.toArray⟩ pos ∧ Below w2.heap.size w2 wr) (fun _ _ _ wr => D.length - itPos wr w2.heap.size)
    case atStart => exact ⟨0, 0, rfl, rfl, rfl, by omega, rfl, heap_alloc_last _ _, bel1 _ _⟩
    case round =>
    obtain ⟨pos, m, rfl, rfl, rfl, hp, hnf, hI, hB⟩ := hrel
    have hmb := HBD.out _ _ hnf
    by_cases hlt : pos < D.length
    · obtain ⟨c, q, nx, hq, hql, hc⟩ := it_step (P := Tryd.prog) hI hlt
      have HI := hide (it_to hI q)
      have HB := hide (it_below (s := ⟨D.toArray⟩) hB (Nat.le_refl _) q)
      have HP := hide (it_pos hI)
      have HNF := hide hnf
      have hc1 : c ≤ 1114111 := by rcases hc with ⟨h, _⟩ | ⟨_, h, _⟩ <;> omega
      have HT : Hid (dvN c < 10 → q = pos + 1 ∧ dvN c = digV D[pos]) := hide (by
        intro h
        rcases hc with ⟨_, h1, h2⟩ | ⟨h1, _⟩
        · exact ⟨h2, by rw [dv_byte, h1]⟩
        · rw [dv_hi h1] at h; omega)
      have HF : Hid (¬ dvN c < 10 → ¬ digV D[pos] < 10) := hide (by
        intro h
        rcases hc with ⟨_, h1, h2⟩ | ⟨h1, _, h3⟩
        · rw [dv_byte, ← h1]; exact h
        · have h4 := h3 pos hlt (Nat.le_refl _) hq
          rw [dv_byte, dv_hi h4]; omega)
      have HG := hide (digit_any (World.itTo wr w2.heap.size ⟨D.toArray⟩ q) c hc1)
      have hdv := dv_le c
      clear hc hI hB hnf hc1
      generalize dvN c = dv at *
      by_cases hd : dv < 10
      · have hd2 : ¬ (10 : Int) ≤ (dv : Int) := by omega
        obtain ⟨e1, e2⟩ := HT.out hd
        have HS : Hid (numF 10 0 (D.take q) = some (m * 10 + dv)) := hide (by rw [e1, e2]; exact numF_step hlt HNF.out (by rw [← e2]; exact hd))
        clear HT HF e1 e2
        go_wp2_with fail
        refine HG.out.mono ?_
        rintro e w3 ⟨rfl, rfl⟩
        go_wp2
        refine ⟨⟨q, m * 10 + dv, rfl, rfl, by simp, hql, HS.out, HI.out, HB.out⟩, ?_⟩
        rw [it_pos HI.out, HP.out]
        omega
      · have hd2 : (10 : Int) ≤ (dv : Int) := by omega
        have HN : Hid (numT l = none) := hide (by rw [HW.out, numF_none hlt HNF.out (HF.out hd)]; rfl)
        clear HT HF
        go_wp2_with fail
        refine HG.out.mono ?_
        rintro e w3 ⟨rfl, rfl⟩
        go_wp2
        go_ret2
        exact ⟨by rw [HN.out]; rfl, HB.out⟩
    · have nx := it_stop (P := Tryd.prog) hI hlt
      have HB := hide hB
      obtain rfl : pos = D.length := by omega
      rw [List.take_length] at hnf
      clear hI hB
      cases mi with
      | false =>
        have HN : Hid (numT l = some (m : Int)) := hide (by rw [HW.out, hnf]; rfl)
        clear hnf HW
        go_wp2
        go_ret2
        exact ⟨by rw [HN.out]; rfl, HB.out⟩
      | true =>
        have HN : Hid (numT l = some (-(m : Int))) := hide (by rw [HW.out, hnf]; rfl)
        clear hnf HW
        go_wp2
        go_ret2
        exact ⟨by rw [HN.out]; rfl, HB.out⟩
end
end Go.Proofs.YtbfagiofhakjnaaDoor

namespace Go.Proofs.YtbfagiofhakjnaaDoor
open Go.RowKit
/-- the table as one value -/
def opL : List Value := (List.range 27).flatMap fun n => [.string ⟨(nm n).toArray⟩, .bool (uA n), .bool (uB n), .int .i64 (kd n : Nat)]
theorem opL_len : opL.length = 108 := rfl
theorem opL_at (n : Nat) (hn : n < 27) : opL[n * 4]? = some (.string ⟨(nm n).toArray⟩) ∧ opL[n * 4 + 1]? = some (.bool (uA n)) ∧ opL[n * 4 + 2]? = some (.bool (uB n)) ∧ opL[n * 4 + 3]? = some (.int .i64 (kd n : Nat)) := by
  have h : n = 0 ∨ n = 1 ∨ n = 2 ∨ n = 3 ∨ n = 4 ∨ n = 5 ∨ n = 6 ∨ n = 7 ∨ n = 8 ∨ n = 9 ∨ n = 10 ∨ n = 11 ∨ n = 12 ∨ n = 13 ∨ n = 14 ∨ n = 15 ∨ n = 16 ∨ n = 17 ∨ n = 18 ∨ n = 19 ∨ n = 20 ∨ n = 21 ∨ n = 22 ∨ n = 23 ∨ n = 24 ∨ n = 25 ∨ n = 26 := by omega
  rcases h with rfl | rfl | rfl | rfl | rfl | rfl | rfl | rfl | rfl | rfl | rfl | rfl | rfl | rfl | rfl | rfl | rfl | rfl | rfl | rfl | rfl | rfl | rfl | rfl | rfl | rfl | rfl <;> exact ⟨rfl, rfl, rfl, rfl⟩
theorem Ops.all {w : World} (h : Ops w) : ∀ (j : Nat) (v : Value), opL[j]? = some v → w.cell? ((⟨1, 0, none⟩ : Addr).add j) = some v := by
  intro j v hv
  have hj : j < 108 := by
    have := (List.getElem?_eq_some_iff.1 hv).1
    rw [opL_len] at this
    exact this
  rw [add0]
  obtain ⟨n, k, hn, hk, rfl⟩ : ∃ n k, n < 27 ∧ k < 4 ∧ j = n * 4 + k := ⟨j / 4, j % 4, by omega, by omega, by omega⟩
  obtain ⟨e0, e1, e2, e3⟩ := opL_at n hn
  match k, hk with
  | 0, _ => rw [Nat.add_zero] at hv ⊢; rw [h.name hn, ← e0, hv]
  | 1, _ => rw [h.a n hn, ← e1, hv]
  | 2, _ => rw [h.b n hn, ← e2, hv]
  | 3, _ => rw [h.k n hn, ← e3, hv]
theorem opT_at {s : Tx} {k : Nat} (hk : k < 27) (h0 : ∀ n, n < k → (n != 0 && nm n == s) = false) (h1 : (k != 0 && nm k == s) = true) : opT s = k := by
  have e : (List.range 27).find? (fun n => n != 0 && nm n == s) = some k := by
    rw [List.find?_eq_some_iff_append]
    refine ⟨h1, List.range k, List.range' (k + 1) (26 - k), ?_, fun n hn => by
      have := h0 n (List.mem_range.1 hn)
      simp only [this, Bool.not_false]⟩
    rw [List.range_eq_range', List.range_eq_range', show k :: List.range' (k + 1) (26 - k) = List.range' k (27 - k) by rw [show 27 - k = (26 - k) + 1 by omega, List.range'_succ]]
    have e := List.range'_append_1 (s := 0) (m := k) (n := 27 - k)
    rw [Nat.zero_add, show k + (27 - k) = 27 by omega] at e
    exact e.symm
  unfold opT
  rw [e]; rfl
theorem opT_none {s : Tx} (h0 : ∀ n, n < 27 → (n != 0 && nm n == s) = false) : opT s = 0 := by
  have e : (List.range 27).find? (fun n => n != 0 && nm n == s) = none := by
    rw [List.find?_eq_none]
    intro n hn
    rw [h0 n (List.mem_range.1 hn)]
    simp
  unfold opT
  rw [e]; rfl
/-- a struct or an array loaded out of whatever address -/
theorem loadT {t : TypeId} {d : TypeDesc} (hu : Tryd.prog.underlying t = some d) (hd : (match d with | .struct _ | .array _ _ => true | _ => false) = true) (cs : List Value) (hi : (Tryd.prog.info? t).map (·.size) = some cs.length) {ops : Array Oper} {rest : List Oper} {op : Oper} {a : Act} {w : World} {Q : Exit → Act → World → Prop} (hw : Region.wanted op (yielded ops a.tmps) = true) (x : Operand) (ho : op.op = .load t x) (ad : Addr)
    (hx : a.eval x = .pointer (some ad)) (hc : ∀ (j : Nat) (v : Value), cs[j]? = some v → w.cell? (ad.add j) = some v) (h : wpList Tryd.prog ops Q rest (a.put op.dst (.agg cs.toArray)) w) : wpList Tryd.prog ops Q (op :: rest) a w :=
  BigFrame.wpList_want hw fun _ hK => by
    have hl : (loadCells ad cs.length).run Tryd.prog w = .ok cs.toArray w := run_loadCells_list w ad cs hc
    have hv : (loadVar t ad).run Tryd.prog w = .ok (.agg cs.toArray) w := by
      cases hq : Tryd.prog.info? t with
      | none => simp [hq] at hi
      | some i =>
        have hs : i.size = cs.length := by simpa [hq] using hi
        have hagg : (isAgg t).run Tryd.prog w = .ok true w := by
          unfold isAgg
          rw [Sem.run_bind, run_underlying hu w]
          cases d <;> simp_all
        simp [loadVar, Sem.run_bind, hagg, sizeOf, typeInfo, hq, hs, hl]
    unfold Oper.wp execOp
    simp only [ho, hx, Instr.loadAt, Instr.sureAddr, Sem.run_bind, Sem.run_pure, Result.andThen_ok, hv]
    exact hK _ _ h
theorem idxO (w : World) (A : Array Value) (hA : A.size = 108) (k : Nat) (hk : k < 27) (a b c d : Value) (h1 : A[k * 4]? = some a) (h2 : A[k * 4 + 1]? = some b) (h3 : A[k * 4 + 2]? = some c) (h4 : A[k * 4 + 3]? = some d) : (Instr.index 98 (.agg A) (.int .i64 (k : Int))).run Tryd.prog w = .ok (.agg #[a, b, c, d]) w := by
  have hk' : (0 : Int) ≤ k ∧ (k : Int) < 27 := by omega
  unfold Instr.index
  have hsz : (sizeOf 97).run Tryd.prog w = .ok 4 w := by kernel_rfl
  have hx : A.extract (k * 4) (k * 4 + 4) = #[a, b, c, d] := by
    apply Array.ext_getElem?
    intro j
    rw [Array.getElem?_extract]
    by_cases e0 : j < 4
    · rw [if_pos (by omega)]
      match j, e0 with
      | 0, _ => simpa using h1
      | 1, _ => simpa using h2
      | 2, _ => simpa using h3
      | 3, _ => simpa using h4
    · rw [if_neg (by omega), Array.getElem?_eq_none (by simp; omega)]
  simp [Sem.run_bind, asIntOf, run_underlying Tryd.underlying98, hk', hsz, part, hx]
  intro h; omega
section
variable (w : World)
set_option maxRecDepth 100000 in
set_option maxHeartbeats 1000000 in
theorem opNamed_any (s : Tx) (hO : Ops w) : Calls Tryd.prog 61 #[.string ⟨s.toArray⟩] w fun e w' => e = .returned (.int .i64 (opT s : Nat)) ∧ Below w.heap.size w w' := by
  have HA := hide hO.all
  clear hO
  obtain ⟨A, hA⟩ : ∃ A, A = opL := ⟨_, rfl⟩
  rw [← hA] at HA
  have hlen : A.length = 108 := by rw [hA]; exact opL_len
  have HX : Hid (∀ (k : Nat), k < 27 → ∀ (W : World), (Instr.index 98 (.agg A.toArray) (.int .i64 (k : Int))).run Tryd.prog W = .ok (.agg #[.string ⟨(nm k).toArray⟩, .bool (uA k), .bool (uB k), .int .i64 (kd k : Nat)]) W) := hide (fun k hk W => by
    obtain ⟨e0, e1, e2, e3⟩ := opL_at k hk
    rw [← hA] at e0 e1 e2 e3
    exact idxO W A.toArray (by simpa using hlen) k hk _ _ _ _ (by simpa using e0) (by simpa using e1) (by simpa using e2) (by simpa using e3))
  have HN := hide hlen
  clear hlen hA
  go_enter Tryd.func61, Tryd.ntmps61
  go_upto_region 2 with (refine loadT Tryd.underlying98 rfl A (by rw [HN.out]; kernel_rfl) rfl _ rfl ⟨1, 0, none⟩ rfl HA.out ?_)
  go_loopw [2, 6] (fun r u wr => ∃ k : Nat, r = .int .i64 0 ∧ k ≤ 27 ∧ u = .int .i64 (k : Int) ∧ (∀ n, n < k → (n != 0 && nm n == s) = false) ∧ Below w.heap.size w wr) (fun _ u _ => 27 - (intOf u).toNat)
  case atStart => exact ⟨0, rfl, by omega, rfl, fun n h => by omega, Below.refl _ _⟩
  case round =>
  obtain ⟨k, rfl, hk, rfl, hno, hB⟩ := hrel
  have HNo := hide hno
  have HB := hide hB
  clear hno hB
  by_cases hlt : k < 27
  · have hd : (k : Int) < 27 := by omega
    have hix := HX.out k hlt
    by_cases h0 : k = 0
    · subst h0
      have hix0 : ∀ (W : World), (Instr.index 98 (.agg A.toArray) (.int .i64 0)).run Tryd.prog W = .ok (.agg #[.string ⟨(nm 0).toArray⟩, .bool (uA 0), .bool (uB 0), .int .i64 (kd 0 : Nat)]) W := hix
      clear hix hd
      go_wp2
      refine ⟨⟨1, rfl, by omega, rfl, fun n hn => by
        obtain rfl : n = 0 := by omega
        rfl, HB.out.alloc HB.out.size _⟩, by simp [intOf]⟩
    · have h0' : ((k : Int) != 0) = true := by simp; omega
      have h0n : (k != 0) = true := by simpa using h0
      have HO : Hid ((nm k == s) = true → opT s = k) := hide (fun e => opT_at hlt HNo.out (by rw [h0n, e]; rfl))
      cases hx : (nm k == s) with
      | true =>
        have HO2 := hide (HO.out hx)
        clear HO
        generalize nm k = nn at *
        generalize uA k = ua at *
        generalize uB k = ub at *
        generalize kd k = kk at *
        go_wp2
        go_ret
        exact ⟨by rw [HO2.out]; rfl, HB.out.alloc HB.out.size _⟩
      | false =>
        have HF : Hid ((k != 0 && nm k == s) = false) := hide (by rw [hx]; simp)
        generalize uA k = ua at *
        generalize uB k = ub at *
        generalize kd k = kk at *
        go_wp2
        refine ⟨⟨k + 1, rfl, by omega, by simp, fun n hn => by
          by_cases e : n = k
          · subst e; exact HF.out
          · exact HNo.out n (by omega), HB.out.alloc HB.out.size _⟩, ?_⟩
        simp [intOf]
        omega
  · obtain rfl : k = 27 := by omega
    have HV := hide (opT_none HNo.out)
    go_wp2
    go_ret
    exact ⟨by rw [HV.out]; rfl, HB.out⟩
end
end Go.Proofs.YtbfagiofhakjnaaDoor

namespace Go.Proofs.YtbfagiofhakjnaaDoor
open Go.RowKit
def nums (l : List Int) : List Value := l.map (Value.int .i64)
theorem cell_one_new (w : World) (v : Value) (t : TypeId) : ∀ j u, [v][j]? = some u → (w.alloc (.cells #[v] t)).cell? ((⟨w.heap.size, 0, none⟩ : Addr).add j) = some u := by
  intro j u h
  match j, h with
  | 0, h =>
    simp at h
    subst h
    rw [add0, World.cell?_alloc_new]; rfl
theorem own_shape {w : World} {base : Nat} {e : TypeId} {size : Nat} {v : Value} {n : Nat} {xs : List Value} (h : w.ownsRow base e size v n xs) : ∃ a c, v = .slice a n c := by
  rcases h.2 with ⟨h1, h2⟩ | ⟨g, cap, cur, h1, _⟩
  · exact ⟨none, 0, by rw [h1, h2]⟩
  · exact ⟨_, _, h1⟩
/-- the fields that an operation has: 0, 1, 2 -/
def fl (a b : Bool) (k : Nat) : List Int := (if a then [0] else []) ++ (if b then [1] else []) ++ (if k = 0 then [] else [2])
/-- a field's text -/
def tfl (na nb : Nat) (z f : Int) : List UInt8 := if f = 0 then 114 :: Lib.itoa (na : Int) else if f = 1 then 114 :: Lib.itoa (nb : Int) else Lib.itoa z
theorem flds_fl (no na nb : Nat) (z : Int) : flds ⟨(no : Int), (na : Int), (nb : Int), z⟩ = (fl (uA no) (uB no) (kd no)).map (tfl na nb z) := by
  unfold flds fl
  simp only [Int.toNat_natCast]
  cases uA no <;> cases uB no <;> (by_cases e : kd no = 0 <;> simp [e, tfl])
theorem info_int : ∃ i, Tryd.prog.info? 3 = some i ∧ i.zero = some (.int .i64 0) ∧ i.size = 1 ∧ i.bytes = 8 := info_parts (by kernel_rfl)
section
variable (w : World)
set_option maxRecDepth 100000 in
set_option maxHeartbeats 2000000 in
theorem fields_any (s : ByteArray) (ua ub : Bool) (k : Nat) : Calls Tryd.prog 73 #[.agg #[.string s, .bool ua, .bool ub, .int .i64 (k : Int)]] w fun e w' => ∃ v, e = .returned v ∧ w'.ownsRow (w.heap.size + 1) 3 1 v (fl ua ub k).length (nums (fl ua ub k)) ∧ Below w.heap.size w w' := by
  obtain ⟨i3, hi, hz, hs, hb⟩ := info_int
  obtain ⟨W0, hW0⟩ : ∃ W0, W0 = w.alloc (.cells #[.string s, .bool ua, .bool ub, .int .i64 (k : Int)] 97) := ⟨_, rfl⟩
  have hN : W0.heap.size = w.heap.size + 1 := by rw [hW0]; simp
  have HC1 : Hid (W0.cell? ⟨w.heap.size, 1, none⟩ = some (.bool ua)) := hide (by rw [hW0, World.cell?_alloc_new]; rfl)
  have HC2 : Hid (W0.cell? ⟨w.heap.size, 2, none⟩ = some (.bool ub)) := hide (by rw [hW0, World.cell?_alloc_new]; rfl)
  have HC3 : Hid (W0.cell? ⟨w.heap.size, 3, none⟩ = some (.int .i64 (k : Int))) := hide (by rw [hW0, World.cell?_alloc_new]; rfl)
  have cA : ∀ V, Below (w.heap.size + 1) W0 V → ∀ j v, W0.cell? ⟨w.heap.size, j, none⟩ = some v → V.cell? ⟨w.heap.size, j, none⟩ = some v := fun V hV j v h => by rw [hV.cell (p := ⟨w.heap.size, j, none⟩) (Nat.lt_succ_self _)]; exact h
  have HZ : Hid (w.heap.size + 1 ≤ W0.heap.size) := hide (by omega)
  have HE : Hid (∀ V, Below (w.heap.size + 1) W0 V → Below w.heap.size w V) := hide (fun V hV => (hW0 ▸ bel1 w _ : Below w.heap.size w W0).trans (hV.mono (by omega)))
  have HO : Hid (W0.ownsRow (w.heap.size + 1) 3 1 (.slice none 0 0) 0 (nums [])) := hide ⟨rfl, .inl ⟨rfl, rfl⟩⟩
  have HB : Hid (Below (w.heap.size + 1) W0 W0) := hide (Below.refl _ _)
  have hsz := HZ.out
  have b0 := HC1.out
  have b1 := HC2.out
  have b2 := HC3.out
  go_enter Tryd.func73, Tryd.ntmps73
  go_upto_region 1 with fail
  rw [← hW0]
  clear hW0 hN
  rcases ua with _ | _
  · go_upto_region 4 with fail
    rcases ub with _ | _
    · go_upto_region 6 with fail
      by_cases hk : k = 0
      · have HL : Hid (fl false false k = []) := hide (by simp [fl, hk])
        subst hk
        go_wp2
        go_ret
        exact ⟨_, rfl, by rw [HL.out]; exact HO.out, HE.out _ HB.out⟩
      · have HL : Hid (fl false false k = [2]) := hide (by simp [fl, hk])
        have hk2 : ¬ (k : Int) = 0 := by omega
        clear hk
        go_upto_region 8 with (at_builtin; refine wpList_append_own _ rfl _ _ 103 rfl (w.heap.size + 1) 3 i3 (.int .i64 0) 1 8 Tryd.underlying103 hi hz hs hb rfl (by decide) _ 0 (nums []) rfl (HO.out.alloc _) ⟨_, 0, none⟩ 1 1 [.int .i64 2] rfl rfl (cell_one_new _ _ _) (by simp [Value.oneCell']) (by unfold maxLen; omega) (by omega) (by simp; omega) ?_; intro v2 w2 ho2 hg2 _; obtain ⟨au, cu, rfl⟩ := own_shape ho2)
        have HO2 : Hid (w2.ownsRow (w.heap.size + 1) 3 1 (.slice au 1 cu) 1 (nums [2])) := hide (by simpa [nums] using ho2)
        have HB2 : Hid (Below (w.heap.size + 1) W0 w2) := hide ((HB.out.alloc hsz _).grown hg2 (by simp; omega) (fun j hj => (HO.out.lt j hj).1))
        clear ho2 hg2 HO HB b0 b1 b2 hsz
        have HO := HO2
        have HB := HB2
        clear HO2 HB2
        have hsz := Nat.le_trans HZ.out HB.out.size
        have b0 := cA w2 HB.out 1 _ HC1.out
        have b1 := cA w2 HB.out 2 _ HC2.out
        have b2 := cA w2 HB.out 3 _ HC3.out
        go_wp2
        go_ret
        exact ⟨_, rfl, by rw [HL.out]; exact HO.out, HE.out _ HB.out⟩
    · go_upto_region 6 with (at_builtin; refine wpList_append_own _ rfl _ _ 103 rfl (w.heap.size + 1) 3 i3 (.int .i64 0) 1 8 Tryd.underlying103 hi hz hs hb rfl (by decide) _ 0 (nums []) rfl (HO.out.alloc _) ⟨_, 0, none⟩ 1 1 [.int .i64 1] rfl rfl (cell_one_new _ _ _) (by simp [Value.oneCell']) (by unfold maxLen; omega) (by omega) (by simp; omega) ?_; intro v2 w2 ho2 hg2 _; obtain ⟨au, cu, rfl⟩ := own_shape ho2)
      have HO2 : Hid (w2.ownsRow (w.heap.size + 1) 3 1 (.slice au 1 cu) 1 (nums [1])) := hide (by simpa [nums] using ho2)
      have HB2 : Hid (Below (w.heap.size + 1) W0 w2) := hide ((HB.out.alloc hsz _).grown hg2 (by simp; omega) (fun j hj => (HO.out.lt j hj).1))
      clear ho2 hg2 HO HB b0 b1 b2 hsz
      have HO := HO2
      have HB := HB2
      clear HO2 HB2
      have hsz := Nat.le_trans HZ.out HB.out.size
      have b0 := cA w2 HB.out 1 _ HC1.out
      have b1 := cA w2 HB.out 2 _ HC2.out
      have b2 := cA w2 HB.out 3 _ HC3.out
      by_cases hk : k = 0
      · have HL : Hid (fl false true k = [1]) := hide (by simp [fl, hk])
        subst hk
        go_wp2
        go_ret
        exact ⟨_, rfl, by rw [HL.out]; exact HO.out, HE.out _ HB.out⟩
      · have HL : Hid (fl false true k = [1, 2]) := hide (by simp [fl, hk])
        have hk2 : ¬ (k : Int) = 0 := by omega
        clear hk
        go_upto_region 8 with (at_builtin; refine wpList_append_own _ rfl _ _ 103 rfl (w.heap.size + 1) 3 i3 (.int .i64 0) 1 8 Tryd.underlying103 hi hz hs hb rfl (by decide) _ 1 (nums [1]) rfl (HO.out.alloc _) ⟨_, 0, none⟩ 1 1 [.int .i64 2] rfl rfl (cell_one_new _ _ _) (by simp [Value.oneCell']) (by unfold maxLen; omega) (by omega) (by simp; omega) ?_; intro v2 w2 ho2 hg2 _; obtain ⟨au, cu, rfl⟩ := own_shape ho2)
        have HO2 : Hid (w2.ownsRow (w.heap.size + 1) 3 1 (.slice au 2 cu) 2 (nums [1, 2])) := hide (by simpa [nums] using ho2)
        have HB2 : Hid (Below (w.heap.size + 1) W0 w2) := hide ((HB.out.alloc hsz _).grown hg2 (by simp; omega) (fun j hj => (HO.out.lt j hj).1))
        clear ho2 hg2 HO HB b0 b1 b2 hsz
        have HO := HO2
        have HB := HB2
        clear HO2 HB2
        have hsz := Nat.le_trans HZ.out HB.out.size
        have b0 := cA w2 HB.out 1 _ HC1.out
        have b1 := cA w2 HB.out 2 _ HC2.out
        have b2 := cA w2 HB.out 3 _ HC3.out
        go_wp2
        go_ret
        exact ⟨_, rfl, by rw [HL.out]; exact HO.out, HE.out _ HB.out⟩
  · go_upto_region 4 with (at_builtin; refine wpList_append_own _ rfl _ _ 103 rfl (w.heap.size + 1) 3 i3 (.int .i64 0) 1 8 Tryd.underlying103 hi hz hs hb rfl (by decide) _ 0 (nums []) rfl (HO.out.alloc _) ⟨_, 0, none⟩ 1 1 [.int .i64 0] rfl rfl (cell_one_new _ _ _) (by simp [Value.oneCell']) (by unfold maxLen; omega) (by omega) (by simp; omega) ?_; intro v2 w2 ho2 hg2 _; obtain ⟨au, cu, rfl⟩ := own_shape ho2)
    have HO2 : Hid (w2.ownsRow (w.heap.size + 1) 3 1 (.slice au 1 cu) 1 (nums [0])) := hide (by simpa [nums] using ho2)
    have HB2 : Hid (Below (w.heap.size + 1) W0 w2) := hide ((HB.out.alloc hsz _).grown hg2 (by simp; omega) (fun j hj => (HO.out.lt j hj).1))
    clear ho2 hg2 HO HB b0 b1 b2 hsz
    have HO := HO2
    have HB := HB2
    clear HO2 HB2
    have hsz := Nat.le_trans HZ.out HB.out.size
    have b0 := cA w2 HB.out 1 _ HC1.out
    have b1 := cA w2 HB.out 2 _ HC2.out
    have b2 := cA w2 HB.out 3 _ HC3.out
    rcases ub with _ | _
    · go_upto_region 6 with fail
      by_cases hk : k = 0
      · have HL : Hid (fl true false k = [0]) := hide (by simp [fl, hk])
        subst hk
        go_wp2
        go_ret
        exact ⟨_, rfl, by rw [HL.out]; exact HO.out, HE.out _ HB.out⟩
      · have HL : Hid (fl true false k = [0, 2]) := hide (by simp [fl, hk])
        have hk2 : ¬ (k : Int) = 0 := by omega
        clear hk
        go_upto_region 8 with (at_builtin; refine wpList_append_own _ rfl _ _ 103 rfl (w.heap.size + 1) 3 i3 (.int .i64 0) 1 8 Tryd.underlying103 hi hz hs hb rfl (by decide) _ 1 (nums [0]) rfl (HO.out.alloc _) ⟨_, 0, none⟩ 1 1 [.int .i64 2] rfl rfl (cell_one_new _ _ _) (by simp [Value.oneCell']) (by unfold maxLen; omega) (by omega) (by simp; omega) ?_; intro v2 w2 ho2 hg2 _; obtain ⟨au, cu, rfl⟩ := own_shape ho2)
        have HO2 : Hid (w2.ownsRow (w.heap.size + 1) 3 1 (.slice au 2 cu) 2 (nums [0, 2])) := hide (by simpa [nums] using ho2)
        have HB2 : Hid (Below (w.heap.size + 1) W0 w2) := hide ((HB.out.alloc hsz _).grown hg2 (by simp; omega) (fun j hj => (HO.out.lt j hj).1))
        clear ho2 hg2 HO HB b0 b1 b2 hsz
        have HO := HO2
        have HB := HB2
        clear HO2 HB2
        have hsz := Nat.le_trans HZ.out HB.out.size
        have b0 := cA w2 HB.out 1 _ HC1.out
        have b1 := cA w2 HB.out 2 _ HC2.out
        have b2 := cA w2 HB.out 3 _ HC3.out
        go_wp2
        go_ret
        exact ⟨_, rfl, by rw [HL.out]; exact HO.out, HE.out _ HB.out⟩
    · go_upto_region 6 with (at_builtin; refine wpList_append_own _ rfl _ _ 103 rfl (w.heap.size + 1) 3 i3 (.int .i64 0) 1 8 Tryd.underlying103 hi hz hs hb rfl (by decide) _ 1 (nums [0]) rfl (HO.out.alloc _) ⟨_, 0, none⟩ 1 1 [.int .i64 1] rfl rfl (cell_one_new _ _ _) (by simp [Value.oneCell']) (by unfold maxLen; omega) (by omega) (by simp; omega) ?_; intro v2 w2 ho2 hg2 _; obtain ⟨au, cu, rfl⟩ := own_shape ho2)
      have HO2 : Hid (w2.ownsRow (w.heap.size + 1) 3 1 (.slice au 2 cu) 2 (nums [0, 1])) := hide (by simpa [nums] using ho2)
      have HB2 : Hid (Below (w.heap.size + 1) W0 w2) := hide ((HB.out.alloc hsz _).grown hg2 (by simp; omega) (fun j hj => (HO.out.lt j hj).1))
      clear ho2 hg2 HO HB b0 b1 b2 hsz
      have HO := HO2
      have HB := HB2
      clear HO2 HB2
      have hsz := Nat.le_trans HZ.out HB.out.size
      have b0 := cA w2 HB.out 1 _ HC1.out
      have b1 := cA w2 HB.out 2 _ HC2.out
      have b2 := cA w2 HB.out 3 _ HC3.out
      by_cases hk : k = 0
      · have HL : Hid (fl true true k = [0, 1]) := hide (by simp [fl, hk])
        subst hk
        go_wp2
        go_ret
        exact ⟨_, rfl, by rw [HL.out]; exact HO.out, HE.out _ HB.out⟩
      · have HL : Hid (fl true true k = [0, 1, 2]) := hide (by simp [fl, hk])
        have hk2 : ¬ (k : Int) = 0 := by omega
        clear hk
        go_upto_region 8 with (at_builtin; refine wpList_append_own _ rfl _ _ 103 rfl (w.heap.size + 1) 3 i3 (.int .i64 0) 1 8 Tryd.underlying103 hi hz hs hb rfl (by decide) _ 2 (nums [0, 1]) rfl (HO.out.alloc _) ⟨_, 0, none⟩ 1 1 [.int .i64 2] rfl rfl (cell_one_new _ _ _) (by simp [Value.oneCell']) (by unfold maxLen; omega) (by omega) (by simp; omega) ?_; intro v2 w2 ho2 hg2 _; obtain ⟨au, cu, rfl⟩ := own_shape ho2)
        have HO2 : Hid (w2.ownsRow (w.heap.size + 1) 3 1 (.slice au 3 cu) 3 (nums [0, 1, 2])) := hide (by simpa [nums] using ho2)
        have HB2 : Hid (Below (w.heap.size + 1) W0 w2) := hide ((HB.out.alloc hsz _).grown hg2 (by simp; omega) (fun j hj => (HO.out.lt j hj).1))
        clear ho2 hg2 HO HB b0 b1 b2 hsz
        have HO := HO2
        have HB := HB2
        clear HO2 HB2
        have hsz := Nat.le_trans HZ.out HB.out.size
        have b0 := cA w2 HB.out 1 _ HC1.out
        have b1 := cA w2 HB.out 2 _ HC2.out
        have b2 := cA w2 HB.out 3 _ HC3.out
        go_wp2
        go_ret
        exact ⟨_, rfl, by rw [HL.out]; exact HO.out, HE.out _ HB.out⟩
end
end Go.Proofs.YtbfagiofhakjnaaDoor
