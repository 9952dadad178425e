import Derived.Test.YteloomlcaimlaaaS3
namespace Go.Proofs.Yteloomlcaimlaaa
open Go.RowKit
theorem gr_ok2 {b : List Nat} (hb : b.length ≤ 65536) {i o : Nat} {t : Tok} {ts : List Tok} (h : Gr b i o (t :: ts)) : okT t := by
  cases t with
  | inl r => exact ⟨h.1, h.2.1⟩
  | inr c =>
    obtain ⟨h1, h2, h3, _⟩ := h
    have g := cp_four b i (by rw [h2]; exact h3)
    have g2 := Nat.le_trans (cp_le b i) (mst_le b i)
    rw [h2] at g g2
    exact ⟨g.1, g2, g.2.1, by omega⟩
theorem enc_len2 (t : Tok) : (enc t).length = (pcT t).2.2 := by cases t <;> rfl
theorem drop_enc2 {p : List Nat} {a : Nat} {t : Tok} {ts : List Tok} (h : p.drop a = encs (t :: ts)) : p.drop (a + (pcT t).2.2) = encs ts := by
  rw [← List.drop_drop, h, encs_cons, ← enc_len2, List.drop_left]
theorem enc_pos2 (t : Tok) : 0 < (enc t).length := by cases t <;> simp [enc]
/-- where a plain run of the one text ends, that of the other ends too -/
theorem fx_le {a b : List Nat} {i o H : Nat} {r r' : List Nat} {ts us : List Tok} (ha : H ≤ a.length) (hb : H ≤ b.length) (he : ∀ j, j < H → a.getD j 0 = b.getD j 0) (hi : i + 259 < H)
    (h : Gr a i o (.inl r :: ts)) (h' : Gr b i o (.inl r' :: us)) : r'.length ≤ r.length := by
  obtain ⟨h1, h2, h3, h4, h5, h6, h7⟩ := h
  obtain ⟨g1, g2, g3, g4, g5, g6, g7⟩ := h'
  rcases Nat.lt_or_ge r.length r'.length with hlt | hge
  · have hp : 0 < r.length := List.length_pos_iff.2 h1
    exfalso
    have hz := g6 r.length hlt
    cases ts with
    | nil =>
      have h7 : i + r.length = a.length := h7
      omega
    | cons t ts =>
      cases t with
      | inl q =>
        have := h7.2.2.1
        omega
      | inr c =>
        obtain ⟨_, k2, k3, _⟩ := h7
        rw [cp_same ha hb (by omega) he] at k2
        rw [k2] at hz
        exact k3 hz
  · exact hge
theorem cut_same {a b : List Nat} {i e H : Nat} (ha : H ≤ a.length) (hb : H ≤ b.length) (he : ∀ j, j < H → a.getD j 0 = b.getD j 0) (hie : i ≤ e) (h : e ≤ H) : cut a i e = cut b i e := by
  apply List.ext_getElem
  · rw [cut_len hie (by omega), cut_len hie (by omega)]
  · intro j h1 h2
    rw [cut_len hie (by omega)] at h1
    have h3 := he (i + j) (by omega)
    simp [List.getD_eq_getElem?_getD, List.getElem?_eq_getElem (show i + j < a.length by omega), List.getElem?_eq_getElem (show i + j < b.length by omega)] at h3
    simp [cut, h3]
/-- the next token hangs on the bytes up to 131 beyond alone -/
theorem fx_next {a b : List Nat} {i o H : Nat} {ts us : List Tok} (ha : H ≤ a.length) (hb : H ≤ b.length) (he : ∀ j, j < H → a.getD j 0 = b.getD j 0) (hi : i + 259 < H)
    (h : Gr a i o ts) (h' : Gr b i o us) : ∃ t ts' us' o', ts = t :: ts' ∧ us = t :: us' ∧ Gr a (i + (pcT t).1) o' ts' ∧ Gr b (i + (pcT t).1) o' us' ∧ 0 < (pcT t).1 := by
  cases ts with
  | nil =>
    have h : i = a.length := h
    omega
  | cons t ts' =>
    cases us with
    | nil =>
      have h' : i = b.length := h'
      omega
    | cons u us' =>
      have hcs := cp_same ha hb (show i + 131 ≤ H by omega) he
      cases t with
      | inl r =>
        cases u with
        | inl r' =>
          have l1 := fx_le ha hb he hi h h'
          have l2 := fx_le hb ha (fun j hj => (he j hj).symm) hi h' h
          obtain ⟨h1, h2, h3, h4, h5, h6, h7⟩ := h
          obtain ⟨g1, g2, g3, g4, g5, g6, g7⟩ := h'
          have hl : r.length = r'.length := by omega
          have hr : r = r' := by
            rw [h5, g5, hl]
            exact cut_same ha hb he (by omega) (by omega)
          subst hr
          exact ⟨.inl r, ts', us', _, rfl, rfl, h7, g7, List.length_pos_iff.2 h1⟩
        | inr c =>
          exfalso
          obtain ⟨h1, _, _, _, _, h6, _⟩ := h
          obtain ⟨_, g2, g3, _⟩ := h'
          have := h6 0 (List.length_pos_iff.2 h1)
          rw [Nat.add_zero, hcs, g2] at this
          exact g3 this
      | inr c =>
        cases u with
        | inl r' =>
          exfalso
          obtain ⟨h1, _, _, _, _, h6, _⟩ := h'
          obtain ⟨_, g2, g3, _⟩ := h
          have := h6 0 (List.length_pos_iff.2 h1)
          rw [Nat.add_zero, ← hcs, g2] at this
          exact g3 this
        | inr c' =>
          obtain ⟨_, h2, h3, h4⟩ := h
          obtain ⟨_, g2, g3, g4⟩ := h'
          rw [← hcs, h2] at g2
          subst g2
          exact ⟨.inr c, ts', us', _, rfl, rfl, h4, g4, by show 0 < c.1; omega⟩
theorem quiet_of_draws2 {P : Program} {f : FuncId} {args : Array Value} {w : World} {n : Nat} {v : Value}
    (h : Calls P f args (w.drewN n) fun e w' => e = .returned v ∧ ∃ t, w' = (w.drewN n).drewN t) : Calls P f args (w.drewN n) fun e w'' => e = .returned v ∧ ∃ m, w'' = w.drewN m :=
  h.mono fun _ _ ⟨he, t, ht⟩ => ⟨he, n + t, by rw [ht, drewN_add]⟩
theorem pc_eq (a b c : Int) (w : World) : (Op.equal 31 (.agg #[.int .i64 a, .int .i64 b, .int .i64 c]) (.agg #[.int .i64 a, .int .i64 b, .int .i64 c])).run Try.prog w = .ok true w := by
  simp only [Op.equal, Op.maxDepth]
  go_simp
theorem pc_neq (a b c : Int) (w : World) : (binOp .neq 31 (.agg #[.int .i64 a, .int .i64 b, .int .i64 c]) (.agg #[.int .i64 a, .int .i64 b, .int .i64 c])).run Try.prog w = .ok (.bool false) w := by
  simp [binOp, pc_eq]
section
variable (w : World)
set_option maxRecDepth 100000 in
set_option maxHeartbeats 2000000 in
theorem fixed_walk (v : Value) (hd : List Nat) (va : Value) (xa : List Nat) (vb : Value) (xb : List Nat) (hv : Rb w w.heap.size v hd) (hy : Bys hd) (hl : hd.length ≤ 140737488351232) (hva : Rb w w.heap.size va xa) (hya : Bys xa) (hla : xa.length ≤ 140737488351232) (hvb : Rb w w.heap.size vb xb) (hyb : Bys xb) (hlb : xb.length ≤ 140737488351232) :
    Calls Try.prog 4 #[v, va, vb] w fun e w' => e = .returned (.bool true) ∧ Below w.heap.size w w' := by
  have HV := hide hv
  have HVa := hide hva
  have HVb := hide hvb
  have HY := hide (hy.app hya)
  have HYb := hide (hy.app hyb)
  obtain ⟨ao, cap, rfl, hcap⟩ := hv.len
  obtain ⟨aa, ca, rfl, hca⟩ := hva.len
  obtain ⟨ab, cb, rfl, hcb⟩ := hvb.len
  obtain ⟨n, hn⟩ : ∃ n, hd.length = n := ⟨_, rfl⟩
  obtain ⟨na, hna⟩ : ∃ n, xa.length = n := ⟨_, rfl⟩
  obtain ⟨nb, hnb⟩ : ∃ n, xb.length = n := ⟨_, rfl⟩
  have HLn := hide hn
  have HLa := hide hna
  have HLb := hide hnb
  rw [hn] at hl HV hcap
  rw [hna] at hla HVa hca
  rw [hnb] at hlb HVb hcb
  rw [hn, hna, hnb]
  clear hv hva hvb hy hya hyb hn hna hnb
  by_cases h1 : 2000 < n
  · have h1I : (2000 : Int) < (n : Int) := by omega
    go_enter Try.func4, Try.ntmps4
    go_wp2
    go_ret
    exact ⟨rfl, Below.refl _ _⟩
  by_cases h2 : 2000 < na
  · have h1I : ¬ (2000 : Int) < (n : Int) := by omega
    have h2I : (2000 : Int) < (na : Int) := by omega
    go_enter Try.func4, Try.ntmps4
    go_wp2
    go_ret
    exact ⟨rfl, Below.refl _ _⟩
  by_cases h3 : 2000 < nb
  · have h1I : ¬ (2000 : Int) < (n : Int) := by omega
    have h2I : ¬ (2000 : Int) < (na : Int) := by omega
    have h3I : (2000 : Int) < (nb : Int) := by omega
    go_enter Try.func4, Try.ntmps4
    go_wp2
    go_ret
    exact ⟨rfl, Below.refl _ _⟩
  have h1I : ¬ (2000 : Int) < (n : Int) := by omega
  have h2I : ¬ (2000 : Int) < (na : Int) := by omega
  have h3I : ¬ (2000 : Int) < (nb : Int) := by omega
  by_cases h4 : n < 131
  · have h4I : (n : Int) < 131 := by omega
    go_enter Try.func4, Try.ntmps4
    go_wp2
    go_ret
    exact ⟨rfl, Below.refl _ _⟩
  have h4I : ¬ (n : Int) < 131 := by omega
  obtain ⟨A, hA⟩ : ∃ A, hd ++ xa = A := ⟨_, rfl⟩
  obtain ⟨B, hB⟩ : ∃ B, hd ++ xb = B := ⟨_, rfl⟩
  have HAl : Hid (A.length = n + na) := hide (by rw [← hA, List.length_append, HLn.out, HLa.out])
  have HBl : Hid (B.length = n + nb) := hide (by rw [← hB, List.length_append, HLn.out, HLb.out])
  have HEq : Hid (∀ j, j < n → A.getD j 0 = B.getD j 0) := hide (fun j hj => by
    rw [← hA, ← hB]
    simp [List.getD_eq_getElem?_getD, List.getElem?_append_left (show j < hd.length by rw [HLn.out]; exact hj)])
  have HA6 : Hid (A.length ≤ 65536) := hide (by rw [HAl.out]; omega)
  have HB6 : Hid (B.length ≤ 65536) := hide (by rw [HBl.out]; omega)
  rw [hA] at HY
  rw [hB] at HYb
  have HA := hide hA
  have HB := hide hB
  clear hA hB
  go_enter Try.func4, Try.ntmps4
  go_wp2_with fail
  refine (dup_any w _ hd _ HV.out (by rw [HLn.out]; omega)).mono ?_
  rintro e w1 ⟨r1, rfl, hO1, hb1⟩
  have HO1 := hide hO1
  have HB1 := hide hb1
  have HV1 := hide (HV.out.keep hb1)
  have HVa1 := hide (HVa.out.keep hb1)
  have HVb1 := hide (HVb.out.keep hb1)
  have hs1 := hb1.size
  obtain ⟨a1, k1, c1, rfl, HK1, _⟩ := hO1.len2
  clear hO1 hb1 HV HVa HVb
  go_wp2_with (at_builtin; refine app_rd rfl _ _ rfl w.heap.size _ hd rfl HO1.out hs1 _ _ xa rfl HVa1.out (by rw [HLn.out, HLa.out]; omega) ?_; intro r2 w2 ho2 hg2 hk2; obtain ⟨a2, k2, c2, rfl, HK2, _⟩ := ho2.len2)
  rw [HA.out] at ho2
  have HO2 := hide ho2
  have HB2 := hide (HB1.out.trans hk2.1)
  have HV2 := hide (HV1.out.keep hk2.1)
  have HVb2 := hide (HVb1.out.keep hk2.1)
  have hs2 := HB2.out.size
  clear ho2 hg2 hk2 HO1 HB1 HV1 HVb1 HVa1
  refine (Pack_ok w2 _ A HO2.out.rb HY.out HA6.out).mono ?_
  rintro e w3 ⟨r3, rfl, hO3, hb3⟩
  have HO3 := hide hO3
  have HB3 := hide (HB2.out.trans (hb3.mono hs2))
  have HV3 := hide (HV2.out.keep (hb3.mono hs2))
  have HVb3 := hide (HVb2.out.keep (hb3.mono hs2))
  have hs3 := HB3.out.size
  obtain ⟨a3, kp, cp3, rfl, HKp, hcp⟩ := hO3.len2
  have hkp4 : 4 ≤ kp := by have := pkd_four A; rw [HKp.out] at this; exact this
  have hkp7 : kp ≤ 70000 := by have := pkd_small HA6.out; rw [HKp.out] at this; exact this
  obtain ⟨gp, rfl, hgp, hgps⟩ := hO3.some_of (by rw [HKp.out]; omega)
  clear hO3 hb3 HO2 HB2 HV2 HVb2
  go_wp2_with fail
  refine (dup_any w3 _ hd _ HV3.out (by rw [HLn.out]; omega)).mono ?_
  rintro e w4 ⟨r4, rfl, hO4, hb4⟩
  have HO4 := hide hO4
  have HOp4 := hide (HO3.out.keep hb4 (Nat.le_refl _))
  have HB4 := hide (HB3.out.trans (hb4.mono hs3))
  have HVb4 := hide (HVb3.out.keep (hb4.mono hs3))
  have hs34 := hb4.size
  obtain ⟨a4, k4, c4, rfl, HK4, _⟩ := hO4.len2
  clear hO4 hb4 HO3 HB3 HV3 HVb3
  go_wp2_with (at_builtin; refine app_rd rfl _ _ rfl w3.heap.size _ hd rfl HO4.out hs34 _ _ xb rfl HVb4.out (by rw [HLn.out, HLb.out]; omega) ?_; intro r5 w5 ho5 hg5 hk5; obtain ⟨a5, k5, c5, rfl, HK5, _⟩ := ho5.len2)
  rw [HB.out] at ho5
  have HO5 := hide ho5
  have HB5 := hide (HB4.out.trans (hk5.1.mono hs3))
  have HOp5 : Hid (Ow w5 w2.heap.size (.slice (some ⟨gp, 0, none⟩) kp cp3) (pkd A)) := hide (by
    obtain ⟨hl', hh⟩ := HOp4.out
    refine ⟨hl', ?_⟩
    rcases hh with h0 | ⟨g, cap', cur, hv', hb', hg', hrest⟩
    · exact .inl h0
    · cases hv'
      exact .inr ⟨gp, _, cur, by simp, hb', by rw [hk5.1.block gp hgps]; exact hg', hrest⟩)
  have hs5 := HB5.out.size
  have hs45 := hk5.1.size
  clear ho5 hg5 hk5 HO4 HB4 HOp4 HVb4
  refine (Pack_ok w5 _ B HO5.out.rb HYb.out HB6.out).mono ?_
  rintro e w6 ⟨r6, rfl, hO6, hb6⟩
  have HO6 := hide hO6
  have HOp6 := hide (HOp5.out.keep hb6 (Nat.le_refl _))
  have HB6' := hide (HB5.out.trans (hb6.mono hs5))
  have hs6 := HB6'.out.size
  obtain ⟨a6, kq, cq6, rfl, HKq, hcq⟩ := hO6.len2
  have hkq4 : 4 ≤ kq := by have := pkd_four B; rw [HKq.out] at this; exact this
  have hkq7 : kq ≤ 70000 := by have := pkd_small HB6.out; rw [HKq.out] at this; exact this
  obtain ⟨gq, rfl, hgq, hgqs⟩ := hO6.some_of (by rw [HKq.out]; omega)
  have kp4I : ¬ (kp : Int) < 4 := by omega
  have kq4I : ¬ (kq : Int) < 4 := by omega
  clear hO6 hb6 HO5 HOp5 HB5
  have HGA := hide (gr_all A)
  have HGB := hide (gr_all B)
  have HPA : Hid ((pkd A).drop 4 = encs (tks A 0 0)) := hide rfl
  have HPB : Hid ((pkd B).drop 4 = encs (tks B 0 0)) := hide rfl
  have HPy := hide (pkd_bys HY.out)
  have HQy := hide (pkd_bys HYb.out)
  generalize tks A 0 0 = TA at *
  generalize tks B 0 0 = TB at *
  go_upto_region 10 with fail
  go_loopw [11, 12, 13] (fun xv yv iv wr => ∃ (x y i o : Nat) (ts us : List Tok), xv = .int .i64 (x : Nat) ∧ yv = .int .i64 (y : Nat) ∧ iv = .int .i64 (i : Nat) ∧ Hid (Gr A i o ts) ∧ Hid (Gr B i o us) ∧ Hid ((pkd A).drop x = encs ts) ∧ Hid ((pkd B).drop y = encs us) ∧ x ≤ kp ∧ y ≤ kq ∧ i ≤ n ∧ Below w6.heap.size w6 wr) (fun xv _ _ _ => kp - (intOf xv).toNat)
  case atStart => exact ⟨4, 4, 0, 0, TA, TB, rfl, rfl, rfl, HGA, HGB, HPA, HPB, hkp4, hkq4, Nat.zero_le _, Below.refl _ _⟩
  case round =>
    obtain ⟨x, y, i, o, ts, us, rfl, rfl, rfl, HGa, HGb, HPa, HPb, hx, hy, hi, hB⟩ := hrel
    have HBr := hide hB
    have hsr := hB.size
    clear HGA HGB HPA HPB hB
    by_cases hin : i + 259 < n
    · have hinI : (i : Int) < (n : Int) - 131 - 128 := by omega
      obtain ⟨t, ts', us', o', hts, hus, hga, hgb, hm0⟩ := fx_next (H := n) (by rw [HAl.out]; omega) (by rw [HBl.out]; omega) HEq.out hin HGa.out HGb.out
      subst hts hus
      have hok := gr_ok2 HA6.out HGa.out
      have hlenA : x + ((pcT t).2.2 + (encs ts').length) = kp := by
        have := congrArg List.length HPa.out
        rw [List.length_drop, HKp.out, encs_cons, List.length_append, enc_len2] at this
        have := enc_pos2 t
        rw [enc_len2] at this
        omega
      have hlenB : y + ((pcT t).2.2 + (encs us').length) = kq := by
        have := congrArg List.length HPb.out
        rw [List.length_drop, HKq.out, encs_cons, List.length_append, enc_len2] at this
        have := enc_pos2 t
        rw [enc_len2] at this
        omega
      have hpos := enc_pos2 t
      rw [enc_len2] at hpos
      have HPa2 := hide (drop_enc2 HPa.out)
      have HPb2 := hide (drop_enc2 HPb.out)
      have HGa2 := hide hga
      have HGb2 := hide hgb
      have HCa : Hid (cut (pkd A) x (x + (pcT t).2.2) = enc t) := hide (by
        unfold cut
        rw [List.drop_take, HPa.out, encs_cons, Nat.add_sub_cancel_left, ← enc_len2, List.take_left])
      have HCb : Hid (cut (pkd B) y (y + (pcT t).2.2) = enc t) := hide (by
        unfold cut
        rw [List.drop_take, HPb.out, encs_cons, Nat.add_sub_cancel_left, ← enc_len2, List.take_left])
      have him : i + (pcT t).1 ≤ n := by
        have : (pcT t).1 ≤ 131 := by
          cases t with
          | inl r => have := hok.2; show r.length ≤ 131; omega
          | inr c => exact hok.2.1
        omega
      have hsz3 : (pcT t).2.2 ≤ 129 := by
        cases t with
        | inl r => have := hok.2; show r.length + 1 ≤ 129; omega
        | inr c => show 3 ≤ 129; omega
      have HOpr := hide (HOp6.out.keep HBr.out (Nat.le_refl _))
      have HOqr := hide (HO6.out.keep HBr.out (Nat.le_refl _))
      have hrd := read_any wr _ (pkd A) x _ t (encs ts') HOpr.out.rb HPy.out (by rw [HKp.out]; omega) (by rw [HPa.out, encs_cons]) hok (by rw [HKp.out]; omega)
      have HRd := hide hrd
      have HRd2 := hide (fun W (hW : Ow W w5.heap.size (.slice (some ⟨gq, 0, none⟩) kq cq6) (pkd B)) => read_any W _ (pkd B) y _ t (encs us') hW.rb HQy.out (by rw [HKq.out]; omega) (by rw [HPb.out, encs_cons]) hok (by rw [HKq.out]; omega))
      have hxI : ¬ (kp : Int) ≤ (x : Int) := by omega
      have hyI : ¬ (kq : Int) ≤ (y : Int) := by omega
      clear hrd hga hgb HGa HGb HPa HPb hok
      generalize (pcT t).1 = m at *
      generalize (pcT t).2.1 = d at *
      generalize (pcT t).2.2 = sz at *
      unfold pcV at HRd HRd2
      go_wp2_with fail
      refine HRd.out.mono ?_
      rintro e w7 ⟨rfl, hb7⟩
      have HB7 := hide (HBr.out.trans (hb7.mono hsr))
      have HOq7 := hide (HOqr.out.keep hb7 (Nat.le_refl _))
      have HOp7 := hide (HOpr.out.keep hb7 (Nat.le_refl _))
      have hs7 := HB7.out.size
      clear hb7 HBr HOqr HOpr HRd
      go_upto_region 14 with fail
      have hq8 := heap_alloc_last w7 (.cells #[.int .i64 (m : Nat), .int .i64 (d : Nat), .int .i64 (sz : Nat)] 31)
      have hba : Below w7.heap.size w7 (w7.alloc (.cells #[.int .i64 (m : Nat), .int .i64 (d : Nat), .int .i64 (sz : Nat)] 31)) := (Below.refl _ w7).alloc (Nat.le_refl _) _
      generalize w7.alloc (.cells #[.int .i64 (m : Nat), .int .i64 (d : Nat), .int .i64 (sz : Nat)] 31) = w8 at *
      have HB8 := hide (HB7.out.trans (hba.mono hs7))
      have HOq8 := hide (HOq7.out.keep hba (Nat.le_refl _))
      have HOp8 := hide (HOp7.out.keep hba (Nat.le_refl _))
      have hs8 := HB8.out.size
      have HQ8 := hide hq8
      generalize w7.heap.size = g7 at *
      clear hq8 hba HB7 HOq7 HOp7
      go_wp2_with fail
      refine (HRd2.out w8 HOq8.out).mono ?_
      rintro e w9 ⟨rfl, hb9⟩
      have HB9 := hide (HB8.out.trans (hb9.mono hs8))
      have HOq9 := hide (HOq8.out.keep hb9 (Nat.le_refl _))
      have HOp9 := hide (HOp8.out.keep hb9 (Nat.le_refl _))
      have hs9 := HB9.out.size
      have HQ9 : Hid (w9.heap[g7]? = some (.cells #[.int .i64 (m : Nat), .int .i64 (d : Nat), .int .i64 (sz : Nat)] 31 (0, 0))) := hide (by rw [hb9.block g7 (Array.getElem?_eq_some_iff.1 HQ8.out).1]; exact HQ8.out)
      have hg79 : g7 < w9.heap.size := (Array.getElem?_eq_some_iff.1 HQ9.out).1
      clear hb9 HB8 HOq8 HOp8 HQ8 HRd2
      go_upto_region 15 with fail
      have hq10 := heap_alloc_last w9 (.cells #[.int .i64 (m : Nat), .int .i64 (d : Nat), .int .i64 (sz : Nat)] 31)
      have hba : Below w9.heap.size w9 (w9.alloc (.cells #[.int .i64 (m : Nat), .int .i64 (d : Nat), .int .i64 (sz : Nat)] 31)) := (Below.refl _ w9).alloc (Nat.le_refl _) _
      generalize w9.alloc (.cells #[.int .i64 (m : Nat), .int .i64 (d : Nat), .int .i64 (sz : Nat)] 31) = w10 at *
      have HB10 := hide (HB9.out.trans (hba.mono hs9))
      have HOq10 := hide (HOq9.out.keep hba (Nat.le_refl _))
      have HOp10 := hide (HOp9.out.keep hba (Nat.le_refl _))
      have HQ10 : Hid (w10.heap[g7]? = some (.cells #[.int .i64 (m : Nat), .int .i64 (d : Nat), .int .i64 (sz : Nat)] 31 (0, 0))) := hide (by rw [hba.block g7 hg79]; exact HQ9.out)
      have HR10 := hide hq10
      generalize w9.heap.size = g9 at *
      clear hq10 hba HB9 HOq9 HOp9 HQ9 hg79
      obtain ⟨z0, z1, z2⟩ := cells3 HQ10.out
      obtain ⟨y0, y1, y2⟩ := cells3 HR10.out
      obtain ⟨xs, hxs⟩ : ∃ y, x + sz = y := ⟨_, rfl⟩
      obtain ⟨ys, hys⟩ : ∃ y1, y + sz = y1 := ⟨_, rfl⟩
      rw [hxs] at HCa
      rw [hys] at HCb
      have HRa : Hid (Rb w10 w10.heap.size (.slice (some ⟨gp, x, none⟩) (xs - x) (cp3 - x)) (enc t)) := hide (by
        have := HOp10.out.rb.sub (lo := x) (hi := xs) (by omega) (by rw [HKp.out]; omega) (xs - x) (cp3 - x) rfl (by omega)
        rwa [HCa.out, add0] at this)
      have HRb : Hid (Rb w10 w10.heap.size (.slice (some ⟨gq, y, none⟩) (ys - y) (cq6 - y)) (enc t)) := hide (by
        have := HOq10.out.rb.sub (lo := y) (hi := ys) (by omega) (by rw [HKq.out]; omega) (ys - y) (cq6 - y) rfl (by omega)
        rwa [HCb.out, add0] at this)
      have HEl : Hid ((enc t).length ≤ 140737488351232) := hide (by
        have := congrArg List.length HCa.out
        rw [cut_len (by omega) (by rw [HKp.out]; omega)] at this
        omega)
      have HSm : Hid (∀ k, Calls Try.prog 13 #[.slice (some ⟨gp, x, none⟩) (xs - x) (cp3 - x), .slice (some ⟨gq, y, none⟩) (ys - y) (cq6 - y)] (w10.drewN k) fun e w' => e = .returned (.bool true) ∧ ∃ t, w' = (w10.drewN k).drewN t) := hide (fun k => by
        have := same_q (w10.drewN k) _ _ (enc t) (enc t) _ _ HRa.out HRb.out HEl.out
        rwa [decide_eq_true (rfl : enc t = enc t)] at this)
      have hneq := fun W => pc_neq (m : Int) (d : Int) (sz : Int) W
      have hsz0 : ((sz : Int) == 0) = false := by simp; omega
      have x1 : IntKind.i64.wrap ((x : Int) + (sz : Int)) = (xs : Nat) := by rw [wi _ (by omega) (by omega)]; omega
      have x2 : IntKind.i64.wrap ((y : Int) + (sz : Int)) = (ys : Nat) := by rw [wi _ (by omega) (by omega)]; omega
      have l1 : (x : Int) ≤ (xs : Int) := by omega
      have l2 : (y : Int) ≤ (ys : Int) := by omega
      have l3 : (xs : Int) ≤ (cp3 : Int) := by omega
      have l4 : (ys : Int) ≤ (cq6 : Int) := by omega
      have l5 : ¬ cp3 = x := by omega
      have l6 : ¬ cq6 = y := by omega
      have HXs := hide hxs
      have HYs := hide hys
      clear hxs hys HRa HRb HCa HCb
      go_quiet (first | (go_at_call 13; refine quiet_of_draws2 (HSm.out _)))
      have HB11 := hide (HB10.out.trans (drewN_below w10 _ nq))
      clear HB10 HOp10 HOq10 HQ10 HR10 HSm hneq
      go_wp2
      refine ⟨⟨xs, ys, i + m, o', ts', us', by first | rfl | go_num, by first | rfl | go_num, by go_num, HGa2, HGb2, ?_, ?_, by have := HXs.out; omega, by have := HYs.out; omega, him, HB11.out⟩, ?_⟩
      · rw [← HXs.out]; exact HPa2
      · rw [← HYs.out]; exact HPb2
      · have := HXs.out
        simp [intOf]; omega
    · have hinI : ¬ (i : Int) < (n : Int) - 131 - 128 := by omega
      have HBf := hide (HB6'.out.trans (HBr.out.mono hs6))
      go_wp2
      go_ret
      exact ⟨rfl, HBf.out⟩
end
end Go.Proofs.Yteloomlcaimlaaa
