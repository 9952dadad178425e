import Derived.Test.YtngmnlmagbfijaaM4
namespace Go.Proofs.Ytngmnlmagbfijaa
open Go.RowKit
theorem next_two {s : Pl} {R : List Int} (e : s.kind = 2) : nextP s R = { s with wt := admW s R, last := val (admP s R) (pick s R), ps := upd (admP s R) (pick s R) (val (admP s R) (pick s R) + stp (val (admW s R) (pick s R))) } := by
  unfold nextP; rw [if_neg (by omega), if_pos e]
/-- what a choice by shares leaves -/
theorem share_step {n : Nat} {s : Pl} (hO : Okp n s) (e : s.kind = 2) {R : List Int} (hne : R ≠ []) (hRb : ∀ k ∈ R, 1 ≤ k ∧ k ≤ 9223372036854775807) :
    psv (nextP s R) (pick s R) - stp (val (nextP s R).wt (pick s R)) = (nextP s R).last ∧ s.last ≤ (nextP s R).last ∧ (∀ r ∈ R, (nextP s R).last ≤ psv (nextP s R) r) ∧ 1 ≤ val (nextP s R).wt (pick s R) ∧ val (nextP s R).wt (pick s R) ≤ 8 := by
  have hm := pick_mem (s := s) hne
  have hkd : (nextP s R).kind = 2 := by rw [nextP_kind]; exact e
  have hps : ∀ r, psv (nextP s R) r = val (nextP s R).ps r := fun r => by unfold psv; rw [if_neg (by omega)]
  obtain ⟨hw, hp⟩ := adm_some (s := s) hm
  have ha := admW_val hO hRb hw
  have hd := admP_bd hO e hp hw
  have hs := stp_bd ha.2.2.1 ha.2.2.2
  have hvp : val (admP s R) (pick s R) = max ((s.ps (pick s R)).getD 0) s.last := by unfold val; rw [hp]; rfl
  have hvw : val (admW s R) (pick s R) = (s.wt (pick s R)).getD 1 := by unfold val; rw [hw]; rfl
  have h1 : psv (nextP s R) (pick s R) = val (admP s R) (pick s R) + stp (val (admW s R) (pick s R)) := by
    rw [hps, next_two e]
    unfold val upd
    simp
  have hl : (nextP s R).last = val (admP s R) (pick s R) := by rw [next_two e]
  have hwt : val (nextP s R).wt (pick s R) = val (admW s R) (pick s R) := by rw [nextP_wt]
  refine ⟨by rw [h1, hl, hwt]; omega, by rw [hl, hvp]; omega, fun r hr => ?_, by rw [hwt, hvw]; exact ha.2.2.1, by rw [hwt, hvw]; exact ha.2.2.2⟩
  by_cases hrc : r = pick s R
  · subst hrc
    rw [h1, hl, hvw]
    omega
  · have h2 : psv (nextP s R) r = val (admP s R) r := by
      rw [hps, next_two e]
      unfold val upd
      simp [hrc]
    have hpk : pick s R = pmin (val (admP s R)) (R.headD 0) R.tail := by unfold pick; rw [if_neg (by omega), if_pos e]
    rw [h2, hl, hpk]
    exact pmin_le _ R.tail (R.headD 0) r (by rw [head_tail hne]; exact hr)
/-- what is told of a plan by shares -/
theorem share_told {n : Nat} {s : Pl} (hO : Okp n s) (e : s.kind = 2) {k : Int} (hk : (s.wt k).isSome = true) : 1 ≤ val s.wt k ∧ val s.wt k ≤ 8 ∧ 0 ≤ psv s k ∧ psv s k ≤ s.last + stp (val s.wt k) := by
  obtain ⟨u, hu⟩ := Option.isSome_iff_exists.1 hk
  have hp := hO.known e k
  rw [hk] at hp
  obtain ⟨v, hv⟩ := Option.isSome_iff_exists.1 hp
  have h1 := hO.wt k u hu
  have h2 := hO.pass e k v u hv hu
  have e1 : val s.wt k = u := by unfold val; rw [hu]; rfl
  have e2 : psv s k = v := by unfold psv val; rw [if_neg (by omega), hv]; rfl
  rw [e1, e2]
  exact ⟨h1.2.2.1, h1.2.2.2, h2.1, h2.2⟩
theorem step_last {s : Pl} {o : Og} (h : ¬ (o.k = 3 ∧ mayF (srt o.R) = 0)) : (stepS s o).last = s.last := by
  unfold stepS
  split
  · split
    · rfl
    · rfl
  · split
    · split
      · exact absurd ⟨by assumption, by assumption⟩ h
      · rfl
    · rfl
/-- what is told of the plan behind one choice -/
theorem share_choice {n : Nat} {s : Pl} (hO : Okp n s) (e : s.kind = 2) {o : Og} (hF : ∀ z ∈ o.R, I64 z) {ks : List Int} (hks : ∀ k, k ∈ ks ↔ ((stepS s o).wt k).isSome = true) :
    ∀ c ∈ oneC s false o, c.R = o.R ∧ (1 ≤ wOf (told (stepS s o) ks) c.c ∧ wOf (told (stepS s o) ks) c.c ≤ 8) ∧ pOf (told (stepS s o) ks) c.c - stp (wOf (told (stepS s o) ks) c.c) = (stepS s o).last ∧ s.last ≤ (stepS s o).last ∧ ∀ r ∈ c.R, (stepS s o).last ≤ pOf (told (stepS s o) ks) r := by
  intro c hc
  unfold oneC at hc
  split at hc
  · rename_i h
    simp at hc
    obtain ⟨h1, h2⟩ := h
    obtain ⟨g1, g2, g3⟩ := mayF_ok h2
    have hb : ∀ k ∈ srt o.R, 1 ≤ k ∧ k ≤ 9223372036854775807 := fun k hk => ⟨g3 k hk, by have := (hF k (srt_mem.1 hk)).2; omega⟩
    have hst := share_step hO e g1 hb
    have hS : stepS s o = nextP s (srt o.R) := by unfold stepS; rw [if_neg (by omega), if_pos h1, if_pos h2]
    rw [hS] at hks ⊢
    have hin : ∀ r ∈ srt o.R, r ∈ ks := fun r hr => by
      rw [hks, nextP_wt, (adm_some (s := s) hr).1]; rfl
    subst hc
    dsimp only
    have hp := hin _ (pick_mem (s := s) g1)
    rw [wOf_told _ hp, pOf_told _ hp]
    refine ⟨rfl, ⟨hst.2.2.2.1, hst.2.2.2.2⟩, hst.1, hst.2.1, fun r hr => ?_⟩
    have hr2 := srt_mem.2 hr
    rw [pOf_told _ (hin r hr2)]
    exact hst.2.2.1 r hr2
  · simp at hc
theorem oneC_len (s : Pl) (b : Bool) (o : Og) : (oneC s b o).length ≤ 1 := by unfold oneC; split <;> simp
theorem oneC_none {s : Pl} {b : Bool} {o : Og} (h : (oneC s b o).length = 0) : (stepS s o).last = s.last := by
  refine step_last (fun h2 => ?_)
  unfold oneC at h
  rw [if_pos h2] at h
  simp at h
theorem told_len (s : Pl) (ks : List Int) : (told s ks).length = ks.length := by unfold told; simp
theorem told_mem {s : Pl} {ks : List Int} {i : Nat} {x : Sh} (h : (told s ks)[i]? = some x) : ∃ k ∈ ks, x = ⟨k, val s.wt k, psv s k⟩ := by
  unfold told at h
  rw [List.getElem?_map] at h
  cases hk : ks[i]? with
  | none => rw [hk] at h; simp at h
  | some k => rw [hk] at h; simp at h; exact ⟨k, List.mem_of_getElem? hk, h.symm⟩
section
variable (w : World)
set_option maxRecDepth 100000 in
set_option maxHeartbeats 8000000 in
theorem schedMarks_walk (v : Value) (os : List Og) (hO : OpR (fun b => b < w.heap.size) w v os) (hF : Fit os) (hc : cost os ≤ 1048576) :
    Calls Try.prog 5 #[v] w fun e w' => e = .returned (.bool true) ∧ Below w.heap.size w w' := by
  have HO := hide hO
  have HF := hide hF
  obtain ⟨ao, cap, rfl, hcap, hops⟩ := hO
  have HH := hide hops
  obtain ⟨m, hm⟩ : ∃ m, os.length = m := ⟨_, rfl⟩
  have HLn := hide hm
  have hcl := cost_len os
  rw [hm] at hcap HO hcl ⊢
  clear hF hm hops
  go_enter Try.func5, Try.ntmps5
  go_wp2_with fail
  refine (plan_any w 2 (by omega)).mono ?_
  rintro e w1 ⟨g, X, rfl, h1, h2, h3⟩
  have HP := hide h1
  have HX := hide h2
  have HB := hide h3
  clear h1 h2 h3
  go_upto_region 6 with fail
  go_loopw [4, 5] (fun mk i wr => ∃ (k : Nat) (X' : Nat → Prop), k ≤ m ∧ i = .int .i64 (k : Nat) ∧ mk = .int .i64 (runS (start 2) (os.take k)).last ∧ Hid (PlAt wr X' g (cost (os.take k)) (runS (start 2) (os.take k))) ∧ Hid (∀ b, X' b → w.heap.size ≤ b) ∧ Hid (Below w.heap.size w wr)) (fun _ i _ => m - (RowKit.intOf i).toNat)
  case atStart => exact ⟨0, X, by omega, rfl, rfl, HP, HX, HB⟩
  case round =>
    obtain ⟨k, X', hk, rfl, rfl, HPk, HXk, HBk⟩ := hrel
    clear HP HX HB
    by_cases hlt : k < m
    · obtain ⟨o, ho⟩ : ∃ o, os[k]? = some o := ⟨os[k]'(by rw [HLn.out]; exact hlt), List.getElem?_eq_getElem _⟩
      have htk : os.take (k + 1) = os.take k ++ [o] := by
        obtain ⟨h1, h2⟩ := List.getElem?_eq_some_iff.1 ho
        rw [List.take_succ_eq_append_getElem h1, h2]
      have hdt : (os.drop k).take (k + 1 - k) = [o] := by
        obtain ⟨h1, h2⟩ := List.getElem?_eq_some_iff.1 ho
        rw [show k + 1 - k = 1 by omega, List.drop_eq_getElem_cons h1, h2]; rfl
      have hS1 := congrArg (runS (start 2)) htk
      have hK1 := congrArg cost htk
      have hKm := cost_take os (k + 1)
      rw [runS_snoc] at hS1
      rw [cost_app] at hK1
      have hKo : cost [o] = o.R.length + 1 := rfl
      obtain ⟨x, u, rfl, hSx, _⟩ := HH.out k o ho
      have HOk := HO.out.keep (w' := wr) (fun b hb => HBk.out.block b hb)
      have HSub : Hid (OpR (fun b => b < w.heap.size) wr (.slice (some (x.add (k * 5))) 1 (cap - k)) [o]) := hide (by
        have := HOk.sub rfl (i := k) (j := k + 1) (c := cap - k) (by omega) (by rw [HLn.out]; omega) (by omega)
        rw [hdt, show k + 1 - k = 1 by omega] at this
        exact this)
      have HFo : Hid (Fit [o]) := hide (fun q hq => by simp at hq; subst hq; exact HF.out _ (List.mem_of_getElem? ho))
      have HSt := hide (And.intro hS1 hK1)
      have hki : (k : Int) < m := by omega
      have hkc : ¬ cap = k := by omega
      have hkc2 : (k : Int) + 1 ≤ cap := by omega
      have hkc3 : (k : Int) ≤ (k : Int) + 1 := by omega
      have hk0 : (0 : Int) ≤ k := by omega
      have hwk : IntKind.i64.wrap ((k : Int) + 1) = (k : Int) + 1 := wi _ (by omega) (by omega)
      clear ho htk hdt hS1 hK1 HOk hSx
      obtain ⟨s, hs⟩ : ∃ s, runS (start 2) (os.take k) = s := ⟨_, rfl⟩
      rw [hs] at HPk HSt ⊢
      have hsk : s.kind = 2 := by rw [← hs, runS_kind]; rfl
      clear hs
      go_upto_region 8 with fail
      go_wp2_with fail
      have hc1 : cost (os.take k) + cost [o] = cost (os.take (k + 1)) := HSt.out.2.symm
      have hc2 := cost_take os (k + 1)
      refine (chosen_any wr g (cost (os.take k)) X' (fun b => b < w.heap.size) s HPk.out _ [o] HSub.out (fun b hb => ⟨fun h => by have := HXk.out b h; omega, Nat.lt_of_lt_of_le hb HBk.out.size⟩) HFo.out (by omega) (by omega)).mono ?_
      rintro e w2 ⟨r, X2, rfl, h1, h2, h3⟩
      have h1' : PlAt w2 X2 g (cost (os.take k) + cost [o]) (stepS s o) := h1
      rw [hc1] at h1'
      have h2' : OwC w2 wr.heap.size X2 r (oneC s false o ++ []) := h2
      rw [List.append_nil] at h2'
      have HP2 := hide h1'
      have HC2 := hide h2'.chr
      have HB2 : Hid (Below w.heap.size w w2) := hide (HBk.out.trans (h3.mod.below (fun b hb => HXk.out b hb) HBk.out.size))
      have HX2 : Hid (∀ b, X2 b → w.heap.size ≤ b) := hide (fun b hb => by
        rcases h3.new b hb with h | h
        · exact HXk.out b h
        · have := HBk.out.size; omega)
      have HOk2 := hide HPk.out.ok
      have hRl : o.R.length ≤ 1048576 := by omega
      have HL2 := hide (HP2.out.ok.last (by rw [stepS_kind]; exact hsk))
      have HL0 := hide (HOk2.out.last hsk)
      have hct : cost (os.take (k + 1)) ≤ 1048576 := by omega
      clear h1 h2 h3 h1' h2' HPk HXk HBk HSub hc1 hc2 hKm hKo
      go_wp2_with fail
      refine (Told_any w2 g _ X2 _ HP2.out (by omega)).mono ?_
      rintro e w3 ⟨tv, ks, rfl, ho, hpw, hks, hlen, hb3⟩
      have HT3 := hide ho.shr
      have HKs := hide hks
      have HCc := hide (share_choice HOk2.out hsk (fun z hz => (HFo.out o (by simp)).2 z hz) hks)
      have HTo : Hid (∀ kk, kk ∈ ks → 1 ≤ val (stepS s o).wt kk ∧ val (stepS s o).wt kk ≤ 8 ∧ 0 ≤ psv (stepS s o) kk ∧ psv (stepS s o) kk ≤ (stepS s o).last + stp (val (stepS s o).wt kk)) := hide (fun kk hkk => share_told HP2.out.ok (by rw [stepS_kind]; exact hsk) ((hks kk).1 hkk))
      have HP3 := hide (HP2.out.below hb3)
      have HB3 : Hid (Below w.heap.size w w3) := hide (HB2.out.trans (hb3.mono HB2.out.size))
      have HC3 := hide (HC2.out.keep (w' := w3) (fun b hb => hb3.block b hb.2.2))
      have hs3 := hb3.size
      have hl0 := oneC_none (s := s) (b := false) (o := o)
      have hl1 := oneC_len s false o
      clear ho hpw hks hb3 HP2 HC2 HB2
      generalize hT : told (stepS s o) ks = T at *
      have hTl : T.length = ks.length := by rw [← hT]; exact told_len _ _
      have HTm : Hid (∀ (i : Nat) (x : Sh), T[i]? = some x → ∃ kk ∈ ks, x = ⟨kk, val (stepS s o).wt kk, psv (stepS s o) kk⟩) := hide (fun i x hx => told_mem (by rw [hT]; exact hx))
      clear hT
      obtain ⟨L2, hL2⟩ : ∃ z, (stepS s o).last = z := ⟨_, rfl⟩
      obtain ⟨L0, hL0⟩ : ∃ z, s.last = z := ⟨_, rfl⟩
      obtain ⟨tl, htl⟩ : ∃ z, T.length = z := ⟨_, rfl⟩
      obtain ⟨l, hl⟩ : ∃ z, oneC s false o = z := ⟨_, rfl⟩
      rw [hl] at HC3 HCc hl0 hl1
      obtain ⟨ml, hml⟩ : ∃ z, l.length = z := ⟨_, rfl⟩
      have HLl := hide hml
      have HTl := hide htl
      have HSl := hide hL2
      rw [hL2, hL0] at hl0
      rw [hL2] at HL2 HTo HCc
      rw [hL0] at HL0 HCc ⊢
      obtain ⟨atv, ct, htv, hct2, _⟩ := HT3.out
      subst htv
      obtain ⟨ar, cr, hr, hcr, _⟩ := HC3.out
      subst hr
      rw [htl] at hct2 hTl HT3 ⊢
      rw [hml] at hcr hl0 hl1 HC3 ⊢
      have htlb : tl ≤ 1048576 := by omega
      have hL2b := HL2.out
      have hL0b := HL0.out
      have hL2c : 0 ≤ L2 ∧ L2 ≤ 880803840 := by omega
      have hL0c : 0 ≤ L0 ∧ L0 ≤ 880803840 := by
        have := cost_take os k
        have h9 := HL0.out
        omega
      clear hL2 hL0 htl hl hml hTl hL2b hL0b HL2 HL0 hlen
      go_upto_region 13 with fail
      go_loopw [4, 9] (fun mk i wr => ∃ (q : Nat) (z : Int), q ≤ ml ∧ i = .int .i64 (q : Nat) ∧ mk = .int .i64 z ∧ ((z = L0 ∧ q = 0) ∨ (z = L2 ∧ q = 1)) ∧ Hid (Below w3.heap.size w3 wr)) (fun _ i _ => ml - (RowKit.intOf i).toNat)
      case atStart => exact ⟨0, L0, by omega, rfl, rfl, .inl ⟨rfl, rfl⟩, hide (Below.refl _ _)⟩
      case round =>
        obtain ⟨q, z, hq, rfl, rfl, hz, HBq⟩ := hrel
        by_cases hql : q < ml
        · have hq0 : q = 0 := by omega
          obtain rfl : z = L0 := by omega
          obtain ⟨c, hc9⟩ : ∃ c, l[q]? = some c := ⟨l[q]'(by rw [HLl.out]; omega), List.getElem?_eq_getElem _⟩
          have HCk := hide hc9
          obtain ⟨hcR, ⟨hW1, hW8⟩, hpp, hz2, hall⟩ := HCc.out c (List.mem_of_getElem? hc9)
          have HAll := hide hall
          have HCw := hide (HC3.out.keep (w' := wr) (fun b hb => HBq.out.block b (Nat.lt_of_lt_of_le hb.2.2 hs3)))
          have HTw := hide (HT3.out.keep (w' := wr) (fun b hb => HBq.out.block b hb.2))
          obtain ⟨x', au, cu, hx', _, c0, c1, _, c5⟩ := HCw.out.at hc9
          cases hx'
          have hrl : c.R.length ≤ 1048576 := by rw [hcR]; exact hRl
          obtain ⟨rl, hrl9⟩ : ∃ rl, c.R.length = rl := ⟨_, rfl⟩
          have HRl := hide hrl9
          rw [hrl9] at c0 c5 hrl
          have hqi : (q : Int) < ml := by omega
          have HPp := hide (fun n => pOf_any (wr.drewN n) _ _ T (HTw.out.keep (w' := wr.drewN n) (fun _ _ => rfl)) (by rw [HTl.out]; omega) c.c)
          generalize hW : wOf T c.c = W at *
          have HW := hide hW
          generalize pOf T c.c = pp at *
          have hquo := quo_stp hW1 hW8
          have hsb := stp_bd hW1 hW8
          generalize stp W = S9 at *
          obtain rfl : pp = L2 + S9 := by omega
          have hsub : IntKind.i64.wrap (L2 + S9 - S9) = L2 := by rw [show L2 + S9 - S9 = L2 by omega]; exact wi _ (by omega) (by omega)
          have hwl : IntKind.i64.wrap L2 = L2 := wi _ (by omega) (by omega)
          have hltz : decide (L2 < z) = false := by simpa using hz2
          have hltw : decide (W < 1) = false := by simpa using hW1
          have HQ0 := hide hq0
          clear hc9 hcR hrl9 hall hpp hW hz hq0
          go_wp2_with fail
          refine (wOf_any wr _ _ T HTw.out (by rw [HTl.out]; omega) _).mono ?_
          rw [HW.out]
          rintro e w5 ⟨rfl, rfl⟩
          go_upto_region 18 with fail
          go_quiet (first | (go_at_call 15; exact Calls.quiet_of_same (HPp.out _)))
          have HB9 : Hid (Below w3.heap.size w3 (w5.drewN nq)) := hide (HBq.out.trans (drewN_below _ _ _))
          clear HPp HCw HTw c0 c1 c5 hquo hsub hwl hsb
          go_upto_region 23 with fail
          go_loopw [12] (fun i wr => ∃ p : Nat, p ≤ rl ∧ i = .int .i64 (p : Nat) ∧ Hid (Below w3.heap.size w3 wr)) (fun i _ => rl - (RowKit.intOf i).toNat)
          case atStart => exact ⟨0, by omega, rfl, HB9⟩
          case round =>
            obtain ⟨p, hp, rfl, HBp⟩ := hrel
            have HCp := hide (HC3.out.keep (w' := wr) (fun b hb => HBp.out.block b (Nat.lt_of_lt_of_le hb.2.2 hs3)))
            have HTp := hide (HT3.out.keep (w' := wr) (fun b hb => HBp.out.block b hb.2))
            obtain ⟨x9, au', cu', hx9, _, c0, _, _, c5⟩ := HCp.out.at HCk.out
            cases hx9
            rw [HRl.out] at c0 c5
            by_cases hpl : p < rl
            · have hpi : (p : Int) < rl := by omega
              have hwm : c.R.getD p 0 ∈ c.R := by
                rw [List.getD_eq_getElem?_getD, List.getElem?_eq_getElem (by rw [HRl.out]; exact hpl), Option.getD_some]
                exact List.getElem_mem _
              have hle := HAll.out _ hwm
              obtain ⟨y, rfl, _, hy⟩ := c5.some_of (by rw [HRl.out]; omega)
              have d0 := hy p (by rw [HRl.out]; omega)
              generalize c.R.getD p 0 = who at *
              have HPw := hide (pOf_any wr _ _ T HTp.out (by rw [HTl.out]; omega) who)
              generalize pOf T who = pw at *
              have hltp : decide (pw < L2) = false := by simpa using hle
              clear hy c5 hwm HCp HTp
              go_wp2_with fail
              refine HPw.out.mono ?_
              rintro e w5 ⟨rfl, rfl⟩
              go_wp2
              go_roundw
              case rel => exact ⟨p + 1, by omega, by go_num, HBp⟩
              case measure => simp [RowKit.intOf]; omega
            · obtain rfl : p = rl := by omega
              go_wp2
              go_roundw
              case rel => exact ⟨q + 1, L2, by omega, by go_num, rfl, .inr ⟨rfl, by have := HQ0.out; omega⟩, HBp⟩
              case measure => simp [RowKit.intOf]; omega
        · obtain rfl : q = ml := by omega
          have hzz : z = L2 := by
            rcases hz with ⟨h1, h2⟩ | ⟨h1, _⟩
            · rw [h1]; exact (hl0 h2).symm
            · exact h1
          subst hzz
          clear hz hl0
          go_upto_region 28 with fail
          go_loopw [13] (fun i wr => ∃ q : Nat, q ≤ tl ∧ i = .int .i64 (q : Nat) ∧ Hid (Below w3.heap.size w3 wr)) (fun i _ => tl - (RowKit.intOf i).toNat)
          case atStart => exact ⟨0, by omega, rfl, HBq⟩
          case round =>
            obtain ⟨p, hp, rfl, HBp⟩ := hrel
            by_cases hpl : p < tl
            · obtain ⟨y, hy9⟩ : ∃ y, T[p]? = some y := ⟨T[p]'(by rw [HTl.out]; omega), List.getElem?_eq_getElem _⟩
              have HTp := hide (HT3.out.keep (w' := wr) (fun b hb => HBp.out.block b hb.2))
              obtain ⟨x9, hx9, _, d0, d1, d2⟩ := HTp.out.at hy9
              cases hx9
              obtain ⟨kk, hkk, rfl⟩ := HTm.out p y hy9
              obtain ⟨hW1, hW8, hP0, hP1⟩ := HTo.out kk hkk
              dsimp only at d0 d1 d2
              have hpi : (p : Int) < tl := by omega
              generalize val (stepS s o).wt kk = W at *
              generalize psv (stepS s o) kk = pp at *
              have hquo := quo_stp hW1 hW8
              have hsb := stp_bd hW1 hW8
              generalize stp W = S9 at *
              have hadd : IntKind.i64.wrap (z + S9) = z + S9 := wi _ (by omega) (by omega)
              have hltw : decide (W < 1) = false := by simpa using hW1
              have hltp : decide (z + S9 < pp) = false := by simpa using hP1
              have hlt0 : decide (pp < 0) = false := by simpa using hP0
              clear hy9 hkk d0 HTp
              go_upto_region 30 with fail
              go_quiet (fail)
              have HB9 : Hid (Below w3.heap.size w3 (wr.drewN nq)) := hide (HBp.out.trans (drewN_below _ _ _))
              go_wp2
              go_roundw
              case rel => exact ⟨p + 1, by omega, by go_num, HB9⟩
              case measure => simp [RowKit.intOf]; omega
            · obtain rfl : p = tl := by omega
              go_wp2
              go_roundw
              case rel => exact ⟨k + 1, X2, by omega, by go_num, by rw [HSt.out.1, HSl.out], hide (by rw [HSt.out.1]; exact HP3.out.below HBp.out), HX2, hide (HB3.out.trans (HBp.out.mono HB3.out.size))⟩
              case measure => simp [RowKit.intOf]; omega
    · obtain rfl : k = m := by omega
      go_wp2
      go_ret
      exact ⟨rfl, HBk.out⟩
end
end Go.Proofs.Ytngmnlmagbfijaa
