import Derived.Test.YtoddadohmnaolaaMF
namespace Go.Proofs.Ytoddadohmnaolaa
open Go.RowKit Go.Shelf

section
variable {rs : List (Option Er)} {last : Int}
/-- what a number has paid -/
def pdv (rs : List (Option Er)) (i : Nat) : Qt := match look rs (i : Int) with | some r => r.pd | none => Qt.zero
theorem pdv_at {i : Nat} {r : Er} (h : rs[i]? = some (some r)) : pdv rs i = r.pd := by unfold pdv; rw [look_nat, h]; rfl
theorem pdv_nn (h : Iv rs last) (i : Nat) : (pdv rs i).nn := by
  unfold pdv
  cases hl : look rs (i : Int) with
  | none => exact ⟨Int.le_refl _, Int.le_refl _, Int.le_refl _⟩
  | some r =>
    obtain ⟨k, _, hr⟩ := look_some hl
    exact (h.q k r hr).pd
/-- what all of a list have paid -/
def pds (rs : List (Option Er)) (l : List Nat) : Qt := ⟨(l.map (fun i => (pdv rs i).f)).sum, (l.map (fun i => (pdv rs i).e)).sum, (l.map (fun i => (pdv rs i).x)).sum⟩
theorem pds_app (l m : List Nat) : pds rs (l ++ m) = (pds rs l).plus (pds rs m) := by
  unfold pds Qt.plus
  simp only [List.map_append, List.sum_append]
theorem pds_one (c : Nat) : pds rs [c] = pdv rs c := by
  unfold pds
  simp
theorem pds_cons (c : Nat) (l : List Nat) : pds rs (c :: l) = (pdv rs c).plus (pds rs l) := by rw [← pds_one (rs := rs) c, ← pds_app]; rfl
theorem pds_nil : pds rs [] = Qt.zero := rfl
theorem pds_take {l : List Nat} {j c : Nat} (hc : l[j]? = some c) : pds rs (l.take (j + 1)) = (pds rs (l.take j)).plus (pdv rs c) := by
  rw [List.take_add_one, hc, pds_app]
  show _ = _
  rw [show (some c).toList = [c] from rfl, pds_one]
theorem pds_nn (h : Iv rs last) : ∀ l : List Nat, (pds rs l).nn
  | [] => ⟨Int.le_refl _, Int.le_refl _, Int.le_refl _⟩
  | c :: l => by
    obtain ⟨a1, a2, a3⟩ := pds_nn h l
    obtain ⟨b1, b2, b3⟩ := pdv_nn h c
    rw [pds_cons]
    exact ⟨by simp only [Qt.plus]; omega, by simp only [Qt.plus]; omega, by simp only [Qt.plus]; omega⟩
theorem ps_cons (c : Nat) (l : List Nat) : ps rs (c :: l) = (prc rs c).plus (ps rs l) := by rw [← ps_one (rs := rs) c, ← ps_app]; rfl
/-- what all in a tree have paid, and how many there are -/
def Wh (rs : List (Option Er)) (n e : Nat) (r : Er) : Prop := (pds rs (wk rs n e)).f ≤ r.qu.f ∧ (pds rs (wk rs n e)).e + ((wk rs n e).length : Int) ≤ r.qu.e + 1 ∧ (pds rs (wk rs n e)).x ≤ r.qu.x
theorem whole_kids (n : Nat) : ∀ l : List Nat, (∀ k ∈ l, ∃ rk, rs[k]? = some (some rk) ∧ Wh rs n k rk) → (pds rs (l.flatMap (wk rs n))).f ≤ (ps rs l).f ∧ (pds rs (l.flatMap (wk rs n))).e + ((l.flatMap (wk rs n)).length : Int) ≤ (ps rs l).e ∧ (pds rs (l.flatMap (wk rs n))).x ≤ (ps rs l).x
  | [], _ => by simp [pds, ps]
  | k :: l, h => by
    obtain ⟨rk, hk, w1, w2, w3⟩ := h k List.mem_cons_self
    obtain ⟨i1, i2, i3⟩ := whole_kids n l (fun c hc => h c (List.mem_cons_of_mem _ hc))
    rw [List.flatMap_cons, pds_app, ps_cons, prc_at hk, List.length_append]
    simp only [Qt.plus, Qt.one]
    omega
theorem whole_sum (h : Iv rs last) : ∀ (n e : Nat) (r : Er), rs[e]? = some (some r) → Wh rs n e r
  | 0, e, r, hr => by
    have hq := h.q e r hr
    obtain ⟨p1, p2, p3⟩ := hq.parts
    obtain ⟨a1, a2, a3⟩ := hq.pd
    obtain ⟨b1, b2, b3⟩ := hq.le
    obtain ⟨c1, c2, c3⟩ := cv_nn h e
    unfold Wh
    simp only [wk, pds_one, pdv_at hr, List.length_cons, List.length_nil]
    omega
  | n + 1, e, r, hr => by
    have hq := h.q e r hr
    obtain ⟨p1, p2, p3⟩ := hq.parts
    obtain ⟨b1, b2, b3⟩ := hq.le
    obtain ⟨k1, k2, k3⟩ := whole_kids (rs := rs) n (kids rs (e : Int)) (fun k hk => by
      obtain ⟨rk, hrk, _⟩ := kids_at hk
      exact ⟨rk, hrk, whole_sum h n k rk hrk⟩)
    rw [ps_kids h.tr] at k1 k2 k3
    unfold Wh
    simp only [wk, pds_cons, pdv_at hr, List.length_cons, Qt.plus]
    omega
/-- what is left of a quota behind the first j of a list -/
def rst (rs : List (Option Er)) (r : Er) (l : List Nat) (j : Nat) : Qt := r.qu.less (pds rs (l.take j))
theorem qt_zero_less (q : Qt) : q.less Qt.zero = q := by unfold Qt.less Qt.zero; simp
theorem rst_zero (r : Er) (l : List Nat) : rst rs r l 0 = r.qu := by
  unfold rst
  rw [List.take_zero, pds_nil, qt_zero_less]
theorem rst_step {r rc : Er} {l : List Nat} {j c : Nat} (hc : l[j]? = some c) (hr : rs[c]? = some (some rc)) : rst rs r l (j + 1) = (rst rs r l j).less rc.pd := by
  unfold rst
  rw [pds_take hc, pdv_at hr]
  unfold Qt.less Qt.plus
  simp only [Qt.mk.injEq]
  exact ⟨by omega, by omega, by omega⟩
theorem rst_nn (h : Iv rs last) {e : Nat} {r : Er} (hr : rs[e]? = some (some r)) (n j : Nat) : (rst rs r (wk rs n e) j).nn := by
  obtain ⟨w1, w2, w3⟩ := whole_sum h n e r hr
  have h1 := pds_app (rs := rs) ((wk rs n e).take j) ((wk rs n e).drop j)
  rw [List.take_append_drop] at h1
  obtain ⟨a1, a2, a3⟩ := pds_nn h ((wk rs n e).drop j)
  have hl : 0 < (wk rs n e).length := List.length_pos_of_mem (wk_self n e)
  rw [h1] at w1 w2 w3
  unfold rst
  simp only [Qt.nn, Qt.less, Qt.plus] at *
  omega
theorem rst_ok (h : Iv rs last) {e : Nat} {r : Er} (hr : rs[e]? = some (some r)) (n j : Nat) : (rst rs r (wk rs n e) j).ok := by
  obtain ⟨a1, a2, a3⟩ := rst_nn h hr n j
  obtain ⟨b1, b2, b3⟩ := pds_nn h ((wk rs n e).take j)
  obtain ⟨⟨u1, u2⟩, ⟨u3, u4⟩, ⟨u5, u6⟩⟩ := (h.oks hr).2.2
  unfold rst at *
  simp only [Qt.ok, Qt.less] at *
  omega
theorem wk_short (h : Iv rs last) {e : Nat} {r : Er} (hr : rs[e]? = some (some r)) (n : Nat) : ((wk rs n e).length : Int) - 1 ≤ r.qu.e ∧ (wk rs n e).length ≤ 16 ∧ 0 < (wk rs n e).length := by
  obtain ⟨w1, w2, w3⟩ := whole_sum h n e r hr
  obtain ⟨a1, a2, a3⟩ := pds_nn h (wk rs n e)
  have hl : 0 < (wk rs n e).length := List.length_pos_of_mem (wk_self n e)
  have h16 := wk_len h.tr n ⟨r, hr⟩
  omega
end
section
variable {w : World} {F : Nat → Prop} {T : Nat} {rs : List (Option Er)} {last : Int}
set_option maxHeartbeats 800000 in
theorem treeT_any (h : Et w F T rs last) (iv : Iv rs last) (k : Nat) (hk : Lv rs k) : Calls Try.prog 20 #[.pointer (some ⟨T, 0, none⟩), .int .i64 (k : Int)] w fun x w' => ∃ v, x = .returned (.tuple #[v, .int .i64 0]) ∧ w'.ownsRow w.heap.size 3 1 v (wk rs 17 k).length (numN (wk rs 17 k)) ∧ Below w.heap.size w w' := by
  have HC := hide (walk_any rs iv.tr.dis (fun n e => wk_len' iv.tr n e) (fun e => kids_len iv.tr e) 17 k w F T last h (dp17 iv.tr k))
  obtain ⟨r, hr⟩ := hk
  obtain ⟨S, G, m, h⟩ := h
  have c0 := h.cell.1
  have HG := hide (getL_any _ G S m h.tab (k : Int))
  rcases h.cases (k : Int) with ⟨_, h1⟩ | ⟨k', b, r', e1, hm, h3, h4, _, hR⟩
  · rw [look_nat, hr] at h1; cases h1
  · obtain rfl : k = k' := by omega
    rw [h4] at HG
    simp only [ptr, Option.isSome_some] at HG
    clear h h4 hR
    go_enter Try.func20, Try.ntmps20
    go_wp2_with fail
    refine HG.out.mono ?_
    rintro e1 w1 ⟨rfl, rfl⟩
    go_wp2_with fail
    refine HC.out.mono ?_
    rintro e1 w2 ⟨v, rfl, ho, hb⟩
    obtain ⟨va, vc, rfl⟩ := own_shape ho
    have HO := hide ho
    have HB := hide hb
    clear ho hb
    go_wp2
    go_ret2
    exact ⟨_, rfl, HO.out, HB.out⟩
end
end Go.Proofs.Ytoddadohmnaolaa

namespace Go.Proofs.Ytoddadohmnaolaa
open Go.RowKit Go.Shelf

section
variable {w : World} {F : Nat → Prop} {T B : Nat} {rs : List (Option Er)} {last : Int}
set_option maxRecDepth 100000 in
set_option maxHeartbeats 6400000 in
theorem whole_walk (a : Option Addr) (len cap : Nat) (O : Nat → Ov) (w : World) (hl : len ≤ maxLen) (hZ : IsOps w a len O) :
    Calls Try.prog 5 #[.slice a len cap] w fun x w' => x = .returned (.bool true) ∧ Below w.heap.size w w' := by
  have HZ := hide hZ
  have HF := hide (first_ns w)
  unfold maxLen at hl
  clear hZ
  go_enter Try.func5, Try.ntmps5
  go_wp2_with fail
  refine HF.out.mono ?_
  rintro x w1 ⟨T, B, rfl, hB, F, hN, hF, hb⟩
  have HN := hide hN
  have HFl := hide hF
  have HB := hide hb
  have HBl := hide hB
  clear hN hF hb hB HF
  go_upto_region 5 with fail
  go_loopw [5] (fun x wr => ∃ j : Nat, j ≤ len ∧ x = .int .i64 (j : Int) ∧ ∃ rs last F, Hid (Ns wr F T B rs last) ∧ Hid (∀ b, F b → w.heap.size ≤ b) ∧ Hid (Below w.heap.size w wr)) (fun x _ => len - (intOf x).toNat)
  case atStart => exact ⟨0, by omega, rfl, rs3, 3, F, HN, HFl, HB⟩
  case round =>
  clear HN HFl HB
  obtain ⟨j, hj, rfl, rs, last, F, KN, KF, KB⟩ := hrel
  by_cases hlt : j < len
  · have hd : decide ((j : Int) < (len : Int)) = true := by simp; omega
    have hj3 : (j : Int) < (len : Int) := by omega
    obtain ⟨ad, rfl, hcl⟩ := HZ.out.below KB.out j hlt
    have HCl := hide hcl
    have HNo : Hid (Calls Try.prog 16 #[.pointer (some ⟨B, 0, none⟩), .pointer (some ⟨T, 0, none⟩), .agg (O j).cells.toArray] wr fun x w' => x = .returned (.bool true) ∧ Np wr F T B w') := hide (noted_any KN.out (O j).kd (O j).t (O j).e (O j).n (O j).m (O j).q (O j).g (O j).pc (O j).on)
    clear hcl
    generalize hoj : O j = o at *
    clear hoj
    go_wp2_with (refine loadOp o ?lw _ rfl (ad.add (j * 18)) ?lx HCl.out ?_; rotate_left 2)
    try (case lw => rfl)
    try (case lx => rfl)
    refine HNo.out.mono ?_
    rintro x2 w2 ⟨rfl, rs', last', F', hN2, hX⟩
    obtain ⟨hm, hf⟩ := hX
    have HN2 := hide hN2
    have KF2 : Hid (∀ b, F' b → w.heap.size ≤ b) := hide (fun b hb => by
      rcases hf b (.inr hb) with (e9 | e9) | e9
      · rw [e9]; exact HBl.out
      · exact KF.out b e9
      · exact Nat.le_trans KB.out.size e9)
    have KB2 : Hid (Below w.heap.size w w2) := hide ⟨hm.os.trans KB.out.os, hm.tape.trans KB.out.tape, hm.output.trans KB.out.output, Nat.le_trans KB.out.size hm.size, fun b hb => (hm.block b (Nat.lt_of_lt_of_le hb KB.out.size) (fun e9 => by
      rcases e9 with e9 | e9
      · have := HBl.out; omega
      · have := KF.out b e9; omega)).trans (KB.out.block b hb)⟩
    clear hN2 hm hf HNo HCl KN KF KB
    go_wp2
    go_roundw
    case rel =>
      first
        | exact ⟨j + 1, by omega, by go_num, rs', last', F', HN2, KF2, KB2⟩
        | ((repeat apply Exists.intro); refine ⟨?_, rfl⟩; exact ⟨j + 1, by omega, by go_num, rs', last', F', HN2, KF2, KB2⟩)
    case measure => simp [intOf]; omega
  · obtain rfl : j = len := by omega
    have hd : decide ((j : Int) < (j : Int)) = false := by simp
    clear KF HZ
    go_upto_region 11 with fail
    go_loopw [7] (fun x wq => ∃ e : Nat, e ≤ 16 ∧ x = .int .i64 (e : Int) ∧ Hid (Ns wq F T B rs last) ∧ Hid (Below w.heap.size w wq)) (fun x _ => 16 - (intOf x).toNat)
    case atStart => exact ⟨0, by omega, rfl, KN, KB⟩
    case round =>
    clear KN KB
    obtain ⟨e, he, rfl, HNe, KQ⟩ := hrel
    by_cases h16 : e < 16
    · have hd2 : decide ((e : Int) < 16) = true := by simp; omega
      have he3 : (e : Int) < 16 := by omega
      obtain ⟨ce, fe⟩ := HNe.out.bq.cell h16
      cases hv : lvb rs e
      · rw [hv] at ce
        clear hv
        go_wp2
        go_roundw
        case rel =>
          first
            | exact ⟨e + 1, by omega, by go_num, HNe, KQ⟩
            | ((repeat apply Exists.intro); refine ⟨?_, rfl⟩; exact ⟨e + 1, by omega, by go_num, HNe, KQ⟩)
        case measure => simp [intOf]; omega
      · rw [hv] at ce
        obtain ⟨r, hr⟩ := lvb_some hv
        have HI := hide (info_any _ F T rs last HNe.out.et e r hr)
        have HR := hide hr
        clear hv hr
        go_wp2_with fail
        refine HI.out.mono ?_
        rintro x1 u1 ⟨rfl, hb1⟩
        have hz : Eb (u1.alloc (.cells Er.nil.head.toArray 41)) u1.heap.size Er.nil := Eb.new _ _
        have HEb := hide (freshE_eb u1 r.told)
        have hb2 := hb1.trans ((freshE_below u1 r.told).mono hb1.size)
        have HN2 := hide (HNe.out.below hb2)
        have HB2 := hide (KQ.out.trans (hb2.mono KQ.out.size))
        clear hb1 hb2 HI ce fe HNe KQ
        go_upto_region 15 with (refine storeE r.told ?nw _ _ rfl u1.heap.size Er.nil ?nx ?ny ?nz ?_; rotate_left 4; change wpList _ _ _ _ _ (freshE u1 r.told); generalize freshE u1 r.told = u2 at *)
        try (case nw => rfl)
        try (case nx => rfl)
        try (case ny => rfl)
        try (case nz => exact hz)
        clear hz
        generalize u1.heap.size = M at *
        have HTr := hide (treeT_any HN2.out.et HN2.out.iv e ⟨r, HR.out⟩)
        obtain ⟨hs1, hs2, hs3⟩ := wk_short HN2.out.iv HR.out 17
        go_wp2_with fail
        refine HTr.out.mono ?_
        rintro x2 u3 ⟨v, rfl, hvo, hb3⟩
        obtain ⟨va, vc, rfl⟩ := own_shape hvo
        have HE3 := hide (HEb.out.keep (hb3.block M HEb.out.lt))
        have HN3 := hide (HN2.out.below hb3)
        have HB3 := hide (HB2.out.trans (hb3.mono HB2.out.size))
        have HV3 := hide (own_low hvo (Nat.zero_le _))
        have g15 : u3.cell? ⟨M, 15, none⟩ = some (.int .i64 r.qu.f) := HE3.out.get (j := 15) rfl
        have g16 : u3.cell? ⟨M, 16, none⟩ = some (.int .i64 r.qu.e) := HE3.out.get (j := 16) rfl
        have g17 : u3.cell? ⟨M, 17, none⟩ = some (.int .i64 r.qu.x) := HE3.out.get (j := 17) rfl
        clear hvo hb3 HEb HN2 HB2 HTr
        have HEnd := hide (rst_nn HN3.out.iv HR.out 17 (wk rs 17 e).length)
        have HOk := hide (fun j => rst_ok HN3.out.iv HR.out 17 j)
        have HLv := hide (fun c (hc : c ∈ wk rs 17 e) => wk_lv 17 ⟨r, HR.out⟩ hc)
        have HR0 := hide (rst_zero (rs := rs) r (wk rs 17 e))
        generalize hLk : wk rs 17 e = ls at *
        clear hLk
        generalize hL : ls.length = L at *
        have t1 : decide ((L : Int) = 0) = false := by simp; omega
        have t2 : decide ((L : Int) - 1 > r.qu.e) = false := by simp; omega
        have t3 : decide ((L : Int) > 16) = false := by simp; omega
        have t4 : ¬ ((L : Int) = 0) := by omega
        have t8 : ((L : Int) == 0) = false := by simp; omega
        have t5 : ¬ (r.qu.e < (L : Int) - 1) := by omega
        have t6 : ¬ (16 < (L : Int)) := by omega
        go_upto_region 19 with fail
        clear g15 g16 g17 t1 t2 t3 t4 t5 t6 t8
        have hb6 := (Below.refl u3.heap.size u3).alloc (Nat.le_refl _) (.cells #[.int .i64 r.qu.f, .int .i64 r.qu.e, .int .i64 r.qu.x] 39)
        have a6 := heap_alloc_new u3 (.cells #[.int .i64 r.qu.f, .int .i64 r.qu.e, .int .i64 r.qu.x] 39)
        have HN6 := hide (HN3.out.below hb6)
        have HB6 := hide (HB3.out.trans (hb6.mono HB3.out.size))
        have HP : Hid (w.heap.size ≤ u3.heap.size) := hide HB3.out.size
        have HPF : Hid (¬ F u3.heap.size ∧ u3.heap.size ≠ B) := hide ⟨fun h9 => by have := HN3.out.et.lt _ h9; omega, fun h9 => by have := HN3.out.bq.lt; omega⟩
        have HKg : Hid (∀ b, (Value.slice va L vc).ownBlock = some b → b ≠ u3.heap.size) := hide (fun b e9 => by have := (World.ownsRow.lt HV3.out b e9).2; omega)
        have HV6 := hide (own_below HV3.out hb6)
        rw [← HR0.out] at a6 HN6 HB6 HV6 ⊢
        clear hb6 HN3 HB3 HV3 HE3 HR0
        generalize u3.alloc (.cells #[.int .i64 (rst rs r ls 0).f, .int .i64 (rst rs r ls 0).e, .int .i64 (rst rs r ls 0).x] 39) = w6 at *
        generalize u3.heap.size = P at *
        have HC6 := hide a6
        clear a6
        go_upto_region 20 with fail
        go_loopw [13] (fun x wr => ∃ i : Nat, i ≤ L ∧ x = .int .i64 (i : Int) ∧ Hid (wr.heap[P]? = some (.cells #[.int .i64 (rst rs r ls i).f, .int .i64 (rst rs r ls i).e, .int .i64 (rst rs r ls i).x] 39 (0, 0))) ∧ Hid (At w6 P wr)) (fun x _ => L - (intOf x).toNat)
        case atStart => exact ⟨0, by omega, rfl, HC6, At.refl _ _⟩
        case round =>
        clear HC6
        obtain ⟨i, hi, rfl, KP, KA⟩ := hrel
        have HNi : Hid (Ns wr F T B rs last) := hide ⟨HN6.out.et.keep KA.out.size (fun b hb => KA.out.block b (HN6.out.et.lt b hb) (fun e9 => HPF.out.1 (e9 ▸ hb))), HN6.out.iv, HN6.out.wd, HN6.out.bq.keep (KA.out.block B HN6.out.bq.lt (fun e9 => HPF.out.2 e9.symm)), HN6.out.ne⟩
        have HBi : Hid (Below w.heap.size w wr) := hide ⟨KA.out.os.trans HB6.out.os, KA.out.tape.trans HB6.out.tape, KA.out.output.trans HB6.out.output, Nat.le_trans HB6.out.size KA.out.size, fun b hb => (KA.out.block b (Nat.lt_of_lt_of_le hb HB6.out.size) (by have := HP.out; omega)).trans (HB6.out.block b hb)⟩
        by_cases hlt : i < L
        · have hd3 : decide ((i : Int) < (L : Int)) = true := by simp; omega
          have hi3 : (i : Int) < (L : Int) := by omega
          obtain ⟨c, hc⟩ : ∃ c, ls[i]? = some c := ⟨_, List.getElem?_eq_getElem (by omega)⟩
          obtain ⟨rc, hrc⟩ := HLv.out c (List.mem_of_getElem? hc)
          have hcl := lv_lt HNi.out.iv.tr ⟨rc, hrc⟩
          have hc3 : (c : Int) < 16 := by omega
          obtain ⟨kg, rfl, hgP, hck6⟩ : ∃ kg, va = some ⟨kg, 0, none⟩ ∧ kg ≠ P ∧ w6.cell? ⟨kg, i, none⟩ = some (.int .i64 (c : Int)) := by
            have h9 := HV6.out
            obtain ⟨_, ⟨h0, _⟩ | ⟨g, cp, cur, h0, _⟩⟩ := HV6.out
            · injection h0 with _ h8 _; omega
            · cases h0
              refine ⟨g, rfl, HKg.out g rfl, ?_⟩
              have := World.ownsRow.cells h9 rfl i (.int .i64 (c : Int)) (by simp [numN, hc])
              rw [add0] at this
              exact this
          have hck : wr.cell? ⟨kg, i, none⟩ = some (.int .i64 (c : Int)) := by
            rw [World.cell?_of_block (KA.out.block kg (World.block_lt_of_cell? _ _ hck6) hgP)]; exact hck6
          have hlv : lvb rs c = true := by unfold lvb; rw [core_at hrc]; rfl
          have hL2 := lives_any HNi.out.bq c hcl
          rw [hlv] at hL2
          have HLi := hide hL2
          have HSt := hide (rst_step (r := r) hc hrc)
          have HPd := hide (HNi.out.bq.paidc hrc hcl)
          have HAdd := hide (fun W => addNeg_any W (rst rs r ls i) rc.pd (HOk.out i) (HNi.out.iv.oks hrc).2.1)
          unfold Qt.val at HAdd
          obtain ⟨s1, hs1e⟩ : ∃ s, s = rst rs r ls i := ⟨_, rfl⟩
          rw [← hs1e] at HAdd KP HSt
          obtain ⟨s2, hs2e⟩ : ∃ s, s = s1.less rc.pd := ⟨_, rfl⟩
          rw [← hs2e] at HAdd HSt
          clear hs1e hs2e hL2 hlv hrc hc hck6 HNi HBi
          go_wp2_with fail
          refine HLi.out.mono ?_
          rintro x4 w4 ⟨rfl, rfl⟩
          go_upto_region 24 with fail
          clear HLi
          obtain ⟨w6', hw6⟩ : ∃ w6', w6' = w4.drew := ⟨_, rfl⟩
          have hb6 : Below w4.heap.size w4 w6' := by rw [hw6]; exact ⟨rfl, rfl, rfl, Nat.le_refl _, fun _ _ => rfl⟩
          have KP6 := hide ((hb6.block P (Array.getElem?_eq_some_iff.1 KP.out).1).trans KP.out)
          have KA6 := hide (KA.out.below hb6)
          have HST : Hid (∀ W : World, (∀ b, b < w4.heap.size → b ≠ P → W.heap[b]? = w4.heap[b]?) → ((fun W => (W.cell? ⟨B, 16 + c * 3, none⟩ = some (.int .i64 rc.pd.f) ∧ W.cell? ⟨B, 16 + c * 3 + 1, none⟩ = some (.int .i64 rc.pd.e) ∧ W.cell? ⟨B, 16 + c * 3 + 2, none⟩ = some (.int .i64 rc.pd.x)) ∧ W.cell? ⟨kg, i, none⟩ = some (.int .i64 (c : Int)))) W) := hide (fun W h2 => by
            obtain ⟨d0, d1, d2⟩ := HPd.out
            refine ⟨⟨?_, ?_, ?_⟩, ?_⟩
            · rw [World.cell?_of_block (h2 B (World.block_lt_of_cell? _ _ d0) (fun e9 => HPF.out.2 e9.symm))]; exact d0
            · rw [World.cell?_of_block (h2 B (World.block_lt_of_cell? _ _ d0) (fun e9 => HPF.out.2 e9.symm))]; exact d1
            · rw [World.cell?_of_block (h2 B (World.block_lt_of_cell? _ _ d0) (fun e9 => HPF.out.2 e9.symm))]; exact d2
            · rw [World.cell?_of_block (h2 kg (World.block_lt_of_cell? _ _ hck) hgP)]; exact hck)
          have HS6 := hide (HST.out w6' (fun b hb _ => hb6.block b hb))
          have HB6' := hide hb6
          clear hb6 KP KA HPd hck
          refine wp_region_held_drew (S := (fun W => (W.cell? ⟨B, 16 + c * 3, none⟩ = some (.int .i64 rc.pd.f) ∧ W.cell? ⟨B, 16 + c * 3 + 1, none⟩ = some (.int .i64 rc.pd.e) ∧ W.cell? ⟨B, 16 + c * 3 + 2, none⟩ = some (.int .i64 rc.pd.x)) ∧ W.cell? ⟨kg, i, none⟩ = some (.int .i64 (c : Int)))) (by kernel_rfl) (by rw [← hw6]; exact HS6.out) (fun _ => ?_)
          rw [← hw6]
          clear hw6
          refine hd_take 1 (o := ⟨some 99, _, _, _, _, _⟩) (.pointer (some ⟨B, 0, none⟩)) (by kernel_rfl) (by kernel_rfl) (by kernel_rfl) rfl (by rfl) (fun W hSw => by go_simp) (fun _ _ _ h => h) HS6.out ?_
          try simp only [Act.put, List.setIfInBounds_toArray, List.set_cons_zero, List.set_cons_succ]
          refine hd_take 2 (o := ⟨some 100, _, _, _, _, _⟩) (.slice (some ⟨kg, 0, none⟩) L vc) (by kernel_rfl) (by kernel_rfl) (by kernel_rfl) rfl (by rfl) (fun W hSw => by go_simp) (fun _ _ _ h => h) HS6.out ?_
          try simp only [Act.put, List.setIfInBounds_toArray, List.set_cons_zero, List.set_cons_succ]
          refine hd_take 3 (o := ⟨some 101, _, _, _, _, _⟩) (.int .i64 (i : Int)) (by kernel_rfl) (by kernel_rfl) (by kernel_rfl) rfl (by rfl) (fun W hSw => by go_simp) (fun _ _ _ h => h) HS6.out ?_
          try simp only [Act.put, List.setIfInBounds_toArray, List.set_cons_zero, List.set_cons_succ]
          refine hd_take 4 (o := ⟨some 102, _, _, _, _, _⟩) (.pointer (some ⟨kg, i, none⟩)) (by kernel_rfl) (by kernel_rfl) (by kernel_rfl) rfl (by rfl) (fun W hSw => by go_simp) (fun _ _ _ h => h) HS6.out ?_
          try simp only [Act.put, List.setIfInBounds_toArray, List.set_cons_zero, List.set_cons_succ]
          refine hd_take 5 (o := ⟨some 103, _, _, _, _, _⟩) (.int .i64 (c : Int)) (by kernel_rfl) (by kernel_rfl) (by kernel_rfl) rfl (by rfl) (fun W hSw => by obtain ⟨⟨q3, q4, q5⟩, q6⟩ := hSw; go_simp) (fun _ _ _ h => h) HS6.out ?_
          try simp only [Act.put, List.setIfInBounds_toArray, List.set_cons_zero, List.set_cons_succ]
          refine hd_take 6 (o := ⟨some 104, _, _, _, _, _⟩) (.pointer (some ⟨B, 0, none⟩)) (by kernel_rfl) (by kernel_rfl) (by kernel_rfl) rfl (by rfl) (fun W hSw => by go_simp) (fun _ _ _ h => h) HS6.out ?_
          try simp only [Act.put, List.setIfInBounds_toArray, List.set_cons_zero, List.set_cons_succ]
          refine hd_take 7 (o := ⟨some 105, _, _, _, _, _⟩) (.pointer (some ⟨B, 16, none⟩)) (by kernel_rfl) (by kernel_rfl) (by kernel_rfl) rfl (by rfl) (fun W hSw => by go_simp) (fun _ _ _ h => h) HS6.out ?_
          try simp only [Act.put, List.setIfInBounds_toArray, List.set_cons_zero, List.set_cons_succ]
          refine hd_take 8 (o := ⟨some 106, _, _, _, _, _⟩) (.pointer (some ⟨B, 16 + c * 3, none⟩)) (by kernel_rfl) (by kernel_rfl) (by kernel_rfl) rfl (by rfl) (fun W hSw => by go_simp) (fun _ _ _ h => h) HS6.out ?_
          try simp only [Act.put, List.setIfInBounds_toArray, List.set_cons_zero, List.set_cons_succ]
          refine hd_take 9 (o := ⟨some 107, _, _, _, _, _⟩) (.agg #[.int .i64 rc.pd.f, .int .i64 rc.pd.e, .int .i64 rc.pd.x]) (by kernel_rfl) (by kernel_rfl) (by kernel_rfl) rfl (by rfl) (fun W hSw => by obtain ⟨⟨q3, q4, q5⟩, q6⟩ := hSw; go_simp) (fun _ _ _ h => h) HS6.out ?_
          try simp only [Act.put, List.setIfInBounds_toArray, List.set_cons_zero, List.set_cons_succ]
          obtain ⟨c0, c1, c2, f0, f1, f2⟩ := blk3 KP6.out
          refine hd_call 0 (o := ⟨some 98, _, _, _, _, _⟩) (by kernel_rfl) rfl (by rfl) (fun K hK => ?_)
          go_simp
          refine hK _ _ HS6.out ?_
          clear hK K c0 c1 c2 f0 f1 f2
          try simp only [Act.put, List.setIfInBounds_toArray, List.set_cons_zero, List.set_cons_succ]
          refine hd_call 10 (o := ⟨some 108, _, _, _, _, _⟩) (by kernel_rfl) rfl (by rfl) (fun K hK => ?_)
          go_simp
          go_wp2_with (go_at_call 22; refine (HAdd.out _).mono ?_; rintro e1 w7 ⟨rfl, hb7⟩)
          have KP7 := hide ((hb7.block P (Array.getElem?_eq_some_iff.1 KP6.out).1).trans KP6.out)
          have KA7 := hide (KA6.out.below hb7)
          have hb7' := HB6'.out.trans (hb7.mono HB6'.out.size)
          have HS7 := hide (HST.out w7 (fun b hb _ => hb7'.block b hb))
          have HB7 := hide hb7'
          clear hb7' hb7 KP6 KA6 HS6 HB6' HAdd
          refine hK _ _ HS7.out ?_
          clear hK K
          try simp only [Act.put, List.setIfInBounds_toArray, List.set_cons_zero, List.set_cons_succ]
          refine hd_call 11 (o := ⟨none, _, _, _, _, _⟩) (by kernel_rfl) rfl (by rfl) (fun K hK => ?_)
          obtain ⟨c0, c1, c2, f0, f1, f2⟩ := blk3 KP7.out
          have N1 : Hid ((((w7.setCell ⟨P, 0, none⟩ (.int .i64 s2.f)).setCell ⟨P, 1, none⟩ (.int .i64 s2.e)).setCell ⟨P, 2, none⟩ (.int .i64 s2.x)).heap[P]? = some (.cells #[.int .i64 (rst rs r ls (i + 1)).f, .int .i64 (rst rs r ls (i + 1)).e, .int .i64 (rst rs r ls (i + 1)).x] 39 (0, 0))) := by rw [HSt.out]; exact hide (set3 KP7.out _ _ _)
          have N2 := hide (((KA7.out.set 0 (.int .i64 s2.f)).set 1 (.int .i64 s2.e)).set 2 (.int .i64 s2.x))
          have HS8 := hide (HST.out (((w7.setCell ⟨P, 0, none⟩ (.int .i64 s2.f)).setCell ⟨P, 1, none⟩ (.int .i64 s2.e)).setCell ⟨P, 2, none⟩ (.int .i64 s2.x)) (fun b hb hne => by rw [heap_setCell_other _ _ _ _ hne, heap_setCell_other _ _ _ _ hne, heap_setCell_other _ _ _ _ hne]; exact HB7.out.block b hb))
          go_simp
          refine hK _ _ HS8.out ?_
          clear hK K
          refine wpAnyH_done (by kernel_rfl) ?_ _
          clear c0 c1 c2 f0 f1 f2 HS7 HS8 KP7 KA7 HST HB7
          generalize (((w7.setCell ⟨P, 0, none⟩ (.int .i64 s2.f)).setCell ⟨P, 1, none⟩ (.int .i64 s2.e)).setCell ⟨P, 2, none⟩ (.int .i64 s2.x)) = w8 at *
          go_wp2
          go_roundw
          case rel =>
            first
              | exact ⟨i + 1, by omega, by go_num, N1, N2⟩
              | ((repeat apply Exists.intro); refine ⟨?_, rfl⟩; exact ⟨i + 1, by omega, by go_num, N1, N2⟩)
          case measure => simp [intOf]; omega
        · obtain rfl : i = L := by omega
          have hd3 : decide ((i : Int) < (i : Int)) = false := by simp
          have HBn := hide (fun W => below_nn W (rst rs r ls i) HEnd.out)
          unfold Qt.val at HBn
          obtain ⟨c0, c1, c2, f0, f1, f2⟩ := blk3 KP.out
          clear KP KA HN6 HB6 HV6 HOk HEnd
          go_wp2_with fail
          refine (HBn.out _).mono ?_
          rintro x3 w3 ⟨rfl, hb3⟩
          have N1 := hide (HNi.out.below hb3)
          have N2 := hide (HBi.out.trans (hb3.mono HBi.out.size))
          clear hb3 HBn c0 c1 c2 f0 f1 f2 HNi HBi
          go_wp2
          go_roundw
          case rel =>
            first
              | exact ⟨e + 1, by omega, by go_num, N1, N2⟩
              | ((repeat apply Exists.intro); refine ⟨?_, rfl⟩; exact ⟨e + 1, by omega, by go_num, N1, N2⟩)
          case measure => simp [intOf]; omega
    · obtain rfl : e = 16 := by omega
      clear HNe
      go_wp2
      go_ret
      exact ⟨by simp, KQ.out⟩
end
end Go.Proofs.Ytoddadohmnaolaa
