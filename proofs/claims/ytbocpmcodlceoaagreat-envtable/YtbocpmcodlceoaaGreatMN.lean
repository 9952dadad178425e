import Derived.Test.YtbocpmcodlceoaaGreatML
namespace Go.Proofs.YtbocpmcodlceoaaGreat
open Go.ChangeShapes Go.WideShapes Go.ChangeAt Go.RowKit Go.Deep

section
variable {w : World} {R : Nat} {v : Value} {K : List Rw} {last : Int} {rs : List (Option Er)} {F : Nat → Prop}
set_option maxRecDepth 8000 in
set_option maxHeartbeats 1600000 in
theorem infoD_none (h : RtA R rs last w F) (hl : rs.length = 16) (e : Int) (hn : look rs e = none) : Calls Tryz.prog 35 #[tp R, .int .i64 e] w fun x w' => x = .returned (.tuple #[.agg Er.nil.head.toArray, .int .i64 90]) ∧ Below w.heap.size w w' := by
  obtain ⟨v, K, h, ha, he⟩ := h
  have h0 : Eb (w.alloc (.cells Er.nil.head.toArray 46)) w.heap.size Er.nil := Eb.new _ _
  have hb0 := (Below.refl w.heap.size w).alloc (Nat.le_refl _) (.cells Er.nil.head.toArray 46)
  have HAt := hide (atb_any (h.below hb0) ha hl e)
  have HN : Hid (∀ (n : Nat) (r : Er), e = (n : Int) → rs[n]? ≠ some (some r)) := hide (fun n r en hr => by
    rw [en, look_nat, hr] at hn; cases hn)
  have HB0 := hide hb0
  have H0 := hide h0
  clear hb0 h0 h ha he hl hn
  go_enter Tryz.func35, Tryz.ntmps35
  go_upto_region 1 with fail
  show Code.wp _ _ _ _ (w.alloc (.cells Er.nil.head.toArray 46))
  generalize w.alloc (.cells Er.nil.head.toArray 46) = w1 at *
  obtain ⟨t, ht⟩ : ∃ t, Er.nil = t := ⟨_, rfl⟩
  rw [ht] at H0
  have HT := hide ht
  have HE4 := hide (H0.out.lay t).out
  have HB4 := hide (below_setCells HB0.out (Nat.le_refl _) 0 t.head)
  clear ht HB0
  go_wp2_with fail
  refine HAt.out.mono ?_
  rintro e1 w2 ⟨hw2, ⟨i, n, r, -, -, hen, hr⟩ | ⟨rfl, -⟩⟩
  · exact absurd hr (HN.out n r hen)
  · subst hw2
    clear HAt HN
    go_wp2_with (refine storeE t ?nw _ _ rfl w.heap.size t ?nx ?ny ?nz ?_; rotate_left 4; generalize w2.setCells w.heap.size 0 t.head = w4 at *)
    try (case nw => rfl)
    try (case nx => rfl)
    try (case ny => rw [← HT.out]; rfl)
    try (case nz => exact H0.out)
    refine bodyPost_ret (results_row2 rfl _ _ w.heap.size 46 t.head.toArray (0, 0) _ rfl HE4.out Tryz.underlying46 rfl (by rw [List.size_toArray, head_len]; exact infoE)) rfl ?_
    exact ⟨by rw [HT.out]; rfl, HB4.out⟩
set_option maxRecDepth 8000 in
set_option maxHeartbeats 1600000 in
theorem infoD_some (h : RtA R rs last w F) (iv : Iv rs last) (n : Nat) (r : Er) (hr : rs[n]? = some (some r)) : Calls Tryz.prog 35 #[tp R, .int .i64 (n : Int)] w fun x w' => x = .returned (.tuple #[.agg r.told.head.toArray, .int .i64 0]) ∧ Below w.heap.size w w' := by
  obtain ⟨v, K, h, ha, he⟩ := h
  obtain ⟨i, hi⟩ := List.getElem?_of_mem ((ha.mem n r).2 hr)
  have h0 : Eb (w.alloc (.cells Er.nil.head.toArray 46)) w.heap.size Er.nil := Eb.new _ _
  have hb0 := (Below.refl w.heap.size w).alloc (Nat.le_refl _) (.cells Er.nil.head.toArray 46)
  have h := h.below hb0
  obtain ⟨g, c, hv, hrow⟩ := h.at hi
  have HAt := hide (atb_any h ha iv.tr.len (n : Int))
  have HOn : Hid (∀ (i' n' : Nat) (r' : Er), K[i']? = some (n', r') → (n : Int) = (n' : Int) → i' = i) := hide (fun i' n' r' h1 h2 => ha.once h1 hi (by simp; omega))
  have HEx : Hid (∃ r', rs[n]? = some (some r')) := hide ⟨r, hr⟩
  have hil := (List.getElem?_eq_some_iff.1 hi).1
  obtain ⟨L, hL⟩ : ∃ L, K.length = L := ⟨_, rfl⟩
  rw [hL] at hv hil
  have hii : (i : Int) < (L : Int) := by omega
  subst hv
  have HLf : Hid (∀ W, Below (w.alloc (.cells Er.nil.head.toArray 46)).heap.size (w.alloc (.cells Er.nil.head.toArray 46)) W → Calls Tryz.prog 61 #[tp R, .int .i64 (i : Int)] W fun x w' => x = .returned r.le.val ∧ Below W.heap.size W w') := hide (fun W hW => leftD_any (h.below hW) ha iv hi)
  have c0 := h.rowc
  obtain ⟨r0, hr0⟩ : ∃ r0 : Er, { r with lf := Qt.zero } = r0 := ⟨_, rfl⟩
  have HL0 : Hid (∀ (j : Nat) (v : Value), r0.head[j]? = some v → (w.alloc (.cells Er.nil.head.toArray 46)).cell? ((⟨g, i * 25 + 1, none⟩ : Addr).add j) = some v) := hide (fun j v hj => by
    rw [add_off, Nat.add_assoc]
    refine hrow (1 + j) v ?_
    have hj2 : j < 21 := by have := (List.getElem?_eq_some_iff.1 hj).1; rwa [head_len] at this
    have e1 : encW1 (n, r) = .int .i64 (n : Int) :: (r0.head ++ [.int .i64 r.pd.f, .int .i64 r.pd.e, .int .i64 r.pd.x]) := by rw [← hr0]; rfl
    rw [e1, Nat.add_comm, List.getElem?_cons_succ, List.getElem?_append_left (by rw [head_len]; exact hj2)]
    exact hj)
  have HT0 : Hid ({ r0 with lf := r.le } = r.told) := hide (by rw [← hr0]; rfl)
  have HB0 := hide hb0
  have H0 := hide h0
  clear hb0 h0 h ha he hi hr iv hrow hL hr0
  go_enter Tryz.func35, Tryz.ntmps35
  go_upto_region 1 with fail
  show Code.wp _ _ _ _ (w.alloc (.cells Er.nil.head.toArray 46))
  generalize w.alloc (.cells Er.nil.head.toArray 46) = w1 at *
  go_wp2_with fail
  refine HAt.out.mono ?_
  rintro e1 w2 ⟨hw2, ⟨i', n', r', rfl, hi', hn', -⟩ | ⟨-, hno⟩⟩
  · have e2 := HOn.out i' n' r' hi' hn'
    subst e2
    subst hw2
    clear HAt HOn HEx hi' hn'
    have hz0 : Eb (w2.alloc (.cells Er.nil.head.toArray 46)) w2.heap.size Er.nil := Eb.new _ _
    have HZ0 := hide hz0
    have HE := hide (freshE_eb w2 r0)
    have HB1 := hide (freshE_below w2 r0)
    clear hz0
    go_upto_region 4 with fail
    go_upto_region 5 with (first | refine loadE r0 ?lw _ rfl ⟨g, i' * 25 + 1, none⟩ ?lx ?lc ?_ | refine storeE r0 ?sw _ _ rfl w2.heap.size Er.nil ?sx ?sy ?sz ?_)
    try (case lw => rfl)
    try (case lx => rfl)
    case lc => exact HL0.out
    try (case sw => rfl)
    try (case sx => rfl)
    try (case sy => rfl)
    case sz => exact HZ0.out
    show Code.wp _ _ _ _ (freshE w2 r0)
    have H2 : Hid (Eb (freshE w2 r0) w.heap.size Er.nil) := hide (H0.out.keep (HB1.out.block _ H0.out.lt))
    have HNE : Hid (w.heap.size ≠ w2.heap.size) := hide (Nat.ne_of_lt H0.out.lt)
    have HB2 : Hid (Below w.heap.size w (freshE w2 r0)) := hide (HB0.out.trans (HB1.out.mono HB0.out.size))
    have HNw : Hid (w.heap.size ≤ w2.heap.size) := hide HB0.out.size
    have HC := hide (HLf.out (freshE w2 r0) HB1.out)
    clear HL0 HZ0 c0 HB1 HB0 H0 HLf
    generalize freshE w2 r0 = w3 at *
    generalize w2.heap.size = N at *
    go_wp2_with fail
    refine HC.out.mono ?_
    rintro e1 w4 ⟨rfl, hb4⟩
    have HE4 := hide (HE.out.keep (hb4.block N HE.out.lt))
    have H4 := hide (H2.out.keep (hb4.block _ H2.out.lt))
    have HB4 := hide (HB2.out.trans (hb4.mono HB2.out.size))
    clear hb4 HE H2 HB2 HC
    unfold Qt.val
    have q0 := HE4.out.get (j := 18) rfl
    have q1 := HE4.out.get (j := 19) rfl
    have q2 := HE4.out.get (j := 20) rfl
    have f0 := HE4.out.frz 18
    have f1 := HE4.out.frz 19
    have f2 := HE4.out.frz 20
    have HE5 : Hid (Eb (((w4.setCell ⟨N, 18, none⟩ (.int .i64 r.le.f)).setCell ⟨N, 19, none⟩ (.int .i64 r.le.e)).setCell ⟨N, 20, none⟩ (.int .i64 r.le.x)) N { r0 with lf := r.le }) :=
      hide (Eb.set (e := { r0 with lf := ⟨r.le.f, r.le.e, r0.lf.x⟩ }) (Eb.set (e := { r0 with lf := ⟨r.le.f, r0.lf.e, r0.lf.x⟩ }) (HE4.out.set rfl) rfl) rfl)
    have H5 : Hid (Eb (((w4.setCell ⟨N, 18, none⟩ (.int .i64 r.le.f)).setCell ⟨N, 19, none⟩ (.int .i64 r.le.e)).setCell ⟨N, 20, none⟩ (.int .i64 r.le.x)) w.heap.size Er.nil) :=
      hide (H4.out.keep (by rw [heap_setCell_other _ _ _ _ HNE.out, heap_setCell_other _ _ _ _ HNE.out, heap_setCell_other _ _ _ _ HNE.out]))
    have HB5 := hide ((((HB4.out.setCell (p := ⟨N, 18, none⟩) HNw.out (.int .i64 r.le.f)).setCell (p := ⟨N, 19, none⟩) HNw.out (.int .i64 r.le.e)).setCell (p := ⟨N, 20, none⟩) HNw.out (.int .i64 r.le.x)))
    go_upto_region 6 with fail
    generalize ((w4.setCell ⟨N, 18, none⟩ (.int .i64 r.le.f)).setCell ⟨N, 19, none⟩ (.int .i64 r.le.e)).setCell ⟨N, 20, none⟩ (.int .i64 r.le.x) = w5 at *
    clear q0 q1 q2 f0 f1 f2 HE4 H4 HB4 HNE
    rw [HT0.out] at HE5
    obtain ⟨t, ht⟩ : ∃ t, r.told = t := ⟨_, rfl⟩
    rw [ht] at HE5
    have HT := hide ht
    have HE6 := hide (H5.out.lay t).out
    have HB6 := hide (below_setCells HB5.out (Nat.le_refl _) 0 t.head)
    clear ht HT0
    go_wp2_with (refine loadE t ?mw _ rfl ⟨N, 0, none⟩ ?mx ?mc ?_; rotate_left 3; simp only [Act.put, List.setIfInBounds_toArray, List.set_cons_zero, List.set_cons_succ]; refine storeE t ?nw _ _ rfl w.heap.size Er.nil ?nx ?ny ?nz ?_; rotate_left 4; generalize w5.setCells w.heap.size 0 t.head = w6 at *)
    try (case mw => rfl)
    try (case mx => rfl)
    try (case nw => rfl)
    try (case nx => rfl)
    try (case ny => rfl)
    case mc => exact HE5.out.hcell
    case nz => exact H5.out
    refine bodyPost_ret (results_row2 rfl _ _ w.heap.size 46 t.head.toArray (0, 0) _ rfl HE6.out Tryz.underlying46 rfl (by rw [List.size_toArray, head_len]; exact infoE)) rfl ?_
    exact ⟨by rw [HT.out]; rfl, HB6.out⟩
  · obtain ⟨r', hr'⟩ := HEx.out
    exact absurd hr' (hno n r' rfl)
set_option maxHeartbeats 1600000 in
theorem payD_none (h : RtA R rs last w F) (hl : rs.length = 16) (e : Int) (hn : look rs e = none) (q : Qt) : Calls Tryz.prog 20 #[tp R, .int .i64 e, q.val] w fun x w' => x = .returned (.int .i64 90) ∧ Below w.heap.size w w' := by
  obtain ⟨v, K, h, ha, he⟩ := h
  have hb0 := (Below.refl w.heap.size w).alloc (Nat.le_refl _) (.cells #[.int .i64 q.f, .int .i64 q.e, .int .i64 q.x] 30)
  have h0 := heap_alloc_new w (.cells #[.int .i64 q.f, .int .i64 q.e, .int .i64 q.x] 30)
  have HAt := hide (atb_any (h.below hb0) ha hl e)
  have HN : Hid (∀ (n : Nat) (r : Er), e = (n : Int) → rs[n]? ≠ some (some r)) := hide (fun n r en hr => by
    rw [en, look_nat, hr] at hn; cases hn)
  have HB := hide hb0
  clear h ha he hl hn hb0 h0
  unfold Qt.val
  go_enter Tryz.func20, Tryz.ntmps20
  go_upto_region 1 with fail
  show Code.wp _ _ _ _ (w.alloc (.cells #[.int .i64 q.f, .int .i64 q.e, .int .i64 q.x] 30))
  generalize w.alloc (.cells #[.int .i64 q.f, .int .i64 q.e, .int .i64 q.x] 30) = w1 at *
  go_wp2_with fail
  refine HAt.out.mono ?_
  rintro e1 w2 ⟨hw2, ⟨i, n, r, -, -, hen, hr⟩ | ⟨rfl, -⟩⟩
  · exact absurd hr (HN.out n r hen)
  · subst hw2
    clear HAt HN
    go_wp2
    go_ret
    exact ⟨rfl, HB.out⟩
set_option maxRecDepth 8000 in
set_option maxHeartbeats 3200000 in
theorem payD_bad (h : RtA R rs last w F) (iv : Iv rs last) (n : Nat) (r : Er) (hr : rs[n]? = some (some r)) (q : Qt) (hg : ¬ q.good) : Calls Tryz.prog 20 #[tp R, .int .i64 (n : Int), q.val] w fun x w' => x = .returned (.int .i64 1) ∧ RtA R (rs) last w' F ∧ Ext F w F w' := by
  obtain ⟨v, K, h, ha, he⟩ := h
  obtain ⟨i, hi⟩ := List.getElem?_of_mem ((ha.mem n r).2 hr)
  have hb0 := (Below.refl w.heap.size w).alloc (Nat.le_refl _) (.cells #[.int .i64 q.f, .int .i64 q.e, .int .i64 q.x] 30)
  have h0 := heap_alloc_new w (.cells #[.int .i64 q.f, .int .i64 q.e, .int .i64 q.x] 30)
  have hw0 := h
  have h := h.below hb0
  obtain ⟨g, c, hv, hrow⟩ := h.at hi
  have HAt := hide (atb_any h ha iv.tr.len (n : Int))
  have HOn : Hid (∀ (i' n' : Nat) (r' : Er), K[i']? = some (n', r') → (n : Int) = (n' : Int) → i' = i) := hide (fun i' n' r' h1 h2 => ha.once h1 hi (by simp; omega))
  have HEx : Hid (∃ r', rs[n]? = some (some r')) := hide ⟨r, hr⟩
  have hil := (List.getElem?_eq_some_iff.1 hi).1
  obtain ⟨L, hL⟩ : ∃ L, K.length = L := ⟨_, rfl⟩
  rw [hL] at hv hil
  have hii : (i : Int) < (L : Int) := by omega
  subst hv
  have hgf : decide q.good = false := by simp [hg]
  clear hg
  have HIx := hide hi
  have HRtB : Hid (∀ W, Below w.heap.size w W → RtAt W R (.slice (some ⟨g, 0, none⟩) L c) K last) := hide (fun W hW => hw0.below hW)
  have HKp : Hid (∀ W, Below w.heap.size w W → RtA R rs last W F ∧ Ext F w F W) := hide (fun W hW => ⟨⟨_, K, hw0.below hW, ha, he⟩, ext_below hW⟩)
  have HLf : Hid (∀ W, Below w.heap.size w W → Calls Tryz.prog 61 #[tp R, .int .i64 (i : Int)] W fun x w' => x = .returned r.le.val ∧ Below W.heap.size W w') := hide (fun W hW => leftD_any (hw0.below hW) ha iv hi)
  have HGB : Hid (g ≠ R ∧ g ≠ w.heap.size) := hide ⟨fun e => hw0.ne (by simp [Value.ownBlock, e]), fun e => by have := ownsRow_lt hw0.row (show Value.ownBlock _ = some g from rfl); omega⟩
  have HRB : Hid (R ≠ w.heap.size) := hide (fun e => by have := hw0.lt; omega)
  have HB1 := hide hb0
  have HX1 := hide h0
  have HGd := hide (fun W => goodD_any W q)
  clear hb0 h0 h hw0 ha he hi hr iv hrow hL
  unfold Qt.val
  go_enter Tryz.func20, Tryz.ntmps20
  go_upto_region 1 with fail
  show Code.wp _ _ _ _ (w.alloc (.cells #[.int .i64 q.f, .int .i64 q.e, .int .i64 q.x] 30))
  generalize w.alloc (.cells #[.int .i64 q.f, .int .i64 q.e, .int .i64 q.x] 30) = w1 at *
  obtain ⟨B, hB⟩ : ∃ B, w.heap.size = B := ⟨_, rfl⟩
  rw [hB] at HX1 HGB HRB
  have HBw : Hid (w.heap.size ≤ B) := hide (Nat.le_of_eq hB)
  rw [hB]
  clear hB
  go_wp2_with fail
  refine HAt.out.mono ?_
  rintro e1 w2 ⟨hw2, ⟨i', n', r', rfl, hi', hn', -⟩ | ⟨-, hno⟩⟩
  · have e2 := HOn.out i' n' r' hi' hn'
    subst e2
    subst hw2
    clear HAt HOn HEx hi' hn'
    obtain ⟨b0, b1, b2, -, -, -⟩ := blk3 HX1.out
    go_wp2_with fail
    refine (HGd.out w2).mono ?_
    rintro e1 w3 ⟨rfl, hb3⟩
    have HB3 := hide (HB1.out.trans (hb3.mono HB1.out.size))
    have HX3 := hide ((hb3.block B (Array.getElem?_eq_some_iff.1 HX1.out).1).trans HX1.out)
    clear hb3 b0 b1 b2 HGd HB1 HX1
    rw [hgf]
    have HK := hide (HKp.out w3 HB3.out)
    go_wp2
    go_ret
    exact ⟨rfl, HK.out.1, HK.out.2⟩
  · obtain ⟨r', hr'⟩ := HEx.out
    exact absurd hr' (hno n r' rfl)
set_option maxRecDepth 8000 in
set_option maxHeartbeats 3200000 in
theorem payD_full (h : RtA R rs last w F) (iv : Iv rs last) (n : Nat) (r : Er) (hr : rs[n]? = some (some r)) (q : Qt) (hg : q.good) (hf : ¬ q.le r.le) : Calls Tryz.prog 20 #[tp R, .int .i64 (n : Int), q.val] w fun x w' => x = .returned (.int .i64 2) ∧ RtA R (rs) last w' F ∧ Ext F w F w' := by
  obtain ⟨v, K, h, ha, he⟩ := h
  obtain ⟨i, hi⟩ := List.getElem?_of_mem ((ha.mem n r).2 hr)
  have hb0 := (Below.refl w.heap.size w).alloc (Nat.le_refl _) (.cells #[.int .i64 q.f, .int .i64 q.e, .int .i64 q.x] 30)
  have h0 := heap_alloc_new w (.cells #[.int .i64 q.f, .int .i64 q.e, .int .i64 q.x] 30)
  have hw0 := h
  have h := h.below hb0
  obtain ⟨g, c, hv, hrow⟩ := h.at hi
  have HAt := hide (atb_any h ha iv.tr.len (n : Int))
  have HOn : Hid (∀ (i' n' : Nat) (r' : Er), K[i']? = some (n', r') → (n : Int) = (n' : Int) → i' = i) := hide (fun i' n' r' h1 h2 => ha.once h1 hi (by simp; omega))
  have HEx : Hid (∃ r', rs[n]? = some (some r')) := hide ⟨r, hr⟩
  have hil := (List.getElem?_eq_some_iff.1 hi).1
  obtain ⟨L, hL⟩ : ∃ L, K.length = L := ⟨_, rfl⟩
  rw [hL] at hv hil
  have hii : (i : Int) < (L : Int) := by omega
  subst hv
  have hgf : decide q.good = true := by simp [hg]
  have hff : decide (q.le r.le) = false := by simp [hf]
  clear hg hf
  have HIx := hide hi
  have HRtB : Hid (∀ W, Below w.heap.size w W → RtAt W R (.slice (some ⟨g, 0, none⟩) L c) K last) := hide (fun W hW => hw0.below hW)
  have HKp : Hid (∀ W, Below w.heap.size w W → RtA R rs last W F ∧ Ext F w F W) := hide (fun W hW => ⟨⟨_, K, hw0.below hW, ha, he⟩, ext_below hW⟩)
  have HLf : Hid (∀ W, Below w.heap.size w W → Calls Tryz.prog 61 #[tp R, .int .i64 (i : Int)] W fun x w' => x = .returned r.le.val ∧ Below W.heap.size W w') := hide (fun W hW => leftD_any (hw0.below hW) ha iv hi)
  have HGB : Hid (g ≠ R ∧ g ≠ w.heap.size) := hide ⟨fun e => hw0.ne (by simp [Value.ownBlock, e]), fun e => by have := ownsRow_lt hw0.row (show Value.ownBlock _ = some g from rfl); omega⟩
  have HRB : Hid (R ≠ w.heap.size) := hide (fun e => by have := hw0.lt; omega)
  have HB1 := hide hb0
  have HX1 := hide h0
  have HGd := hide (fun W => goodD_any W q)
  clear hb0 h0 h hw0 ha he hi hr iv hrow hL
  unfold Qt.val
  go_enter Tryz.func20, Tryz.ntmps20
  go_upto_region 1 with fail
  show Code.wp _ _ _ _ (w.alloc (.cells #[.int .i64 q.f, .int .i64 q.e, .int .i64 q.x] 30))
  generalize w.alloc (.cells #[.int .i64 q.f, .int .i64 q.e, .int .i64 q.x] 30) = w1 at *
  obtain ⟨B, hB⟩ : ∃ B, w.heap.size = B := ⟨_, rfl⟩
  rw [hB] at HX1 HGB HRB
  have HBw : Hid (w.heap.size ≤ B) := hide (Nat.le_of_eq hB)
  rw [hB]
  clear hB
  go_wp2_with fail
  refine HAt.out.mono ?_
  rintro e1 w2 ⟨hw2, ⟨i', n', r', rfl, hi', hn', -⟩ | ⟨-, hno⟩⟩
  · have e2 := HOn.out i' n' r' hi' hn'
    subst e2
    subst hw2
    clear HAt HOn HEx hi' hn'
    obtain ⟨b0, b1, b2, -, -, -⟩ := blk3 HX1.out
    go_wp2_with fail
    refine (HGd.out w2).mono ?_
    rintro e1 w3 ⟨rfl, hb3⟩
    have HB3 := hide (HB1.out.trans (hb3.mono HB1.out.size))
    have HX3 := hide ((hb3.block B (Array.getElem?_eq_some_iff.1 HX1.out).1).trans HX1.out)
    clear hb3 b0 b1 b2 HGd HB1 HX1
    rw [hgf]
    go_upto_region 7 with fail
    refine wp_region_held_drew (S := fun W : World => W.heap[R]? = some (.cells #[.slice (some ⟨g, 0, none⟩) L c, .int .i64 last] 83 (0, 0)) ∧ W.heap[B]? = some (.cells #[.int .i64 q.f, .int .i64 q.e, .int .i64 q.x] 30 (0, 0))) (by kernel_rfl) ⟨(HRtB.out _ HB3.out).top, HX3.out⟩ (fun _ => ?_)
    generalize hw4 : w3.drew = w4
    have hb4 : Below w3.heap.size w3 w4 := by rw [← hw4]; exact below_drew _
    have HB4 := hide (HB3.out.trans (hb4.mono HB3.out.size))
    have HX4 := hide ((hb4.block B (Array.getElem?_eq_some_iff.1 HX3.out).1).trans HX3.out)
    have HS4 : Hid (w4.heap[R]? = some (.cells #[.slice (some ⟨g, 0, none⟩) L c, .int .i64 last] 83 (0, 0)) ∧ w4.heap[B]? = some (.cells #[.int .i64 q.f, .int .i64 q.e, .int .i64 q.x] 30 (0, 0))) := hide ⟨(HRtB.out _ HB4.out).top, HX4.out⟩
    clear hw4 hb4 HB3 HX3
    refine hd_take 0 (o := ⟨some 19, _, _, _, _, _⟩) (q.val) (by kernel_rfl) (by kernel_rfl) (by kernel_rfl) rfl (by rfl) (fun W hSw => by exact run_loadT Tryz.underlying30 rfl (qtL q) infoQ _ rfl ⟨B, 0, none⟩ rfl (row_cells hSw.2)) (fun _ _ _ h => h) HS4.out ?_
    simp only [Act.put, List.setIfInBounds_toArray, List.set_cons_zero, List.set_cons_succ]
    refine hd_take 1 (o := ⟨some 20, _, _, _, _, _⟩) (.pointer (some ⟨R, 0, none⟩)) (by kernel_rfl) (by kernel_rfl) (by kernel_rfl) rfl (by rfl) (fun W hSw => by go_simp) (fun _ _ _ h => h) HS4.out ?_
    simp only [Act.put, List.setIfInBounds_toArray, List.set_cons_zero, List.set_cons_succ]
    refine hd_take 2 (o := ⟨some 21, _, _, _, _, _⟩) (.int .i64 (i' : Int)) (by kernel_rfl) (by kernel_rfl) (by kernel_rfl) rfl (by rfl) (fun W hSw => by go_simp) (fun _ _ _ h => h) HS4.out ?_
    simp only [Act.put, List.setIfInBounds_toArray, List.set_cons_zero, List.set_cons_succ]
    refine hd_call 3 (o := ⟨some 22, _, _, _, _, _⟩) (by kernel_rfl) rfl (by rfl) (fun K' hK => ?_)
    go_simp
    go_wp2_with (go_at_call 61; refine (HLf.out w4 HB4.out).mono ?_; rintro e1 w5 ⟨rfl, hb5⟩)
    have HB5 := hide (HB4.out.trans (hb5.mono HB4.out.size))
    have HX5 := hide ((hb5.block B (Array.getElem?_eq_some_iff.1 HX4.out).1).trans HX4.out)
    have HS5 : Hid (w5.heap[R]? = some (.cells #[.slice (some ⟨g, 0, none⟩) L c, .int .i64 last] 83 (0, 0)) ∧ w5.heap[B]? = some (.cells #[.int .i64 q.f, .int .i64 q.e, .int .i64 q.x] 30 (0, 0))) := hide ⟨(HRtB.out _ HB5.out).top, HX5.out⟩
    clear hb5 HB4 HX4 HS4
    refine hK _ _ HS5.out ?_
    clear hK K'
    try simp only [Act.put, List.setIfInBounds_toArray, List.set_cons_zero, List.set_cons_succ]
    refine hd_call 4 (o := ⟨some 23, _, _, _, _, _⟩) (by kernel_rfl) rfl (by rfl) (fun K' hK => ?_)
    go_simp
    go_wp2_with (go_at_call 62; refine (fitsD_any w5 q r.le).mono ?_; rintro e1 w6 ⟨rfl, hb6⟩)
    have HB6 := hide (HB5.out.trans (hb6.mono HB5.out.size))
    have HX6 := hide ((hb6.block B (Array.getElem?_eq_some_iff.1 HX5.out).1).trans HX5.out)
    have HS6 : Hid (w6.heap[R]? = some (.cells #[.slice (some ⟨g, 0, none⟩) L c, .int .i64 last] 83 (0, 0)) ∧ w6.heap[B]? = some (.cells #[.int .i64 q.f, .int .i64 q.e, .int .i64 q.x] 30 (0, 0))) := hide ⟨(HRtB.out _ HB6.out).top, HX6.out⟩
    clear hb6 HB5 HX5 HS5
    refine hK _ _ HS6.out ?_
    clear hK K'
    try simp only [Act.put, List.setIfInBounds_toArray, List.set_cons_zero, List.set_cons_succ]
    refine hd_take 5 (o := ⟨some 9, _, _, _, _, _⟩) (.bool (decide (q.le r.le))) (by kernel_rfl) (by kernel_rfl) (by kernel_rfl) rfl (by rfl) (fun W hSw => by go_simp) (fun _ _ _ h => h) HS6.out ?_
    simp only [Act.put, List.setIfInBounds_toArray, List.set_cons_zero, List.set_cons_succ]
    refine wpAnyH_done (by kernel_rfl) ?_ _
    rw [hff]
    have HK := hide (HKp.out w6 HB6.out)
    go_wp2
    go_ret
    exact ⟨rfl, HK.out.1, HK.out.2⟩
  · obtain ⟨r', hr'⟩ := HEx.out
    exact absurd hr' (hno n r' rfl)
set_option maxRecDepth 8000 in
set_option maxHeartbeats 3200000 in
theorem payD_ok (h : RtA R rs last w F) (iv : Iv rs last) (n : Nat) (r : Er) (hr : rs[n]? = some (some r)) (q : Qt) (hg : q.good) (hf : q.le r.le) : Calls Tryz.prog 20 #[tp R, .int .i64 (n : Int), q.val] w fun x w' => x = .returned (.int .i64 0) ∧ RtA R (rs.set n (some { r with pd := r.pd.plus q, le := r.le.less q })) last w' F ∧ Ext F w F w' := by
  obtain ⟨v, K, h, ha, he⟩ := h
  obtain ⟨i, hi⟩ := List.getElem?_of_mem ((ha.mem n r).2 hr)
  have hb0 := (Below.refl w.heap.size w).alloc (Nat.le_refl _) (.cells #[.int .i64 q.f, .int .i64 q.e, .int .i64 q.x] 30)
  have h0 := heap_alloc_new w (.cells #[.int .i64 q.f, .int .i64 q.e, .int .i64 q.x] 30)
  have hw0 := h
  have h := h.below hb0
  obtain ⟨g, c, hv, hrow⟩ := h.at hi
  have HAt := hide (atb_any h ha iv.tr.len (n : Int))
  have HOn : Hid (∀ (i' n' : Nat) (r' : Er), K[i']? = some (n', r') → (n : Int) = (n' : Int) → i' = i) := hide (fun i' n' r' h1 h2 => ha.once h1 hi (by simp; omega))
  have HEx : Hid (∃ r', rs[n]? = some (some r')) := hide ⟨r, hr⟩
  have hil := (List.getElem?_eq_some_iff.1 hi).1
  obtain ⟨L, hL⟩ : ∃ L, K.length = L := ⟨_, rfl⟩
  rw [hL] at hv hil
  have hii : (i : Int) < (L : Int) := by omega
  subst hv
  have hgf : decide q.good = true := by simp [hg]
  have hff : decide (q.le r.le) = true := by simp [hf]
  have HPl := hide (fun W => plusD_any W r.pd q (iv.oks hr).2.1 (good_ok hg))
  have HPut : Hid (∀ W, Below w.heap.size w W → RtA R (rs.set n (some { r with pd := r.pd.plus q, le := r.le.less q })) last (W.setCells g (i * 25 + 22) (qtL (r.pd.plus q))) F ∧ Ext F w F (W.setCells g (i * 25 + 22) (qtL (r.pd.plus q)))) := hide (fun W hW => by
    obtain ⟨p1, p2⟩ := RtAt.puts (hw0.below hW) ha he hi hr (qtL (r.pd.plus q)) (r' := { r with pd := r.pd.plus q, le := r.le.less q }) (j := 22) rfl (by simp only [encW1, qtL, setsL, List.set]) (by rw [qtL_len]; decide)
    exact ⟨p1, (ext_below hW).trans p2⟩)
  clear hg hf
  have HIx := hide hi
  have HRtB : Hid (∀ W, Below w.heap.size w W → RtAt W R (.slice (some ⟨g, 0, none⟩) L c) K last) := hide (fun W hW => hw0.below hW)
  have HKp : Hid (∀ W, Below w.heap.size w W → RtA R rs last W F ∧ Ext F w F W) := hide (fun W hW => ⟨⟨_, K, hw0.below hW, ha, he⟩, ext_below hW⟩)
  have HLf : Hid (∀ W, Below w.heap.size w W → Calls Tryz.prog 61 #[tp R, .int .i64 (i : Int)] W fun x w' => x = .returned r.le.val ∧ Below W.heap.size W w') := hide (fun W hW => leftD_any (hw0.below hW) ha iv hi)
  have HGB : Hid (g ≠ R ∧ g ≠ w.heap.size) := hide ⟨fun e => hw0.ne (by simp [Value.ownBlock, e]), fun e => by have := ownsRow_lt hw0.row (show Value.ownBlock _ = some g from rfl); omega⟩
  have HRB : Hid (R ≠ w.heap.size) := hide (fun e => by have := hw0.lt; omega)
  have HB1 := hide hb0
  have HX1 := hide h0
  have HGd := hide (fun W => goodD_any W q)
  clear hb0 h0 h hw0 ha he hi hr iv hrow hL
  unfold Qt.val
  go_enter Tryz.func20, Tryz.ntmps20
  go_upto_region 1 with fail
  show Code.wp _ _ _ _ (w.alloc (.cells #[.int .i64 q.f, .int .i64 q.e, .int .i64 q.x] 30))
  generalize w.alloc (.cells #[.int .i64 q.f, .int .i64 q.e, .int .i64 q.x] 30) = w1 at *
  obtain ⟨B, hB⟩ : ∃ B, w.heap.size = B := ⟨_, rfl⟩
  rw [hB] at HX1 HGB HRB
  have HBw : Hid (w.heap.size ≤ B) := hide (Nat.le_of_eq hB)
  rw [hB]
  clear hB
  go_wp2_with fail
  refine HAt.out.mono ?_
  rintro e1 w2 ⟨hw2, ⟨i', n', r', rfl, hi', hn', -⟩ | ⟨-, hno⟩⟩
  · have e2 := HOn.out i' n' r' hi' hn'
    subst e2
    subst hw2
    clear HAt HOn HEx hi' hn'
    obtain ⟨b0, b1, b2, -, -, -⟩ := blk3 HX1.out
    go_wp2_with fail
    refine (HGd.out w2).mono ?_
    rintro e1 w3 ⟨rfl, hb3⟩
    have HB3 := hide (HB1.out.trans (hb3.mono HB1.out.size))
    have HX3 := hide ((hb3.block B (Array.getElem?_eq_some_iff.1 HX1.out).1).trans HX1.out)
    clear hb3 b0 b1 b2 HGd HB1 HX1
    rw [hgf]
    go_upto_region 7 with fail
    refine wp_region_held_drew (S := fun W : World => W.heap[R]? = some (.cells #[.slice (some ⟨g, 0, none⟩) L c, .int .i64 last] 83 (0, 0)) ∧ W.heap[B]? = some (.cells #[.int .i64 q.f, .int .i64 q.e, .int .i64 q.x] 30 (0, 0))) (by kernel_rfl) ⟨(HRtB.out _ HB3.out).top, HX3.out⟩ (fun _ => ?_)
    generalize hw4 : w3.drew = w4
    have hb4 : Below w3.heap.size w3 w4 := by rw [← hw4]; exact below_drew _
    have HB4 := hide (HB3.out.trans (hb4.mono HB3.out.size))
    have HX4 := hide ((hb4.block B (Array.getElem?_eq_some_iff.1 HX3.out).1).trans HX3.out)
    have HS4 : Hid (w4.heap[R]? = some (.cells #[.slice (some ⟨g, 0, none⟩) L c, .int .i64 last] 83 (0, 0)) ∧ w4.heap[B]? = some (.cells #[.int .i64 q.f, .int .i64 q.e, .int .i64 q.x] 30 (0, 0))) := hide ⟨(HRtB.out _ HB4.out).top, HX4.out⟩
    clear hw4 hb4 HB3 HX3
    refine hd_take 0 (o := ⟨some 19, _, _, _, _, _⟩) (q.val) (by kernel_rfl) (by kernel_rfl) (by kernel_rfl) rfl (by rfl) (fun W hSw => by exact run_loadT Tryz.underlying30 rfl (qtL q) infoQ _ rfl ⟨B, 0, none⟩ rfl (row_cells hSw.2)) (fun _ _ _ h => h) HS4.out ?_
    simp only [Act.put, List.setIfInBounds_toArray, List.set_cons_zero, List.set_cons_succ]
    refine hd_take 1 (o := ⟨some 20, _, _, _, _, _⟩) (.pointer (some ⟨R, 0, none⟩)) (by kernel_rfl) (by kernel_rfl) (by kernel_rfl) rfl (by rfl) (fun W hSw => by go_simp) (fun _ _ _ h => h) HS4.out ?_
    simp only [Act.put, List.setIfInBounds_toArray, List.set_cons_zero, List.set_cons_succ]
    refine hd_take 2 (o := ⟨some 21, _, _, _, _, _⟩) (.int .i64 (i' : Int)) (by kernel_rfl) (by kernel_rfl) (by kernel_rfl) rfl (by rfl) (fun W hSw => by go_simp) (fun _ _ _ h => h) HS4.out ?_
    simp only [Act.put, List.setIfInBounds_toArray, List.set_cons_zero, List.set_cons_succ]
    refine hd_call 3 (o := ⟨some 22, _, _, _, _, _⟩) (by kernel_rfl) rfl (by rfl) (fun K' hK => ?_)
    go_simp
    go_wp2_with (go_at_call 61; refine (HLf.out w4 HB4.out).mono ?_; rintro e1 w5 ⟨rfl, hb5⟩)
    have HB5 := hide (HB4.out.trans (hb5.mono HB4.out.size))
    have HX5 := hide ((hb5.block B (Array.getElem?_eq_some_iff.1 HX4.out).1).trans HX4.out)
    have HS5 : Hid (w5.heap[R]? = some (.cells #[.slice (some ⟨g, 0, none⟩) L c, .int .i64 last] 83 (0, 0)) ∧ w5.heap[B]? = some (.cells #[.int .i64 q.f, .int .i64 q.e, .int .i64 q.x] 30 (0, 0))) := hide ⟨(HRtB.out _ HB5.out).top, HX5.out⟩
    clear hb5 HB4 HX4 HS4
    refine hK _ _ HS5.out ?_
    clear hK K'
    try simp only [Act.put, List.setIfInBounds_toArray, List.set_cons_zero, List.set_cons_succ]
    refine hd_call 4 (o := ⟨some 23, _, _, _, _, _⟩) (by kernel_rfl) rfl (by rfl) (fun K' hK => ?_)
    go_simp
    go_wp2_with (go_at_call 62; refine (fitsD_any w5 q r.le).mono ?_; rintro e1 w6 ⟨rfl, hb6⟩)
    have HB6 := hide (HB5.out.trans (hb6.mono HB5.out.size))
    have HX6 := hide ((hb6.block B (Array.getElem?_eq_some_iff.1 HX5.out).1).trans HX5.out)
    have HS6 : Hid (w6.heap[R]? = some (.cells #[.slice (some ⟨g, 0, none⟩) L c, .int .i64 last] 83 (0, 0)) ∧ w6.heap[B]? = some (.cells #[.int .i64 q.f, .int .i64 q.e, .int .i64 q.x] 30 (0, 0))) := hide ⟨(HRtB.out _ HB6.out).top, HX6.out⟩
    clear hb6 HB5 HX5 HS5
    refine hK _ _ HS6.out ?_
    clear hK K'
    try simp only [Act.put, List.setIfInBounds_toArray, List.set_cons_zero, List.set_cons_succ]
    refine hd_take 5 (o := ⟨some 9, _, _, _, _, _⟩) (.bool (decide (q.le r.le))) (by kernel_rfl) (by kernel_rfl) (by kernel_rfl) rfl (by rfl) (fun W hSw => by go_simp) (fun _ _ _ h => h) HS6.out ?_
    simp only [Act.put, List.setIfInBounds_toArray, List.set_cons_zero, List.set_cons_succ]
    refine wpAnyH_done (by kernel_rfl) ?_ _
    rw [hff]
    go_upto_region 10 with fail
    refine wp_region_held_drew (S := fun W : World => W.heap[R]? = some (.cells #[.slice (some ⟨g, 0, none⟩) L c, .int .i64 last] 83 (0, 0)) ∧ W.heap[B]? = some (.cells #[.int .i64 q.f, .int .i64 q.e, .int .i64 q.x] 30 (0, 0))) (by kernel_rfl) ⟨(HRtB.out _ HB6.out).top, HX6.out⟩ (fun _ => ?_)
    generalize hw8 : w6.drew = w8
    have hb8 : Below w6.heap.size w6 w8 := by rw [← hw8]; exact below_drew _
    have HB8 := hide (HB6.out.trans (hb8.mono HB6.out.size))
    have HX8 := hide ((hb8.block B (Array.getElem?_eq_some_iff.1 HX6.out).1).trans HX6.out)
    have HS8 : Hid (w8.heap[R]? = some (.cells #[.slice (some ⟨g, 0, none⟩) L c, .int .i64 last] 83 (0, 0)) ∧ w8.heap[B]? = some (.cells #[.int .i64 q.f, .int .i64 q.e, .int .i64 q.x] 30 (0, 0))) := hide ⟨(HRtB.out _ HB8.out).top, HX8.out⟩
    clear hw8 hb8 HB6 HX6
    refine hd_take 0 (o := ⟨some 26, _, _, _, _, _⟩) (.pointer (some ⟨R, 0, none⟩)) (by kernel_rfl) (by kernel_rfl) (by kernel_rfl) rfl (by rfl) (fun W hSw => by go_simp) (fun _ _ _ h => h) HS8.out ?_
    simp only [Act.put, List.setIfInBounds_toArray, List.set_cons_zero, List.set_cons_succ]
    refine hd_take 1 (o := ⟨some 27, _, _, _, _, _⟩) (.pointer (some ⟨R, 0, none⟩)) (by kernel_rfl) (by kernel_rfl) (by kernel_rfl) rfl (by rfl) (fun W hSw => by go_simp) (fun _ _ _ h => h) HS8.out ?_
    simp only [Act.put, List.setIfInBounds_toArray, List.set_cons_zero, List.set_cons_succ]
    refine hd_take 2 (o := ⟨some 28, _, _, _, _, _⟩) (.pointer (some ⟨R, 0, none⟩)) (by kernel_rfl) (by kernel_rfl) (by kernel_rfl) rfl (by rfl) (fun W hSw => by go_simp) (fun _ _ _ h => h) HS8.out ?_
    simp only [Act.put, List.setIfInBounds_toArray, List.set_cons_zero, List.set_cons_succ]
    refine hd_take 3 (o := ⟨some 29, _, _, _, _, _⟩) (.slice (some ⟨g, 0, none⟩) L c) (by kernel_rfl) (by kernel_rfl) (by kernel_rfl) rfl (by rfl) (fun W hSw => by have s1 := top_cell hSw.1; go_simp) (fun _ _ _ h => h) HS8.out ?_
    simp only [Act.put, List.setIfInBounds_toArray, List.set_cons_zero, List.set_cons_succ]
    refine hd_take 4 (o := ⟨some 30, _, _, _, _, _⟩) (.int .i64 (i' : Int)) (by kernel_rfl) (by kernel_rfl) (by kernel_rfl) rfl (by rfl) (fun W hSw => by go_simp) (fun _ _ _ h => h) HS8.out ?_
    simp only [Act.put, List.setIfInBounds_toArray, List.set_cons_zero, List.set_cons_succ]
    refine hd_take 5 (o := ⟨some 31, _, _, _, _, _⟩) (.pointer (some ⟨R, 0, none⟩)) (by kernel_rfl) (by kernel_rfl) (by kernel_rfl) rfl (by rfl) (fun W hSw => by go_simp) (fun _ _ _ h => h) HS8.out ?_
    simp only [Act.put, List.setIfInBounds_toArray, List.set_cons_zero, List.set_cons_succ]
    refine hd_take 6 (o := ⟨some 32, _, _, _, _, _⟩) (.pointer (some ⟨R, 0, none⟩)) (by kernel_rfl) (by kernel_rfl) (by kernel_rfl) rfl (by rfl) (fun W hSw => by go_simp) (fun _ _ _ h => h) HS8.out ?_
    simp only [Act.put, List.setIfInBounds_toArray, List.set_cons_zero, List.set_cons_succ]
    refine hd_take 7 (o := ⟨some 33, _, _, _, _, _⟩) (.pointer (some ⟨R, 0, none⟩)) (by kernel_rfl) (by kernel_rfl) (by kernel_rfl) rfl (by rfl) (fun W hSw => by go_simp) (fun _ _ _ h => h) HS8.out ?_
    simp only [Act.put, List.setIfInBounds_toArray, List.set_cons_zero, List.set_cons_succ]
    refine hd_take 8 (o := ⟨some 34, _, _, _, _, _⟩) (.slice (some ⟨g, 0, none⟩) L c) (by kernel_rfl) (by kernel_rfl) (by kernel_rfl) rfl (by rfl) (fun W hSw => by have s1 := top_cell hSw.1; go_simp) (fun _ _ _ h => h) HS8.out ?_
    simp only [Act.put, List.setIfInBounds_toArray, List.set_cons_zero, List.set_cons_succ]
    refine hd_take 9 (o := ⟨some 35, _, _, _, _, _⟩) (.int .i64 (i' : Int)) (by kernel_rfl) (by kernel_rfl) (by kernel_rfl) rfl (by rfl) (fun W hSw => by go_simp) (fun _ _ _ h => h) HS8.out ?_
    simp only [Act.put, List.setIfInBounds_toArray, List.set_cons_zero, List.set_cons_succ]
    refine hd_take 10 (o := ⟨some 36, _, _, _, _, _⟩) (.pointer (some ⟨g, i' * 25, none⟩)) (by kernel_rfl) (by kernel_rfl) (by kernel_rfl) rfl (by rfl) (fun W hSw => by go_simp) (fun _ _ _ h => h) HS8.out ?_
    simp only [Act.put, List.setIfInBounds_toArray, List.set_cons_zero, List.set_cons_succ]
    refine hd_take 11 (o := ⟨some 37, _, _, _, _, _⟩) (.pointer (some ⟨g, i' * 25 + 22, none⟩)) (by kernel_rfl) (by kernel_rfl) (by kernel_rfl) rfl (by rfl) (fun W hSw => by go_simp) (fun _ _ _ h => h) HS8.out ?_
    simp only [Act.put, List.setIfInBounds_toArray, List.set_cons_zero, List.set_cons_succ]
    refine hd_take 13 (o := ⟨some 39, _, _, _, _, _⟩) (q.val) (by kernel_rfl) (by kernel_rfl) (by kernel_rfl) rfl (by rfl) (fun W hSw => by exact run_loadT Tryz.underlying30 rfl (qtL q) infoQ _ rfl ⟨B, 0, none⟩ rfl (row_cells hSw.2)) (fun _ _ _ h => h) HS8.out ?_
    simp only [Act.put, List.setIfInBounds_toArray, List.set_cons_zero, List.set_cons_succ]
    refine hd_call 12 (o := ⟨some 38, _, _, _, _, _⟩) (by kernel_rfl) rfl (by rfl) (fun K' hK => ?_)
    refine wp_loadT Tryz.underlying30 rfl (qtL r.pd) infoQ _ rfl ⟨g, i' * 25 + 22, none⟩ rfl (rt_q (HRtB.out _ HB8.out) HIx.out (qcell rfl rfl rfl)) ?_
    refine hK _ _ HS8.out ?_
    clear hK K'
    try simp only [Act.put, List.setIfInBounds_toArray, List.set_cons_zero, List.set_cons_succ]
    refine hd_call 14 (o := ⟨some 40, _, _, _, _, _⟩) (by kernel_rfl) rfl (by rfl) (fun K' hK => ?_)
    go_simp
    go_wp2_with (go_at_call 69; refine (HPl.out w8).mono ?_; rintro e1 w9 ⟨rfl, hb9⟩)
    have HB9 := hide (HB8.out.trans (hb9.mono HB8.out.size))
    have HX9 := hide ((hb9.block B (Array.getElem?_eq_some_iff.1 HX8.out).1).trans HX8.out)
    have HS9 : Hid (w9.heap[R]? = some (.cells #[.slice (some ⟨g, 0, none⟩) L c, .int .i64 last] 83 (0, 0)) ∧ w9.heap[B]? = some (.cells #[.int .i64 q.f, .int .i64 q.e, .int .i64 q.x] 30 (0, 0))) := hide ⟨(HRtB.out _ HB9.out).top, HX9.out⟩
    clear hb9 HB8 HX8 HS8
    refine hK _ _ HS9.out ?_
    clear hK K'
    try simp only [Act.put, List.setIfInBounds_toArray, List.set_cons_zero, List.set_cons_succ]
    refine hd_take 15 (o := ⟨some 41, _, _, _, _, _⟩) (.pointer (some ⟨g, i' * 25, none⟩)) (by kernel_rfl) (by kernel_rfl) (by kernel_rfl) rfl (by rfl) (fun W hSw => by go_simp) (fun _ _ _ h => h) HS9.out ?_
    simp only [Act.put, List.setIfInBounds_toArray, List.set_cons_zero, List.set_cons_succ]
    refine hd_take 16 (o := ⟨some 42, _, _, _, _, _⟩) (.pointer (some ⟨g, i' * 25 + 22, none⟩)) (by kernel_rfl) (by kernel_rfl) (by kernel_rfl) rfl (by rfl) (fun W hSw => by go_simp) (fun _ _ _ h => h) HS9.out ?_
    simp only [Act.put, List.setIfInBounds_toArray, List.set_cons_zero, List.set_cons_succ]
    have HT9 := hide ((HRtB.out _ HB9.out).there HIx.out (k := 22) (n := 3) (by decide))
    have HS10 : Hid ((w9.setCells g (i' * 25 + 22) (qtL (r.pd.plus q))).heap[R]? = some (.cells #[.slice (some ⟨g, 0, none⟩) L c, .int .i64 last] 83 (0, 0)) ∧ (w9.setCells g (i' * 25 + 22) (qtL (r.pd.plus q))).heap[B]? = some (.cells #[.int .i64 q.f, .int .i64 q.e, .int .i64 q.x] 30 (0, 0))) := hide ⟨by rw [heap_setCells_other _ _ (fun e => HGB.out.1 e.symm)]; exact HS9.out.1, by rw [heap_setCells_other _ _ (fun e => HGB.out.2 e.symm)]; exact HS9.out.2⟩
    have HP10 := hide (HPut.out _ HB9.out)
    refine hd_call 17 (o := ⟨none, _, _, _, _, _⟩) (by kernel_rfl) rfl (by rfl) (fun K' hK => ?_)
    refine wp_storeT (t := 30) (qtL (r.pd.plus q)) infoQ (qtL_one _) _ _ rfl g (i' * 25 + 22) rfl rfl HT9.out ?_
    refine hK _ _ HS10.out ?_
    clear hK K'
    try simp only [Act.put]
    refine wpAnyH_done (by kernel_rfl) ?_ _
    generalize w9.setCells g (i' * 25 + 22) (qtL (r.pd.plus q)) = w10 at *
    clear HS9 HS10 HT9 HB9 HX9
    go_wp2
    go_ret
    exact ⟨rfl, HP10.out.1, HP10.out.2⟩
  · obtain ⟨r', hr'⟩ := HEx.out
    exact absurd hr' (hno n r' rfl)
end
end Go.Proofs.YtbocpmcodlceoaaGreat

namespace Go.Proofs.YtbocpmcodlceoaaGreat
open Go.ChangeShapes Go.WideShapes Go.ChangeAt Go.RowKit Go.Deep

section
variable {w : World} {R : Nat} {v : Value} {K : List Rw} {last : Int} {rs : List (Option Er)} {F : Nat → Prop}
set_option maxHeartbeats 1600000 in
theorem refundD_none (h : RtA R rs last w F) (hl : rs.length = 16) (e : Int) (hn : look rs e = none) (q : Qt) : Calls Tryz.prog 22 #[tp R, .int .i64 e, q.val] w fun x w' => x = .returned (.int .i64 90) ∧ Below w.heap.size w w' := by
  obtain ⟨v, K, h, ha, he⟩ := h
  have hb0 := (Below.refl w.heap.size w).alloc (Nat.le_refl _) (.cells #[.int .i64 q.f, .int .i64 q.e, .int .i64 q.x] 30)
  have h0 := heap_alloc_new w (.cells #[.int .i64 q.f, .int .i64 q.e, .int .i64 q.x] 30)
  have HAt := hide (atb_any (h.below hb0) ha hl e)
  have HN : Hid (∀ (n : Nat) (r : Er), e = (n : Int) → rs[n]? ≠ some (some r)) := hide (fun n r en hr => by
    rw [en, look_nat, hr] at hn; cases hn)
  have HB := hide hb0
  clear h ha he hl hn hb0 h0
  unfold Qt.val
  go_enter Tryz.func22, Tryz.ntmps22
  go_upto_region 1 with fail
  show Code.wp _ _ _ _ (w.alloc (.cells #[.int .i64 q.f, .int .i64 q.e, .int .i64 q.x] 30))
  generalize w.alloc (.cells #[.int .i64 q.f, .int .i64 q.e, .int .i64 q.x] 30) = w1 at *
  go_wp2_with fail
  refine HAt.out.mono ?_
  rintro e1 w2 ⟨hw2, ⟨i, n, r, -, -, hen, hr⟩ | ⟨rfl, -⟩⟩
  · exact absurd hr (HN.out n r hen)
  · subst hw2
    clear HAt HN
    go_wp2
    go_ret
    exact ⟨rfl, HB.out⟩
set_option maxRecDepth 8000 in
set_option maxHeartbeats 3200000 in
theorem refundD_bad (h : RtA R rs last w F) (iv : Iv rs last) (n : Nat) (r : Er) (hr : rs[n]? = some (some r)) (q : Qt) (hg : ¬ q.good) : Calls Tryz.prog 22 #[tp R, .int .i64 (n : Int), q.val] w fun x w' => x = .returned (.int .i64 1) ∧ RtA R (rs) last w' F ∧ Ext F w F w' := by
  obtain ⟨v, K, h, ha, he⟩ := h
  obtain ⟨i, hi⟩ := List.getElem?_of_mem ((ha.mem n r).2 hr)
  have hb0 := (Below.refl w.heap.size w).alloc (Nat.le_refl _) (.cells #[.int .i64 q.f, .int .i64 q.e, .int .i64 q.x] 30)
  have h0 := heap_alloc_new w (.cells #[.int .i64 q.f, .int .i64 q.e, .int .i64 q.x] 30)
  have hw0 := h
  have h := h.below hb0
  obtain ⟨g, c, hv, hrow⟩ := h.at hi
  have HAt := hide (atb_any h ha iv.tr.len (n : Int))
  have HOn : Hid (∀ (i' n' : Nat) (r' : Er), K[i']? = some (n', r') → (n : Int) = (n' : Int) → i' = i) := hide (fun i' n' r' h1 h2 => ha.once h1 hi (by simp; omega))
  have HEx : Hid (∃ r', rs[n]? = some (some r')) := hide ⟨r, hr⟩
  have hil := (List.getElem?_eq_some_iff.1 hi).1
  obtain ⟨L, hL⟩ : ∃ L, K.length = L := ⟨_, rfl⟩
  rw [hL] at hv hil
  have hii : (i : Int) < (L : Int) := by omega
  subst hv
  have hgf : decide q.good = false := by simp [hg]
  clear hg
  have HIx := hide hi
  have HRtB : Hid (∀ W, Below w.heap.size w W → RtAt W R (.slice (some ⟨g, 0, none⟩) L c) K last) := hide (fun W hW => hw0.below hW)
  have HKp : Hid (∀ W, Below w.heap.size w W → RtA R rs last W F ∧ Ext F w F W) := hide (fun W hW => ⟨⟨_, K, hw0.below hW, ha, he⟩, ext_below hW⟩)
  have HLf : Hid (∀ W, Below w.heap.size w W → Calls Tryz.prog 61 #[tp R, .int .i64 (i : Int)] W fun x w' => x = .returned r.le.val ∧ Below W.heap.size W w') := hide (fun W hW => leftD_any (hw0.below hW) ha iv hi)
  have HGB : Hid (g ≠ R ∧ g ≠ w.heap.size) := hide ⟨fun e => hw0.ne (by simp [Value.ownBlock, e]), fun e => by have := ownsRow_lt hw0.row (show Value.ownBlock _ = some g from rfl); omega⟩
  have HRB : Hid (R ≠ w.heap.size) := hide (fun e => by have := hw0.lt; omega)
  have HB1 := hide hb0
  have HX1 := hide h0
  have HGd := hide (fun W => goodD_any W q)
  clear hb0 h0 h hw0 ha he hi hr iv hrow hL
  unfold Qt.val
  go_enter Tryz.func22, Tryz.ntmps22
  go_upto_region 1 with fail
  show Code.wp _ _ _ _ (w.alloc (.cells #[.int .i64 q.f, .int .i64 q.e, .int .i64 q.x] 30))
  generalize w.alloc (.cells #[.int .i64 q.f, .int .i64 q.e, .int .i64 q.x] 30) = w1 at *
  obtain ⟨B, hB⟩ : ∃ B, w.heap.size = B := ⟨_, rfl⟩
  rw [hB] at HX1 HGB HRB
  have HBw : Hid (w.heap.size ≤ B) := hide (Nat.le_of_eq hB)
  rw [hB]
  clear hB
  go_wp2_with fail
  refine HAt.out.mono ?_
  rintro e1 w2 ⟨hw2, ⟨i', n', r', rfl, hi', hn', -⟩ | ⟨-, hno⟩⟩
  · have e2 := HOn.out i' n' r' hi' hn'
    subst e2
    subst hw2
    clear HAt HOn HEx hi' hn'
    go_upto_region 4 with fail
    refine wp_region_held_drew (S := fun W : World => W.heap[R]? = some (.cells #[.slice (some ⟨g, 0, none⟩) L c, .int .i64 last] 83 (0, 0)) ∧ W.heap[B]? = some (.cells #[.int .i64 q.f, .int .i64 q.e, .int .i64 q.x] 30 (0, 0))) (by kernel_rfl) ⟨(HRtB.out _ HB1.out).top, HX1.out⟩ (fun _ => ?_)
    generalize hw3 : w2.drew = w3
    have hb3 : Below w2.heap.size w2 w3 := by rw [← hw3]; exact below_drew _
    have HB3 := hide (HB1.out.trans (hb3.mono HB1.out.size))
    have HX3 := hide ((hb3.block B (Array.getElem?_eq_some_iff.1 HX1.out).1).trans HX1.out)
    have HS3 : Hid (w3.heap[R]? = some (.cells #[.slice (some ⟨g, 0, none⟩) L c, .int .i64 last] 83 (0, 0)) ∧ w3.heap[B]? = some (.cells #[.int .i64 q.f, .int .i64 q.e, .int .i64 q.x] 30 (0, 0))) := hide ⟨(HRtB.out _ HB3.out).top, HX3.out⟩
    clear hw3 hb3 HB1 HX1
    refine hd_take 0 (o := ⟨some 14, _, _, _, _, _⟩) (q.val) (by kernel_rfl) (by kernel_rfl) (by kernel_rfl) rfl (by rfl) (fun W hSw => by exact run_loadT Tryz.underlying30 rfl (qtL q) infoQ _ rfl ⟨B, 0, none⟩ rfl (row_cells hSw.2)) (fun _ _ _ h => h) HS3.out ?_
    simp only [Act.put, List.setIfInBounds_toArray, List.set_cons_zero, List.set_cons_succ]
    refine hd_call 1 (o := ⟨some 15, _, _, _, _, _⟩) (by kernel_rfl) rfl (by rfl) (fun K' hK => ?_)
    go_simp
    go_wp2_with (go_at_call 60; refine (HGd.out w3).mono ?_; rintro e1 w4 ⟨rfl, hb4⟩)
    have HB4 := hide (HB3.out.trans (hb4.mono HB3.out.size))
    have HX4 := hide ((hb4.block B (Array.getElem?_eq_some_iff.1 HX3.out).1).trans HX3.out)
    have HS4 : Hid (w4.heap[R]? = some (.cells #[.slice (some ⟨g, 0, none⟩) L c, .int .i64 last] 83 (0, 0)) ∧ w4.heap[B]? = some (.cells #[.int .i64 q.f, .int .i64 q.e, .int .i64 q.x] 30 (0, 0))) := hide ⟨(HRtB.out _ HB4.out).top, HX4.out⟩
    clear hb4 HB3 HX3 HS3
    refine hK _ _ HS4.out ?_
    clear hK K'
    try simp only [Act.put, List.setIfInBounds_toArray, List.set_cons_zero, List.set_cons_succ]
    refine hd_take 2 (o := ⟨some 16, _, _, _, _, _⟩) (.bool false) (by kernel_rfl) (by kernel_rfl) (by kernel_rfl) rfl (by rfl) (fun W hSw => by go_simp) (fun _ _ _ h => h) HS4.out ?_
    simp only [Act.put, List.setIfInBounds_toArray, List.set_cons_zero, List.set_cons_succ]
    refine hd_skip 3 (o := ⟨some 17, _, _, _, _, _⟩) (by kernel_rfl) (by kernel_rfl) (by kernel_rfl) rfl (by rfl) (fun _ _ _ h => h) HS4.out ?_
    simp only [Act.put, List.setIfInBounds_toArray, List.set_cons_zero, List.set_cons_succ]
    refine hd_skip 4 (o := ⟨some 18, _, _, _, _, _⟩) (by kernel_rfl) (by kernel_rfl) (by kernel_rfl) rfl (by rfl) (fun _ _ _ h => h) HS4.out ?_
    simp only [Act.put, List.setIfInBounds_toArray, List.set_cons_zero, List.set_cons_succ]
    refine hd_skip 5 (o := ⟨some 19, _, _, _, _, _⟩) (by kernel_rfl) (by kernel_rfl) (by kernel_rfl) rfl (by rfl) (fun _ _ _ h => h) HS4.out ?_
    simp only [Act.put, List.setIfInBounds_toArray, List.set_cons_zero, List.set_cons_succ]
    refine hd_skip 6 (o := ⟨some 20, _, _, _, _, _⟩) (by kernel_rfl) (by kernel_rfl) (by kernel_rfl) rfl (by rfl) (fun _ _ _ h => h) HS4.out ?_
    simp only [Act.put, List.setIfInBounds_toArray, List.set_cons_zero, List.set_cons_succ]
    refine hd_skip 7 (o := ⟨some 21, _, _, _, _, _⟩) (by kernel_rfl) (by kernel_rfl) (by kernel_rfl) rfl (by rfl) (fun _ _ _ h => h) HS4.out ?_
    simp only [Act.put, List.setIfInBounds_toArray, List.set_cons_zero, List.set_cons_succ]
    refine hd_skip 8 (o := ⟨some 22, _, _, _, _, _⟩) (by kernel_rfl) (by kernel_rfl) (by kernel_rfl) rfl (by rfl) (fun _ _ _ h => h) HS4.out ?_
    simp only [Act.put, List.setIfInBounds_toArray, List.set_cons_zero, List.set_cons_succ]
    refine hd_skip 9 (o := ⟨some 23, _, _, _, _, _⟩) (by kernel_rfl) (by kernel_rfl) (by kernel_rfl) rfl (by rfl) (fun _ _ _ h => h) HS4.out ?_
    simp only [Act.put, List.setIfInBounds_toArray, List.set_cons_zero, List.set_cons_succ]
    refine hd_skip 10 (o := ⟨some 24, _, _, _, _, _⟩) (by kernel_rfl) (by kernel_rfl) (by kernel_rfl) rfl (by rfl) (fun _ _ _ h => h) HS4.out ?_
    simp only [Act.put, List.setIfInBounds_toArray, List.set_cons_zero, List.set_cons_succ]
    refine hd_skip 11 (o := ⟨some 25, _, _, _, _, _⟩) (by kernel_rfl) (by kernel_rfl) (by kernel_rfl) rfl (by rfl) (fun _ _ _ h => h) HS4.out ?_
    simp only [Act.put, List.setIfInBounds_toArray, List.set_cons_zero, List.set_cons_succ]
    refine hd_skip 12 (o := ⟨some 26, _, _, _, _, _⟩) (by kernel_rfl) (by kernel_rfl) (by kernel_rfl) rfl (by rfl) (fun _ _ _ h => h) HS4.out ?_
    simp only [Act.put, List.setIfInBounds_toArray, List.set_cons_zero, List.set_cons_succ]
    refine hd_take 13 (o := ⟨some 27, _, _, _, _, _⟩) (.bool false) (by kernel_rfl) (by kernel_rfl) (by kernel_rfl) rfl (by rfl) (fun W hSw => by go_simp) (fun _ _ _ h => h) HS4.out ?_
    simp only [Act.put, List.setIfInBounds_toArray, List.set_cons_zero, List.set_cons_succ]
    refine hd_take 14 (o := ⟨some 8, _, _, _, _, _⟩) (.bool false) (by kernel_rfl) (by kernel_rfl) (by kernel_rfl) rfl (by rfl) (fun W hSw => by go_simp) (fun _ _ _ h => h) HS4.out ?_
    simp only [Act.put, List.setIfInBounds_toArray, List.set_cons_zero, List.set_cons_succ]
    refine wpAnyH_done (by kernel_rfl) ?_ _
    clear HS4
    have HK := hide (HKp.out w4 HB4.out)
    go_wp2
    go_ret
    exact ⟨rfl, HK.out.1, HK.out.2⟩
  · obtain ⟨r', hr'⟩ := HEx.out
    exact absurd hr' (hno n r' rfl)
set_option maxRecDepth 8000 in
set_option maxHeartbeats 3200000 in
theorem refundD_more (h : RtA R rs last w F) (iv : Iv rs last) (n : Nat) (r : Er) (hr : rs[n]? = some (some r)) (q : Qt) (hg : q.good) (hf : ¬ q.le r.pd) : Calls Tryz.prog 22 #[tp R, .int .i64 (n : Int), q.val] w fun x w' => x = .returned (.int .i64 1) ∧ RtA R (rs) last w' F ∧ Ext F w F w' := by
  obtain ⟨v, K, h, ha, he⟩ := h
  obtain ⟨i, hi⟩ := List.getElem?_of_mem ((ha.mem n r).2 hr)
  have hb0 := (Below.refl w.heap.size w).alloc (Nat.le_refl _) (.cells #[.int .i64 q.f, .int .i64 q.e, .int .i64 q.x] 30)
  have h0 := heap_alloc_new w (.cells #[.int .i64 q.f, .int .i64 q.e, .int .i64 q.x] 30)
  have hw0 := h
  have h := h.below hb0
  obtain ⟨g, c, hv, hrow⟩ := h.at hi
  have HAt := hide (atb_any h ha iv.tr.len (n : Int))
  have HOn : Hid (∀ (i' n' : Nat) (r' : Er), K[i']? = some (n', r') → (n : Int) = (n' : Int) → i' = i) := hide (fun i' n' r' h1 h2 => ha.once h1 hi (by simp; omega))
  have HEx : Hid (∃ r', rs[n]? = some (some r')) := hide ⟨r, hr⟩
  have hil := (List.getElem?_eq_some_iff.1 hi).1
  obtain ⟨L, hL⟩ : ∃ L, K.length = L := ⟨_, rfl⟩
  rw [hL] at hv hil
  have hii : (i : Int) < (L : Int) := by omega
  subst hv
  have hgf : decide q.good = true := by simp [hg]
  have hff : decide (q.le r.pd) = false := by simp [hf]
  clear hg hf
  have HIx := hide hi
  have HRtB : Hid (∀ W, Below w.heap.size w W → RtAt W R (.slice (some ⟨g, 0, none⟩) L c) K last) := hide (fun W hW => hw0.below hW)
  have HKp : Hid (∀ W, Below w.heap.size w W → RtA R rs last W F ∧ Ext F w F W) := hide (fun W hW => ⟨⟨_, K, hw0.below hW, ha, he⟩, ext_below hW⟩)
  have HLf : Hid (∀ W, Below w.heap.size w W → Calls Tryz.prog 61 #[tp R, .int .i64 (i : Int)] W fun x w' => x = .returned r.le.val ∧ Below W.heap.size W w') := hide (fun W hW => leftD_any (hw0.below hW) ha iv hi)
  have HGB : Hid (g ≠ R ∧ g ≠ w.heap.size) := hide ⟨fun e => hw0.ne (by simp [Value.ownBlock, e]), fun e => by have := ownsRow_lt hw0.row (show Value.ownBlock _ = some g from rfl); omega⟩
  have HRB : Hid (R ≠ w.heap.size) := hide (fun e => by have := hw0.lt; omega)
  have HB1 := hide hb0
  have HX1 := hide h0
  have HGd := hide (fun W => goodD_any W q)
  clear hb0 h0 h hw0 ha he hi hr iv hrow hL
  unfold Qt.val
  go_enter Tryz.func22, Tryz.ntmps22
  go_upto_region 1 with fail
  show Code.wp _ _ _ _ (w.alloc (.cells #[.int .i64 q.f, .int .i64 q.e, .int .i64 q.x] 30))
  generalize w.alloc (.cells #[.int .i64 q.f, .int .i64 q.e, .int .i64 q.x] 30) = w1 at *
  obtain ⟨B, hB⟩ : ∃ B, w.heap.size = B := ⟨_, rfl⟩
  rw [hB] at HX1 HGB HRB
  have HBw : Hid (w.heap.size ≤ B) := hide (Nat.le_of_eq hB)
  rw [hB]
  clear hB
  go_wp2_with fail
  refine HAt.out.mono ?_
  rintro e1 w2 ⟨hw2, ⟨i', n', r', rfl, hi', hn', -⟩ | ⟨-, hno⟩⟩
  · have e2 := HOn.out i' n' r' hi' hn'
    subst e2
    subst hw2
    clear HAt HOn HEx hi' hn'
    go_upto_region 4 with fail
    refine wp_region_held_drew (S := fun W : World => W.heap[R]? = some (.cells #[.slice (some ⟨g, 0, none⟩) L c, .int .i64 last] 83 (0, 0)) ∧ W.heap[B]? = some (.cells #[.int .i64 q.f, .int .i64 q.e, .int .i64 q.x] 30 (0, 0))) (by kernel_rfl) ⟨(HRtB.out _ HB1.out).top, HX1.out⟩ (fun _ => ?_)
    generalize hw3 : w2.drew = w3
    have hb3 : Below w2.heap.size w2 w3 := by rw [← hw3]; exact below_drew _
    have HB3 := hide (HB1.out.trans (hb3.mono HB1.out.size))
    have HX3 := hide ((hb3.block B (Array.getElem?_eq_some_iff.1 HX1.out).1).trans HX1.out)
    have HS3 : Hid (w3.heap[R]? = some (.cells #[.slice (some ⟨g, 0, none⟩) L c, .int .i64 last] 83 (0, 0)) ∧ w3.heap[B]? = some (.cells #[.int .i64 q.f, .int .i64 q.e, .int .i64 q.x] 30 (0, 0))) := hide ⟨(HRtB.out _ HB3.out).top, HX3.out⟩
    clear hw3 hb3 HB1 HX1
    refine hd_take 0 (o := ⟨some 14, _, _, _, _, _⟩) (q.val) (by kernel_rfl) (by kernel_rfl) (by kernel_rfl) rfl (by rfl) (fun W hSw => by exact run_loadT Tryz.underlying30 rfl (qtL q) infoQ _ rfl ⟨B, 0, none⟩ rfl (row_cells hSw.2)) (fun _ _ _ h => h) HS3.out ?_
    simp only [Act.put, List.setIfInBounds_toArray, List.set_cons_zero, List.set_cons_succ]
    refine hd_call 1 (o := ⟨some 15, _, _, _, _, _⟩) (by kernel_rfl) rfl (by rfl) (fun K' hK => ?_)
    go_simp
    go_wp2_with (go_at_call 60; refine (HGd.out w3).mono ?_; rintro e1 w4 ⟨rfl, hb4⟩)
    have HB4 := hide (HB3.out.trans (hb4.mono HB3.out.size))
    have HX4 := hide ((hb4.block B (Array.getElem?_eq_some_iff.1 HX3.out).1).trans HX3.out)
    have HS4 : Hid (w4.heap[R]? = some (.cells #[.slice (some ⟨g, 0, none⟩) L c, .int .i64 last] 83 (0, 0)) ∧ w4.heap[B]? = some (.cells #[.int .i64 q.f, .int .i64 q.e, .int .i64 q.x] 30 (0, 0))) := hide ⟨(HRtB.out _ HB4.out).top, HX4.out⟩
    clear hb4 HB3 HX3 HS3
    refine hK _ _ HS4.out ?_
    clear hK K'
    try simp only [Act.put, List.setIfInBounds_toArray, List.set_cons_zero, List.set_cons_succ]
    refine hd_take 2 (o := ⟨some 16, _, _, _, _, _⟩) (.bool true) (by kernel_rfl) (by kernel_rfl) (by kernel_rfl) rfl (by rfl) (fun W hSw => by go_simp) (fun _ _ _ h => h) HS4.out ?_
    simp only [Act.put, List.setIfInBounds_toArray, List.set_cons_zero, List.set_cons_succ]
    refine hd_take 3 (o := ⟨some 17, _, _, _, _, _⟩) (q.val) (by kernel_rfl) (by kernel_rfl) (by kernel_rfl) rfl (by rfl) (fun W hSw => by exact run_loadT Tryz.underlying30 rfl (qtL q) infoQ _ rfl ⟨B, 0, none⟩ rfl (row_cells hSw.2)) (fun _ _ _ h => h) HS4.out ?_
    simp only [Act.put, List.setIfInBounds_toArray, List.set_cons_zero, List.set_cons_succ]
    refine hd_take 4 (o := ⟨some 18, _, _, _, _, _⟩) (.pointer (some ⟨R, 0, none⟩)) (by kernel_rfl) (by kernel_rfl) (by kernel_rfl) rfl (by rfl) (fun W hSw => by go_simp) (fun _ _ _ h => h) HS4.out ?_
    simp only [Act.put, List.setIfInBounds_toArray, List.set_cons_zero, List.set_cons_succ]
    refine hd_take 5 (o := ⟨some 19, _, _, _, _, _⟩) (.pointer (some ⟨R, 0, none⟩)) (by kernel_rfl) (by kernel_rfl) (by kernel_rfl) rfl (by rfl) (fun W hSw => by go_simp) (fun _ _ _ h => h) HS4.out ?_
    simp only [Act.put, List.setIfInBounds_toArray, List.set_cons_zero, List.set_cons_succ]
    refine hd_take 6 (o := ⟨some 20, _, _, _, _, _⟩) (.pointer (some ⟨R, 0, none⟩)) (by kernel_rfl) (by kernel_rfl) (by kernel_rfl) rfl (by rfl) (fun W hSw => by go_simp) (fun _ _ _ h => h) HS4.out ?_
    simp only [Act.put, List.setIfInBounds_toArray, List.set_cons_zero, List.set_cons_succ]
    refine hd_take 7 (o := ⟨some 21, _, _, _, _, _⟩) (.slice (some ⟨g, 0, none⟩) L c) (by kernel_rfl) (by kernel_rfl) (by kernel_rfl) rfl (by rfl) (fun W hSw => by have s1 := top_cell hSw.1; go_simp) (fun _ _ _ h => h) HS4.out ?_
    simp only [Act.put, List.setIfInBounds_toArray, List.set_cons_zero, List.set_cons_succ]
    refine hd_take 8 (o := ⟨some 22, _, _, _, _, _⟩) (.int .i64 (i' : Int)) (by kernel_rfl) (by kernel_rfl) (by kernel_rfl) rfl (by rfl) (fun W hSw => by go_simp) (fun _ _ _ h => h) HS4.out ?_
    simp only [Act.put, List.setIfInBounds_toArray, List.set_cons_zero, List.set_cons_succ]
    refine hd_take 9 (o := ⟨some 23, _, _, _, _, _⟩) (.pointer (some ⟨g, i' * 25, none⟩)) (by kernel_rfl) (by kernel_rfl) (by kernel_rfl) rfl (by rfl) (fun W hSw => by go_simp) (fun _ _ _ h => h) HS4.out ?_
    simp only [Act.put, List.setIfInBounds_toArray, List.set_cons_zero, List.set_cons_succ]
    refine hd_take 10 (o := ⟨some 24, _, _, _, _, _⟩) (.pointer (some ⟨g, i' * 25 + 22, none⟩)) (by kernel_rfl) (by kernel_rfl) (by kernel_rfl) rfl (by rfl) (fun W hSw => by go_simp) (fun _ _ _ h => h) HS4.out ?_
    simp only [Act.put, List.setIfInBounds_toArray, List.set_cons_zero, List.set_cons_succ]
    refine hd_call 11 (o := ⟨some 25, _, _, _, _, _⟩) (by kernel_rfl) rfl (by rfl) (fun K' hK => ?_)
    refine wp_loadT Tryz.underlying30 rfl (qtL r.pd) infoQ _ rfl ⟨g, i' * 25 + 22, none⟩ rfl (rt_q (HRtB.out _ HB4.out) HIx.out (qcell rfl rfl rfl)) ?_
    refine hK _ _ HS4.out ?_
    clear hK K'
    try simp only [Act.put, List.setIfInBounds_toArray, List.set_cons_zero, List.set_cons_succ]
    refine hd_call 12 (o := ⟨some 26, _, _, _, _, _⟩) (by kernel_rfl) rfl (by rfl) (fun K' hK => ?_)
    go_simp
    go_wp2_with (go_at_call 62; refine (fitsD_any w4 q r.pd).mono ?_; rintro e1 w6 ⟨rfl, hb6⟩)
    have HB6 := hide (HB4.out.trans (hb6.mono HB4.out.size))
    have HX6 := hide ((hb6.block B (Array.getElem?_eq_some_iff.1 HX4.out).1).trans HX4.out)
    have HS6 : Hid (w6.heap[R]? = some (.cells #[.slice (some ⟨g, 0, none⟩) L c, .int .i64 last] 83 (0, 0)) ∧ w6.heap[B]? = some (.cells #[.int .i64 q.f, .int .i64 q.e, .int .i64 q.x] 30 (0, 0))) := hide ⟨(HRtB.out _ HB6.out).top, HX6.out⟩
    clear hb6 HB4 HX4 HS4
    refine hK _ _ HS6.out ?_
    clear hK K'
    try simp only [Act.put, List.setIfInBounds_toArray, List.set_cons_zero, List.set_cons_succ]
    refine hd_take 13 (o := ⟨some 27, _, _, _, _, _⟩) (.bool false) (by kernel_rfl) (by kernel_rfl) (by kernel_rfl) rfl (by rfl) (fun W hSw => by go_simp) (fun _ _ _ h => h) HS6.out ?_
    simp only [Act.put, List.setIfInBounds_toArray, List.set_cons_zero, List.set_cons_succ]
    refine hd_take 14 (o := ⟨some 8, _, _, _, _, _⟩) (.bool false) (by kernel_rfl) (by kernel_rfl) (by kernel_rfl) rfl (by rfl) (fun W hSw => by go_simp) (fun _ _ _ h => h) HS6.out ?_
    simp only [Act.put, List.setIfInBounds_toArray, List.set_cons_zero, List.set_cons_succ]
    refine wpAnyH_done (by kernel_rfl) ?_ _
    clear HS6
    have HK := hide (HKp.out w6 HB6.out)
    go_wp2
    go_ret
    exact ⟨rfl, HK.out.1, HK.out.2⟩
  · obtain ⟨r', hr'⟩ := HEx.out
    exact absurd hr' (hno n r' rfl)
set_option maxRecDepth 8000 in
set_option maxHeartbeats 3200000 in
theorem refundD_ok (h : RtA R rs last w F) (iv : Iv rs last) (n : Nat) (r : Er) (hr : rs[n]? = some (some r)) (q : Qt) (hg : q.good) (hf : q.le r.pd) : Calls Tryz.prog 22 #[tp R, .int .i64 (n : Int), q.val] w fun x w' => x = .returned (.int .i64 0) ∧ RtA R (rs.set n (some { r with pd := r.pd.less q, le := r.le.plus q })) last w' F ∧ Ext F w F w' := by
  obtain ⟨v, K, h, ha, he⟩ := h
  obtain ⟨i, hi⟩ := List.getElem?_of_mem ((ha.mem n r).2 hr)
  have hb0 := (Below.refl w.heap.size w).alloc (Nat.le_refl _) (.cells #[.int .i64 q.f, .int .i64 q.e, .int .i64 q.x] 30)
  have h0 := heap_alloc_new w (.cells #[.int .i64 q.f, .int .i64 q.e, .int .i64 q.x] 30)
  have hw0 := h
  have h := h.below hb0
  obtain ⟨g, c, hv, hrow⟩ := h.at hi
  have HAt := hide (atb_any h ha iv.tr.len (n : Int))
  have HOn : Hid (∀ (i' n' : Nat) (r' : Er), K[i']? = some (n', r') → (n : Int) = (n' : Int) → i' = i) := hide (fun i' n' r' h1 h2 => ha.once h1 hi (by simp; omega))
  have HEx : Hid (∃ r', rs[n]? = some (some r')) := hide ⟨r, hr⟩
  have hil := (List.getElem?_eq_some_iff.1 hi).1
  obtain ⟨L, hL⟩ : ∃ L, K.length = L := ⟨_, rfl⟩
  rw [hL] at hv hil
  have hii : (i : Int) < (L : Int) := by omega
  subst hv
  have hgf : decide q.good = true := by simp [hg]
  have hff : decide (q.le r.pd) = true := by simp [hf]
  have HPl := hide (fun W => lessD_any W r.pd q (iv.oks hr).2.1 (good_ok hg))
  have HPut : Hid (∀ W, Below w.heap.size w W → RtA R (rs.set n (some { r with pd := r.pd.less q, le := r.le.plus q })) last (W.setCells g (i * 25 + 22) (qtL (r.pd.less q))) F ∧ Ext F w F (W.setCells g (i * 25 + 22) (qtL (r.pd.less q)))) := hide (fun W hW => by
    obtain ⟨p1, p2⟩ := RtAt.puts (hw0.below hW) ha he hi hr (qtL (r.pd.less q)) (r' := { r with pd := r.pd.less q, le := r.le.plus q }) (j := 22) rfl (by simp only [encW1, qtL, setsL, List.set]) (by rw [qtL_len]; decide)
    exact ⟨p1, (ext_below hW).trans p2⟩)
  clear hg hf
  have HIx := hide hi
  have HRtB : Hid (∀ W, Below w.heap.size w W → RtAt W R (.slice (some ⟨g, 0, none⟩) L c) K last) := hide (fun W hW => hw0.below hW)
  have HKp : Hid (∀ W, Below w.heap.size w W → RtA R rs last W F ∧ Ext F w F W) := hide (fun W hW => ⟨⟨_, K, hw0.below hW, ha, he⟩, ext_below hW⟩)
  have HLf : Hid (∀ W, Below w.heap.size w W → Calls Tryz.prog 61 #[tp R, .int .i64 (i : Int)] W fun x w' => x = .returned r.le.val ∧ Below W.heap.size W w') := hide (fun W hW => leftD_any (hw0.below hW) ha iv hi)
  have HGB : Hid (g ≠ R ∧ g ≠ w.heap.size) := hide ⟨fun e => hw0.ne (by simp [Value.ownBlock, e]), fun e => by have := ownsRow_lt hw0.row (show Value.ownBlock _ = some g from rfl); omega⟩
  have HRB : Hid (R ≠ w.heap.size) := hide (fun e => by have := hw0.lt; omega)
  have HB1 := hide hb0
  have HX1 := hide h0
  have HGd := hide (fun W => goodD_any W q)
  clear hb0 h0 h hw0 ha he hi hr iv hrow hL
  unfold Qt.val
  go_enter Tryz.func22, Tryz.ntmps22
  go_upto_region 1 with fail
  show Code.wp _ _ _ _ (w.alloc (.cells #[.int .i64 q.f, .int .i64 q.e, .int .i64 q.x] 30))
  generalize w.alloc (.cells #[.int .i64 q.f, .int .i64 q.e, .int .i64 q.x] 30) = w1 at *
  obtain ⟨B, hB⟩ : ∃ B, w.heap.size = B := ⟨_, rfl⟩
  rw [hB] at HX1 HGB HRB
  have HBw : Hid (w.heap.size ≤ B) := hide (Nat.le_of_eq hB)
  rw [hB]
  clear hB
  go_wp2_with fail
  refine HAt.out.mono ?_
  rintro e1 w2 ⟨hw2, ⟨i', n', r', rfl, hi', hn', -⟩ | ⟨-, hno⟩⟩
  · have e2 := HOn.out i' n' r' hi' hn'
    subst e2
    subst hw2
    clear HAt HOn HEx hi' hn'
    go_upto_region 4 with fail
    refine wp_region_held_drew (S := fun W : World => W.heap[R]? = some (.cells #[.slice (some ⟨g, 0, none⟩) L c, .int .i64 last] 83 (0, 0)) ∧ W.heap[B]? = some (.cells #[.int .i64 q.f, .int .i64 q.e, .int .i64 q.x] 30 (0, 0))) (by kernel_rfl) ⟨(HRtB.out _ HB1.out).top, HX1.out⟩ (fun _ => ?_)
    generalize hw3 : w2.drew = w3
    have hb3 : Below w2.heap.size w2 w3 := by rw [← hw3]; exact below_drew _
    have HB3 := hide (HB1.out.trans (hb3.mono HB1.out.size))
    have HX3 := hide ((hb3.block B (Array.getElem?_eq_some_iff.1 HX1.out).1).trans HX1.out)
    have HS3 : Hid (w3.heap[R]? = some (.cells #[.slice (some ⟨g, 0, none⟩) L c, .int .i64 last] 83 (0, 0)) ∧ w3.heap[B]? = some (.cells #[.int .i64 q.f, .int .i64 q.e, .int .i64 q.x] 30 (0, 0))) := hide ⟨(HRtB.out _ HB3.out).top, HX3.out⟩
    clear hw3 hb3 HB1 HX1
    refine hd_take 0 (o := ⟨some 14, _, _, _, _, _⟩) (q.val) (by kernel_rfl) (by kernel_rfl) (by kernel_rfl) rfl (by rfl) (fun W hSw => by exact run_loadT Tryz.underlying30 rfl (qtL q) infoQ _ rfl ⟨B, 0, none⟩ rfl (row_cells hSw.2)) (fun _ _ _ h => h) HS3.out ?_
    simp only [Act.put, List.setIfInBounds_toArray, List.set_cons_zero, List.set_cons_succ]
    refine hd_call 1 (o := ⟨some 15, _, _, _, _, _⟩) (by kernel_rfl) rfl (by rfl) (fun K' hK => ?_)
    go_simp
    go_wp2_with (go_at_call 60; refine (HGd.out w3).mono ?_; rintro e1 w4 ⟨rfl, hb4⟩)
    have HB4 := hide (HB3.out.trans (hb4.mono HB3.out.size))
    have HX4 := hide ((hb4.block B (Array.getElem?_eq_some_iff.1 HX3.out).1).trans HX3.out)
    have HS4 : Hid (w4.heap[R]? = some (.cells #[.slice (some ⟨g, 0, none⟩) L c, .int .i64 last] 83 (0, 0)) ∧ w4.heap[B]? = some (.cells #[.int .i64 q.f, .int .i64 q.e, .int .i64 q.x] 30 (0, 0))) := hide ⟨(HRtB.out _ HB4.out).top, HX4.out⟩
    clear hb4 HB3 HX3 HS3
    refine hK _ _ HS4.out ?_
    clear hK K'
    try simp only [Act.put, List.setIfInBounds_toArray, List.set_cons_zero, List.set_cons_succ]
    refine hd_take 2 (o := ⟨some 16, _, _, _, _, _⟩) (.bool true) (by kernel_rfl) (by kernel_rfl) (by kernel_rfl) rfl (by rfl) (fun W hSw => by go_simp) (fun _ _ _ h => h) HS4.out ?_
    simp only [Act.put, List.setIfInBounds_toArray, List.set_cons_zero, List.set_cons_succ]
    refine hd_take 3 (o := ⟨some 17, _, _, _, _, _⟩) (q.val) (by kernel_rfl) (by kernel_rfl) (by kernel_rfl) rfl (by rfl) (fun W hSw => by exact run_loadT Tryz.underlying30 rfl (qtL q) infoQ _ rfl ⟨B, 0, none⟩ rfl (row_cells hSw.2)) (fun _ _ _ h => h) HS4.out ?_
    simp only [Act.put, List.setIfInBounds_toArray, List.set_cons_zero, List.set_cons_succ]
    refine hd_take 4 (o := ⟨some 18, _, _, _, _, _⟩) (.pointer (some ⟨R, 0, none⟩)) (by kernel_rfl) (by kernel_rfl) (by kernel_rfl) rfl (by rfl) (fun W hSw => by go_simp) (fun _ _ _ h => h) HS4.out ?_
    simp only [Act.put, List.setIfInBounds_toArray, List.set_cons_zero, List.set_cons_succ]
    refine hd_take 5 (o := ⟨some 19, _, _, _, _, _⟩) (.pointer (some ⟨R, 0, none⟩)) (by kernel_rfl) (by kernel_rfl) (by kernel_rfl) rfl (by rfl) (fun W hSw => by go_simp) (fun _ _ _ h => h) HS4.out ?_
    simp only [Act.put, List.setIfInBounds_toArray, List.set_cons_zero, List.set_cons_succ]
    refine hd_take 6 (o := ⟨some 20, _, _, _, _, _⟩) (.pointer (some ⟨R, 0, none⟩)) (by kernel_rfl) (by kernel_rfl) (by kernel_rfl) rfl (by rfl) (fun W hSw => by go_simp) (fun _ _ _ h => h) HS4.out ?_
    simp only [Act.put, List.setIfInBounds_toArray, List.set_cons_zero, List.set_cons_succ]
    refine hd_take 7 (o := ⟨some 21, _, _, _, _, _⟩) (.slice (some ⟨g, 0, none⟩) L c) (by kernel_rfl) (by kernel_rfl) (by kernel_rfl) rfl (by rfl) (fun W hSw => by have s1 := top_cell hSw.1; go_simp) (fun _ _ _ h => h) HS4.out ?_
    simp only [Act.put, List.setIfInBounds_toArray, List.set_cons_zero, List.set_cons_succ]
    refine hd_take 8 (o := ⟨some 22, _, _, _, _, _⟩) (.int .i64 (i' : Int)) (by kernel_rfl) (by kernel_rfl) (by kernel_rfl) rfl (by rfl) (fun W hSw => by go_simp) (fun _ _ _ h => h) HS4.out ?_
    simp only [Act.put, List.setIfInBounds_toArray, List.set_cons_zero, List.set_cons_succ]
    refine hd_take 9 (o := ⟨some 23, _, _, _, _, _⟩) (.pointer (some ⟨g, i' * 25, none⟩)) (by kernel_rfl) (by kernel_rfl) (by kernel_rfl) rfl (by rfl) (fun W hSw => by go_simp) (fun _ _ _ h => h) HS4.out ?_
    simp only [Act.put, List.setIfInBounds_toArray, List.set_cons_zero, List.set_cons_succ]
    refine hd_take 10 (o := ⟨some 24, _, _, _, _, _⟩) (.pointer (some ⟨g, i' * 25 + 22, none⟩)) (by kernel_rfl) (by kernel_rfl) (by kernel_rfl) rfl (by rfl) (fun W hSw => by go_simp) (fun _ _ _ h => h) HS4.out ?_
    simp only [Act.put, List.setIfInBounds_toArray, List.set_cons_zero, List.set_cons_succ]
    refine hd_call 11 (o := ⟨some 25, _, _, _, _, _⟩) (by kernel_rfl) rfl (by rfl) (fun K' hK => ?_)
    refine wp_loadT Tryz.underlying30 rfl (qtL r.pd) infoQ _ rfl ⟨g, i' * 25 + 22, none⟩ rfl (rt_q (HRtB.out _ HB4.out) HIx.out (qcell rfl rfl rfl)) ?_
    refine hK _ _ HS4.out ?_
    clear hK K'
    try simp only [Act.put, List.setIfInBounds_toArray, List.set_cons_zero, List.set_cons_succ]
    refine hd_call 12 (o := ⟨some 26, _, _, _, _, _⟩) (by kernel_rfl) rfl (by rfl) (fun K' hK => ?_)
    go_simp
    go_wp2_with (go_at_call 62; refine (fitsD_any w4 q r.pd).mono ?_; rintro e1 w6 ⟨rfl, hb6⟩)
    have HB6 := hide (HB4.out.trans (hb6.mono HB4.out.size))
    have HX6 := hide ((hb6.block B (Array.getElem?_eq_some_iff.1 HX4.out).1).trans HX4.out)
    have HS6 : Hid (w6.heap[R]? = some (.cells #[.slice (some ⟨g, 0, none⟩) L c, .int .i64 last] 83 (0, 0)) ∧ w6.heap[B]? = some (.cells #[.int .i64 q.f, .int .i64 q.e, .int .i64 q.x] 30 (0, 0))) := hide ⟨(HRtB.out _ HB6.out).top, HX6.out⟩
    clear hb6 HB4 HX4 HS4
    refine hK _ _ HS6.out ?_
    clear hK K'
    try simp only [Act.put, List.setIfInBounds_toArray, List.set_cons_zero, List.set_cons_succ]
    refine hd_take 13 (o := ⟨some 27, _, _, _, _, _⟩) (.bool true) (by kernel_rfl) (by kernel_rfl) (by kernel_rfl) rfl (by rfl) (fun W hSw => by go_simp) (fun _ _ _ h => h) HS6.out ?_
    simp only [Act.put, List.setIfInBounds_toArray, List.set_cons_zero, List.set_cons_succ]
    refine hd_take 14 (o := ⟨some 8, _, _, _, _, _⟩) (.bool true) (by kernel_rfl) (by kernel_rfl) (by kernel_rfl) rfl (by rfl) (fun W hSw => by go_simp) (fun _ _ _ h => h) HS6.out ?_
    simp only [Act.put, List.setIfInBounds_toArray, List.set_cons_zero, List.set_cons_succ]
    refine wpAnyH_done (by kernel_rfl) ?_ _
    clear HS6
    go_upto_region 7 with fail
    refine wp_region_held_drew (S := fun W : World => W.heap[R]? = some (.cells #[.slice (some ⟨g, 0, none⟩) L c, .int .i64 last] 83 (0, 0)) ∧ W.heap[B]? = some (.cells #[.int .i64 q.f, .int .i64 q.e, .int .i64 q.x] 30 (0, 0))) (by kernel_rfl) ⟨(HRtB.out _ HB6.out).top, HX6.out⟩ (fun _ => ?_)
    generalize hw8 : w6.drew = w8
    have hb8 : Below w6.heap.size w6 w8 := by rw [← hw8]; exact below_drew _
    have HB8 := hide (HB6.out.trans (hb8.mono HB6.out.size))
    have HX8 := hide ((hb8.block B (Array.getElem?_eq_some_iff.1 HX6.out).1).trans HX6.out)
    have HS8 : Hid (w8.heap[R]? = some (.cells #[.slice (some ⟨g, 0, none⟩) L c, .int .i64 last] 83 (0, 0)) ∧ w8.heap[B]? = some (.cells #[.int .i64 q.f, .int .i64 q.e, .int .i64 q.x] 30 (0, 0))) := hide ⟨(HRtB.out _ HB8.out).top, HX8.out⟩
    clear hw8 hb8 HB6 HX6
    refine hd_take 0 (o := ⟨some 30, _, _, _, _, _⟩) (.pointer (some ⟨R, 0, none⟩)) (by kernel_rfl) (by kernel_rfl) (by kernel_rfl) rfl (by rfl) (fun W hSw => by go_simp) (fun _ _ _ h => h) HS8.out ?_
    simp only [Act.put, List.setIfInBounds_toArray, List.set_cons_zero, List.set_cons_succ]
    refine hd_take 1 (o := ⟨some 31, _, _, _, _, _⟩) (.pointer (some ⟨R, 0, none⟩)) (by kernel_rfl) (by kernel_rfl) (by kernel_rfl) rfl (by rfl) (fun W hSw => by go_simp) (fun _ _ _ h => h) HS8.out ?_
    simp only [Act.put, List.setIfInBounds_toArray, List.set_cons_zero, List.set_cons_succ]
    refine hd_take 2 (o := ⟨some 32, _, _, _, _, _⟩) (.pointer (some ⟨R, 0, none⟩)) (by kernel_rfl) (by kernel_rfl) (by kernel_rfl) rfl (by rfl) (fun W hSw => by go_simp) (fun _ _ _ h => h) HS8.out ?_
    simp only [Act.put, List.setIfInBounds_toArray, List.set_cons_zero, List.set_cons_succ]
    refine hd_take 3 (o := ⟨some 33, _, _, _, _, _⟩) (.slice (some ⟨g, 0, none⟩) L c) (by kernel_rfl) (by kernel_rfl) (by kernel_rfl) rfl (by rfl) (fun W hSw => by have s1 := top_cell hSw.1; go_simp) (fun _ _ _ h => h) HS8.out ?_
    simp only [Act.put, List.setIfInBounds_toArray, List.set_cons_zero, List.set_cons_succ]
    refine hd_take 4 (o := ⟨some 34, _, _, _, _, _⟩) (.int .i64 (i' : Int)) (by kernel_rfl) (by kernel_rfl) (by kernel_rfl) rfl (by rfl) (fun W hSw => by go_simp) (fun _ _ _ h => h) HS8.out ?_
    simp only [Act.put, List.setIfInBounds_toArray, List.set_cons_zero, List.set_cons_succ]
    refine hd_take 5 (o := ⟨some 35, _, _, _, _, _⟩) (.pointer (some ⟨R, 0, none⟩)) (by kernel_rfl) (by kernel_rfl) (by kernel_rfl) rfl (by rfl) (fun W hSw => by go_simp) (fun _ _ _ h => h) HS8.out ?_
    simp only [Act.put, List.setIfInBounds_toArray, List.set_cons_zero, List.set_cons_succ]
    refine hd_take 6 (o := ⟨some 36, _, _, _, _, _⟩) (.pointer (some ⟨R, 0, none⟩)) (by kernel_rfl) (by kernel_rfl) (by kernel_rfl) rfl (by rfl) (fun W hSw => by go_simp) (fun _ _ _ h => h) HS8.out ?_
    simp only [Act.put, List.setIfInBounds_toArray, List.set_cons_zero, List.set_cons_succ]
    refine hd_take 7 (o := ⟨some 37, _, _, _, _, _⟩) (.pointer (some ⟨R, 0, none⟩)) (by kernel_rfl) (by kernel_rfl) (by kernel_rfl) rfl (by rfl) (fun W hSw => by go_simp) (fun _ _ _ h => h) HS8.out ?_
    simp only [Act.put, List.setIfInBounds_toArray, List.set_cons_zero, List.set_cons_succ]
    refine hd_take 8 (o := ⟨some 38, _, _, _, _, _⟩) (.slice (some ⟨g, 0, none⟩) L c) (by kernel_rfl) (by kernel_rfl) (by kernel_rfl) rfl (by rfl) (fun W hSw => by have s1 := top_cell hSw.1; go_simp) (fun _ _ _ h => h) HS8.out ?_
    simp only [Act.put, List.setIfInBounds_toArray, List.set_cons_zero, List.set_cons_succ]
    refine hd_take 9 (o := ⟨some 39, _, _, _, _, _⟩) (.int .i64 (i' : Int)) (by kernel_rfl) (by kernel_rfl) (by kernel_rfl) rfl (by rfl) (fun W hSw => by go_simp) (fun _ _ _ h => h) HS8.out ?_
    simp only [Act.put, List.setIfInBounds_toArray, List.set_cons_zero, List.set_cons_succ]
    refine hd_take 10 (o := ⟨some 40, _, _, _, _, _⟩) (.pointer (some ⟨g, i' * 25, none⟩)) (by kernel_rfl) (by kernel_rfl) (by kernel_rfl) rfl (by rfl) (fun W hSw => by go_simp) (fun _ _ _ h => h) HS8.out ?_
    simp only [Act.put, List.setIfInBounds_toArray, List.set_cons_zero, List.set_cons_succ]
    refine hd_take 11 (o := ⟨some 41, _, _, _, _, _⟩) (.pointer (some ⟨g, i' * 25 + 22, none⟩)) (by kernel_rfl) (by kernel_rfl) (by kernel_rfl) rfl (by rfl) (fun W hSw => by go_simp) (fun _ _ _ h => h) HS8.out ?_
    simp only [Act.put, List.setIfInBounds_toArray, List.set_cons_zero, List.set_cons_succ]
    refine hd_take 13 (o := ⟨some 43, _, _, _, _, _⟩) (q.val) (by kernel_rfl) (by kernel_rfl) (by kernel_rfl) rfl (by rfl) (fun W hSw => by exact run_loadT Tryz.underlying30 rfl (qtL q) infoQ _ rfl ⟨B, 0, none⟩ rfl (row_cells hSw.2)) (fun _ _ _ h => h) HS8.out ?_
    simp only [Act.put, List.setIfInBounds_toArray, List.set_cons_zero, List.set_cons_succ]
    refine hd_call 12 (o := ⟨some 42, _, _, _, _, _⟩) (by kernel_rfl) rfl (by rfl) (fun K' hK => ?_)
    refine wp_loadT Tryz.underlying30 rfl (qtL r.pd) infoQ _ rfl ⟨g, i' * 25 + 22, none⟩ rfl (rt_q (HRtB.out _ HB8.out) HIx.out (qcell rfl rfl rfl)) ?_
    refine hK _ _ HS8.out ?_
    clear hK K'
    try simp only [Act.put, List.setIfInBounds_toArray, List.set_cons_zero, List.set_cons_succ]
    refine hd_call 14 (o := ⟨some 44, _, _, _, _, _⟩) (by kernel_rfl) rfl (by rfl) (fun K' hK => ?_)
    go_simp
    go_wp2_with (go_at_call 71; refine (HPl.out w8).mono ?_; rintro e1 w9 ⟨rfl, hb9⟩)
    have HB9 := hide (HB8.out.trans (hb9.mono HB8.out.size))
    have HX9 := hide ((hb9.block B (Array.getElem?_eq_some_iff.1 HX8.out).1).trans HX8.out)
    have HS9 : Hid (w9.heap[R]? = some (.cells #[.slice (some ⟨g, 0, none⟩) L c, .int .i64 last] 83 (0, 0)) ∧ w9.heap[B]? = some (.cells #[.int .i64 q.f, .int .i64 q.e, .int .i64 q.x] 30 (0, 0))) := hide ⟨(HRtB.out _ HB9.out).top, HX9.out⟩
    clear hb9 HB8 HX8 HS8
    refine hK _ _ HS9.out ?_
    clear hK K'
    try simp only [Act.put, List.setIfInBounds_toArray, List.set_cons_zero, List.set_cons_succ]
    refine hd_take 15 (o := ⟨some 45, _, _, _, _, _⟩) (.pointer (some ⟨g, i' * 25, none⟩)) (by kernel_rfl) (by kernel_rfl) (by kernel_rfl) rfl (by rfl) (fun W hSw => by go_simp) (fun _ _ _ h => h) HS9.out ?_
    simp only [Act.put, List.setIfInBounds_toArray, List.set_cons_zero, List.set_cons_succ]
    refine hd_take 16 (o := ⟨some 46, _, _, _, _, _⟩) (.pointer (some ⟨g, i' * 25 + 22, none⟩)) (by kernel_rfl) (by kernel_rfl) (by kernel_rfl) rfl (by rfl) (fun W hSw => by go_simp) (fun _ _ _ h => h) HS9.out ?_
    simp only [Act.put, List.setIfInBounds_toArray, List.set_cons_zero, List.set_cons_succ]
    have HT9 := hide ((HRtB.out _ HB9.out).there HIx.out (k := 22) (n := 3) (by decide))
    have HS10 : Hid ((w9.setCells g (i' * 25 + 22) (qtL (r.pd.less q))).heap[R]? = some (.cells #[.slice (some ⟨g, 0, none⟩) L c, .int .i64 last] 83 (0, 0)) ∧ (w9.setCells g (i' * 25 + 22) (qtL (r.pd.less q))).heap[B]? = some (.cells #[.int .i64 q.f, .int .i64 q.e, .int .i64 q.x] 30 (0, 0))) := hide ⟨by rw [heap_setCells_other _ _ (fun e => HGB.out.1 e.symm)]; exact HS9.out.1, by rw [heap_setCells_other _ _ (fun e => HGB.out.2 e.symm)]; exact HS9.out.2⟩
    have HP10 := hide (HPut.out _ HB9.out)
    refine hd_call 17 (o := ⟨none, _, _, _, _, _⟩) (by kernel_rfl) rfl (by rfl) (fun K' hK => ?_)
    refine wp_storeT (t := 30) (qtL (r.pd.less q)) infoQ (qtL_one _) _ _ rfl g (i' * 25 + 22) rfl rfl HT9.out ?_
    refine hK _ _ HS10.out ?_
    clear hK K'
    try simp only [Act.put]
    refine wpAnyH_done (by kernel_rfl) ?_ _
    generalize w9.setCells g (i' * 25 + 22) (qtL (r.pd.less q)) = w10 at *
    clear HS9 HS10 HT9 HB9 HX9
    go_wp2
    go_ret
    exact ⟨rfl, HP10.out.1, HP10.out.2⟩
  · obtain ⟨r', hr'⟩ := HEx.out
    exact absurd hr' (hno n r' rfl)
end
end Go.Proofs.YtbocpmcodlceoaaGreat
