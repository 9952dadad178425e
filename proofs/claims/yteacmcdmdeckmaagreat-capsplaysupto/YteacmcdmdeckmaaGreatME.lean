import Derived.Test.YteacmcdmdeckmaaGreatV1
import Derived.Test.YteacmcdmdeckmaaGreatMB
import Derived.Test.YteacmcdmdeckmaaGreatMD
namespace Go.Proofs.YteacmcdmdeckmaaGreat
open Go.RowKit

theorem own_type {W : World} {b1 b2 e1 e2 s1 s2 n1 n2 : Nat} {v1 v2 : Value} {x1 x2 : List Value} (h1 : W.ownsRow b1 e1 s1 v1 n1 x1) (h2 : W.ownsRow b2 e2 s2 v2 n2 x2) (hne : e1 ≠ e2) {b : Nat} (hb : v1.ownBlock = some b) : v2.ownBlock ≠ some b := by
  intro hb2
  obtain ⟨_, ⟨rfl, _⟩ | ⟨g, cap, cur, rfl, _, hg, _⟩⟩ := h1
  · simp [Value.ownBlock] at hb
  · obtain ⟨_, ⟨rfl, _⟩ | ⟨g', cap', cur', rfl, _, hg', _⟩⟩ := h2
    · simp [Value.ownBlock] at hb2
    · simp [Value.ownBlock] at hb hb2
      subst hb; subst hb2
      rw [hg] at hg'
      simp at hg'
      exact hne hg'.2
/-- one row grows, another of another kind stays -/
theorem keep_two {wr w2 : World} {b1 b2 e1 e2 s1 s2 n1 n2 : Nat} {v1 v2 : Value} {x1 x2 : List Value} {o : Obj} (h1 : wr.ownsRow b1 e1 s1 v1 n1 x1) (h2 : wr.ownsRow b2 e2 s2 v2 n2 x2) (hne : e2 ≠ e1) (hg : (wr.alloc o).grownBy w2 v1.ownBlock) : w2.ownsRow b2 e2 s2 v2 n2 x2 := by
  refine ownsRow_keep h2 (fun b hb => ?_)
  have hlt := ownsRow_lt h2 hb
  rw [hg.block b (by simp; omega) (fun e => own_type h2 h1 hne hb e.symm), Below.heap_alloc _ _ _ hlt]
def cin (ps : List (Nat × Nat)) (x : Rw) : Bool := decide (x.1 ∈ ps)
def cout (ps : List (Nat × Nat)) (x : Rw) : Bool := !cin ps x
theorem cin_next {K T : List Rw} {k : Nat} {ps : List (Nat × Nat)} {y : Rw} (hT : K.take (k + 1) = T ++ [y]) (hin : y.1 ∈ ps) : (K.take (k + 1)).filter (cin ps) = T.filter (cin ps) ++ [y] ∧ (K.take (k + 1)).filter (cout ps) = T.filter (cout ps) := by
  rw [hT, List.filter_append, List.filter_append]
  simp [cin, cout, hin]
theorem cout_next {K T : List Rw} {k : Nat} {ps : List (Nat × Nat)} {y : Rw} (hT : K.take (k + 1) = T ++ [y]) (hin : y.1 ∉ ps) : (K.take (k + 1)).filter (cin ps) = T.filter (cin ps) ∧ (K.take (k + 1)).filter (cout ps) = T.filter (cout ps) ++ [y] := by
  rw [hT, List.filter_append, List.filter_append]
  simp [cin, cout, hin]
def Cuts (bk : List (Option Lst)) (ps : List (Nat × Nat)) : Prop := ps.Pairwise PLt ∧ ∀ p ∈ ps, ∃ r, atB bk (p.1 : Int) (p.2 : Int) = some r
theorem Ag.gone {bk : List (Option Lst)} {K : List Rw} (h : Ag bk K) {ps : List (Nat × Nat)} (hp : Cuts bk ps) : K.filter (cin ps) = rws bk ps := by
  refine uniq _ _ (filt_srt _ h.srt) (rws_srt hp.1) (fun x => ?_)
  obtain ⟨⟨a, b⟩, r⟩ := x
  rw [List.mem_filter, mem_rws, h.mem]
  simp only [cin, decide_eq_true_eq]
  exact And.comm
theorem Ag.cut {bk : List (Option Lst)} {K : List Rw} (h : Ag bk K) {ps : List (Nat × Nat)} (hp : Cuts bk ps) : Ag (rmv bk ps) (K.filter (cout ps)) := by
  refine ⟨filt_srt _ h.srt, fun a b r => ?_⟩
  rw [(rmv_at ps bk (hp.1.imp PLt.ne) hp.2).2 a b, List.mem_filter, h.mem]
  by_cases hin : (a, b) ∈ ps
  · rw [if_pos hin]; simp [cout, cin, hin]
  · rw [if_neg hin]; simp [cout, cin, hin]
section
variable {w : World} {R : Nat} {bk bk' : List (Option Lst)} {F : Nat → Prop} {v : Value} {K : List Rw}
theorem cut_fin {w1 wr : World} {L n m : Nat} {gv lv : Value} {ps : List (Nat × Nat)} (h : RbAt w1 R v bk K) (ha : Ag bk K) (he : ∀ b, F b ↔ b = R ∨ v.ownBlock = some b) (hL : K.length = L) (hp : Cuts bk ps) (hi : n = ((K.take L).filter (cin ps)).length ∧ m = ((K.take L).filter (cout ps)).length ∧ Below w1.heap.size w1 wr ∧ wr.ownsRow w1.heap.size 78 6 gv n (encG ((K.take L).filter (cin ps))) ∧ wr.ownsRow w1.heap.size 60 8 lv m (encW ((K.take L).filter (cout ps)))) (hr : RbAt wr R v bk K) :
    ∃ F', (wr.setCell ⟨R, 16, none⟩ lv).ownsRow w1.heap.size 78 6 gv ps.length (encT bk ps) ∧ RbA R (rmv bk ps) (wr.setCell ⟨R, 16, none⟩ lv) F' ∧ Ext F w1 F' (wr.setCell ⟨R, 16, none⟩ lv) := by
  obtain ⟨q1, q2, q3, q4, q5⟩ := hi
  have hT : K.take L = K := List.take_of_length_le (by omega)
  rw [hT] at q1 q2 q4 q5
  subst q2
  have hlt := h.lt
  have hfl : flg (rmv bk ps) = flg bk := flg_shape (rmv_at ps bk (hp.1.imp PLt.ne) hp.2).1
  refine ⟨fun b => b = R ∨ lv.ownBlock = some b, ?_, ⟨lv, _, hr.setRows (w := w1) hfl q5 hlt, ha.cut hp, fun b => Iff.rfl⟩, (Mod.of_below q3).setCell (.inl ((he R).2 (.inl rfl))) _, ?_⟩
  · have e1 : n = ps.length := by rw [q1, ha.gone hp]; exact rws_len hp.2
    rw [e1, ha.gone hp, ← encT_rws] at q4
    exact ownsRow_keep q4 (fun b hb => heap_setCell_other _ _ _ _ (fun e => by
      have := (World.ownsRow.lt q4 b hb).1
      have e2 : b = R := e
      omega))
  · rintro b (e | e)
    · exact .inl ((he b).2 (.inl e))
    · exact .inr (World.ownsRow.lt q5 b e).1
set_option maxRecDepth 100000 in
set_option maxHeartbeats 6400000 in
theorem purgeD_any (h : RbA R bk w F) (hw : Wb bk) (ko oo : Int) (ps : List (Nat × Nat)) (hps : ps = pls (fun r => decide (r.k = ko) && decide (r.o = oo)) bk) : Calls Tryz.prog 62 #[tp R, .int .i64 ko, .int .i64 oo] w fun x w' => ∃ u F', x = .returned u ∧ w'.ownsRow w.heap.size 78 6 u ps.length (encT bk ps) ∧ RbA R (rmv bk ps) w' F' ∧ Ext F w F' w' := by
  obtain ⟨i6, hi6, hz6, hs6, hb6⟩ := info54'
  obtain ⟨i8, hi8, hz8, hs8, hb8⟩ := infoRow
  obtain ⟨v, K, h, ha, he⟩ := h
  have HP : Hid (Cuts bk ps) := hide (by
    rw [hps]
    refine ⟨pls_sorted _ bk, fun p hp => ?_⟩
    obtain ⟨r, hr, _⟩ := mem_pls.1 (show (p.1, p.2) ∈ _ from hp)
    exact ⟨r, hr⟩)
  have HI : Hid (∀ a b r, ((a, b), r) ∈ K → ((a, b) ∈ ps ↔ r.k = ko ∧ r.o = oo)) := hide (fun a b r hm => by
    rw [hps, mem_pls, (ha.mem a b r).1 hm]
    simp)
  have HR := hide h
  have HA := hide ha
  have HE := hide he
  have hl := ha.len hw.p8
  obtain ⟨a, c, hv⟩ := h.shape
  obtain ⟨L, hL⟩ : ∃ L, K.length = L := ⟨_, rfl⟩
  rw [hL] at hv hl
  have HL := hide hL
  subst hv
  clear h hL hw ha he hps
  go_enter Tryz.func62, Tryz.ntmps62
  go_wp2
  go_loopw [7, 8, 9] (fun gv lv x wr => ∃ k : Nat, k ≤ L ∧ x = .int .i64 (k : Int) ∧ ∃ (n : Nat) (a2 : Option Addr) (c2 : Nat), gv = .slice a2 n c2 ∧ ∃ (m : Nat) (a3 : Option Addr) (c3 : Nat), lv = .slice a3 m c3 ∧ n + m ≤ k ∧ Hid (n = ((K.take k).filter (cin ps)).length ∧ m = ((K.take k).filter (cout ps)).length ∧ Below w.heap.size w wr ∧ wr.ownsRow w.heap.size 78 6 (.slice a2 n c2) n (encG ((K.take k).filter (cin ps))) ∧ wr.ownsRow w.heap.size 60 8 (.slice a3 m c3) m (encW ((K.take k).filter (cout ps))))) (fun _ _ x _ => L - (intOf x).toNat)
  case atStart => exact ⟨0, by omega, rfl, 0, none, 0, rfl, 0, none, 0, rfl, by omega, hide ⟨by simp, by simp, Below.refl _ _, World.ownsRow_nil _ _ _ _, World.ownsRow_nil _ _ _ _⟩⟩
  case round =>
  obtain ⟨k, hk, rfl, n, a2, c2, rfl, m, a3, c3, rfl, hn, KK⟩ := hrel
  have hRr := HR.out.below KK.out.2.2.1
  have c16 := hRr.rowc
  by_cases hlt : k < L
  · have hd : decide ((k : Int) < (L : Int)) = true := by simp; omega
    have hki : (k : Int) < (L : Int) := by omega
    obtain ⟨⟨⟨ya, yb⟩, yr⟩, hy⟩ : ∃ y, K[k]? = some y := ⟨_, List.getElem?_eq_getElem (by rw [HL.out]; exact hlt)⟩
    obtain ⟨g, c', hv, hrow⟩ := hRr.at hy
    rw [HL.out] at hv
    cases hv
    obtain ⟨r0, r1, r2, r3, r4, r5, r6, r7⟩ := hrow
    simp only at r0 r1 r2 r3 r4 r5 r6 r7
    have HT := hide (take_get hy)
    have HM := hide (List.mem_of_getElem? hy)
    have hiff := HI.out ya yb yr HM.out
    clear hRr hy
    by_cases t1 : yr.k = ko
    · have t1' : (yr.k == ko) = true := by simp [t1]
      by_cases t2 : yr.o = oo
      · have t2' : (yr.o == oo) = true := by simp [t2]
        have hin : (ya, yb) ∈ ps := hiff.2 ⟨t1, t2⟩
        have HF : Hid ((K.take (k + 1)).filter (cin ps) = (K.take k).filter (cin ps) ++ [((ya, yb), yr)] ∧ (K.take (k + 1)).filter (cout ps) = (K.take k).filter (cout ps)) := hide (cin_next HT.out hin)
        clear t1 t2 hiff hin
        go_wp2_with fail
        refine (heldR_any _ (ya : Int) (yb : Int) yr).mono ?_
        rintro e1 w2 ⟨rfl, hb2⟩
        obtain ⟨q1, q2, q3, q4, q5⟩ := KK.out
        have HO2 : Hid (w2.ownsRow w.heap.size 78 6 (.slice a2 n c2) n (encG ((K.take k).filter (cin ps)))) := hide (ownsRow_keep q4 (fun b hb' => hb2.block b (ownsRow_lt q4 hb')))
        have HO3 : Hid (w2.ownsRow w.heap.size 60 8 (.slice a3 m c3) m (encW ((K.take k).filter (cout ps)))) := hide (ownsRow_keep q5 (fun b hb' => hb2.block b (ownsRow_lt q5 hb')))
        have HB2 := hide (q3.trans (hb2.mono q3.size))
        have HN := hide (And.intro q1 q2)
        clear hb2 q1 q2 q3 q4 q5 KK
        go_upto_region 5 with (at_builtin; refine wpList_append_own _ rfl _ _ 52 rfl w.heap.size 78 i6 (.agg #[.int .i64 0, .int .i64 0, .int .i64 0, .int .i64 0, .int .i64 0, .int .i64 0]) 6 48 Tryz.underlying52 hi6 hz6 hs6 hb6 rfl (by decide) _ n (encG ((K.take k).filter (cin ps))) rfl (HO2.out.alloc _) ⟨w2.heap.size, 0, none⟩ 1 1 [.int .i64 (ya : Int), .int .i64 (yb : Int), .int .i64 yr.k, .int .i64 yr.o, .int .i64 yr.s, .int .i64 yr.r] rfl rfl ?p1 ?p2 ?p3 ?p4 ?p5 ?_)
        case p1 => exact cell_list_new _ _ [.int .i64 (ya : Int), .int .i64 (yb : Int), .int .i64 yr.k, .int .i64 yr.o, .int .i64 yr.s, .int .i64 yr.r]
        case p2 => simp [Value.oneCell']
        case p3 => unfold maxLen; omega
        case p4 => omega
        case p5 => have := HB2.out.size; simp; omega
        intro v3 w3 hown3 hg3 _
        obtain ⟨hb3, _⟩ := grew_keep HB2.out HO2.out (Nat.le_refl _) hg3
        have hother := keep_two HO2.out HO3.out (by decide) hg3
        obtain ⟨a4, c4, rfl⟩ := own_shape hown3
        have HEnd : Hid ((n + 1) = ((K.take (k + 1)).filter (cin ps)).length ∧ m = ((K.take (k + 1)).filter (cout ps)).length ∧ Below w.heap.size w w3 ∧ w3.ownsRow w.heap.size 78 6 (.slice a4 (n + 1) c4) (n + 1) (encG ((K.take (k + 1)).filter (cin ps))) ∧ w3.ownsRow w.heap.size 60 8 (.slice a3 m c3) m (encW ((K.take (k + 1)).filter (cout ps)))) := hide ⟨by rw [HF.out.1, List.length_append, ← HN.out.1]; rfl, by rw [HF.out.2]; exact HN.out.2, hb3, by rw [HF.out.1, encG_app]; exact hown3, by rw [HF.out.2]; exact hother⟩
        clear hown3 hg3 hb3 HO2 HO3 HB2 hother r0 r1 r2 r3 r4 r5 r6 r7 c16
        go_wp2
        go_roundw
        case rel => first | exact ⟨k + 1, by omega, by go_num, n + 1, a4, c4, rfl, m, a3, c3, rfl, by omega, HEnd⟩ | ((repeat apply Exists.intro); refine ⟨?_, rfl⟩; exact ⟨k + 1, by omega, by go_num, n + 1, a4, c4, rfl, m, a3, c3, rfl, by omega, HEnd⟩)
        case measure => simp [intOf]; omega
      · have t2' : (yr.o == oo) = false := by rw [beq_eq_false_iff_ne]; exact t2
        have hin : (ya, yb) ∉ ps := fun hq => t2 (hiff.1 hq).2
        have HF : Hid ((K.take (k + 1)).filter (cin ps) = (K.take k).filter (cin ps) ∧ (K.take (k + 1)).filter (cout ps) = (K.take k).filter (cout ps) ++ [((ya, yb), yr)]) := hide (cout_next HT.out hin)
        clear t1 t2 hiff hin
        obtain ⟨q1, q2, q3, q4, q5⟩ := KK.out
        have HO2 := hide q4
        have HO3 := hide q5
        have HB2 := hide q3
        have HN := hide (And.intro q1 q2)
        clear q1 q2 q3 q4 q5 KK
        go_upto_region 5 with (at_builtin; refine wpList_append_own _ rfl _ _ 41 rfl w.heap.size 60 i8 (.agg #[.int .i64 0, .int .i64 0, .int .i64 0, .int .i64 0, .int .i64 0, .int .i64 0, .int .i64 0, .int .i64 0]) 8 64 Tryz.underlying41 hi8 hz8 hs8 hb8 rfl (by decide) _ m (encW ((K.take k).filter (cout ps))) rfl (HO3.out.alloc _) ⟨wr.heap.size, 0, none⟩ 1 1 [.int .i64 (ya : Int), .int .i64 (yb : Int), .int .i64 yr.k, .int .i64 yr.o, .int .i64 yr.s, .int .i64 yr.r, .int .i64 yr.e, .int .i64 yr.t] rfl rfl ?q1 ?q2 ?q3 ?q4 ?q5 ?_)
        case q1 => exact cell_list_new _ _ [.int .i64 (ya : Int), .int .i64 (yb : Int), .int .i64 yr.k, .int .i64 yr.o, .int .i64 yr.s, .int .i64 yr.r, .int .i64 yr.e, .int .i64 yr.t]
        case q2 => simp [Value.oneCell']
        case q3 => unfold maxLen; omega
        case q4 => omega
        case q5 => have := HB2.out.size; simp; omega
        intro v3 w3 hown3 hg3 _
        obtain ⟨hb3, _⟩ := grew_keep HB2.out HO3.out (Nat.le_refl _) hg3
        have hother := keep_two HO3.out HO2.out (by decide) hg3
        obtain ⟨a4, c4, rfl⟩ := own_shape hown3
        have HEnd : Hid (n = ((K.take (k + 1)).filter (cin ps)).length ∧ (m + 1) = ((K.take (k + 1)).filter (cout ps)).length ∧ Below w.heap.size w w3 ∧ w3.ownsRow w.heap.size 78 6 (.slice a2 n c2) n (encG ((K.take (k + 1)).filter (cin ps))) ∧ w3.ownsRow w.heap.size 60 8 (.slice a4 (m + 1) c4) (m + 1) (encW ((K.take (k + 1)).filter (cout ps)))) := hide ⟨by rw [HF.out.1]; exact HN.out.1, by rw [HF.out.2, List.length_append, ← HN.out.2]; rfl, hb3, by rw [HF.out.1]; exact hother, by rw [HF.out.2, encW_app]; exact hown3⟩
        clear hown3 hg3 hb3 HO2 HO3 HB2 hother r0 r1 r2 r3 r4 r5 r6 r7 c16
        go_wp2
        go_roundw
        case rel => first | exact ⟨k + 1, by omega, by go_num, n, a2, c2, rfl, m + 1, a4, c4, rfl, by omega, HEnd⟩ | ((repeat apply Exists.intro); refine ⟨?_, rfl⟩; exact ⟨k + 1, by omega, by go_num, n, a2, c2, rfl, m + 1, a4, c4, rfl, by omega, HEnd⟩)
        case measure => simp [intOf]; omega
    · have t1' : (yr.k == ko) = false := by rw [beq_eq_false_iff_ne]; exact t1
      have hin : (ya, yb) ∉ ps := fun hq => t1 (hiff.1 hq).1
      have HF : Hid ((K.take (k + 1)).filter (cin ps) = (K.take k).filter (cin ps) ∧ (K.take (k + 1)).filter (cout ps) = (K.take k).filter (cout ps) ++ [((ya, yb), yr)]) := hide (cout_next HT.out hin)
      clear t1 hiff hin
      obtain ⟨q1, q2, q3, q4, q5⟩ := KK.out
      have HO2 := hide q4
      have HO3 := hide q5
      have HB2 := hide q3
      have HN := hide (And.intro q1 q2)
      clear q1 q2 q3 q4 q5 KK
      go_upto_region 5 with (at_builtin; refine wpList_append_own _ rfl _ _ 41 rfl w.heap.size 60 i8 (.agg #[.int .i64 0, .int .i64 0, .int .i64 0, .int .i64 0, .int .i64 0, .int .i64 0, .int .i64 0, .int .i64 0]) 8 64 Tryz.underlying41 hi8 hz8 hs8 hb8 rfl (by decide) _ m (encW ((K.take k).filter (cout ps))) rfl (HO3.out.alloc _) ⟨wr.heap.size, 0, none⟩ 1 1 [.int .i64 (ya : Int), .int .i64 (yb : Int), .int .i64 yr.k, .int .i64 yr.o, .int .i64 yr.s, .int .i64 yr.r, .int .i64 yr.e, .int .i64 yr.t] rfl rfl ?s1 ?s2 ?s3 ?s4 ?s5 ?_)
      case s1 => exact cell_list_new _ _ [.int .i64 (ya : Int), .int .i64 (yb : Int), .int .i64 yr.k, .int .i64 yr.o, .int .i64 yr.s, .int .i64 yr.r, .int .i64 yr.e, .int .i64 yr.t]
      case s2 => simp [Value.oneCell']
      case s3 => unfold maxLen; omega
      case s4 => omega
      case s5 => have := HB2.out.size; simp; omega
      intro v3 w3 hown3 hg3 _
      obtain ⟨hb3, _⟩ := grew_keep HB2.out HO3.out (Nat.le_refl _) hg3
      have hother := keep_two HO3.out HO2.out (by decide) hg3
      obtain ⟨a4, c4, rfl⟩ := own_shape hown3
      have HEnd : Hid (n = ((K.take (k + 1)).filter (cin ps)).length ∧ (m + 1) = ((K.take (k + 1)).filter (cout ps)).length ∧ Below w.heap.size w w3 ∧ w3.ownsRow w.heap.size 78 6 (.slice a2 n c2) n (encG ((K.take (k + 1)).filter (cin ps))) ∧ w3.ownsRow w.heap.size 60 8 (.slice a4 (m + 1) c4) (m + 1) (encW ((K.take (k + 1)).filter (cout ps)))) := hide ⟨by rw [HF.out.1]; exact HN.out.1, by rw [HF.out.2, List.length_append, ← HN.out.2]; rfl, hb3, by rw [HF.out.1]; exact hother, by rw [HF.out.2, encW_app]; exact hown3⟩
      clear hown3 hg3 hb3 HO2 HO3 HB2 hother r0 r1 r2 r3 r4 r5 r6 r7 c16
      go_wp2
      go_roundw
      case rel => first | exact ⟨k + 1, by omega, by go_num, n, a2, c2, rfl, m + 1, a4, c4, rfl, by omega, HEnd⟩ | ((repeat apply Exists.intro); refine ⟨?_, rfl⟩; exact ⟨k + 1, by omega, by go_num, n, a2, c2, rfl, m + 1, a4, c4, rfl, by omega, HEnd⟩)
      case measure => simp [intOf]; omega
  · obtain rfl : k = L := by omega
    have hd : decide ((k : Int) < (k : Int)) = false := by simp
    have f16 := hRr.frz 16
    have HEnd : Hid (∃ F', (wr.setCell ⟨R, 16, none⟩ (.slice a3 m c3)).ownsRow w.heap.size 78 6 (.slice a2 n c2) ps.length (encT bk ps) ∧ RbA R (rmv bk ps) (wr.setCell ⟨R, 16, none⟩ (.slice a3 m c3)) F' ∧ Ext F w F' (wr.setCell ⟨R, 16, none⟩ (.slice a3 m c3))) := hide (cut_fin HR.out HA.out HE.out HL.out HP.out KK.out hRr)
    clear hRr KK
    go_wp2
    go_ret
    obtain ⟨F', q1, q2, q3⟩ := HEnd.out
    exact ⟨_, F', rfl, q1, q2, q3⟩
end
end Go.Proofs.YteacmcdmdeckmaaGreat

namespace Go.Proofs.YteacmcdmdeckmaaGreat
open Go.RowKit

theorem bel_step {bk : List (Option Lst)} {n : Nat} {p : Nat × Nat} (hd : Dep n bk p) {a b : Nat} {r : Rc} (hx : atB bk (a : Int) (b : Int) = some r) : (a, b) ∈ bel n bk p ↔ ∃ q : Nat × Nat, r.e = (q.1 : Int) ∧ r.t = (q.2 : Int) ∧ (q = p ∨ q ∈ bel n bk p) := by
  constructor
  · intro h
    obtain ⟨r', q, h1, h2, h3, h4⟩ := bel_up n h
    rw [hx] at h1; cases h1
    exact ⟨q, h2, h3, h4⟩
  · rintro ⟨q, h1, h2, h3⟩
    have hm : (a, b) ∈ pls (chP q.1 q.2) bk := mem_pls.2 ⟨r, hx, by simp [chP, h1, h2]⟩
    rcases h3 with rfl | h3
    · cases n with
      | zero => exact hd.elim
      | succ n => exact List.mem_flatMap.2 ⟨(a, b), hm, List.mem_cons_self ..⟩
    · exact bel_child n hd h3 hm
/-- the places that were gone through -/
def Gone (f : Int → Int → Nat) (K : List Rw) (k ca cb : Nat) : Prop := ∃ vs : List (Nat × Nat), vs.length = k ∧ vs.Nodup ∧ (∀ q ∈ vs, q ∈ K.map (·.1)) ∧ ∀ q ∈ vs, f (ca : Int) (cb : Int) < f (q.1 : Int) (q.2 : Int)
theorem Gone.lt {f : Int → Int → Nat} {K : List Rw} {k ca cb : Nat} (h : Gone f K k ca cb) {i : Nat} {r : Rc} (hi : K[i]? = some ((ca, cb), r)) : k < K.length := by
  obtain ⟨vs, h1, h2, h3, h4⟩ := h
  have := nodup_le ((ca, cb) :: vs) (K.map (·.1)) (List.nodup_cons.2 ⟨fun hm => absurd (h4 _ hm) (Nat.lt_irrefl _), h2⟩) (fun x hx => by
    rcases List.mem_cons.1 hx with rfl | hx
    · exact List.mem_map.2 ⟨_, List.mem_of_getElem? hi, rfl⟩
    · exact h3 x hx)
  simp at this
  omega
theorem Gone.next {f : Int → Int → Nat} {K : List Rw} {k ca cb da db : Nat} (h : Gone f K k ca cb) {i : Nat} {r : Rc} (hi : K[i]? = some ((ca, cb), r)) (hlt : f (da : Int) (db : Int) < f (ca : Int) (cb : Int)) : Gone f K (k + 1) da db := by
  obtain ⟨vs, h1, h2, h3, h4⟩ := h
  refine ⟨(ca, cb) :: vs, by simp [h1], List.nodup_cons.2 ⟨fun hm => absurd (h4 _ hm) (Nat.lt_irrefl _), h2⟩, fun x hx => ?_, fun x hx => ?_⟩
  · rcases List.mem_cons.1 hx with rfl | hx
    · exact List.mem_map.2 ⟨_, List.mem_of_getElem? hi, rfl⟩
    · exact h3 x hx
  · rcases List.mem_cons.1 hx with rfl | hx
    · exact hlt
    · exact Nat.lt_trans hlt (h4 x hx)
section
variable {w : World} {R : Nat} {bk bk' : List (Option Lst)} {F : Nat → Prop} {v : Value} {K : List Rw}
set_option maxRecDepth 100000 in
set_option maxHeartbeats 3200000 in
theorem belowD_any (h : RbAt w R v bk K) (ha : Ag bk K) (hw : Wb bk) {f : Int → Int → Nat} (hf : Rk bk f) {N : Nat} (p : Nat × Nat) (hd : Dep N bk p) (i a b : Nat) (r : Rc) (hi : K[i]? = some ((a, b), r)) : Calls Tryz.prog 87 #[tp R, .int .i64 (i : Int), .agg #[.int .i64 (p.1 : Int), .int .i64 (p.2 : Int)]] w fun x w' => x = .returned (.bool (decide ((a, b) ∈ bel N bk p))) ∧ Below w.heap.size w w' := by
  have HR := hide h
  have HA := hide ha
  have HRk := hide hf
  have HD := hide hd
  have HW := hide hw
  have hl := ha.len hw.p8
  obtain ⟨aa, c, hv⟩ := h.shape
  obtain ⟨L, hL⟩ : ∃ L, K.length = L := ⟨_, rfl⟩
  rw [hL] at hv hl
  have HL := hide hL
  subst hv
  have HSt : Hid (∃ ca cb cr, K[i]? = some ((ca, cb), cr) ∧ ((a, b) ∈ bel N bk p ↔ (ca, cb) ∈ bel N bk p) ∧ Gone f K 0 ca cb) := hide ⟨a, b, r, hi, Iff.rfl, [], rfl, List.nodup_nil, by simp, by simp⟩
  clear h hL hw ha hf hd hi
  go_enter Tryz.func87, Tryz.ntmps87
  go_wp2
  go_loopw [1, 7] (fun iv x wr => ∃ k j : Nat, x = .int .i64 (k : Int) ∧ iv = .int .i64 (j : Int) ∧ Hid (∃ ca cb cr, K[j]? = some ((ca, cb), cr) ∧ ((a, b) ∈ bel N bk p ↔ (ca, cb) ∈ bel N bk p) ∧ Gone f K k ca cb) ∧ Hid (Below w.heap.size w wr ∧ wr.heap[w.heap.size]? = some (.cells #[.int .i64 (p.1 : Int), .int .i64 (p.2 : Int)] 48 (0, 0)))) (fun _ x _ => L - (intOf x).toNat)
  case atStart => exact ⟨0, i, rfl, rfl, HSt, hide ⟨(Below.refl _ _).alloc (Nat.le_refl _) _, heap_alloc_last _ _⟩⟩
  case round =>
  obtain ⟨k, j, rfl, rfl, HC, KK⟩ := hrel
  have hRr := HR.out.below KK.out.1
  have c16 := hRr.rowc
  obtain ⟨ca, cb, cr, hj, hiff, hg⟩ := HC.out
  have hkl := hg.lt hj
  have hjl := (List.getElem?_eq_some_iff.1 hj).1
  rw [HL.out] at hkl hjl
  have hki : (k : Int) < (L : Int) := by omega
  have hd1 : decide ((k : Int) < (L : Int)) = true := by simp; omega
  have hji : (j : Int) < (L : Int) := by omega
  obtain ⟨g, c', hv, hrow⟩ := hRr.at hj
  rw [HL.out] at hv
  cases hv
  have r6 := hrow.c6
  have r7 := hrow.c7
  simp only at r6 r7
  have b0 : wr.cell? ⟨w.heap.size, 0, none⟩ = some (.int .i64 (p.1 : Int)) := by rw [cell_of_row _ _ _ _ _ _ KK.out.2]; rfl
  have b1 : wr.cell? ⟨w.heap.size, 1, none⟩ = some (.int .i64 (p.2 : Int)) := by rw [cell_of_row _ _ _ _ _ _ KK.out.2]; rfl
  have HAt := hide (HA.out.get hj)
  have HG := hide hg
  have HIf := hide hiff
  have HJ := hide hj
  obtain ⟨Br, hBr⟩ : ∃ B, B = wr.heap.size := ⟨_, rfl⟩
  have hsz0 := (Array.getElem?_eq_some_iff.1 KK.out.2).1
  have hba := (Below.refl wr.heap.size wr).alloc (Nat.le_refl _) (.cells #[.int .i64 cr.e, .int .i64 cr.t] 48)
  have hyb : (wr.alloc (.cells #[.int .i64 cr.e, .int .i64 cr.t] 48)).heap[Br]? = some (.cells #[.int .i64 cr.e, .int .i64 cr.t] 48 (0, 0)) := by rw [hBr]; exact heap_alloc_last _ _
  have HBB : Hid (Below w.heap.size w (wr.alloc (.cells #[.int .i64 cr.e, .int .i64 cr.t] 48)) ∧ (wr.alloc (.cells #[.int .i64 cr.e, .int .i64 cr.t] 48)).heap[w.heap.size]? = some (.cells #[.int .i64 (p.1 : Int), .int .i64 (p.2 : Int)] 48 (0, 0))) := hide ⟨KK.out.1.trans (hba.mono KK.out.1.size), by rw [hba.block _ hsz0]; exact KK.out.2⟩
  clear hRr hrow hba hsz0 hj hiff hg HC KK b0 b1
  go_upto_region 5 with fail
  rw [← hBr]
  generalize wr.alloc (.cells #[.int .i64 cr.e, .int .i64 cr.t] 48) = W1 at *
  clear hBr r6 r7 c16
  have y0 : W1.cell? ⟨Br, 0, none⟩ = some (.int .i64 cr.e) := by rw [cell_of_row _ _ _ _ _ _ hyb]; rfl
  have y1 : W1.cell? ⟨Br, 1, none⟩ = some (.int .i64 cr.t) := by rw [cell_of_row _ _ _ _ _ _ hyb]; rfl
  have b0 : W1.cell? ⟨w.heap.size, 0, none⟩ = some (.int .i64 (p.1 : Int)) := by rw [cell_of_row _ _ _ _ _ _ HBB.out.2]; rfl
  have b1 : W1.cell? ⟨w.heap.size, 1, none⟩ = some (.int .i64 (p.2 : Int)) := by rw [cell_of_row _ _ _ _ _ _ HBB.out.2]; rfl
  by_cases t1 : cr.e = (p.1 : Int)
  · have t1' : (cr.e == (p.1 : Int)) = true := by simp [t1]
    by_cases t2 : cr.t = (p.2 : Int)
    · have t2' : (cr.t == (p.2 : Int)) = true := by simp [t2]
      have HRes : Hid (decide ((a, b) ∈ bel N bk p) = true) := hide (by
        rw [decide_eq_true_eq, HIf.out, bel_step HD.out HAt.out]
        exact ⟨p, t1, t2, .inl rfl⟩)
      clear t1 t2 hyb
      go_wp2
      go_ret
      exact ⟨by rw [HRes.out]; rfl, HBB.out.1⟩
    · have t2' : (cr.t == (p.2 : Int)) = false := by rw [beq_eq_false_iff_ne]; exact t2
      have hne : ¬ (cr.e = (p.1 : Int) ∧ cr.t = (p.2 : Int)) := fun h => t2 h.2
      have HNo : Hid ((a, b) ∈ bel N bk p ↔ ∃ q : Nat × Nat, cr.e = (q.1 : Int) ∧ cr.t = (q.2 : Int) ∧ q ∈ bel N bk p) := hide (by
        rw [HIf.out, bel_step HD.out HAt.out]
        constructor
        · rintro ⟨q, h1, h2, rfl | h3⟩
          · exact absurd ⟨h1, h2⟩ hne
          · exact ⟨q, h1, h2, h3⟩
        · rintro ⟨q, h1, h2, h3⟩
          exact ⟨q, h1, h2, .inr h3⟩)
      clear t1 t2 hne
      go_wp2_with fail
      refine (atb_any (HR.out.below HBB.out.1) HA.out HW.out.p8 cr.e cr.t).mono ?_
      rintro e1 w2 ⟨hb2, ⟨j2, a2, b2, r2, rfl, hj2, he2, hs2, hat2⟩ | ⟨rfl, hno⟩⟩
      · have hsz1 := (Array.getElem?_eq_some_iff.1 HBB.out.2).1
        have HN2 : Hid (∃ ca cb cr, K[j2]? = some ((ca, cb), cr) ∧ ((a, b) ∈ bel N bk p ↔ (ca, cb) ∈ bel N bk p) ∧ Gone f K (k + 1) ca cb) := hide (by
          refine ⟨a2, b2, r2, hj2, ?_, ?_⟩
          · rw [HNo.out]
            constructor
            · rintro ⟨q, h1, h2, h3⟩
              rw [he2] at h1; rw [hs2] at h2
              have e1 : q = (a2, b2) := Prod.ext (by simp; omega) (by simp; omega)
              rw [← e1]; exact h3
            · exact fun h3 => ⟨(a2, b2), he2, hs2, h3⟩
          · refine HG.out.next HJ.out ?_
            rcases HRk.out _ _ _ HAt.out with ⟨h1, _⟩ | ⟨_, h2⟩
            · rw [he2] at h1; omega
            · rw [he2, hs2] at h2; exact h2)
        have HE2 : Hid (Below w.heap.size w w2 ∧ w2.heap[w.heap.size]? = some (.cells #[.int .i64 (p.1 : Int), .int .i64 (p.2 : Int)] 48 (0, 0))) := hide ⟨HBB.out.1.trans (hb2.mono HBB.out.1.size), by rw [hb2.block _ hsz1]; exact HBB.out.2⟩
        have hneg : decide ((j2 : Int) < 0) = false := by simp
        clear hb2 hj2 he2 hs2 hat2 hsz1 y0 y1 b0 b1 hyb HBB
        go_wp2
        go_roundw
        case rel => first | exact ⟨k + 1, j2, by go_num, rfl, HN2, HE2⟩ | ((repeat apply Exists.intro); refine ⟨?_, rfl⟩; exact ⟨k + 1, j2, by go_num, rfl, HN2, HE2⟩)
        case measure => simp [intOf]; omega
      · have HRes : Hid (decide ((a, b) ∈ bel N bk p) = false) := hide (by
          rw [decide_eq_false_iff_not, HNo.out]
          rintro ⟨q, h1, h2, h3⟩
          obtain ⟨r', hr'⟩ := bel_mem _ h3
          rw [h1, h2, hr'] at hno
          cases hno)
        have HB2 := hide (HBB.out.1.trans (hb2.mono HBB.out.1.size))
        clear hb2 hno y0 y1 b0 b1 hyb HBB
        go_wp2
        go_ret
        exact ⟨by rw [HRes.out]; rfl, HB2.out⟩
  · have t1' : (cr.e == (p.1 : Int)) = false := by rw [beq_eq_false_iff_ne]; exact t1
    have hne : ¬ (cr.e = (p.1 : Int) ∧ cr.t = (p.2 : Int)) := fun h => t1 h.1
    have HNo : Hid ((a, b) ∈ bel N bk p ↔ ∃ q : Nat × Nat, cr.e = (q.1 : Int) ∧ cr.t = (q.2 : Int) ∧ q ∈ bel N bk p) := hide (by
      rw [HIf.out, bel_step HD.out HAt.out]
      constructor
      · rintro ⟨q, h1, h2, rfl | h3⟩
        · exact absurd ⟨h1, h2⟩ hne
        · exact ⟨q, h1, h2, h3⟩
      · rintro ⟨q, h1, h2, h3⟩
        exact ⟨q, h1, h2, .inr h3⟩)
    clear t1 hne
    go_wp2_with fail
    refine (atb_any (HR.out.below HBB.out.1) HA.out HW.out.p8 cr.e cr.t).mono ?_
    rintro e1 w2 ⟨hb2, ⟨j2, a2, b2, r2, rfl, hj2, he2, hs2, hat2⟩ | ⟨rfl, hno⟩⟩
    · have hsz1 := (Array.getElem?_eq_some_iff.1 HBB.out.2).1
      have HN2 : Hid (∃ ca cb cr, K[j2]? = some ((ca, cb), cr) ∧ ((a, b) ∈ bel N bk p ↔ (ca, cb) ∈ bel N bk p) ∧ Gone f K (k + 1) ca cb) := hide (by
        refine ⟨a2, b2, r2, hj2, ?_, ?_⟩
        · rw [HNo.out]
          constructor
          · rintro ⟨q, h1, h2, h3⟩
            rw [he2] at h1; rw [hs2] at h2
            have e1 : q = (a2, b2) := Prod.ext (by simp; omega) (by simp; omega)
            rw [← e1]; exact h3
          · exact fun h3 => ⟨(a2, b2), he2, hs2, h3⟩
        · refine HG.out.next HJ.out ?_
          rcases HRk.out _ _ _ HAt.out with ⟨h1, _⟩ | ⟨_, h2⟩
          · rw [he2] at h1; omega
          · rw [he2, hs2] at h2; exact h2)
      have HE2 : Hid (Below w.heap.size w w2 ∧ w2.heap[w.heap.size]? = some (.cells #[.int .i64 (p.1 : Int), .int .i64 (p.2 : Int)] 48 (0, 0))) := hide ⟨HBB.out.1.trans (hb2.mono HBB.out.1.size), by rw [hb2.block _ hsz1]; exact HBB.out.2⟩
      have hneg : decide ((j2 : Int) < 0) = false := by simp
      clear hb2 hj2 he2 hs2 hat2 hsz1 y0 y1 b0 b1 hyb HBB
      go_wp2
      go_roundw
      case rel => first | exact ⟨k + 1, j2, by go_num, rfl, HN2, HE2⟩ | ((repeat apply Exists.intro); refine ⟨?_, rfl⟩; exact ⟨k + 1, j2, by go_num, rfl, HN2, HE2⟩)
      case measure => simp [intOf]; omega
    · have HRes : Hid (decide ((a, b) ∈ bel N bk p) = false) := hide (by
        rw [decide_eq_false_iff_not, HNo.out]
        rintro ⟨q, h1, h2, h3⟩
        obtain ⟨r', hr'⟩ := bel_mem _ h3
        rw [h1, h2, hr'] at hno
        cases hno)
      have HB2 := hide (HBB.out.1.trans (hb2.mono HBB.out.1.size))
      clear hb2 hno y0 y1 b0 b1 hyb HBB
      go_wp2
      go_ret
      exact ⟨by rw [HRes.out]; rfl, HB2.out⟩
end
end Go.Proofs.YteacmcdmdeckmaaGreat

namespace Go.Proofs.YteacmcdmdeckmaaGreat
open Go.RowKit

section
variable {w : World} {R : Nat} {bk bk' : List (Option Lst)} {F : Nat → Prop} {v : Value} {K : List Rw}
set_option maxHeartbeats 3200000 in
theorem revokeD_none (h : RbA R bk w F) (hw : Wb bk) (e s : Int) (hn : atB bk e s = none) : Calls Tryz.prog 60 #[tp R, .int .i64 e, .int .i64 s] w fun x w' => x = .returned (.tuple #[.slice none 0 0, .int .i64 (lcode bk e s)]) ∧ Below w.heap.size w w' := by
  obtain ⟨v, K, h, ha, he⟩ := h
  have HL := hide (lookR_any h ha hw e s)
  obtain ⟨lc, hlc⟩ : ∃ lc, lcode bk e s = lc := ⟨_, rfl⟩
  rw [hlc] at HL
  rw [hlc]
  clear h ha he hw hlc
  go_enter Tryz.func60, Tryz.ntmps60
  go_wp2_with fail
  refine HL.out.mono ?_
  rintro e1 w1 ⟨hb1, ⟨i, a, b, r, -, _, _, _, hat, _⟩ | ⟨rfl, -, hcc⟩⟩
  · rw [hn] at hat; cases hat
  · have HB := hide hb1
    clear hb1 HL
    rcases hcc with rfl | rfl
    · go_wp2
      go_ret2
      exact ⟨rfl, HB.out⟩
    · go_wp2
      go_ret2
      exact ⟨rfl, HB.out⟩
set_option maxRecDepth 100000 in
set_option maxHeartbeats 6400000 in
theorem revokeD_some (h : RbA R bk w F) (hw : Wb bk) {f : Int → Int → Nat} (hf : Rk bk f) (i j : Nat) (r : Rc) (hn : atB bk (i : Int) (j : Int) = some r) {N : Nat} {ps : List (Nat × Nat)} (hd : Dep N bk (i, j)) (hp1 : ps.Pairwise PLt) (hp2 : List.Perm ps (bel N bk (i, j))) : Calls Tryz.prog 60 #[tp R, .int .i64 (i : Int), .int .i64 (j : Int)] w fun x w' => ∃ u F', x = .returned (.tuple #[u, .int .i64 0]) ∧ w'.ownsRow w.heap.size 78 6 u ps.length (encT bk ps) ∧ RbA R (rmv bk ps) w' F' ∧ Ext F w F' w' := by
  obtain ⟨i6, hi6, hz6, hs6, hb6⟩ := info54'
  obtain ⟨i8, hi8, hz8, hs8, hb8⟩ := infoRow
  obtain ⟨v, K, h, ha, he⟩ := h
  have HP : Hid (Cuts bk ps) := hide ⟨hp1, fun p hp => bel_mem _ (hp2.mem_iff.1 hp)⟩
  have HI : Hid (∀ q, q ∈ ps ↔ q ∈ bel N bk (i, j)) := hide (fun q => hp2.mem_iff)
  have HRk := hide hf
  have HD := hide hd
  have HW := hide hw
  have HLk := hide (lookR_any h ha hw (i : Int) (j : Int))
  have HR0 := hide h
  have HA := hide ha
  have HE := hide he
  have HN := hide hn
  have hl := ha.len hw.p8
  obtain ⟨a, c, hv⟩ := h.shape
  obtain ⟨L, hL⟩ : ∃ L, K.length = L := ⟨_, rfl⟩
  rw [hL] at hv hl
  have HL := hide hL
  subst hv
  clear h hL hw ha he hp1 hp2 hd hn hf
  go_enter Tryz.func60, Tryz.ntmps60
  go_wp2_with fail
  refine HLk.out.mono ?_
  rintro e1 w1 ⟨hb1, ⟨_, _, _, _, rfl, -, -, -, -, -⟩ | ⟨-, hno, -⟩⟩
  rotate_left
  · rw [HN.out] at hno; cases hno
  have HB1 := hide hb1
  have HR := hide (HR0.out.below hb1)
  clear hb1 HLk HR0 HN
  go_wp2
  go_loopw [10, 11, 12] (fun gv lv x wr => ∃ k : Nat, k ≤ L ∧ x = .int .i64 (k : Int) ∧ ∃ (n : Nat) (a2 : Option Addr) (c2 : Nat), gv = .slice a2 n c2 ∧ ∃ (m : Nat) (a3 : Option Addr) (c3 : Nat), lv = .slice a3 m c3 ∧ n + m ≤ k ∧ Hid (n = ((K.take k).filter (cin ps)).length ∧ m = ((K.take k).filter (cout ps)).length ∧ Below w1.heap.size w1 wr ∧ wr.ownsRow w1.heap.size 78 6 (.slice a2 n c2) n (encG ((K.take k).filter (cin ps))) ∧ wr.ownsRow w1.heap.size 60 8 (.slice a3 m c3) m (encW ((K.take k).filter (cout ps))))) (fun _ _ x _ => L - (intOf x).toNat)
  case atStart => exact ⟨0, by omega, rfl, 0, none, 0, rfl, 0, none, 0, rfl, by omega, hide ⟨by simp, by simp, Below.refl _ _, World.ownsRow_nil _ _ _ _, World.ownsRow_nil _ _ _ _⟩⟩
  case round =>
  obtain ⟨k, hk, rfl, n, a2, c2, rfl, m, a3, c3, rfl, hn, KK⟩ := hrel
  have hRr := HR.out.below KK.out.2.2.1
  have c16 := hRr.rowc
  by_cases hlt : k < L
  · have hd : decide ((k : Int) < (L : Int)) = true := by simp; omega
    have hki : (k : Int) < (L : Int) := by omega
    obtain ⟨⟨⟨ya, yb⟩, yr⟩, hy⟩ : ∃ y, K[k]? = some y := ⟨_, List.getElem?_eq_getElem (by rw [HL.out]; exact hlt)⟩
    obtain ⟨g, c', hv, -⟩ := hRr.at hy
    rw [HL.out] at hv
    cases hv
    have HT := hide (take_get hy)
    have hiff := HI.out (ya, yb)
    have HBw := hide (belowD_any hRr HA.out HW.out HRk.out (i, j) HD.out k ya yb yr hy)
    have HY := hide hy
    clear hRr hy
    by_cases hin : (ya, yb) ∈ ps
    · have hbt : decide ((ya, yb) ∈ bel N bk (i, j)) = true := by rw [decide_eq_true_eq]; exact hiff.1 hin
      rw [hbt] at HBw
      have HF : Hid ((K.take (k + 1)).filter (cin ps) = (K.take k).filter (cin ps) ++ [((ya, yb), yr)] ∧ (K.take (k + 1)).filter (cout ps) = (K.take k).filter (cout ps)) := hide (cin_next HT.out hin)
      clear hiff hin hbt
      go_wp2_with fail
      refine HBw.out.mono ?_
      rintro e1 wb ⟨rfl, hbb⟩
      have KB : Hid (n = ((K.take k).filter (cin ps)).length ∧ m = ((K.take k).filter (cout ps)).length ∧ Below w1.heap.size w1 wb ∧ wb.ownsRow w1.heap.size 78 6 (.slice a2 n c2) n (encG ((K.take k).filter (cin ps))) ∧ wb.ownsRow w1.heap.size 60 8 (.slice a3 m c3) m (encW ((K.take k).filter (cout ps)))) := hide (by
        obtain ⟨q1, q2, q3, q4, q5⟩ := KK.out
        exact ⟨q1, q2, q3.trans (hbb.mono q3.size), ownsRow_keep q4 (fun b hb' => hbb.block b (ownsRow_lt q4 hb')), ownsRow_keep q5 (fun b hb' => hbb.block b (ownsRow_lt q5 hb'))⟩)
      have hRb := HR.out.below KB.out.2.2.1
      clear c16 KK HBw hbb
      have KK := KB
      clear KB
      have c16 := hRb.rowc
      obtain ⟨r0, r1, r2, r3, r4, r5, r6, r7⟩ := hRb.row8 HY.out
      simp only at r0 r1 r2 r3 r4 r5 r6 r7
      clear hRb
      go_wp2_with fail
      refine (heldR_any _ (ya : Int) (yb : Int) yr).mono ?_
      rintro e1 w2 ⟨rfl, hb2⟩
      obtain ⟨q1, q2, q3, q4, q5⟩ := KK.out
      have HO2 : Hid (w2.ownsRow w1.heap.size 78 6 (.slice a2 n c2) n (encG ((K.take k).filter (cin ps)))) := hide (ownsRow_keep q4 (fun b hb' => hb2.block b (ownsRow_lt q4 hb')))
      have HO3 : Hid (w2.ownsRow w1.heap.size 60 8 (.slice a3 m c3) m (encW ((K.take k).filter (cout ps)))) := hide (ownsRow_keep q5 (fun b hb' => hb2.block b (ownsRow_lt q5 hb')))
      have HB2 := hide (q3.trans (hb2.mono q3.size))
      have HN := hide (And.intro q1 q2)
      clear hb2 q1 q2 q3 q4 q5 KK
      go_upto_region 8 with (at_builtin; refine wpList_append_own _ rfl _ _ 52 rfl w1.heap.size 78 i6 (.agg #[.int .i64 0, .int .i64 0, .int .i64 0, .int .i64 0, .int .i64 0, .int .i64 0]) 6 48 Tryz.underlying52 hi6 hz6 hs6 hb6 rfl (by decide) _ n (encG ((K.take k).filter (cin ps))) rfl (HO2.out.alloc _) ⟨w2.heap.size, 0, none⟩ 1 1 [.int .i64 (ya : Int), .int .i64 (yb : Int), .int .i64 yr.k, .int .i64 yr.o, .int .i64 yr.s, .int .i64 yr.r] rfl rfl ?p1 ?p2 ?p3 ?p4 ?p5 ?_)
      case p1 => exact cell_list_new _ _ [.int .i64 (ya : Int), .int .i64 (yb : Int), .int .i64 yr.k, .int .i64 yr.o, .int .i64 yr.s, .int .i64 yr.r]
      case p2 => simp [Value.oneCell']
      case p3 => unfold maxLen; omega
      case p4 => omega
      case p5 => have := HB2.out.size; simp; omega
      intro v3 w3 hown3 hg3 _
      obtain ⟨hb3, _⟩ := grew_keep HB2.out HO2.out (Nat.le_refl _) hg3
      have hother := keep_two HO2.out HO3.out (by decide) hg3
      obtain ⟨a4, c4, rfl⟩ := own_shape hown3
      have HEnd : Hid ((n + 1) = ((K.take (k + 1)).filter (cin ps)).length ∧ m = ((K.take (k + 1)).filter (cout ps)).length ∧ Below w1.heap.size w1 w3 ∧ w3.ownsRow w1.heap.size 78 6 (.slice a4 (n + 1) c4) (n + 1) (encG ((K.take (k + 1)).filter (cin ps))) ∧ w3.ownsRow w1.heap.size 60 8 (.slice a3 m c3) m (encW ((K.take (k + 1)).filter (cout ps)))) := hide ⟨by rw [HF.out.1, List.length_append, ← HN.out.1]; rfl, by rw [HF.out.2]; exact HN.out.2, hb3, by rw [HF.out.1, encG_app]; exact hown3, by rw [HF.out.2]; exact hother⟩
      clear hown3 hg3 hb3 HO2 HO3 HB2 hother r0 r1 r2 r3 r4 r5 r6 r7 c16
      go_wp2
      go_roundw
      case rel => first | exact ⟨k + 1, by omega, by go_num, n + 1, a4, c4, rfl, m, a3, c3, rfl, by omega, HEnd⟩ | ((repeat apply Exists.intro); refine ⟨?_, rfl⟩; exact ⟨k + 1, by omega, by go_num, n + 1, a4, c4, rfl, m, a3, c3, rfl, by omega, HEnd⟩)
      case measure => simp [intOf]; omega
    · have hbt : decide ((ya, yb) ∈ bel N bk (i, j)) = false := by rw [decide_eq_false_iff_not]; exact fun h => hin (hiff.2 h)
      rw [hbt] at HBw
      have HF : Hid ((K.take (k + 1)).filter (cin ps) = (K.take k).filter (cin ps) ∧ (K.take (k + 1)).filter (cout ps) = (K.take k).filter (cout ps) ++ [((ya, yb), yr)]) := hide (cout_next HT.out hin)
      clear hiff hin hbt
      go_wp2_with fail
      refine HBw.out.mono ?_
      rintro e1 wb ⟨rfl, hbb⟩
      have KB : Hid (n = ((K.take k).filter (cin ps)).length ∧ m = ((K.take k).filter (cout ps)).length ∧ Below w1.heap.size w1 wb ∧ wb.ownsRow w1.heap.size 78 6 (.slice a2 n c2) n (encG ((K.take k).filter (cin ps))) ∧ wb.ownsRow w1.heap.size 60 8 (.slice a3 m c3) m (encW ((K.take k).filter (cout ps)))) := hide (by
        obtain ⟨q1, q2, q3, q4, q5⟩ := KK.out
        exact ⟨q1, q2, q3.trans (hbb.mono q3.size), ownsRow_keep q4 (fun b hb' => hbb.block b (ownsRow_lt q4 hb')), ownsRow_keep q5 (fun b hb' => hbb.block b (ownsRow_lt q5 hb'))⟩)
      have hRb := HR.out.below KB.out.2.2.1
      clear c16 KK HBw hbb
      have KK := KB
      clear KB
      have c16 := hRb.rowc
      obtain ⟨r0, r1, r2, r3, r4, r5, r6, r7⟩ := hRb.row8 HY.out
      simp only at r0 r1 r2 r3 r4 r5 r6 r7
      clear hRb
      obtain ⟨q1, q2, q3, q4, q5⟩ := KK.out
      have HO2 := hide q4
      have HO3 := hide q5
      have HB2 := hide q3
      have HN := hide (And.intro q1 q2)
      clear q1 q2 q3 q4 q5 KK
      go_upto_region 8 with (at_builtin; refine wpList_append_own _ rfl _ _ 41 rfl w1.heap.size 60 i8 (.agg #[.int .i64 0, .int .i64 0, .int .i64 0, .int .i64 0, .int .i64 0, .int .i64 0, .int .i64 0, .int .i64 0]) 8 64 Tryz.underlying41 hi8 hz8 hs8 hb8 rfl (by decide) _ m (encW ((K.take k).filter (cout ps))) rfl (HO3.out.alloc _) ⟨wb.heap.size, 0, none⟩ 1 1 [.int .i64 (ya : Int), .int .i64 (yb : Int), .int .i64 yr.k, .int .i64 yr.o, .int .i64 yr.s, .int .i64 yr.r, .int .i64 yr.e, .int .i64 yr.t] rfl rfl ?q1 ?q2 ?q3 ?q4 ?q5 ?_)
      case q1 => exact cell_list_new _ _ [.int .i64 (ya : Int), .int .i64 (yb : Int), .int .i64 yr.k, .int .i64 yr.o, .int .i64 yr.s, .int .i64 yr.r, .int .i64 yr.e, .int .i64 yr.t]
      case q2 => simp [Value.oneCell']
      case q3 => unfold maxLen; omega
      case q4 => omega
      case q5 => have := HB2.out.size; simp; omega
      intro v3 w3 hown3 hg3 _
      obtain ⟨hb3, _⟩ := grew_keep HB2.out HO3.out (Nat.le_refl _) hg3
      have hother := keep_two HO3.out HO2.out (by decide) hg3
      obtain ⟨a4, c4, rfl⟩ := own_shape hown3
      have HEnd : Hid (n = ((K.take (k + 1)).filter (cin ps)).length ∧ (m + 1) = ((K.take (k + 1)).filter (cout ps)).length ∧ Below w1.heap.size w1 w3 ∧ w3.ownsRow w1.heap.size 78 6 (.slice a2 n c2) n (encG ((K.take (k + 1)).filter (cin ps))) ∧ w3.ownsRow w1.heap.size 60 8 (.slice a4 (m + 1) c4) (m + 1) (encW ((K.take (k + 1)).filter (cout ps)))) := hide ⟨by rw [HF.out.1]; exact HN.out.1, by rw [HF.out.2, List.length_append, ← HN.out.2]; rfl, hb3, by rw [HF.out.1]; exact hother, by rw [HF.out.2, encW_app]; exact hown3⟩
      clear hown3 hg3 hb3 HO2 HO3 HB2 hother r0 r1 r2 r3 r4 r5 r6 r7 c16
      go_wp2
      go_roundw
      case rel => first | exact ⟨k + 1, by omega, by go_num, n, a2, c2, rfl, m + 1, a4, c4, rfl, by omega, HEnd⟩ | ((repeat apply Exists.intro); refine ⟨?_, rfl⟩; exact ⟨k + 1, by omega, by go_num, n, a2, c2, rfl, m + 1, a4, c4, rfl, by omega, HEnd⟩)
      case measure => simp [intOf]; omega
  · obtain rfl : k = L := by omega
    have hd : decide ((k : Int) < (k : Int)) = false := by simp
    have f16 := hRr.frz 16
    have HEnd : Hid (∃ F', (wr.setCell ⟨R, 16, none⟩ (.slice a3 m c3)).ownsRow w1.heap.size 78 6 (.slice a2 n c2) ps.length (encT bk ps) ∧ RbA R (rmv bk ps) (wr.setCell ⟨R, 16, none⟩ (.slice a3 m c3)) F' ∧ Ext F w1 F' (wr.setCell ⟨R, 16, none⟩ (.slice a3 m c3))) := hide (cut_fin HR.out HA.out HE.out HL.out HP.out KK.out hRr)
    clear hRr KK
    go_wp2
    go_ret2
    obtain ⟨F', q1, q2, q3⟩ := HEnd.out
    exact ⟨_, F', rfl, own_base q1 HB1.out.size, q2, (Ext.of_below HB1.out).trans q3⟩
end
end Go.Proofs.YteacmcdmdeckmaaGreat

namespace Go.Proofs.YteacmcdmdeckmaaGreat
open Go.RowKit Go.Shelf

theorem rp_same (i j : Nat) (r0 r : Rc) : (rp i j r0 r).k = r.k ∧ (rp i j r0 r).o = r.o ∧ (rp i j r0 r).s = r.s ∧ (rp i j r0 r).r = r.r := by
  unfold rp rq
  split <;> exact ⟨rfl, rfl, rfl, rfl⟩
theorem par_rp {i j : Nat} {r0 p r : Rc} (h : Par p r) : Par (rp i j r0 p) r := by
  obtain ⟨e1, e2, e3, e4⟩ := rp_same i j r0 p
  obtain ⟨h1, h2, h3, h4⟩ := h
  refine ⟨e1.trans h1, e2.trans h2, e3.trans h3, ?_⟩
  unfold okR at h4 ⊢
  rw [e4]; exact h4
theorem Snd.drop {bk bk' : List (Option Lst)} {f : Int → Int → Nat} (h : Snd bk f) {i j : Nat} {r0 : Rc} (hr0 : atB bk (i : Int) (j : Int) = some r0) (hd : DropR bk i j r0 bk') : Snd bk' f := by
  have look' : ∀ {x y : Int} {p : Rc}, atB bk x y = some p → ¬ (x = i ∧ y = j) → atB bk' x y = some (rp i j r0 p) := by
    intro x y p hp hne
    obtain ⟨a, b, _, rfl, rfl, _, _, _⟩ := atB_some hp
    rw [hd.2, if_neg (fun e => hne ⟨by rw [e.1], by rw [e.2]⟩), hp]; rfl
  intro e s r hr
  obtain ⟨a, b, _, rfl, rfl, _, _, _⟩ := atB_some hr
  rw [hd.2] at hr
  split at hr
  · cases hr
  · obtain ⟨q, hq, rfl⟩ := Option.map_eq_some_iff.1 hr
    obtain ⟨h1, h2⟩ := h _ _ _ hq
    have hR : Rt (rp i j r0 q) := by unfold Rt; rw [(rp_same i j r0 q).2.2.2]; exact h1
    refine ⟨hR, ?_⟩
    by_cases c : q.e = i ∧ q.t = j
    · have er : rp i j r0 q = rq r0.e r0.t q := by unfold rp; rw [if_pos c]
      rw [er]
      rcases h2 with h2 | ⟨p, h2, h3, h4⟩
      · omega
      · rw [c.1, c.2] at h2 h4
        rw [hr0] at h2; cases h2
        obtain ⟨g1, g2 | ⟨p', g2, g3, g4⟩⟩ := h _ _ _ hr0
        · exact .inl g2
        · refine .inr ⟨_, look' g2 (fun e => by have e' : r0.e = i ∧ r0.t = j := e; rw [e'.1, e'.2] at g4; omega), par_rp (i := i) (j := j) (r0 := r0) ?_, ?_⟩
          · exact Par.trans (q := r0) h1 g1 (h _ _ _ g2).1 g3 h3
          · show f r0.e r0.t < _
            omega
    · have er : rp i j r0 q = q := by unfold rp; rw [if_neg c]
      rw [er]
      rcases h2 with h2 | ⟨p, h2, h3, h4⟩
      · exact .inl h2
      · exact .inr ⟨_, look' h2 c, par_rp h3, h4⟩
theorem Snd.drops {bk bk' : List (Option Lst)} {f : Int → Int → Nat} (h : Snd bk f) {ps : List (Nat × Nat)} (hd : Drops ps bk bk') : Snd bk' f := by
  induction hd using Drops.ind with
  | nil => exact h
  | snoc _ hr hd ih => exact (ih h).drop hr hd
/-- one more at a free slot, under a parent or under none -/
theorem Snd.lay {bk bk' : List (Option Lst)} {f : Int → Int → Nat} (h : Snd bk f) {i k : Nat} {r : Rc} (hfree : atB bk (i : Int) (k : Int) = none) (hv : ∀ a b : Nat, atB bk' (a : Int) (b : Int) = if a = i ∧ b = k then some r else atB bk (a : Int) (b : Int)) (hR : Rt r)
    (hp : (r.e = -1 ∧ r.t = -1) ∨ ∃ p, atB bk r.e r.t = some p ∧ Par p r) : ∃ f', Snd bk' f' := by
  have up : ∀ {x y : Int} {p : Rc}, atB bk x y = some p → atB bk' x y = some p ∧ ¬ (x = i ∧ y = k) := by
    intro x y p hp
    have hne : ¬ (x = i ∧ y = k) := fun e => by rw [e.1, e.2, hfree] at hp; cases hp
    obtain ⟨a, b, _, rfl, rfl, _, _, _⟩ := atB_some hp
    rw [hv, if_neg (fun e => hne ⟨by rw [e.1], by rw [e.2]⟩)]
    exact ⟨hp, hne⟩
  refine ⟨fun x y => if x = i ∧ y = k then f r.e r.t + 1 else f x y, ?_⟩
  intro e s q hq
  obtain ⟨a, b, _, rfl, rfl, _, _, _⟩ := atB_some hq
  rw [hv] at hq
  split at hq
  · rename_i hab
    cases hq
    refine ⟨hR, ?_⟩
    rcases hp with hp | ⟨p, h1, h2⟩
    · exact .inl hp
    · obtain ⟨h3, h4⟩ := up h1
      refine .inr ⟨p, h3, h2, ?_⟩
      dsimp only
      rw [if_neg h4, if_pos ⟨by rw [hab.1], by rw [hab.2]⟩]
      omega
  · rename_i hab
    obtain ⟨h1, h2 | ⟨p, h2, h3, h4⟩⟩ := h _ _ _ hq
    · exact ⟨h1, .inl h2⟩
    · obtain ⟨h5, h6⟩ := up h2
      refine ⟨h1, .inr ⟨p, h5, h3, ?_⟩⟩
      dsimp only
      rw [if_neg h6, if_neg (fun e => hab ⟨by omega, by omega⟩)]
      exact h4
end Go.Proofs.YteacmcdmdeckmaaGreat

namespace Go.Proofs.YteacmcdmdeckmaaGreat
open Go.RowKit Go.Shelf

theorem Snd.congr {bk bk' : List (Option Lst)} {f : Int → Int → Nat} (h : Snd bk f) (hv : ∀ a b : Nat, atB bk' (a : Int) (b : Int) = atB bk (a : Int) (b : Int)) : Snd bk' f := by
  intro e s r hr
  obtain ⟨a, b, _, rfl, rfl, _, _, _⟩ := atB_some hr
  rw [hv] at hr
  obtain ⟨h1, h2 | ⟨p, h2, h3, h4⟩⟩ := h _ _ _ hr
  · exact ⟨h1, .inl h2⟩
  · obtain ⟨x, y, _, e1, e2, _, _, _⟩ := atB_some h2
    refine ⟨h1, .inr ⟨p, ?_, h3, h4⟩⟩
    rw [e1, e2] at h2 ⊢
    rw [hv]; exact h2
theorem shut_view {bk bk' : List (Option Lst)} {i : Nat} {l : Lst} (hl : bk[i]? = some (some l)) (hd : Drops (plc i (prs l 0)) bk bk') (a b : Nat) : atB (bk'.set i none) (a : Int) (b : Int) = atB bk' (a : Int) (b : Int) := by
  obtain ⟨l', hl'⟩ := shape_open hd.here.1 hl
  have hi : i < bk'.length := (List.getElem?_eq_some_iff.1 hl').1
  by_cases e : a = i
  · subst e
    have h0 : atB bk' (a : Int) (b : Int) = none := by
      cases hb : atB bk' (a : Int) (b : Int) with
      | none => rfl
      | some r =>
        have h1 := hd.here.2 a b
        rw [hb, atN_eq hl] at h1
        cases hx : l[b]? with
        | none => rw [hx] at h1; simp at h1
        | some o => cases o with
          | none => rw [hx] at h1; simp at h1
          | some q =>
            have h2 : (a, b) ∈ plc a (prs l 0) := List.mem_map.2 ⟨(b, q), prs_mem.2 hx, rfl⟩
            simp [h2] at h1
    rw [h0]
    unfold atB
    rw [look_nat, List.getElem?_set_self hi]; rfl
  · unfold atB
    rw [look_nat, look_nat, List.getElem?_set_ne (fun h => e h.symm)]
/-- a step keeps a book sound -/
theorem Step.snd {o : Opr} {bk bk' : List (Option Lst)} {f : Int → Int → Nat} (h : Snd bk f) (h48 : ∀ (i : Nat) (l : Lst), bk[i]? = some (some l) → l.length = 48) (hs : Step o bk bk') : ∃ f', Snd bk' f' := by
  cases hs using Step.ind with
  | none => exact ⟨f, h⟩
  | opn _ ho =>
    have ho' := ho
    rcases ho with ⟨k, hk, h1, rfl, rfl⟩ | ⟨_, rfl, _⟩
    · rw [hk] at ho'
      exact ⟨f, h.congr (open_view (List.getElem?_eq_some_iff.1 h1).1 (by rw [look_nat, h1]; rfl) ho').2.1⟩
    · exact ⟨f, h⟩
  | shut0 => exact ⟨f, h⟩
  | shut _ _ hl hd => exact ⟨f, (h.drops hd).congr (shut_view hl hd)⟩
  | mint _ hm =>
    rcases hm with ⟨_, _, _, rfl⟩ | ⟨_, _, _, _, rfl⟩ | ⟨i, l, l', _, hl, _, hb, hy, rfl⟩
    · exact ⟨f, h⟩
    · exact ⟨f, h⟩
    · rcases lay_view hl (h48 i l hl) hy with ⟨k, _, _, _, hf, _, _, _, hv⟩ | ⟨_, _, e, _⟩
      · exact h.lay hf hv ⟨hb.2.2.2.2.2.2.1, hb.2.2.2.2.2.2.2⟩ (.inl ⟨rfl, rfl⟩)
      · rw [e]; exact ⟨f, h⟩
  | derive _ hm =>
    rcases hm with ⟨_, _, _, rfl⟩ | ⟨_, _, _, _, rfl⟩ | ⟨_, _, _, _, _, rfl⟩ | ⟨_, _, _, _, _, _, rfl⟩ | ⟨i, l, l', r, _, hl, hr, hok, _, hrt, hy, rfl⟩
    · exact ⟨f, h⟩
    · exact ⟨f, h⟩
    · exact ⟨f, h⟩
    · exact ⟨f, h⟩
    · rcases lay_view hl (h48 i l hl) hy with ⟨k, _, _, _, hf, _, _, _, hv⟩ | ⟨_, _, e, _⟩
      · exact h.lay hf hv hrt (.inr ⟨r, hr, rfl, rfl, rfl, hok⟩)
      · rw [e]; exact ⟨f, h⟩
  | drop0 => exact ⟨f, h⟩
  | drop _ _ _ hr hd => exact ⟨f, h.drop hr hd⟩
  | revoke0 => exact ⟨f, h⟩
  | revoke _ _ _ _ hd _ hp => exact ⟨f, h.revoke hd hp⟩
  | purge => exact ⟨f, h.purge _ _⟩
end Go.Proofs.YteacmcdmdeckmaaGreat
