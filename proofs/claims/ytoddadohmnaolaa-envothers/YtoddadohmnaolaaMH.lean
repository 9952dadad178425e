import Derived.Great.Walk
import Derived.Great.BuildSlice
import Derived.DeepKeys
import Derived.Laws.StructEq
import Derived.Test.YtoddadohmnaolaaME
namespace Go.Proofs.Ytoddadohmnaolaa
open Go.ChangeShapes Go.WideShapes Go.ChangeAt Go.RowKit Go.Deep Go.Shelf

section
variable {rs : List (Option Er)} {last : Int}
theorem crE_zero2 {e s : Int} {q : Qt} (hc : crE rs last e s q = 0) : ∃ (k : Nat) (r : Er), e = (k : Int) ∧ rs[k]? = some (some r) ∧ q.good ∧ last < s ∧ s ≤ 4611686018427387903 ∧ (q.plus Qt.one).le r.le ∧ ff rs < 16 := by
  unfold crE at hc
  cases hl : look rs e with
  | none => rw [hl] at hc; cases hc
  | some r =>
    obtain ⟨k, rfl, hr⟩ := look_some hl
    rw [hl] at hc
    simp only [] at hc
    by_cases h1 : q.good ∧ last < s ∧ s ≤ 4611686018427387903
    · rw [if_pos h1] at hc
      by_cases h2 : (q.plus Qt.one).le r.le ∧ ff rs < 16
      · exact ⟨k, r, rfl, hr, h1.1, h1.2.1, h1.2.2, h2.1, h2.2⟩
      · rw [if_neg h2] at hc; cases hc
    · rw [if_neg h1] at hc; cases hc
theorem look_at {k : Nat} {r : Er} (h : rs[k]? = some (some r)) : look rs (k : Int) = some r := by rw [look_nat, h]; rfl
theorem crS_at {e s : Int} {q : Qt} {k : Nat} {r : Er} (hc : crE rs last e s q = 0) (he : e = (k : Int)) (hr : rs[k]? = some (some r)) : crS rs last e s q = (rs.set (ff rs) (some (Er.new s e q))).set k (some { r with le := r.le.less (q.plus Qt.one) }) := by
  subst he
  unfold crS
  rw [look_at hr]
  simp only [hc, if_true, Int.toNat_natCast]
/-- what is made and ended at once leaves all as it was -/
theorem cr_ds (h : Iv rs last) {e s : Int} {q : Qt} (hc : crE rs last e s q = 0) :
    dsE (crS rs last e s q) ((ff rs : Nat) : Int) = 0 ∧ dsL (crS rs last e s q) ((ff rs : Nat) : Int) = [ff rs] ∧ dsS (crS rs last e s q) ((ff rs : Nat) : Int) = rs := by
  have h' := h.crS e s q
  have hL : crL rs last e s q = s := by unfold crL; rw [if_pos hc]
  rw [hL] at h'
  obtain ⟨k, r, he, hr, hg, hls, hs, hle, hf⟩ := crE_zero2 hc
  have hcs := crS_at hc he hr
  have hnf := ff_none h.tr hf
  generalize hq : ff rs = f at *
  have hfk : f ≠ k := fun e9 => by rw [e9, hr] at hnf; cases hnf
  have hkl := (List.getElem?_eq_some_iff.1 hr).1
  have hfl := (List.getElem?_eq_some_iff.1 hnf).1
  generalize hrs1 : crS rs last e s q = rs1 at *
  have hn1 : rs1[f]? = some (some (Er.new s e q)) := by
    rw [hcs, List.getElem?_set_ne (fun e9 => hfk e9.symm), List.getElem?_set_self hfl]
  have hk1 : rs1[k]? = some (some { r with le := r.le.less (q.plus Qt.one) }) := by
    rw [hcs, List.getElem?_set_self (by simpa using hkl)]
  have hf0 : f ≠ 0 := fun e9 => by
    obtain ⟨r0, h0, _⟩ := h.tr.root
    rw [e9, h0] at hnf; cases hnf
  have hE : dsE rs1 ((f : Nat) : Int) = 0 := by
    unfold dsE
    rw [look_at hn1]
    simp only []
    rw [if_neg (by omega)]
  have hsf : ser rs1 f = s := by rw [ser_core, core_at hn1]; rfl
  have hkids : kids rs1 ((f : Nat) : Int) = [] := by
    rcases hq : kids rs1 ((f : Nat) : Int) with _ | ⟨c, l⟩
    · rfl
    · have hk := kids_kid (rs := rs1) (e := ((f : Nat) : Int)) (k := c) (by rw [hq]; simp)
      have h1 := (kid_ser h'.tr hk).1
      have h2 := h'.tr.old c (kid_lv hk)
      rw [hsf] at h1
      omega
  have hwk : wk rs1 17 f = [f] := by
    show f :: (kids rs1 ((f : Nat) : Int)).flatMap (wk rs1 16) = [f]
    rw [hkids]; rfl
  refine ⟨hE, ?_, ?_⟩
  · unfold dsL
    rw [hE, if_pos rfl, Int.toNat_natCast, hwk]
  · unfold dsS
    rw [look_at hn1]
    simp only []
    rw [if_neg (by omega), Int.toNat_natCast, hwk, dsP_at (p := k) he hk1]
    have hrr : (some { ({ r with le := r.le.less (q.plus Qt.one) } : Er) with le := (r.le.less (q.plus Qt.one)).plus ((Er.new s e q).qu.plus Qt.one) } : Option Er) = some r := by
      have h9 : (r.le.less (q.plus Qt.one)).plus ((Er.new s e q).qu.plus Qt.one) = r.le := by
        refine qt_ext ?_ ?_ ?_ <;> simp only [Qt.plus, Qt.less, Qt.one, Er.new] <;> omega
      rw [h9]
    rw [hrr]
    show (rs1.set k (some r)).set f none = rs
    rw [hcs]
    refine List.ext_getElem? (fun i => ?_)
    by_cases e1 : i = f
    · subst e1
      rw [List.getElem?_set_self (by simpa using hfl), hnf]
    · rw [List.getElem?_set_ne (fun e9 => e1 e9.symm)]
      by_cases e2 : i = k
      · subst e2
        rw [List.getElem?_set_self (by simpa using hkl), hr]
      · rw [List.getElem?_set_ne (fun e9 => e2 e9.symm), List.getElem?_set_ne (fun e9 => e2 e9.symm), List.getElem?_set_ne (fun e9 => e1 e9.symm)]
end
section
variable (w : World) (F : Nat → Prop) (T : Nat) (rs : List (Option Er)) (last : Int)
set_option maxRecDepth 8000 in
set_option maxHeartbeats 3200000 in
theorem infoNone_any (h : Et w F T rs last) (e : Int) (hl : look rs e = none) : Calls Try.prog 15 #[.pointer (some ⟨T, 0, none⟩), .int .i64 e] w fun x w' => x = .returned (.tuple #[.agg Er.nil.head.toArray, .int .i64 90]) ∧ Below w.heap.size w w' := by
  have h0 : Eb (w.alloc (.cells Er.nil.head.toArray 41)) w.heap.size Er.nil := Eb.new _ _
  have hb0 := (Below.refl w.heap.size w).alloc (Nat.le_refl _) (.cells Er.nil.head.toArray 41)
  obtain ⟨S, G, m, h⟩ := h
  have h := h.below hb0
  have HB0 := hide hb0
  have H0 := hide h0
  clear hb0 h0
  go_enter Try.func15, Try.ntmps15
  go_upto_region 1 with fail
  show Code.wp _ _ _ _ (w.alloc (.cells Er.nil.head.toArray 41))
  generalize w.alloc (.cells Er.nil.head.toArray 41) = w1 at *
  have c0 := h.cell.1
  have HG := hide (getL_any _ G S m h.tab e)
  rcases h.cases e with ⟨h2, h1⟩ | ⟨k', b, r', e1, hm, h3, h4, _, hR⟩
  · rw [h2] at HG
    simp only [ptr, Option.isSome_none] at HG
    obtain ⟨t, ht⟩ : ∃ t, Er.nil = t := ⟨_, rfl⟩
    rw [ht] at H0
    have HT := hide ht
    have HE4 := hide (H0.out.lay t).out
    have HB4 := hide (below_setCells HB0.out (Nat.le_refl _) 0 t.head)
    clear ht
    clear h HB0
    go_wp2_with fail
    refine HG.out.mono ?_
    rintro e1 w2 ⟨rfl, rfl⟩
    go_wp2_with (refine storeE t ?nw _ _ rfl w.heap.size t ?nx ?ny ?nz ?_; rotate_left 4; generalize w2.setCells w.heap.size 0 t.head = w4 at *)
    try (case nw => rfl)
    try (case nx => rfl)
    try (case ny => rw [← HT.out]; rfl)
    try (case nz => exact H0.out)
    refine bodyPost_ret (results_row2 rfl _ _ w.heap.size 41 t.head.toArray (0, 0) _ rfl HE4.out Try.underlying41 rfl (by rw [List.size_toArray, head_len]; exact infoE)) rfl ?_
    exact ⟨by rw [HT.out]; rfl, HB4.out⟩
  · subst e1
    rw [look_nat, h3] at hl; cases hl
end
section
variable {w : World} {B : Nat} {rs : List (Option Er)} {last : Int}
theorem lives_no (h : Bq w B rs last) (e : Int) (hl : look rs e = none) : Calls Try.prog 21 #[.pointer (some ⟨B, 0, none⟩), .int .i64 e] w fun x w' => x = .returned (.bool false) ∧ w' = w := by
  by_cases h0 : e < 0
  · have hd : decide (e ≥ 0) = false := by simp; omega
    clear h hl
    go_enter Try.func21, Try.ntmps21
    go_wp2
    go_ret
    exact ⟨rfl, rfl⟩
  · by_cases h1 : e < 16
    · obtain ⟨k, rfl⟩ : ∃ k : Nat, e = k := ⟨e.toNat, by omega⟩
      have hv : lvb rs k = false := by
        unfold lvb core
        rw [hl]; rfl
      have := lives_any h k (by omega)
      rw [hv] at this
      exact this
    · have hd : decide (e < 16) = false := by simp; omega
      have hd2 : decide (e ≥ 0) = true := by simp; omega
      clear h hl
      go_enter Try.func21, Try.ntmps21
      go_wp2
      go_ret
      exact ⟨rfl, rfl⟩
end
end Go.Proofs.Ytoddadohmnaolaa

namespace Go.Proofs.Ytoddadohmnaolaa
open Go.RowKit Go.Shelf
attribute [local go_sem] Oper.semAt_some

/-- all numbers in use -/
def lvL (rs : List (Option Er)) : List Nat := (prs rs 0).map Prod.fst
set_option maxRecDepth 100000 in
set_option maxHeartbeats 8000000 in
theorem live_in (n : Nat) (hn : 3 ≤ n) (w : World) (F : Nat → Prop) (T : Nat) (rs : List (Option Er)) (last : Int) (S : Nat) (G : Nat → Prop) (m : List (Option Nat)) (h : EtAt w F T S G m rs last) :
    CallsIn Fence.wide n Try.prog 27 #[.pointer (some ⟨T, 0, none⟩)] w fun x W' => ∃ v, x = .returned v ∧ W'.ownsRow w.heap.size 3 1 v (lvL rs).length (numN (lvL rs)) ∧ Below w.heap.size w W' := by
  have h1 : 1 ≤ n := by omega
  obtain ⟨i3, hi, hz, hs, hb⟩ := info3'
  have cT := fun o => (h.keep (w' := (w.alloc o)) (by simp) (fun b hb => by
    have := h.lt b hb
    rw [Below.heap_alloc _ _ _ this])).cell.1
  refine callsIn_of_wp_marks Try.func27 rfl trivial ?_ rfl
  simp only [Try.ntmps27, List.size_toArray, List.length_cons, List.length_nil, Nat.reduceAdd, Nat.reduceSub, Array.replicate_succ, Array.replicate_zero, List.push_toArray, List.append_toArray, List.nil_append, List.cons_append]
  gi_wp2_with fail
  refine ⟨trivial, (allL_in S (n - 1) _).mono ?_⟩
  rintro e' w' ⟨rfl, rfl⟩
  gi_wp2_with fail
  -- the range
  have c2 := Boxed.new w 22 (.slice none 0 0)
  have hbox := heap_alloc_new (w.alloc (.cells #[.slice none 0 0] 22)) (.cells #[.pointer (some ⟨S, 0, none⟩)] 75)
  have hB0 : Below w.heap.size w ((w.alloc (.cells #[.slice none 0 0] 22)).alloc (.cells #[.pointer (some ⟨S, 0, none⟩)] 75)) := ((Below.refl _ w).alloc (Nat.le_refl _) _).alloc (by simp) _
  have hsz : ((w.alloc (.cells #[.slice none 0 0] 22)).alloc (.cells #[.pointer (some ⟨S, 0, none⟩)] 75)).heap.size = w.heap.size + 2 := by simp
  have c2' := c2.alloc (.cells #[.pointer (some ⟨S, 0, none⟩)] 75)
  simp only [World.size_alloc] at c2' hbox
  clear c2 cT
  generalize ((w.alloc (.cells #[.slice none 0 0] 22)).alloc (.cells #[.pointer (some ⟨S, 0, none⟩)] 75)) = W0 at *
  have hT := h.tab
  have hG : ∀ b, (G b ∨ b = (w.heap.size + 1)) → b < W0.heap.size := by
    rintro b (hb | rfl)
    · have := hT.lt b hb; omega
    · omega
  have hFl : ∀ b, G b → b < w.heap.size := hT.lt
  have hlen : (prs m 0).length ≤ 16 := by rw [prs_len, ← h.len]; exact count_le
  refine wpIn_rangeFunc_ownH rfl h1 (gf := 65) (lb := #[.pointer (some ⟨(w.heap.size + 1), 0, none⟩)]) rfl trivial (enters_of Try.func65 (by kernel_rfl) rfl)
    (allL_stops (n - 1) (by omega) (w.heap.size + 1) S G m _ hbox (hT.below hB0)) keepF_t (keepF_b hG) (Below.refl _ _) (fun _ => rfl)
    (fun pre W => ((∃ v, Boxed W w.heap.size 22 v ∧ W.ownsRow (w.heap.size + 2) 3 1 v (pre.map (fun x => x.1.1)).length (numN (pre.map (fun x => x.1.1))) ∧ True) ∧ Boxed W (w.heap.size + 1) 75 (.pointer (some ⟨S, 0, none⟩)) ∧ pre.length ≤ (prs m 0).length) ∧ Below w.heap.size w W)
    (fun _ _ _ => False)
    (OwnFrom.and (Own.from (fun s A A' row hs hg hr => ⟨holdsRow_own (w.heap.size + 2) w.heap.size 22 3 1 (fun s : List { x : Nat × Nat // m[x.1]? = some (some x.2) } => (s.map (fun x => x.1.1)).length) (fun s => numN (s.map (fun x => x.1.1))) (fun _ _ => True) s A A' row hs.1 hg hr,
        hs.2.1.kept hg (fun e9 => by obtain ⟨o, h1, h2⟩ := hr _ e9.symm; rw [show A.heap[(w.heap.size + 1)]? = _ from hs.2.1] at h1; cases h1; cases h2), hs.2.2⟩) _) (ownFrom_below (Nat.le_refl _) (by omega)))
    (fun _ _ _ _ _ hs _ _ => hs)
    ⟨⟨⟨_, c2', ⟨rfl, .inl ⟨rfl, rfl⟩⟩, trivial⟩, hbox, by simp⟩, hB0⟩
    (fun x a' _ => a' = { tmps := #[.pointer (some ⟨T, 0, none⟩), undef, .slice none 0 0, .pointer (some ⟨w.heap.size, 0, none⟩), .int .i64 (x.1.1 : Nat), .pointer (some ⟨T, 0, none⟩), .pointer (some ⟨T, 0, none⟩), .pointer (some ⟨T, 0, none⟩), .pointer (some ⟨S, 0, none⟩), .func (.func 65) #[] #[.pointer (some ⟨(w.heap.size + 1), 0, none⟩)], .int .i64 (x.1.1 : Nat), .pointer (some ⟨x.1.2, 0, none⟩), undef, undef, undef, undef, undef], defers := [] })
    (fun _ _ _ _ _ _ hs _ _ => hs)
    ?assign ?body ?done ?stop
  case assign =>
    rintro l pre x W K hi' hK
    obtain ⟨⟨xi, xb⟩, hx⟩ := x
    gi_wp2
    exact hK _ _ (KeepsFrom.refl _ _) ⟨Nat.le_refl _, fun _ _ => rfl⟩ hi' rfl
  case body =>
    rintro l pre x a' W hl ⟨r, hr⟩ ⟨⟨⟨v, bS, hown, _⟩, bA, hpl⟩, hB⟩ rfl hlt
    obtain ⟨⟨xi, xb⟩, hx⟩ := x
    have hpre : (pre.map (fun x => x.1.1)).length ≤ 16 := by simp; omega
    obtain ⟨L, hL⟩ : ∃ L, L = (pre.map (fun x => x.1.1)).length := ⟨_, rfl⟩
    rw [← hL] at hown hpre
    have HL := hide hL
    clear hL
    obtain ⟨ao, co, rfl⟩ := own_shape hown
    have cS := bS.cell
    have hA4 := bA.lt
    gi_wp2_with (gi_at_builtin; refine wpListIn_append_own_at _ rfl _ _ 22 rfl (w.heap.size + 2) 3 i3 (.int .i64 0) 1 8 Try.underlying22 hi hz hs hb rfl (by decide) _ _ _ rfl (hown.alloc _) ⟨W.heap.size, 0, none⟩ 1 1 [.int .i64 (xi : Int)] rfl rfl (cell_one_new _ _ _) (by simp [Value.oneCell']) (by unfold maxLen; omega) (by omega) (by simp; omega) ?_; intro v' w3 hown3 hg3 _ _
                 obtain ⟨gg, cap, rfl⟩ := ownsRow_succ hown3
                 obtain ⟨b1, b2, _, b4, b5⟩ := Boxed.appended bS (by decide) (own_low hown (show w.heap.size ≤ w.heap.size + 2 by omega)) hB.size (by omega) (own_low hown3 (show w.heap.size ≤ w.heap.size + 2 by omega)) hg3
                 have b3 := hown3.kept (grownBy_setCell' w3 w.heap.size (.slice (some ⟨gg, 0, none⟩) (L + 1) cap)) (.inr (b1.not_row (by decide) hown3).symm)
                 have b7 := (bA.alloc (.cells #[.int .i64 (xi : Int)] 3)).kept hg3 (bA.not_row (by decide) hown)
                 have cB := b1.cell
                 have fB := b1.frozen)
    refine ⟨b4.from _, ⟨b5.size, fun b hb' => ?_⟩, ⟨⟨_, b2, ?_⟩, b7.other (by omega) _, by simp; omega⟩, hB.trans b5⟩
    · rcases hb' with hb' | rfl
      · exact b5.block b (hFl b hb')
      · exact (b7.other (by omega) _).trans bA.symm
    · have h9 : (pre ++ [(⟨(xi, xb), hx⟩ : { x : Nat × Nat // m[x.1]? = some (some x.2) })]).length = L + 1 := by rw [HL.out]; simp
      have e9 : numN (List.map (fun x : { x : Nat × Nat // m[x.1]? = some (some x.2) } => x.val.fst) (pre ++ [⟨(xi, xb), hx⟩])) = numN (List.map (fun x => x.val.fst) pre) ++ [.int .i64 (xi : Int)] := by simp [numN]
      rw [h9, e9]
      exact b3
  case done =>
    rintro D ys W hDl hys ⟨⟨⟨v, bS, hown, _⟩, bA, hpl⟩, hB⟩ hK
    have hk : ys.map (fun x => x.1.1) = lvL rs := by
      unfold lvL
      rw [← h.fsts, ← hys, List.map_map]
      rfl
    rw [hk] at hown
    obtain ⟨ao, co, rfl⟩ := own_shape hown
    have cS := bS.cell
    gi_wp2
    refine ⟨by simp, .inl ⟨_, _, rfl, run_takeDeferred hK, ?_⟩⟩
    refine ⟨_, results_tmp rfl _ _ _, _, rfl, ?_, hB.trans (belowK_b (w := w) (Nat.le_refl _) W D _ _ (by omega) hK rfl rfl)⟩
    have h9 := own_low hown (show w.heap.size ≤ w.heap.size + 2 by omega)
    exact ownsRow_putObj h9 _ hK rfl
  case stop =>
    rintro D c pre W _ _ h _
    exact h.elim
theorem live_any {w : World} {F : Nat → Prop} {T : Nat} {rs : List (Option Er)} {last : Int} (h : Et w F T rs last) : Calls Try.prog 27 #[.pointer (some ⟨T, 0, none⟩)] w fun x W' => ∃ v, x = .returned v ∧ W'.ownsRow w.heap.size 3 1 v (lvL rs).length (numN (lvL rs)) ∧ Below w.heap.size w W' := by
  obtain ⟨S, G, m, h⟩ := h
  exact (callsIn_wide (n := 3)).1 (live_in 3 (Nat.le_refl _) w F T rs last S G m h)
end Go.Proofs.Ytoddadohmnaolaa

namespace Go.Proofs.Ytoddadohmnaolaa
open Go.ChangeShapes Go.WideShapes Go.ChangeAt Go.RowKit Go.Deep Go.Shelf Go.Great

/-- what Info tells of a number -/
def tf (rs : List (Option Er)) (i : Nat) : Er := match look rs (i : Int) with | some r => r.told | none => Er.nil
def tg (rs : List (Option Er)) (i : Nat) : Int := match look rs (i : Int) with | some _ => 0 | none => 90
theorem info_both {w : World} {F : Nat → Prop} {T : Nat} {rs : List (Option Er)} {last : Int} (h : Et w F T rs last) (i : Nat) : Calls Try.prog 15 #[.pointer (some ⟨T, 0, none⟩), .int .i64 (i : Int)] w fun x w' => x = .returned (.tuple #[.agg (tf rs i).head.toArray, .int .i64 (tg rs i)]) ∧ Below w.heap.size w w' := by
  unfold tf tg
  cases hl : look rs (i : Int) with
  | none => exact infoNone_any w F T rs last h _ hl
  | some r =>
    obtain ⟨k, e, hr⟩ := look_some hl
    obtain rfl : i = k := by omega
    exact info_any w F T rs last h _ r hr
/-- the cells of what is told of every number -/
structure Tc (cs : List Value) (f : Nat → Er) (g : Nat → Int) : Prop where
  len : cs.length = 352
  env : ∀ i, i < 16 → ∀ j, j < 21 → cs[i * 21 + j]? = (f i).head[j]?
  err : ∀ i, i < 16 → cs[336 + i]? = some (.int .i64 (g i))
theorem Tc.ext {cs cs' : List Value} {f f' : Nat → Er} {g g' : Nat → Int} (h : Tc cs f g) (h' : Tc cs' f' g') (hf : ∀ i, i < 16 → (f i).head = (f' i).head) (hg : ∀ i, i < 16 → g i = g' i) : cs = cs' := by
  refine List.ext_getElem? (fun n => ?_)
  by_cases h1 : n < 336
  · have e1 : n = n / 21 * 21 + n % 21 := by omega
    have e2 : n / 21 < 16 := by omega
    have e3 : n % 21 < 21 := by omega
    have q1 := h.env _ e2 _ e3
    have q2 := h'.env _ e2 _ e3
    rw [← e1] at q1 q2
    rw [q1, q2, hf _ e2]
  · by_cases h2 : n < 352
    · obtain ⟨i, rfl⟩ : ∃ i, n = 336 + i := ⟨n - 336, by omega⟩
      rw [h.err i (by omega), h'.err i (by omega), hg i (by omega)]
    · rw [List.getElem?_eq_none (by rw [h.len]; omega), List.getElem?_eq_none (by rw [h'.len]; omega)]
theorem setsL_len : ∀ (vs cs : List Value) (o : Nat), (setsL cs o vs).length = cs.length
  | [], _, _ => rfl
  | v :: r, cs, o => by rw [setsL, setsL_len r]; simp
theorem setsL_get : ∀ (vs cs : List Value) (o i : Nat), o + vs.length ≤ cs.length → (setsL cs o vs)[i]? = if o ≤ i ∧ i < o + vs.length then vs[i - o]? else cs[i]?
  | [], cs, o, i, _ => by rw [setsL, if_neg (by simp only [List.length_nil]; omega)]
  | v :: r, cs, o, i, h => by
    simp only [List.length_cons] at h ⊢
    rw [setsL, setsL_get r _ (o + 1) i (by simp; omega)]
    by_cases h1 : i = o
    · subst h1
      rw [if_neg (by omega), if_pos (by omega), List.getElem?_set_self (by omega)]
      simp
    · by_cases h2 : o ≤ i ∧ i < o + (r.length + 1)
      · rw [if_pos (by omega), if_pos h2]
        obtain ⟨d, rfl⟩ : ∃ d, i = o + 1 + d := ⟨i - (o + 1), by omega⟩
        rw [show o + 1 + d - (o + 1) = d by omega, show o + 1 + d - o = d + 1 by omega]
        rfl
      · rw [if_neg (by omega), if_neg h2, List.getElem?_set_ne (fun e => h1 e.symm)]
theorem setsL_all (cs vs : List Value) (h : cs.length = vs.length) : setsL cs 0 vs = vs := by
  refine List.ext_getElem? (fun i => ?_)
  rw [setsL_get vs cs 0 i (by omega)]
  by_cases h1 : i < vs.length
  · rw [if_pos (by omega)]; rfl
  · rw [if_neg (by omega), List.getElem?_eq_none (by omega), List.getElem?_eq_none (by omega)]
theorem Tc.step {cs : List Value} {f : Nat → Er} {g : Nat → Int} (h : Tc cs f g) {k : Nat} (hk : k < 16) (r : Er) (z : Int) : Tc ((setsL cs (k * 21) r.head).set (336 + k) (.int .i64 z)) (fun i => if i = k then r else f i) (fun i => if i = k then z else g i) := by
  have hb : k * 21 + r.head.length ≤ cs.length := by rw [head_len, h.len]; omega
  refine ⟨by rw [List.length_set, setsL_len]; exact h.len, fun i hi j hj => ?_, fun i hi => ?_⟩
  · rw [List.getElem?_set_ne (by omega), setsL_get _ _ _ _ hb, head_len]
    by_cases e : i = k
    · subst e
      rw [if_pos (by omega), if_pos rfl, show i * 21 + j - i * 21 = j by omega]
    · rw [if_neg e, if_neg (by omega)]
      exact h.env i hi j hj
  · by_cases e : i = k
    · subst e
      rw [List.getElem?_set_self (by rw [setsL_len, h.len]; omega), if_pos rfl]
    · rw [List.getElem?_set_ne (by omega), setsL_get _ _ _ _ hb, head_len, if_neg (by omega), if_neg e]
      exact h.err i hi
/-- rows of what is told -/
def rows (f : Nat → Er) (n : Nat) : List Value := (List.range n).flatMap (fun i => (f i).head)
theorem rows_succ (f : Nat → Er) (n : Nat) : rows f (n + 1) = rows f n ++ (f n).head := by
  unfold rows
  rw [List.range_succ, List.flatMap_append]
  simp
theorem rows_len (f : Nat → Er) : ∀ n, (rows f n).length = n * 21
  | 0 => rfl
  | n + 1 => by rw [rows_succ, List.length_append, rows_len f n, head_len]; omega
theorem rows_get (f : Nat → Er) : ∀ n i j, i < n → j < 21 → (rows f n)[i * 21 + j]? = (f i).head[j]?
  | 0, _, _, h, _ => by omega
  | n + 1, i, j, h, hj => by
    rw [rows_succ]
    by_cases e : i = n
    · subst e
      rw [List.getElem?_append_right (by rw [rows_len]; omega), rows_len, show i * 21 + j - i * 21 = j by omega]
    · rw [List.getElem?_append_left (by rw [rows_len]; omega)]
      exact rows_get f n i j (by omega) hj
/-- nothing told yet -/
def zT : List Value := rows (fun _ => Er.nil) 16 ++ List.replicate 16 (.int .i64 0)
theorem zT_tc : Tc zT (fun _ => Er.nil) (fun _ => 0) := by
  unfold zT
  refine ⟨by rw [List.length_append, rows_len, List.length_replicate], fun i hi j hj => ?_, fun i hi => ?_⟩
  · rw [List.getElem?_append_left (by rw [rows_len]; omega)]
    exact rows_get (fun _ => Er.nil) 16 i j hi hj
  · rw [List.getElem?_append_right (by rw [rows_len]; omega), rows_len, List.getElem?_replicate, if_pos (by omega)]
end Go.Proofs.Ytoddadohmnaolaa

namespace Go.Proofs.Ytoddadohmnaolaa
open Go.ChangeShapes Go.WideShapes Go.ChangeAt Go.RowKit Go.Deep Go.Shelf Go.Great

theorem infoTold : (Try.prog.info? 52).map (·.size) = some 352 := by kernel_rfl
theorem Tc.cong {cs : List Value} {f f' : Nat → Er} {g g' : Nat → Int} (h : Tc cs f g) (hf : ∀ i, i < 16 → f i = f' i) (hg : ∀ i, i < 16 → g i = g' i) : Tc cs f' g' :=
  ⟨h.len, fun i hi j hj => by rw [h.env i hi j hj, hf i hi], fun i hi => by rw [h.err i hi, hg i hi]⟩
theorem Tc.one {cs : List Value} {f : Nat → Er} {g : Nat → Int} (h : Tc cs f g) : ∀ u ∈ cs, u.oneCell' = true := by
  intro u hu
  obtain ⟨n, hn, rfl⟩ := List.getElem_of_mem hu
  have hl := h.len
  by_cases h1 : n < 336
  · have e1 : n = n / 21 * 21 + n % 21 := by omega
    have q1 := h.env (n / 21) (by omega) (n % 21) (by omega)
    rw [← e1, List.getElem?_eq_getElem hn] at q1
    exact head_one _ _ (List.mem_of_getElem? q1.symm)
  · obtain ⟨i, rfl⟩ : ∃ i, n = 336 + i := ⟨n - 336, by omega⟩
    have q1 := h.err i (by omega)
    rw [List.getElem?_eq_getElem hn] at q1
    rw [Option.some.inj q1]; rfl
/-- what is told so far -/
def tF (rs : List (Option Er)) (j i : Nat) : Er := if i < j then tf rs i else Er.nil
def tG (rs : List (Option Er)) (j i : Nat) : Int := if i < j then tg rs i else 0
theorem Tc.next {cs : List Value} {rs : List (Option Er)} {j : Nat} (h : Tc cs (tF rs j) (tG rs j)) (hj : j < 16) : Tc ((setsL cs (j * 21) (tf rs j).head).set (336 + j) (.int .i64 (tg rs j))) (tF rs (j + 1)) (tG rs (j + 1)) := by
  refine (h.step hj (tf rs j) (tg rs j)).cong (fun i _ => ?_) (fun i _ => ?_)
  · unfold tF
    by_cases e : i = j
    · subst e; rw [if_pos rfl, if_pos (by omega)]
    · rw [if_neg e]
      by_cases e2 : i < j
      · rw [if_pos e2, if_pos (by omega)]
      · rw [if_neg e2, if_neg (by omega)]
  · unfold tG
    by_cases e : i = j
    · subst e; rw [if_pos rfl, if_pos (by omega)]
    · rw [if_neg e]
      by_cases e2 : i < j
      · rw [if_pos e2, if_pos (by omega)]
      · rw [if_neg e2, if_neg (by omega)]
section
variable {w : World} {F : Nat → Prop} {T : Nat} {rs : List (Option Er)} {last : Int}
set_option maxRecDepth 100000 in
set_option maxHeartbeats 3200000 in
theorem told_any (h : Et w F T rs last) : Calls Try.prog 17 #[.pointer (some ⟨T, 0, none⟩)] w fun x w' => ∃ cs, x = .returned (.agg cs.toArray) ∧ Tc cs (tf rs) (tg rs) ∧ Below w.heap.size w w' := by
  have HE := hide h
  clear h
  obtain ⟨zt, hzt⟩ : ∃ zt, zt = zT := ⟨_, rfl⟩
  have HZ := hide hzt
  have hrun : ∀ (ρ : Operand → Value) (o : Oper) (W : World), o.op = .alloc 52 → (execOp ρ o).run Try.prog W = .ok (.value (.pointer (some ⟨W.heap.size, 0, none⟩))) (W.alloc (.cells zt.toArray 52)) := by
    intro ρ o W ho
    rw [hzt]
    unfold execOp
    rw [ho]
    kernel_rfl
  clear hzt
  go_enter Try.func17, Try.ntmps17
  go_upto_region 0 with fail
  apply wp_region_lit
  refine wpList_allocTo rfl (some 2) rfl (.pointer (some ⟨w.heap.size, 0, none⟩)) (.cells zt.toArray 52) (hrun _ _ _ rfl) ?_
  apply wpList_nil
  rename_i K hK
  refine hK _ _ ?_
  clear hK K
  simp only [Act.put, List.setIfInBounds_toArray, List.set_cons_zero, List.set_cons_succ]
  go_upto_region 1 with fail
  apply wp_region_lit
  refine wpList_allocTo rfl (some 3) rfl (.pointer (some ⟨(w.alloc (.cells zt.toArray 52)).heap.size, 0, none⟩)) (.cells zt.toArray 52) (hrun _ _ _ rfl) ?_
  apply wpList_nil
  rename_i K hK
  refine hK _ _ ?_
  clear hK K
  simp only [Act.put, List.setIfInBounds_toArray, List.set_cons_zero, List.set_cons_succ]
  have hb1 := (Below.refl w.heap.size w).alloc (Nat.le_refl _) (.cells zt.toArray 52)
  have a1 := heap_alloc_new w (.cells zt.toArray 52)
  have hb2 := hb1.alloc (by simp) (.cells zt.toArray 52)
  have a2 := heap_alloc_new (w.alloc (.cells zt.toArray 52)) (.cells zt.toArray 52)
  have a3 : ((w.alloc (.cells zt.toArray 52)).alloc (.cells zt.toArray 52)).heap[w.heap.size]? = some (.cells zt.toArray 52 (0, 0)) := by rw [Below.heap_alloc _ _ _ (by simp)]; exact a1
  have hne : (w.alloc (.cells zt.toArray 52)).heap.size = w.heap.size + 1 := by simp
  rw [hne] at a2 ⊢
  clear hb1 a1 hne hrun
  generalize (w.alloc (.cells zt.toArray 52)).alloc (.cells zt.toArray 52) = w2 at *
  have HB := hide hb2
  have H1 := hide a3
  have H2 : Hid (∃ cs : List Value, w2.heap[w.heap.size + 1]? = some (.cells cs.toArray 52 (0, 0)) ∧ Tc cs (tF rs 0) (tG rs 0)) := hide ⟨zt, a2, by rw [HZ.out]; exact zT_tc.cong (fun i _ => rfl) (fun i _ => rfl)⟩
  have HZl : Hid (zt.length = 352) := hide (by rw [HZ.out]; exact zT_tc.len)
  clear hb2 a3 a2 HZ
  go_upto_region 3 with fail
  go_loopw [4] (fun x wr => ∃ j : Nat, j ≤ 16 ∧ x = .int .i64 (j : Int) ∧ Hid (∃ cs : List Value, wr.heap[w.heap.size + 1]? = some (.cells cs.toArray 52 (0, 0)) ∧ Tc cs (tF rs j) (tG rs j)) ∧ Hid (wr.heap[w.heap.size]? = some (.cells zt.toArray 52 (0, 0))) ∧ Hid (Below w.heap.size w wr)) (fun x _ => 16 - (intOf x).toNat)
  case atStart => exact ⟨0, by omega, rfl, H2, H1, HB⟩
  case round =>
  clear H2 H1 HB
  obtain ⟨j, hj, rfl, K2, K1, KB⟩ := hrel
  by_cases h16 : j < 16
  · have hd : decide ((j : Int) < 16) = true := by simp; omega
    have hj3 : (j : Int) < 16 := by omega
    have HI := hide (info_both (HE.out.keep KB.out.size (fun b hb => KB.out.block b (HE.out.lt b hb))) j)
    go_wp2_with fail
    refine HI.out.mono ?_
    rintro e1 u1 ⟨rfl, hb1⟩
    obtain ⟨cs, hc, hT⟩ := K2.out
    have hc1 := (hb1.block _ (Array.getElem?_eq_some_iff.1 hc).1).trans hc
    have K1' := hide ((hb1.block _ (Array.getElem?_eq_some_iff.1 K1.out).1).trans K1.out)
    have KB' := hide (KB.out.trans (hb1.mono KB.out.size))
    have HC1 := hide hc1
    have HT := hide hT
    have HTn := hide (hT.next h16)
    have hlen := hT.len
    clear K2 K1 KB HI hb1 hc hT hc1
    generalize hr : tf rs j = r at *
    generalize hz : tg rs j = z at *
    have hcx := heap_setCells_row (w.heap.size + 1) 52 r.head (j * 21) u1 cs HC1.out
    have HCx := hide hcx
    have hK1 : (u1.setCells (w.heap.size + 1) (j * 21) r.head).heap[w.heap.size]? = some (.cells zt.toArray 52 (0, 0)) := by rw [heap_setCells_other _ _ (by omega)]; exact K1'.out
    have HK1 := hide hK1
    have HBx := hide (below_setCells KB'.out (show w.heap.size ≤ w.heap.size + 1 by omega) (j * 21) r.head)
    have hle : j * 21 + r.head.length ≤ cs.length := by rw [head_len, hlen]; omega
    have hsl : (setsL cs (j * 21) r.head).length = 352 := by rw [setsL_len]; exact hlen
    have hcell : (u1.setCells (w.heap.size + 1) (j * 21) r.head).cell? ⟨w.heap.size + 1, 336 + j, none⟩ = some (.int .i64 (tG rs j j)) := by
      rw [cell_of_row _ _ _ _ _ _ hcx]
      have h9 := setsL_get r.head cs (j * 21) (336 + j) hle
      rw [head_len, if_neg (by omega), HT.out.err j h16] at h9
      simpa using h9
    have hfrz := frozen_of_row (u1.setCells (w.heap.size + 1) (j * 21) r.head) (w.heap.size + 1) (336 + j) _ _ hcx
    clear hK1 K1' hcx
    go_wp2_with (refine storeT r.head (by rw [head_len]; exact infoE) (head_one r) ?nw _ _ rfl (w.heap.size + 1) (j * 21) ?nx ?ny cs HC1.out hle ?_; rotate_left 3; generalize u1.setCells (w.heap.size + 1) (j * 21) r.head = u2 at *)
    try (case nw => rfl)
    try (case nx => rfl)
    try (case ny => rfl)
    have N2 : Hid (∃ cs : List Value, (u2.setCell ⟨w.heap.size + 1, 336 + j, none⟩ (.int .i64 z)).heap[w.heap.size + 1]? = some (.cells cs.toArray 52 (0, 0)) ∧ Tc cs (tF rs (j + 1)) (tG rs (j + 1))) := hide ⟨_, by rw [heap_setCell_same _ _ _ _ _ (.int .i64 z) HCx.out, List.setIfInBounds_toArray], HTn.out⟩
    have N1 : Hid ((u2.setCell ⟨w.heap.size + 1, 336 + j, none⟩ (.int .i64 z)).heap[w.heap.size]? = some (.cells zt.toArray 52 (0, 0))) := hide (by rw [heap_setCell_other _ _ _ _ (show w.heap.size ≠ w.heap.size + 1 by omega)]; exact HK1.out)
    have NB := hide (HBx.out.setCell (p := ⟨w.heap.size + 1, 336 + j, none⟩) (show w.heap.size ≤ w.heap.size + 1 by omega) (.int .i64 z))
    go_roundw
    case rel =>
      first
        | exact ⟨j + 1, by omega, by go_num, N2, N1, NB⟩
        | ((repeat apply Exists.intro); refine ⟨?_, rfl⟩; exact ⟨j + 1, by omega, by go_num, N2, N1, NB⟩)
    case measure => simp [intOf]; omega
  · obtain rfl : j = 16 := by omega
    obtain ⟨cs, hc, hT⟩ := K2.out
    have HC := hide hc
    have HT := hide hT
    have hT2 : Tc cs (tf rs) (tg rs) := hT.cong (fun i hi => by unfold tF; rw [if_pos hi]) (fun i hi => by unfold tG; rw [if_pos hi])
    have HT2 := hide hT2
    have hx : (wr.setCells w.heap.size 0 cs).heap[w.heap.size]? = some (.cells cs.toArray 52 (0, 0)) := by
      have h9 := heap_setCells_row w.heap.size 52 cs 0 wr zt K1.out
      rw [setsL_all zt cs (by rw [HZl.out, hT.len])] at h9
      exact h9
    have HX := hide hx
    have HBx := hide (below_setCells KB.out (Nat.le_refl _) 0 cs)
    have hle : 0 + cs.length ≤ zt.length := by rw [HZl.out, hT.len]; omega
    have hi : (Try.prog.info? 52).map (·.size) = some cs.length := by rw [hT.len]; exact infoTold
    clear hc hT hT2 hx K2
    go_wp2_with (first
      | (refine loadT Try.underlying52 rfl cs hi ?lw _ rfl ⟨w.heap.size + 1, 0, none⟩ ?lx (fun j v hv => by rw [add_nat, cell_of_row _ _ _ _ _ _ HC.out]; simpa using hv) ?_; rotate_left 2)
      | (refine storeT cs hi HT.out.one ?sw _ _ rfl w.heap.size 0 ?sx ?sy zt K1.out hle ?_; rotate_left 3; generalize wr.setCells w.heap.size 0 cs = w4 at *))
    try (case lw => rfl)
    try (case lx => rfl)
    try (case sw => rfl)
    try (case sx => rfl)
    try (case sy => rfl)
    refine bodyPost_ret (results_row1 rfl _ _ w.heap.size 52 cs.toArray (0, 0) _ rfl HX.out Try.underlying52 rfl (by rw [List.size_toArray]; exact hi)) rfl ?_
    exact ⟨cs, rfl, HT2.out, HBx.out⟩
end
end Go.Proofs.Ytoddadohmnaolaa

namespace Go.Proofs.Ytoddadohmnaolaa
open Go.ChangeShapes Go.WideShapes Go.ChangeAt Go.RowKit Go.Deep Go.Shelf

/-- a value is equal to itself -/
def Se (d : Nat) (t : TypeId) (v : Value) : Prop := ∀ w, (Op.equalIn d t v v).run Try.prog w = .ok true w
theorem se_int {t : TypeId} {k' : IntKind} (h : Try.prog.underlying t = some (.int k')) (d : Nat) (k : IntKind) (z : Int) : Se (d + 1) t (.int k z) := fun w => by
  rw [run_equalIn_int w d t k k' z z h]; simp
theorem se_bool {t : TypeId} (h : Try.prog.underlying t = some .bool) (d : Nat) (b : Bool) : Se (d + 1) t (.bool b) := fun w => by
  rw [run_equalIn_bool' w d t b b h]; simp
theorem part_cell {t : TypeId} {d : TypeDesc} (hu : Try.prog.underlying t = some d) (hd : (match d with | .struct _ | .array _ _ => true | _ => false) = false) {xs : Array Value} {off : Nat} {v : Value} (hx : xs[off]? = some v) (w : World) : (part t xs off).run Try.prog w = .ok v w := by
  have hagg : (isAgg t).run Try.prog w = .ok false w := by
    unfold isAgg
    rw [Sem.run_bind, run_underlying hu w]
    cases d <;> simp_all
  simp [part, Sem.run_bind, hagg, hx]
theorem part_agg {t : TypeId} {d : TypeDesc} (hu : Try.prog.underlying t = some d) (hd : (match d with | .struct _ | .array _ _ => true | _ => false) = true) {n : Nat} (hn : (Try.prog.info? t).map (·.size) = some n) {xs ys : Array Value} {off : Nat} (hx : xs.extract off (off + n) = ys) (w : World) : (part t xs off).run Try.prog w = .ok (.agg ys) w := by
  have hagg : (isAgg t).run Try.prog w = .ok true w := by
    unfold isAgg
    rw [Sem.run_bind, run_underlying hu w]
    cases d <;> simp_all
  cases hq : Try.prog.info? t with
  | none => simp [hq] at hn
  | some i =>
    have hs : i.size = n := by simpa [hq] using hn
    simp [part, Sem.run_bind, hagg, sizeOf, typeInfo, hq, hs, hx]
/-- what stands at a place of some cells, and is equal to itself -/
def Pe (d : Nat) (xs : Array Value) (t : TypeId) (off : Nat) : Prop := ∃ v, (∀ w, (part t xs off).run Try.prog w = .ok v w) ∧ Se d t v
theorem se_fields (d : Nat) (xs : Array Value) : ∀ fs : List Field, (∀ f ∈ fs, Pe d xs f.type f.offset) → ∀ w, (Op.eqFields d xs xs fs).run Try.prog w = .ok true w
  | [], _, w => by simp [Op.eqFields]
  | f :: fs, h, w => by
    obtain ⟨v, h1, h2⟩ := h f List.mem_cons_self
    have h3 := se_fields d xs fs (fun g hg => h g (List.mem_cons_of_mem _ hg)) w
    by_cases hn : f.name = "_"
    · simp [Op.eqFields, hn, h3]
    · simp [Op.eqFields, hn, Sem.run_bind, h1, h2 w, h3]
theorem se_struct {t : TypeId} (ht : Try.prog.underlying t = some (.struct (Try.prog.fieldsOf t))) (hp : Try.prog.stoodInHeld t = false) {ps : List (TypeId × Nat)} (hfs : (Try.prog.fieldsOf t).toList.map (fun f => (f.type, f.offset)) = ps) (d : Nat) (xs : Array Value) (h : ∀ p ∈ ps, Pe d xs p.1 p.2) : Se (d + 1) t (.agg xs) := fun w => by
  rw [run_equalIn_struct w d t xs xs ht hp]
  exact se_fields d xs _ (fun f hf => h (f.type, f.offset) (by rw [← hfs]; exact List.mem_map.2 ⟨f, hf, rfl⟩)) w
theorem se_items (d : Nat) (xs : Array Value) (e : TypeId) (c : Nat) : ∀ is : List Nat, (∀ i ∈ is, Pe d xs e (i * c)) → ∀ w, (Op.eqItems d e c xs xs is).run Try.prog w = .ok true w
  | [], _, w => by simp [Op.eqItems]
  | i :: is, h, w => by
    obtain ⟨v, h1, h2⟩ := h i List.mem_cons_self
    have h3 := se_items d xs e c is (fun g hg => h g (List.mem_cons_of_mem _ hg)) w
    simp [Op.eqItems, Sem.run_bind, h1, h2 w, h3]
theorem se_array {t e : TypeId} {n c : Nat} (hu : Try.prog.underlying t = some (.array n e)) (hi : (Try.prog.info? e).map (·.size) = some c) (hc : Try.prog.cellsOf e = c) (d : Nat) (xs : Array Value) (h : ∀ i, i < n → Pe d xs e (i * c)) : Se (d + 1) t (.agg xs) := fun w => by
  cases hq : Try.prog.info? e with
  | none => simp [hq] at hi
  | some i =>
    rw [run_equalIn_array w d xs xs hu hq, hc]
    exact se_items d xs e c _ (fun i hi => h i (List.mem_range.1 hi)) w
theorem pe_cell {t : TypeId} {k' : IntKind} (hu : Try.prog.underlying t = some (.int k')) (d : Nat) {xs : Array Value} {off : Nat} {k : IntKind} {z : Int} (hx : xs[off]? = some (.int k z)) : Pe (d + 1) xs t off := ⟨_, part_cell hu rfl hx, se_int hu d k z⟩
theorem pe_bool {t : TypeId} (hu : Try.prog.underlying t = some .bool) (d : Nat) {xs : Array Value} {off : Nat} {b : Bool} (hx : xs[off]? = some (.bool b)) : Pe (d + 1) xs t off := ⟨_, part_cell hu rfl hx, se_bool hu d b⟩
theorem se_quota (d : Nat) (q : Qt) : Se (d + 2) 39 (.agg #[.int .i64 q.f, .int .i64 q.e, .int .i64 q.x]) := by
  refine se_struct (ps := [(3, 0), (3, 1), (3, 2)]) (by kernel_rfl) (by kernel_rfl) (by kernel_rfl) (d + 1) _ (fun p hp => ?_)
  simp only [List.mem_cons, List.not_mem_nil, or_false] at hp
  rcases hp with rfl | rfl | rfl <;> exact pe_cell Try.underlying3 d rfl
theorem se_r8 (d : Nat) (g : Nat → Nat) : Se (d + 2) 31 (.agg #[.int .u32 (g 0 : Nat), .int .u32 (g 1 : Nat), .int .u32 (g 2 : Nat), .int .u32 (g 3 : Nat), .int .u32 (g 4 : Nat), .int .u32 (g 5 : Nat), .int .u32 (g 6 : Nat), .int .u32 (g 7 : Nat)]) := by
  refine se_array (c := 1) Try.underlying31 (by kernel_rfl) (by kernel_rfl) (d + 1) _ (fun i hi => ?_)
  have : i = 0 ∨ i = 1 ∨ i = 2 ∨ i = 3 ∨ i = 4 ∨ i = 5 ∨ i = 6 ∨ i = 7 := by omega
  rcases this with rfl | rfl | rfl | rfl | rfl | rfl | rfl | rfl <;> exact pe_cell Try.underlying30 d rfl
theorem se_regs (d : Nat) (g : Nat → Nat) (pc : Nat) : Se (d + 3) 33 (.agg #[.int .u32 (g 0 : Nat), .int .u32 (g 1 : Nat), .int .u32 (g 2 : Nat), .int .u32 (g 3 : Nat), .int .u32 (g 4 : Nat), .int .u32 (g 5 : Nat), .int .u32 (g 6 : Nat), .int .u32 (g 7 : Nat), .int .u32 (pc : Nat)]) := by
  refine se_struct (ps := [(31, 0), (30, 8)]) (by kernel_rfl) (by kernel_rfl) (by kernel_rfl) (d + 2) _ (fun p hp => ?_)
  simp only [List.mem_cons, List.not_mem_nil, or_false] at hp
  rcases hp with rfl | rfl
  · exact ⟨_, part_agg Try.underlying31 rfl (n := 8) (by kernel_rfl) (by simp), se_r8 d g⟩
  · exact pe_cell Try.underlying30 (d + 1) rfl
theorem se_env (d : Nat) (e : Er) : Se (d + 4) 41 (.agg e.head.toArray) := by
  refine se_struct (ps := [(3, 0), (3, 1), (3, 2), (3, 3), (3, 4), (4, 5), (33, 6), (39, 15), (39, 18)]) (by kernel_rfl) (by kernel_rfl) (by kernel_rfl) (d + 3) _ (fun p hp => ?_)
  simp only [List.mem_cons, List.not_mem_nil, or_false] at hp
  rcases hp with rfl | rfl | rfl | rfl | rfl | rfl | rfl | rfl | rfl
  · exact pe_cell Try.underlying3 (d + 2) rfl
  · exact pe_cell Try.underlying3 (d + 2) rfl
  · exact pe_cell Try.underlying3 (d + 2) rfl
  · exact pe_cell Try.underlying3 (d + 2) rfl
  · exact pe_cell Try.underlying3 (d + 2) rfl
  · exact pe_bool Try.underlying4 (d + 2) rfl
  · exact ⟨_, part_agg Try.underlying33 rfl (n := 9) (by kernel_rfl) (by simp [Er.head]), se_regs d e.rg e.pc⟩
  · exact ⟨_, part_agg Try.underlying39 rfl (n := 3) (by kernel_rfl) (by simp [Er.head]), se_quota (d + 1) e.qu⟩
  · exact ⟨_, part_agg Try.underlying39 rfl (n := 3) (by kernel_rfl) (by simp [Er.head]), se_quota (d + 1) e.lf⟩
/-- what is told is equal to itself -/
theorem Tc.se {cs : List Value} {f : Nat → Er} {g : Nat → Int} (h : Tc cs f g) (d : Nat) : Se (d + 6) 52 (.agg cs.toArray) := by
  refine se_struct (ps := [(49, 0), (50, 336)]) (by kernel_rfl) (by kernel_rfl) (by kernel_rfl) (d + 5) _ (fun p hp => ?_)
  simp only [List.mem_cons, List.not_mem_nil, or_false] at hp
  rcases hp with rfl | rfl
  · refine ⟨_, part_agg Try.underlying49 rfl (n := 336) (by kernel_rfl) rfl, ?_⟩
    refine se_array (c := 21) Try.underlying49 (by kernel_rfl) (by kernel_rfl) (d + 4) _ (fun i hi => ?_)
    refine ⟨_, part_agg Try.underlying41 rfl (n := 21) infoE ?_, se_env d (f i)⟩
    refine Array.ext_getElem? (fun j => ?_)
    by_cases hj : j < 21
    · rw [Array.getElem?_extract_of_lt (by simp [h.len]; omega), ← Array.getElem?_eq_getElem, Array.getElem?_extract_of_lt (by simp [h.len]; omega), ← Array.getElem?_eq_getElem]
      have := h.env i hi j hj
      simpa using this
    · rw [Array.getElem?_eq_none (by simp [h.len]; omega), Array.getElem?_eq_none (by rw [List.size_toArray, head_len]; omega)]
  · refine ⟨_, part_agg Try.underlying50 rfl (n := 16) (by kernel_rfl) rfl, ?_⟩
    refine se_array (c := 1) Try.underlying50 (by kernel_rfl) (by kernel_rfl) (d + 4) _ (fun i hi => ?_)
    refine pe_cell (k := .i64) (z := g i) Try.underlying27 (d + 3) ?_
    rw [Array.getElem?_extract_of_lt (by simp [h.len]; omega), ← Array.getElem?_eq_getElem]
    have := h.err i hi
    simpa using this
/-- '==' of a value with itself -/
theorem eqlT {t t' : TypeId} (xs : Array Value) (hse : Se 10000 t (.agg xs)) (hm : Try.prog.eqGuardType Try.prog.depth t = false) {ops : Array Oper} {rest : List Oper} {op : Oper} {a : Act} {w : World} {Q : Exit → Act → World → Prop} (hw : Region.wanted op (yielded ops a.tmps) = true) (x y : Operand) (ho : op.op = .binOp .eql t x y t')
    (hx : a.eval x = .agg xs) (hy : a.eval y = .agg xs) (h : wpList Try.prog ops Q rest (a.put op.dst (.bool true)) w) : wpList Try.prog ops Q (op :: rest) a w :=
  BigFrame.wpList_want hw fun _ hK => by
    unfold Oper.wp execOp
    simp only [ho, hx, hy, Sem.run_bind, run_eqGuard_agg w .eql t x y xs xs hm, run_eql_struct, hse w, Result.andThen_ok, Sem.run_pure]
    exact hK _ _ h
theorem neqT {t t' : TypeId} (xs : Array Value) (hse : Se 10000 t (.agg xs)) (hm : Try.prog.eqGuardType Try.prog.depth t = false) {ops : Array Oper} {rest : List Oper} {op : Oper} {a : Act} {w : World} {Q : Exit → Act → World → Prop} (hw : Region.wanted op (yielded ops a.tmps) = true) (x y : Operand) (ho : op.op = .binOp .neq t x y t')
    (hx : a.eval x = .agg xs) (hy : a.eval y = .agg xs) (h : wpList Try.prog ops Q rest (a.put op.dst (.bool false)) w) : wpList Try.prog ops Q (op :: rest) a w :=
  BigFrame.wpList_want hw fun _ hK => by
    unfold Oper.wp execOp
    simp only [ho, hx, hy, Sem.run_bind, run_eqGuard_agg w .neq t x y xs xs hm, run_neq_struct, hse w, Result.andThen_ok, Sem.run_pure, Bool.not_true]
    exact hK _ _ h
end Go.Proofs.Ytoddadohmnaolaa

namespace Go.Proofs.Ytoddadohmnaolaa
open Go.ChangeShapes Go.WideShapes Go.ChangeAt Go.RowKit Go.Deep Go.Shelf Go.Great

theorem all_one {l : List Nat} {m : Nat} (hn : l.Nodup) (h1 : m ∈ l) (h2 : ∀ x ∈ l, x = m) : l = [m] := by
  match l, hn, h1, h2 with
  | [], _, h1, _ => cases h1
  | [x], _, _, h2 => rw [h2 x List.mem_cons_self]
  | x :: y :: l, hn, _, h2 =>
    have e1 := h2 x List.mem_cons_self
    have e2 := h2 y (List.mem_cons_of_mem _ List.mem_cons_self)
    rw [e1, e2] at hn
    simp at hn
section
variable {rs : List (Option Er)} {last : Int}
theorem kids_nil (h : Tr rs last) {c : Nat} (hs : ∀ x, Lv rs x → ser rs x ≤ ser rs c) : kids rs ((c : Nat) : Int) = [] := by
  rcases hq : kids rs ((c : Nat) : Int) with _ | ⟨x, l⟩
  · rfl
  · have hk := kids_kid (rs := rs) (e := ((c : Nat) : Int)) (k := x) (by rw [hq]; simp)
    have h1 := (kid_ser h hk).1
    have h2 := hs x (kid_lv hk)
    omega
/-- made, one made below it, and both ended: all as it was -/
theorem cr_cr_ds (h : Iv rs last) {e s s2 : Int} {q q2 : Qt} (hc : crE rs last e s q = 0) (hc2 : crE (crS rs last e s q) s ((ff rs : Nat) : Int) s2 q2 = 0) :
    dsE (crS (crS rs last e s q) s ((ff rs : Nat) : Int) s2 q2) ((ff rs : Nat) : Int) = 0 ∧ dsL (crS (crS rs last e s q) s ((ff rs : Nat) : Int) s2 q2) ((ff rs : Nat) : Int) = [ff rs, ff (crS rs last e s q)] ∧ dsS (crS (crS rs last e s q) s ((ff rs : Nat) : Int) s2 q2) ((ff rs : Nat) : Int) = rs := by
  have h1 := h.crS e s q
  rw [show crL rs last e s q = s by unfold crL; rw [if_pos hc]] at h1
  have h2 := h1.crS ((ff rs : Nat) : Int) s2 q2
  rw [show crL (crS rs last e s q) s ((ff rs : Nat) : Int) s2 q2 = s2 by unfold crL; rw [if_pos hc2]] at h2
  obtain ⟨k, r, he, hr, hg, hls, hs, hle, hf⟩ := crE_zero2 hc
  obtain ⟨k2, r2, he2, hr2, hg2, hls2, hs2, hle2, hf2⟩ := crE_zero2 hc2
  have hcs := crS_at hc he hr
  have hnf := ff_none h.tr hf
  have hcs2 := crS_at hc2 he2 hr2
  have hnf2 := ff_none h1.tr hf2
  generalize ff rs = n at *
  generalize crS rs last e s q = rs1 at *
  generalize ff rs1 = m at *
  obtain rfl : n = k2 := by omega
  generalize crS rs1 s ((n : Nat) : Int) s2 q2 = rs2 at *
  have hnk : n ≠ k := fun e9 => by rw [e9, hr] at hnf; cases hnf
  have hkl := (List.getElem?_eq_some_iff.1 hr).1
  have hnl := (List.getElem?_eq_some_iff.1 hnf).1
  have hn1 : rs1[n]? = some (some (Er.new s e q)) := by
    rw [hcs, List.getElem?_set_ne (fun e9 => hnk e9.symm), List.getElem?_set_self hnl]
  rw [hn1] at hr2
  obtain rfl : Er.new s e q = r2 := by simpa using hr2
  have hk1 : rs1[k]? = some (some { r with le := r.le.less (q.plus Qt.one) }) := by
    rw [hcs, List.getElem?_set_self (by simpa using hkl)]
  have hmn : m ≠ n := fun e9 => by rw [e9, hn1] at hnf2; cases hnf2
  have hmk : m ≠ k := fun e9 => by rw [e9, hk1] at hnf2; cases hnf2
  have hml := (List.getElem?_eq_some_iff.1 hnf2).1
  have hl1 : rs1.length = rs.length := by rw [hcs]; simp
  have hn2 : rs2[n]? = some (some { Er.new s e q with le := (Er.new s e q).le.less (q2.plus Qt.one) }) := by
    rw [hcs2, List.getElem?_set_self (by simp; omega)]
  have hm2 : rs2[m]? = some (some (Er.new s2 ((n : Nat) : Int) q2)) := by
    rw [hcs2, List.getElem?_set_ne (fun e9 => hmn e9.symm), List.getElem?_set_self hml]
  have hk2 : rs2[k]? = some (some { r with le := r.le.less (q.plus Qt.one) }) := by
    rw [hcs2, List.getElem?_set_ne hnk, List.getElem?_set_ne hmk, hk1]
  have ho2 : ∀ x, x ≠ n → x ≠ m → rs2[x]? = rs1[x]? := fun x hx1 hx2 => by
    rw [hcs2, List.getElem?_set_ne (fun e9 => hx1 e9.symm), List.getElem?_set_ne (fun e9 => hx2 e9.symm)]
  have hn0 : n ≠ 0 := fun e9 => by
    obtain ⟨r0, h0, _⟩ := h.tr.root
    rw [e9, h0] at hnf; cases hnf
  have hsn : ser rs2 n = s := by rw [ser_core, core_at hn2]; rfl
  have hsm : ser rs2 m = s2 := by rw [ser_core, core_at hm2]; rfl
  have hE : dsE rs2 ((n : Nat) : Int) = 0 := by
    unfold dsE
    rw [look_at hn2]
    simp only []
    rw [if_neg (by omega)]
  have hkm : kids rs2 ((m : Nat) : Int) = [] := kids_nil h2.tr (fun x hx => by rw [hsm]; exact h2.tr.old x hx)
  have hkn : kids rs2 ((n : Nat) : Int) = [m] := by
    refine all_one (kids_nodup _) (kid_kids ?_) (fun x hx => ?_)
    · rw [kid_at hm2]; simp [Er.new]
    · refine Classical.byContradiction (fun hxm => ?_)
      have hkx := kids_kid hx
      have h9 := (kid_ser h2.tr hkx).1
      have hxn : x ≠ n := fun e9 => by rw [e9] at h9; omega
      obtain ⟨rx, hrx⟩ := kid_lv hkx
      have hrx1 : rs1[x]? = some (some rx) := by rw [← ho2 x hxn hxm]; exact hrx
      have h8 := h1.tr.old x ⟨rx, hrx1⟩
      have h7 : ser rs2 x = ser rs1 x := by rw [ser_core, ser_core, core_at hrx, core_at hrx1]
      rw [hsn, h7] at h9
      omega
  have hwk : wk rs2 17 n = [n, m] := by
    show n :: (kids rs2 ((n : Nat) : Int)).flatMap (wk rs2 16) = [n, m]
    rw [hkn]
    show n :: ([m].flatMap (wk rs2 16)) = [n, m]
    rw [List.flatMap_cons, List.flatMap_nil, List.append_nil]
    show n :: (m :: (kids rs2 ((m : Nat) : Int)).flatMap (wk rs2 15)) = [n, m]
    rw [hkm]; rfl
  refine ⟨hE, ?_, ?_⟩
  · unfold dsL
    rw [hE, if_pos rfl, Int.toNat_natCast, hwk]
  · unfold dsS
    rw [look_at hn2]
    simp only []
    rw [if_neg (by omega), Int.toNat_natCast, hwk, dsP_at (p := k) he hk2]
    have hrr : (some { ({ r with le := r.le.less (q.plus Qt.one) } : Er) with le := (r.le.less (q.plus Qt.one)).plus ((Er.new s e q).qu.plus Qt.one) } : Option Er) = some r := by
      have h9 : (r.le.less (q.plus Qt.one)).plus ((Er.new s e q).qu.plus Qt.one) = r.le := by
        refine qt_ext ?_ ?_ ?_ <;> simp only [Qt.plus, Qt.less, Qt.one, Er.new] <;> omega
      rw [h9]
    rw [hrr]
    show ((rs2.set k (some r)).set n none).set m none = rs
    refine List.ext_getElem? (fun i => ?_)
    have hl2 : rs2.length = rs.length := by rw [hcs2]; simp [hl1]
    by_cases e0 : i = m
    · subst e0
      have hmo : rs[i]? = some none := by
        rw [hcs, List.getElem?_set_ne (fun e9 => hmk e9.symm), List.getElem?_set_ne (fun e9 => hmn e9.symm)] at hnf2
        exact hnf2
      rw [List.getElem?_set_self (by simp; omega), hmo]
    · rw [List.getElem?_set_ne (fun e9 => e0 e9.symm)]
      by_cases e1 : i = n
      · subst e1
        rw [List.getElem?_set_self (by simp; omega), hnf]
      · rw [List.getElem?_set_ne (fun e9 => e1 e9.symm)]
        by_cases e2 : i = k
        · subst e2
          rw [List.getElem?_set_self (by omega), hr]
        · rw [List.getElem?_set_ne (fun e9 => e2 e9.symm), ho2 i e1 e0, hcs, List.getElem?_set_ne (fun e9 => e2 e9.symm), List.getElem?_set_ne (fun e9 => e1 e9.symm)]
end
/-- what is told, laid into a variable -/
structure Tb (w : World) (N : Nat) (cs : List Value) : Prop where
  out : w.heap[N]? = some (.cells cs.toArray 52 (0, 0))
def freshT (w : World) (cs : List Value) : World := (w.alloc (.cells zT.toArray 52)).setCells w.heap.size 0 cs
theorem freshT_tb (w : World) {cs : List Value} (h : cs.length = 352) : Tb (freshT w cs) w.heap.size cs := by
  have h9 := heap_setCells_row w.heap.size 52 cs 0 _ zT (heap_alloc_new w (.cells zT.toArray 52))
  rw [setsL_all zT cs (by rw [zT_tc.len, h])] at h9
  exact ⟨h9⟩
theorem freshT_below (w : World) (cs : List Value) : Below w.heap.size w (freshT w cs) :=
  below_setCells ((Below.refl w.heap.size w).alloc (Nat.le_refl _) _) (Nat.le_refl _) _ _
theorem Tb.lt {w : World} {N : Nat} {cs : List Value} (h : Tb w N cs) : N < w.heap.size := (Array.getElem?_eq_some_iff.1 h.out).1
theorem Tb.keep {w w' : World} {N : Nat} {cs : List Value} (h : Tb w N cs) (hk : w'.heap[N]? = w.heap[N]?) : Tb w' N cs := ⟨hk.trans h.out⟩
theorem Tb.cell {w : World} {N : Nat} {cs : List Value} (h : Tb w N cs) (j : Nat) (v : Value) (hv : cs[j]? = some v) : w.cell? ((⟨N, 0, none⟩ : Addr).add j) = some v := by
  rw [add_nat, cell_of_row _ _ _ _ _ _ h.out]; simpa using hv
theorem allocTold {ops : Array Oper} {rest : List Oper} {op : Oper} {a : Act} {w : World} {Q : Exit → Act → World → Prop} (hw : Region.wanted op (yielded ops a.tmps) = true) (ho : op.op = .alloc 52)
    (h : wpList Try.prog ops Q rest (a.put op.dst (.pointer (some ⟨w.heap.size, 0, none⟩))) (w.alloc (.cells zT.toArray 52))) : wpList Try.prog ops Q (op :: rest) a w :=
  BigFrame.wpList_want hw fun _ hK => by
    have hrun : (execOp a.eval op).run Try.prog w = .ok (.value (.pointer (some ⟨w.heap.size, 0, none⟩))) (w.alloc (.cells zT.toArray 52)) := by
      unfold execOp
      rw [ho]
      kernel_rfl
    unfold Oper.wp
    rw [hrun, Oper.upon_value]
    exact hK _ _ h
/-- a struct loaded: what the operation yields -/
theorem run_loadT {t : TypeId} {d : TypeDesc} (hu : Try.prog.underlying t = some d) (hd : (match d with | .struct _ | .array _ _ => true | _ => false) = true) (cs : List Value) (hi : (Try.prog.info? t).map (·.size) = some cs.length) {op : Oper} {a : Act} {w : World} (x : Operand) (ho : op.op = .load t x) (ad : Addr)
    (hx : a.eval x = .pointer (some ad)) (hc : ∀ (j : Nat) (v : Value), cs[j]? = some v → w.cell? (ad.add j) = some v) : (execOp a.eval op).run Try.prog w = .ok (.value (.agg cs.toArray)) w := by
  have hl : (loadCells ad cs.length).run Try.prog w = .ok cs.toArray w := run_loadCells_list w ad cs hc
  have hv : (loadVar t ad).run Try.prog w = .ok (.agg cs.toArray) w := by
    cases hq : Try.prog.info? t with
    | none => simp [hq] at hi
    | some i =>
      have hs : i.size = cs.length := by simpa [hq] using hi
      have hagg : (isAgg t).run Try.prog w = .ok true w := by
        unfold isAgg
        rw [Sem.run_bind, run_underlying hu w]
        cases d <;> simp_all
      simp [loadVar, Sem.run_bind, hagg, sizeOf, typeInfo, hq, hs, hl]
  unfold execOp
  simp only [ho, hx, Instr.loadAt, Instr.sureAddr, Sem.run_bind, Sem.run_pure, Result.andThen_ok, hv]
theorem run_eqlT {t t' : TypeId} (xs : Array Value) (hse : Se 10000 t (.agg xs)) (hm : Try.prog.eqGuardType Try.prog.depth t = false) {op : Oper} {a : Act} {w : World} (x y : Operand) (ho : op.op = .binOp .eql t x y t')
    (hx : a.eval x = .agg xs) (hy : a.eval y = .agg xs) : (execOp a.eval op).run Try.prog w = .ok (.value (.bool true)) w := by
  unfold execOp
  simp only [ho, hx, hy, Sem.run_bind, run_eqGuard_agg w .eql t x y xs xs hm, run_eql_struct, hse w, Result.andThen_ok, Sem.run_pure]
theorem run_neqT {t t' : TypeId} (xs : Array Value) (hse : Se 10000 t (.agg xs)) (hm : Try.prog.eqGuardType Try.prog.depth t = false) {op : Oper} {a : Act} {w : World} (x y : Operand) (ho : op.op = .binOp .neq t x y t')
    (hx : a.eval x = .agg xs) (hy : a.eval y = .agg xs) : (execOp a.eval op).run Try.prog w = .ok (.value (.bool false)) w := by
  unfold execOp
  simp only [ho, hx, hy, Sem.run_bind, run_eqGuard_agg w .neq t x y xs xs hm, run_neq_struct, hse w, Result.andThen_ok, Sem.run_pure, Bool.not_true]
end Go.Proofs.Ytoddadohmnaolaa
