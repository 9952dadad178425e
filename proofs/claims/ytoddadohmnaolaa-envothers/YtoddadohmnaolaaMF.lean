import Derived.Laws.StructEq
import Derived.ProofKit
import Derived.OpenShut
import Derived.Deep.Slices
import Derived.Test.YtoddadohmnaolaaOI
import Derived.Test.YtoddadohmnaolaaME
namespace Go.Proofs.Ytoddadohmnaolaa
open Go.RowKit Go.Shelf

section
variable {w : World} {F : Nat → Prop} {T B : Nat} {rs : List (Option Er)} {last : Int}
set_option maxHeartbeats 800000 in
theorem childrenT_any (h : Et w F T rs last) (hD : Dis rs) (k : Nat) (hk : Lv rs k) : Calls Try.prog 51 #[.pointer (some ⟨T, 0, none⟩), .int .i64 (k : Int)] w fun x w' => ∃ v, x = .returned (.tuple #[v, .int .i64 0]) ∧ w'.ownsRow w.heap.size 3 1 v (kids rs (k : Int)).length (numN (kids rs (k : Int))) ∧ Below w.heap.size w w' := by
  have HC := hide (children_any w F T last h hD (k : Int))
  obtain ⟨r, hr⟩ := hk
  obtain ⟨S, G, m, h⟩ := h
  have c0 := h.cell.1
  have HG := hide (getL_any _ G S m h.tab (k : Int))
  rcases h.cases (k : Int) with ⟨_, h1⟩ | ⟨k', b, r', e1, hm, h3, h4, _, hR⟩
  · rw [look_nat, hr] at h1; cases h1
  · obtain rfl : k = k' := by omega
    rw [h4] at HG
    simp only [ptr, Option.isSome_some] at HG
    clear h h4 hR
    go_enter Try.func51, Try.ntmps51
    go_wp2_with fail
    refine HG.out.mono ?_
    rintro e1 w1 ⟨rfl, rfl⟩
    go_wp2_with fail
    refine HC.out.mono ?_
    rintro e1 w2 ⟨v, rfl, ho, hb⟩
    obtain ⟨va, vc, rfl⟩ := own_shape ho
    have HO := hide ho
    have HB := hide hb
    clear ho hb
    go_wp2
    go_ret2
    exact ⟨_, rfl, HO.out, HB.out⟩
set_option maxHeartbeats 800000 in
theorem below_nn (w : World) (q : Qt) (hq : q.nn) : Calls Try.prog 23 #[q.val] w fun x w' => x = .returned (.bool false) ∧ Below w.heap.size w w' := by
  have hb := (Below.refl w.heap.size w).alloc (Nat.le_refl _) (.cells #[.int .i64 q.f, .int .i64 q.e, .int .i64 q.x] 39)
  have HB := hide hb
  obtain ⟨h1, h2, h3⟩ := hq
  have h1' : ¬ q.f < 0 := by omega
  have h2' : ¬ q.e < 0 := by omega
  have h3' : ¬ q.x < 0 := by omega
  clear hb h1 h2 h3
  unfold Qt.val
  go_enter Try.func23, Try.ntmps23
  go_wp2
  go_ret
  exact ⟨by simp, HB.out⟩
end
/-- sums over lists -/
theorem sum_filter (P : Nat → Bool) (g : Nat → Int) : ∀ l : List Nat, ((l.filter P).map g).sum = (l.map (fun i => if P i = true then g i else 0)).sum
  | [] => rfl
  | x :: l => by
    by_cases h : P x = true
    · rw [List.filter_cons_of_pos h]; simp only [List.map_cons, List.sum_cons, h, if_true, sum_filter P g l]
    · rw [List.filter_cons_of_neg h]; simp only [List.map_cons, List.sum_cons, if_neg h, sum_filter P g l]; omega
theorem tot_range (f : Nat → Int) : ((List.range 16).map f).sum = tot f := by
  unfold tot
  simp only [List.range, List.range.loop, List.map_cons, List.map_nil, List.sum_cons, List.sum_nil]
  omega
theorem sum_perm {a b : List Nat} (h : a.Perm b) (g : Nat → Int) : (a.map g).sum = (b.map g).sum := by
  induction h with
  | nil => rfl
  | cons x _ ih => simp only [List.map_cons, List.sum_cons, ih]
  | swap x y l => simp only [List.map_cons, List.sum_cons]; omega
  | trans _ _ h1 h2 => exact h1.trans h2
section
variable {rs : List (Option Er)} {last : Int}
theorem kids_perm (h : Tr rs last) (e : Int) : (kids rs e).Perm ((List.range 16).filter (kid rs e)) := by
  refine (List.perm_ext_iff_of_nodup (kids_nodup e) (List.Pairwise.filter _ List.nodup_range)).2 (fun k => ?_)
  rw [List.mem_filter, List.mem_range]
  exact ⟨fun hk => ⟨lv_lt h (kid_lv (kids_kid hk)), kids_kid hk⟩, fun hk => kid_kids hk.2⟩
/-- what the children carve, child by child -/
theorem kids_sum (h : Tr rs last) (s : Qt → Int) (e : Nat) : ((kids rs (e : Int)).map (fun i => s (prc rs i))).sum = tot (tm s rs e) := by
  rw [sum_perm (kids_perm h _) _, sum_filter, tot_range]
  rfl
end
/-- the law's own beginning -/
theorem live_rs3 {i : Nat} {r : Er} (h : rs3[i]? = some (some r)) : (i = 0 ∧ r = e0) ∨ (i = 1 ∧ r = e1) ∨ (i = 2 ∧ r = e2) := by
  unfold rs3 at h
  match i with
  | 0 => left; simp at h; exact ⟨rfl, h.symm⟩
  | 1 => right; left; simp at h; exact ⟨rfl, h.symm⟩
  | 2 => right; right; simp at h; exact ⟨rfl, h.symm⟩
  | i + 3 =>
    have h9 : (List.replicate 13 (none : Option Er))[i]? = some (some r) := h
    rw [List.getElem?_replicate] at h9
    split at h9 <;> cases h9
theorem tr_rs3 : Tr rs3 3 := by
  have s0 : ser rs3 0 = 1 := rfl
  have s1 : ser rs3 1 = 2 := rfl
  have s2 : ser rs3 2 = 3 := rfl
  refine ⟨rfl, ⟨e0, rfl, rfl⟩, fun k r hr h0 => ?_, fun k ⟨r, hr⟩ => ?_, fun a b ⟨ra, ha⟩ ⟨rb, hb⟩ e => ?_⟩
  · rcases live_rs3 hr with ⟨rfl, rfl⟩ | ⟨rfl, rfl⟩ | ⟨rfl, rfl⟩
    · exact absurd rfl h0
    · exact ⟨0, rfl, ⟨e0, rfl⟩, by rw [s0, s1]; decide⟩
    · exact ⟨1, rfl, ⟨e1, rfl⟩, by rw [s1, s2]; decide⟩
  · rcases live_rs3 hr with ⟨rfl, rfl⟩ | ⟨rfl, rfl⟩ | ⟨rfl, rfl⟩
    · rw [s0]; decide
    · rw [s1]; decide
    · rw [s2]; decide
  · rcases live_rs3 ha with ⟨rfl, rfl⟩ | ⟨rfl, rfl⟩ | ⟨rfl, rfl⟩ <;> rcases live_rs3 hb with ⟨rfl, rfl⟩ | ⟨rfl, rfl⟩ | ⟨rfl, rfl⟩ <;> first | rfl | (simp only [s0, s1, s2] at e; omega)
theorem iv_rs3 : Iv rs3 3 := by
  refine ⟨tr_rs3, fun k r hr => ?_⟩
  rcases live_rs3 hr with ⟨rfl, rfl⟩ | ⟨rfl, rfl⟩ | ⟨rfl, rfl⟩
  · refine ⟨⟨rfl, rfl, rfl⟩, ⟨by decide, by decide, by decide⟩, ⟨by decide, by decide, by decide⟩, qt_ext ?_ ?_ ?_⟩ <;> decide +kernel
  · refine ⟨⟨rfl, rfl, rfl⟩, ⟨by decide, by decide, by decide⟩, ⟨by decide, by decide, by decide⟩, qt_ext ?_ ?_ ?_⟩ <;> decide +kernel
  · refine ⟨⟨rfl, rfl, rfl⟩, ⟨by decide, by decide, by decide⟩, ⟨by decide, by decide, by decide⟩, qt_ext ?_ ?_ ?_⟩ <;> decide +kernel
theorem wd_rs3 : Wd rs3 := by
  intro k r hr
  rcases live_rs3 hr with ⟨rfl, rfl⟩ | ⟨rfl, rfl⟩ | ⟨rfl, rfl⟩ <;> exact ⟨by decide, by decide⟩
theorem Bk.bq {w : World} {B : Nat} (h : Bk w B 3) : Bq w B rs3 3 := by
  refine ⟨bookL 3, h, ⟨rfl, fun i hi => ?_, fun i hi => ⟨Qt.zero, ?_, ?_, ?_, fun r hr => ?_⟩, rfl⟩⟩
  · have : i = 0 ∨ i = 1 ∨ i = 2 ∨ i = 3 ∨ i = 4 ∨ i = 5 ∨ i = 6 ∨ i = 7 ∨ i = 8 ∨ i = 9 ∨ i = 10 ∨ i = 11 ∨ i = 12 ∨ i = 13 ∨ i = 14 ∨ i = 15 := by omega
    rcases this with rfl | rfl | rfl | rfl | rfl | rfl | rfl | rfl | rfl | rfl | rfl | rfl | rfl | rfl | rfl | rfl <;> rfl
  · have : i = 0 ∨ i = 1 ∨ i = 2 ∨ i = 3 ∨ i = 4 ∨ i = 5 ∨ i = 6 ∨ i = 7 ∨ i = 8 ∨ i = 9 ∨ i = 10 ∨ i = 11 ∨ i = 12 ∨ i = 13 ∨ i = 14 ∨ i = 15 := by omega
    rcases this with rfl | rfl | rfl | rfl | rfl | rfl | rfl | rfl | rfl | rfl | rfl | rfl | rfl | rfl | rfl | rfl <;> rfl
  · have : i = 0 ∨ i = 1 ∨ i = 2 ∨ i = 3 ∨ i = 4 ∨ i = 5 ∨ i = 6 ∨ i = 7 ∨ i = 8 ∨ i = 9 ∨ i = 10 ∨ i = 11 ∨ i = 12 ∨ i = 13 ∨ i = 14 ∨ i = 15 := by omega
    rcases this with rfl | rfl | rfl | rfl | rfl | rfl | rfl | rfl | rfl | rfl | rfl | rfl | rfl | rfl | rfl | rfl <;> rfl
  · have : i = 0 ∨ i = 1 ∨ i = 2 ∨ i = 3 ∨ i = 4 ∨ i = 5 ∨ i = 6 ∨ i = 7 ∨ i = 8 ∨ i = 9 ∨ i = 10 ∨ i = 11 ∨ i = 12 ∨ i = 13 ∨ i = 14 ∨ i = 15 := by omega
    rcases this with rfl | rfl | rfl | rfl | rfl | rfl | rfl | rfl | rfl | rfl | rfl | rfl | rfl | rfl | rfl | rfl <;> rfl
  · rcases live_rs3 hr with ⟨rfl, rfl⟩ | ⟨rfl, rfl⟩ | ⟨rfl, rfl⟩ <;> rfl
theorem first_ns (w : World) : Calls Try.prog 9 #[] w fun x w' => ∃ T B, x = .returned (.tuple #[.pointer (some ⟨T, 0, none⟩), .pointer (some ⟨B, 0, none⟩)]) ∧ w.heap.size ≤ B ∧ ∃ F, Ns w' F T B rs3 3 ∧ (∀ b, F b → w.heap.size ≤ b) ∧ Below w.heap.size w w' := by
  refine (first_any w).mono ?_
  rintro x w' ⟨T, B, rfl, hB, hl, F, hE, hn, hF, hb⟩
  exact ⟨T, B, rfl, hl, F, ⟨hE, iv_rs3, wd_rs3, hB.bq, hn⟩, hF, hb⟩
end Go.Proofs.Ytoddadohmnaolaa

namespace Go.Proofs.Ytoddadohmnaolaa
open Go.RowKit Go.Shelf

section
variable {rs : List (Option Er)} {last : Int}
def ps (rs : List (Option Er)) (l : List Nat) : Qt := ⟨(l.map (fun i => (prc rs i).f)).sum, (l.map (fun i => (prc rs i).e)).sum, (l.map (fun i => (prc rs i).x)).sum⟩
theorem ps_app (l m : List Nat) : ps rs (l ++ m) = (ps rs l).plus (ps rs m) := by
  unfold ps Qt.plus
  simp only [List.map_append, List.sum_append]
theorem ps_one (c : Nat) : ps rs [c] = prc rs c := by
  unfold ps
  simp
theorem ps_take {l : List Nat} {j c : Nat} (hc : l[j]? = some c) : ps rs (l.take (j + 1)) = (ps rs (l.take j)).plus (prc rs c) := by
  rw [List.take_add_one, hc, ps_app]
  show _ = _
  rw [show (some c).toList = [c] from rfl, ps_one]
theorem ps_nn : ∀ l : List Nat, (∀ i ∈ l, (prc rs i).nn) → (ps rs l).nn
  | [], _ => ⟨Int.le_refl _, Int.le_refl _, Int.le_refl _⟩
  | c :: l, h => by
    have h1 := ps_nn l (fun i hi => h i (List.mem_cons_of_mem _ hi))
    have h2 := h c List.mem_cons_self
    have h3 : ps rs (c :: l) = (prc rs c).plus (ps rs l) := by rw [← ps_one (rs := rs) c, ← ps_app]; rfl
    rw [h3]
    obtain ⟨a1, a2, a3⟩ := h1
    obtain ⟨b1, b2, b3⟩ := h2
    exact ⟨by simp only [Qt.plus]; omega, by simp only [Qt.plus]; omega, by simp only [Qt.plus]; omega⟩
theorem ps_kids (h : Tr rs last) (e : Nat) : ps rs (kids rs (e : Int)) = cv rs e := by
  unfold ps cv
  rw [← kids_sum h Qt.f e, ← kids_sum h Qt.e e, ← kids_sum h Qt.x e]
theorem kids_at {e c : Nat} (hc : c ∈ kids rs (e : Int)) : ∃ rc, rs[c]? = some (some rc) ∧ rc.pa = (e : Int) := by
  have h1 := kids_mem.1 hc
  obtain ⟨rc, hrc⟩ := kidsU_lv h1
  refine ⟨rc, hrc, ?_⟩
  have h2 : kid rs (e : Int) c = true := by
    unfold kidsU fitK at h1
    exact (List.mem_filter.1 h1).2
  rw [kid_core, core_at hrc] at h2
  exact of_decide_eq_true h2
def acc (rs : List (Option Er)) (k : Nat) (r : Er) (j : Nat) : Qt := (r.le.plus r.pd).plus (ps rs ((kids rs (k : Int)).take j))
theorem acc_zero (k : Nat) (r : Er) : acc rs k r 0 = r.le.plus r.pd := by
  unfold acc ps Qt.plus
  simp
theorem acc_step {k j c : Nat} {r rc : Er} (hc : (kids rs (k : Int))[j]? = some c) (hrc : rs[c]? = some (some rc)) : acc rs k r (j + 1) = ((acc rs k r j).plus rc.qu).plus Qt.one := by
  unfold acc
  rw [ps_take hc, prc_at hrc]
  unfold Qt.plus
  simp only [Qt.mk.injEq]
  exact ⟨by omega, by omega, by omega⟩
theorem acc_end (h : Iv rs last) {k : Nat} {r : Er} (hr : rs[k]? = some (some r)) : acc rs k r (kids rs (k : Int)).length = r.qu := by
  have h1 := (h.q k r hr).sum
  unfold acc
  rw [List.take_length, ps_kids h.tr, h1]
  unfold Qt.plus
  simp only [Qt.mk.injEq]
  exact ⟨by omega, by omega, by omega⟩
theorem kid_nn (h : Iv rs last) {e c : Nat} (hc : c ∈ kids rs (e : Int)) : (prc rs c).nn := by
  obtain ⟨rc, hrc, -⟩ := kids_at hc
  rw [prc_at hrc]
  obtain ⟨g1, g2, g3⟩ := good_bounds (h.q c rc hrc).good
  exact ⟨by simp only [Qt.plus, Qt.one]; omega, by simp only [Qt.plus, Qt.one]; omega, by simp only [Qt.plus, Qt.one]; omega⟩
theorem acc_ok (h : Iv rs last) {k : Nat} {r : Er} (hr : rs[k]? = some (some r)) (j : Nat) : (acc rs k r j).ok := by
  have h1 := acc_end h hr
  have h2 := ps_nn (rs := rs) ((kids rs (k : Int)).take j) (fun i hi => kid_nn h (List.mem_of_mem_take hi))
  have h3 := ps_nn (rs := rs) ((kids rs (k : Int)).drop j) (fun i hi => kid_nn h (List.mem_of_mem_drop hi))
  have h4 := ps_app (rs := rs) ((kids rs (k : Int)).take j) ((kids rs (k : Int)).drop j)
  rw [List.take_append_drop] at h4
  unfold acc at h1 ⊢
  rw [List.take_length, h4] at h1
  obtain ⟨l1, l2, l3⟩ := (h.q k r hr).le
  obtain ⟨p1, p2, p3⟩ := (h.q k r hr).pd
  obtain ⟨⟨u1, u2⟩, ⟨u3, u4⟩, ⟨u5, u6⟩⟩ := (h.oks hr).2.2
  rw [← h1] at u1 u2 u3 u4 u5 u6
  obtain ⟨a1, a2, a3⟩ := h2
  obtain ⟨b1, b2, b3⟩ := h3
  simp only [Qt.plus] at u1 u2 u3 u4 u5 u6
  exact ⟨⟨by simp only [Qt.plus]; omega, by simp only [Qt.plus]; omega⟩, ⟨by simp only [Qt.plus]; omega, by simp only [Qt.plus]; omega⟩, ⟨by simp only [Qt.plus]; omega, by simp only [Qt.plus]; omega⟩⟩
end
end Go.Proofs.Ytoddadohmnaolaa

namespace Go.Proofs.Ytoddadohmnaolaa
open Go.RowKit Go.Shelf

theorem set1e {w : World} {b : Nat} {x0 x1 x2 : Value} {t : TypeId} (h : w.heap[b]? = some (.cells #[x0, x1, x2] t (0, 0))) (y : Value) : (w.setCell ⟨b, 1, none⟩ y).heap[b]? = some (.cells #[x0, y, x2] t (0, 0)) := heap_setCell_same _ b 1 _ _ y h
section
variable {w : World} {F : Nat → Prop} {T B : Nat} {rs : List (Option Er)} {last : Int}
set_option maxRecDepth 100000 in
set_option maxHeartbeats 6400000 in
theorem adds_any (h : Ns w F T B rs last) (k : Nat) (r : Er) (hr : rs[k]? = some (some r)) : Calls Try.prog 24 #[.pointer (some ⟨B, 0, none⟩), .pointer (some ⟨T, 0, none⟩), .int .i64 (k : Int)] w fun x w' => x = .returned (.bool true) ∧ Below w.heap.size w w' := by
  have hk := lv_lt h.iv.tr ⟨r, hr⟩
  have hk3 : (k : Int) < 16 := by omega
  have HI := hide (info_any w F T rs last h.et k r hr)
  have HN := hide h
  have HN0 := hide h
  have hLb := kids_len h.iv.tr (k : Int)
  have HOk := hide (fun j => acc_ok h.iv hr j)
  have HEnd := hide (acc_end h.iv hr)
  have HR := hide hr
  have HQk := hide (h.iv.q k r hr)
  clear h hr
  go_enter Try.func24, Try.ntmps24
  go_wp2_with fail
  refine HI.out.mono ?_
  rintro x1 w1 ⟨rfl, hb1⟩
  have hz : Eb (w1.alloc (.cells Er.nil.head.toArray 41)) w1.heap.size Er.nil := Eb.new _ _
  have HEb := hide (freshE_eb w1 r.told)
  have HB2 : Hid (Below w.heap.size w (freshE w1 r.told)) := hide ((hb1.trans ((freshE_below w1 r.told).mono hb1.size)))
  clear hb1 HI
  go_upto_region 2 with (refine storeE r.told ?nw _ _ rfl w1.heap.size Er.nil ?nx ?ny ?nz ?_; rotate_left 4; change wpList _ _ _ _ _ (freshE w1 r.told); generalize freshE w1 r.told = w2 at *)
  try (case nw => rfl)
  try (case nx => rfl)
  try (case ny => rfl)
  case nz => exact hz
  clear hz
  generalize w1.heap.size = M at *
  have HN2 := hide (HN.out.below HB2.out)
  have HCh := hide (childrenT_any HN2.out.et HN2.out.iv.tr.dis k ⟨r, HR.out⟩)
  clear HN
  go_wp2_with fail
  refine HCh.out.mono ?_
  rintro x2 w3 ⟨v, rfl, hv, hb3⟩
  have HE3 := hide (HEb.out.keep (hb3.block M HEb.out.lt))
  have HN3 := hide (HN2.out.below hb3)
  have HB3 := hide (HB2.out.trans (hb3.mono HB2.out.size))
  have HV3 := hide (own_low hv (Nat.zero_le _))
  obtain ⟨va, vc, rfl⟩ := own_shape hv
  have g18 : w3.cell? ⟨M, 18, none⟩ = some (.int .i64 r.le.f) := HE3.out.get (j := 18) rfl
  have g19 : w3.cell? ⟨M, 19, none⟩ = some (.int .i64 r.le.e) := HE3.out.get (j := 19) rfl
  have g20 : w3.cell? ⟨M, 20, none⟩ = some (.int .i64 r.le.x) := HE3.out.get (j := 20) rfl
  have HBl := hide (fun W => below_nn W r.le HQk.out.le)
  have HBp := hide (fun W => below_nn W r.pd HQk.out.pd)
  unfold Qt.val at HBl HBp
  clear hv hb3 HEb HN2 HB2 HCh
  generalize hLk : (kids rs (k : Int)).length = L at *
  go_wp2_with fail
  refine (HBl.out _).mono ?_
  rintro x3 w4 ⟨rfl, hb4⟩
  have HE4 := hide (HE3.out.keep (hb4.block M HE3.out.lt))
  have HN4 := hide (HN3.out.below hb4)
  have HB4 := hide (HB3.out.trans (hb4.mono HB3.out.size))
  have HV4 := hide (own_below HV3.out hb4)
  obtain ⟨p0, p1, p2⟩ := HN4.out.bq.paidc HR.out hk
  clear hb4 g18 g19 g20 HE3 HN3 HB3 HV3
  go_wp2_with fail
  refine (HBp.out _).mono ?_
  rintro x4 w5 ⟨rfl, hb5⟩
  have HE5 := hide (HE4.out.keep (hb5.block M HE4.out.lt))
  have HN5 := hide (HN4.out.below hb5)
  have HB5 := hide (HB4.out.trans (hb5.mono HB4.out.size))
  have HV5 := hide (own_below HV4.out hb5)
  clear hb5 p0 p1 p2 HE4 HN4 HB4 HV4 HBl HBp
  go_upto_region 5 with fail
  obtain ⟨w6, hw6⟩ : ∃ w6, w6 = w5.drew := ⟨_, rfl⟩
  have hb6 : Below w5.heap.size w5 w6 := by rw [hw6]; exact ⟨rfl, rfl, rfl, Nat.le_refl _, fun _ _ => rfl⟩
  have HE6 := hide (HE5.out.keep (hb6.block M HE5.out.lt))
  have HN6 := hide (HN5.out.below hb6)
  have HB6 := hide (HB5.out.trans (hb6.mono HB5.out.size))
  have HV6 := hide (own_below HV5.out hb6)
  clear hb6 HE5 HN5 HB5 HV5
  have HSt : Hid (∀ W, Eb W M r.told → Bq W B rs last → (W.cell? ⟨M, 18, none⟩ = some (.int .i64 r.le.f) ∧ W.cell? ⟨M, 19, none⟩ = some (.int .i64 r.le.e) ∧ W.cell? ⟨M, 20, none⟩ = some (.int .i64 r.le.x)) ∧ (W.cell? ⟨B, 16 + k * 3, none⟩ = some (.int .i64 r.pd.f) ∧ W.cell? ⟨B, 16 + k * 3 + 1, none⟩ = some (.int .i64 r.pd.e) ∧ W.cell? ⟨B, 16 + k * 3 + 2, none⟩ = some (.int .i64 r.pd.x))) := hide (fun W h1 h2 => ⟨⟨h1.get (j := 18) rfl, h1.get (j := 19) rfl, h1.get (j := 20) rfl⟩, h2.paidc HR.out hk⟩)
  have HS6 := hide (HSt.out w6 HE6.out HN6.out.bq)
  have HAdd := hide (fun W => addOne_any W r.le r.pd (HN6.out.iv.oks HR.out).1 (HN6.out.iv.oks HR.out).2.1)
  unfold Qt.val at HAdd
  refine wp_region_held_drew (S := fun W => (W.cell? ⟨M, 18, none⟩ = some (.int .i64 r.le.f) ∧ W.cell? ⟨M, 19, none⟩ = some (.int .i64 r.le.e) ∧ W.cell? ⟨M, 20, none⟩ = some (.int .i64 r.le.x)) ∧ (W.cell? ⟨B, 16 + k * 3, none⟩ = some (.int .i64 r.pd.f) ∧ W.cell? ⟨B, 16 + k * 3 + 1, none⟩ = some (.int .i64 r.pd.e) ∧ W.cell? ⟨B, 16 + k * 3 + 2, none⟩ = some (.int .i64 r.pd.x))) (by kernel_rfl) (by rw [← hw6]; exact HS6.out) (fun _ => ?_)
  rw [← hw6]
  clear hw6
  refine hd_take 0 (o := ⟨some 47, _, _, _, _, _⟩) (.pointer (some ⟨M, 18, none⟩)) (by kernel_rfl) (by kernel_rfl) (by kernel_rfl) rfl (by rfl) (fun W hSw => by go_simp) (fun _ _ _ h => h) HS6.out ?_
  try simp only [Act.put, List.setIfInBounds_toArray, List.set_cons_zero, List.set_cons_succ]
  refine hd_take 1 (o := ⟨some 48, _, _, _, _, _⟩) (.agg #[.int .i64 r.le.f, .int .i64 r.le.e, .int .i64 r.le.x]) (by kernel_rfl) (by kernel_rfl) (by kernel_rfl) rfl (by rfl) (fun W hSw => by obtain ⟨⟨q0, q1, q2⟩, q3, q4, q5⟩ := hSw; go_simp) (fun _ _ _ h => h) HS6.out ?_
  try simp only [Act.put, List.setIfInBounds_toArray, List.set_cons_zero, List.set_cons_succ]
  refine hd_take 2 (o := ⟨some 49, _, _, _, _, _⟩) (.pointer (some ⟨B, 0, none⟩)) (by kernel_rfl) (by kernel_rfl) (by kernel_rfl) rfl (by rfl) (fun W hSw => by go_simp) (fun _ _ _ h => h) HS6.out ?_
  try simp only [Act.put, List.setIfInBounds_toArray, List.set_cons_zero, List.set_cons_succ]
  refine hd_take 3 (o := ⟨some 50, _, _, _, _, _⟩) (.int .i64 (k : Int)) (by kernel_rfl) (by kernel_rfl) (by kernel_rfl) rfl (by rfl) (fun W hSw => by go_simp) (fun _ _ _ h => h) HS6.out ?_
  try simp only [Act.put, List.setIfInBounds_toArray, List.set_cons_zero, List.set_cons_succ]
  refine hd_take 4 (o := ⟨some 51, _, _, _, _, _⟩) (.pointer (some ⟨B, 0, none⟩)) (by kernel_rfl) (by kernel_rfl) (by kernel_rfl) rfl (by rfl) (fun W hSw => by go_simp) (fun _ _ _ h => h) HS6.out ?_
  try simp only [Act.put, List.setIfInBounds_toArray, List.set_cons_zero, List.set_cons_succ]
  refine hd_take 5 (o := ⟨some 52, _, _, _, _, _⟩) (.pointer (some ⟨B, 16, none⟩)) (by kernel_rfl) (by kernel_rfl) (by kernel_rfl) rfl (by rfl) (fun W hSw => by go_simp) (fun _ _ _ h => h) HS6.out ?_
  try simp only [Act.put, List.setIfInBounds_toArray, List.set_cons_zero, List.set_cons_succ]
  refine hd_take 6 (o := ⟨some 53, _, _, _, _, _⟩) (.pointer (some ⟨B, 16 + k * 3, none⟩)) (by kernel_rfl) (by kernel_rfl) (by kernel_rfl) rfl (by rfl) (fun W hSw => by go_simp) (fun _ _ _ h => h) HS6.out ?_
  try simp only [Act.put, List.setIfInBounds_toArray, List.set_cons_zero, List.set_cons_succ]
  refine hd_take 7 (o := ⟨some 54, _, _, _, _, _⟩) (.agg #[.int .i64 r.pd.f, .int .i64 r.pd.e, .int .i64 r.pd.x]) (by kernel_rfl) (by kernel_rfl) (by kernel_rfl) rfl (by rfl) (fun W hSw => by obtain ⟨⟨q0, q1, q2⟩, q3, q4, q5⟩ := hSw; go_simp) (fun _ _ _ h => h) HS6.out ?_
  try simp only [Act.put, List.setIfInBounds_toArray, List.set_cons_zero, List.set_cons_succ]
  refine hd_two 8 9 (o1 := ⟨some 55, _, _, _, _, _⟩) (o2 := ⟨some 11, _, _, _, _, _⟩) (by kernel_rfl) rfl rfl (by rfl) (by rfl) (fun K hK => ?_) (fun K hK => ?_)
  · go_simp
    go_wp2_with (go_at_call 22; refine (HAdd.out _).mono ?_; rintro e1 w7 ⟨rfl, hb7⟩)
    have HE7 := hide (HE6.out.keep (hb7.block M HE6.out.lt))
    have HN7 := hide (HN6.out.below hb7)
    have HB7 := hide (HB6.out.trans (hb7.mono HB6.out.size))
    have HV7 := hide (own_below HV6.out hb7)
    have HS7 := hide (HSt.out w7 HE7.out HN7.out.bq)
    clear hb7
    clear HE6 HN6 HB6 HV6 HS6
    refine hK _ _ HS7.out ?_
    clear hK K
    try simp only [Act.put, List.setIfInBounds_toArray, List.set_cons_zero, List.set_cons_succ]
    refine hd_call 9 (o := ⟨some 11, _, _, _, _, _⟩) (by kernel_rfl) rfl (by rfl) (fun K hK => ?_)
    have hb8 := (Below.refl w7.heap.size w7).alloc (Nat.le_refl _) (.cells #[.int .i64 0, .int .i64 0, .int .i64 0] 39)
    have a8 := heap_alloc_new w7 (.cells #[.int .i64 0, .int .i64 0, .int .i64 0] 39)
    have HE8 := hide (HE7.out.keep (hb8.block M HE7.out.lt))
    have HN8 := hide (HN7.out.below hb8)
    have HP : Hid (w.heap.size ≤ w7.heap.size) := hide HB7.out.size
    have HB8 := hide (HB7.out.trans (hb8.mono HB7.out.size))
    have HKg : Hid (∀ b, (Value.slice va L vc).ownBlock = some b → b ≠ w7.heap.size) := hide (fun b e9 => by have := (World.ownsRow.lt HV7.out b e9).2; omega)
    have HMP : Hid (M ≠ w7.heap.size) := hide (fun e9 => by have := HE7.out.lt; omega)
    have HV8 := hide (own_below HV7.out hb8)
    have HS8 := hide (HSt.out _ HE8.out HN8.out.bq)
    go_simp
    refine hK _ _ HS8.out ?_
    clear hK K
    generalize w7.alloc (.cells #[.int .i64 0, .int .i64 0, .int .i64 0] 39) = w8 at *
    obtain ⟨P, hP⟩ : ∃ P, w7.heap.size = P := ⟨_, rfl⟩
    rw [hP] at a8 HP HKg HMP ⊢
    have HC8 := hide a8
    clear hP hb8 a8
    try simp only [Act.put, List.setIfInBounds_toArray, List.set_cons_zero, List.set_cons_succ]
    clear HE7 HN7 HB7 HV7 HS7
    refine hd_call 10 (o := ⟨none, _, _, _, _, _⟩) (by kernel_rfl) rfl (by rfl) (fun K hK => ?_)
    have HB9 : Hid (Below w.heap.size w (((w8.setCell ⟨P, 0, none⟩ (.int .i64 (r.le.plus r.pd).f)).setCell ⟨P, 1, none⟩ (.int .i64 (r.le.plus r.pd).e)).setCell ⟨P, 2, none⟩ (.int .i64 (r.le.plus r.pd).x))) := hide (((HB8.out.setCell (p := ⟨P, 0, none⟩) HP.out _).setCell (p := ⟨P, 1, none⟩) HP.out _).setCell (p := ⟨P, 2, none⟩) HP.out _)
    have HE9 : Hid (Eb (((w8.setCell ⟨P, 0, none⟩ (.int .i64 (r.le.plus r.pd).f)).setCell ⟨P, 1, none⟩ (.int .i64 (r.le.plus r.pd).e)).setCell ⟨P, 2, none⟩ (.int .i64 (r.le.plus r.pd).x)) M r.told) := hide (HE8.out.keep (by rw [heap_setCell_other _ _ _ _ HMP.out, heap_setCell_other _ _ _ _ HMP.out, heap_setCell_other _ _ _ _ HMP.out]))
    have HN9 := hide (HN0.out.below HB9.out)
    have HS9 := hide (HSt.out (((w8.setCell ⟨P, 0, none⟩ (.int .i64 (r.le.plus r.pd).f)).setCell ⟨P, 1, none⟩ (.int .i64 (r.le.plus r.pd).e)).setCell ⟨P, 2, none⟩ (.int .i64 (r.le.plus r.pd).x)) HE9.out HN9.out.bq)
    have HC9 : Hid ((((w8.setCell ⟨P, 0, none⟩ (.int .i64 (r.le.plus r.pd).f)).setCell ⟨P, 1, none⟩ (.int .i64 (r.le.plus r.pd).e)).setCell ⟨P, 2, none⟩ (.int .i64 (r.le.plus r.pd).x)).heap[P]? = some (.cells #[.int .i64 (acc rs k r 0).f, .int .i64 (acc rs k r 0).e, .int .i64 (acc rs k r 0).x] 39 (0, 0))) := by rw [acc_zero]; exact hide (set3 HC8.out _ _ _)
    have HRow : Hid (∀ j c : Nat, (kids rs (k : Int))[j]? = some c → ∃ kg, va = some ⟨kg, 0, none⟩ ∧ kg ≠ P ∧ kg < (((w8.setCell ⟨P, 0, none⟩ (.int .i64 (r.le.plus r.pd).f)).setCell ⟨P, 1, none⟩ (.int .i64 (r.le.plus r.pd).e)).setCell ⟨P, 2, none⟩ (.int .i64 (r.le.plus r.pd).x)).heap.size ∧ (((w8.setCell ⟨P, 0, none⟩ (.int .i64 (r.le.plus r.pd).f)).setCell ⟨P, 1, none⟩ (.int .i64 (r.le.plus r.pd).e)).setCell ⟨P, 2, none⟩ (.int .i64 (r.le.plus r.pd).x)).cell? ⟨kg, j, none⟩ = some (.int .i64 (c : Int))) := hide (fun j c hc => by
      have h9 := HV8.out
      obtain ⟨_, ⟨h0, _⟩ | ⟨g, cp, cur, h0, _⟩⟩ := HV8.out
      · injection h0 with _ h8 _
        have := (List.getElem?_eq_some_iff.1 hc).1
        omega
      · cases h0
        have hg := HKg.out g rfl
        have h7 := World.ownsRow.cells h9 rfl j (.int .i64 (c : Int)) (by simp [numN, hc])
        rw [add0] at h7
        have h6 : (((w8.setCell ⟨P, 0, none⟩ (.int .i64 (r.le.plus r.pd).f)).setCell ⟨P, 1, none⟩ (.int .i64 (r.le.plus r.pd).e)).setCell ⟨P, 2, none⟩ (.int .i64 (r.le.plus r.pd).x)).cell? ⟨g, j, none⟩ = some (.int .i64 (c : Int)) := by
          rw [World.cell?_of_block (heap_setCell_other _ _ _ _ hg), World.cell?_of_block (heap_setCell_other _ _ _ _ hg), World.cell?_of_block (heap_setCell_other _ _ _ _ hg)]
          exact h7
        exact ⟨g, rfl, hg, World.block_lt_of_cell? _ _ h6, h6⟩)
    obtain ⟨c0, c1, c2, f0, f1, f2⟩ := blk3 HC8.out
    go_simp
    refine hK _ _ HS9.out ?_
    clear hK K
    refine wpAnyH_done (by kernel_rfl) ?_ _
    clear c0 c1 c2 f0 f1 f2 HC8 HE8 HN8 HB8 HV8 HS8 HS9 HN9 HSt HAdd HKg
    generalize (((w8.setCell ⟨P, 0, none⟩ (.int .i64 (r.le.plus r.pd).f)).setCell ⟨P, 1, none⟩ (.int .i64 (r.le.plus r.pd).e)).setCell ⟨P, 2, none⟩ (.int .i64 (r.le.plus r.pd).x)) = w9 at *
    have HW : Hid (∀ W, At w9 P W → Below w.heap.size w W) := hide (fun W h9 => ⟨h9.os.trans HB9.out.os, h9.tape.trans HB9.out.tape, h9.output.trans HB9.out.output, Nat.le_trans HB9.out.size h9.size, fun b hb => (h9.block b (Nat.lt_of_lt_of_le hb HB9.out.size) (by have := HP.out; omega)).trans (HB9.out.block b hb)⟩)
    clear HB9
    go_upto_region 7 with fail
    go_loopw [12] (fun x wr => ∃ j : Nat, j ≤ L ∧ x = .int .i64 (j : Int) ∧ Hid (wr.heap[P]? = some (.cells #[.int .i64 (acc rs k r j).f, .int .i64 (acc rs k r j).e, .int .i64 (acc rs k r j).x] 39 (0, 0))) ∧ Hid (At w9 P wr)) (fun x _ => L - (intOf x).toNat)
    case atStart => exact ⟨0, by omega, rfl, HC9, At.refl _ _⟩
    case round =>
    clear HC9
    obtain ⟨j, hj, rfl, KP, KA⟩ := hrel
    by_cases hlt : j < L
    · have hd : decide ((j : Int) < (L : Int)) = true := by simp; omega
      have hj3 : (j : Int) < (L : Int) := by omega
      obtain ⟨c, hc⟩ : ∃ c, (kids rs (k : Int))[j]? = some c := ⟨_, List.getElem?_eq_getElem (by omega)⟩
      obtain ⟨kg, rfl, hgP, hgl, hgc⟩ := HRow.out j c hc
      obtain ⟨rc, hrc, hpa⟩ := kids_at (List.mem_of_getElem? hc)
      have HNr := hide (HN0.out.below (HW.out wr KA.out))
      have HIr := hide (info_any wr F T rs last HNr.out.et c rc hrc)
      have cj : wr.cell? ⟨kg, j, none⟩ = some (.int .i64 (c : Int)) := by
        rw [World.cell?_of_block (KA.out.block kg hgl hgP)]; exact hgc
      have hs1 := HOk.out j
      have hs2 := (HNr.out.iv.oks hrc).2.2
      have hst := acc_step (r := r) hc hrc
      obtain ⟨s1, hs1e⟩ : ∃ s, s = acc rs k r j := ⟨_, rfl⟩
      obtain ⟨s2, hs2e⟩ : ∃ s, s = s1.plus rc.qu := ⟨_, rfl⟩
      rw [← hs1e] at KP hst hs1
      rw [← hs2e] at hst
      have HQ12 := hide (And.intro hs1 hs2)
      have HS2e := hide hs2e
      have hb0 : -9223372036854775808 ≤ s2.e + 1 ∧ s2.e + 1 ≤ 9223372036854775807 := by
        obtain ⟨_, ⟨q1, q2⟩, _⟩ := hs1
        obtain ⟨_, ⟨q3, q4⟩, _⟩ := hs2
        rw [hs2e]
        simp only [Qt.plus]
        omega
      obtain ⟨hbl, hbu⟩ := hb0
      have HSt2 : Hid (acc rs k r (j + 1) = ⟨s2.f, s2.e + 1, s2.x⟩) := hide (by rw [hst]; simp [Qt.plus, Qt.one])
      have HPa := hide hpa
      clear hs1 hs2 hst hs1e hs2e hc hrc hgc HNr hpa HRow
      go_wp2_with fail
      refine HIr.out.mono ?_
      rintro x1 u1 ⟨rfl, hb1⟩
      have hz : Eb (u1.alloc (.cells Er.nil.head.toArray 41)) u1.heap.size Er.nil := Eb.new _ _
      have HY := hide (freshE_eb u1 rc.told)
      have hb2 := hb1.trans ((freshE_below u1 rc.told).mono hb1.size)
      have HB2 := hide hb2
      clear hb1 hb2 HIr cj
      go_upto_region 10 with (refine storeE rc.told ?mw1 _ _ rfl u1.heap.size Er.nil ?mx1 ?my1 ?mz1 ?_; rotate_left 4; change wpList _ _ _ _ _ (freshE u1 rc.told); generalize freshE u1 rc.told = u2 at *)
      try (case mw1 => rfl)
      try (case mx1 => rfl)
      try (case my1 => rfl)
      try (case mz1 => exact hz)
      clear hz
      generalize u1.heap.size = Y at *
      have KP2 := hide ((HB2.out.block P (Array.getElem?_eq_some_iff.1 KP.out).1).trans KP.out)
      have KA2 := hide (KA.out.below HB2.out)
      clear HB2 KP KA
      have y1 : u2.cell? ⟨Y, 1, none⟩ = some (.int .i64 (k : Int)) := by rw [← HPa.out]; exact HY.out.get (j := 1) rfl
      have y15 : u2.cell? ⟨Y, 15, none⟩ = some (.int .i64 rc.qu.f) := HY.out.get (j := 15) rfl
      have y16 : u2.cell? ⟨Y, 16, none⟩ = some (.int .i64 rc.qu.e) := HY.out.get (j := 16) rfl
      have y17 : u2.cell? ⟨Y, 17, none⟩ = some (.int .i64 rc.qu.x) := HY.out.get (j := 17) rfl
      obtain ⟨c0, c1, c2, f0, f1, f2⟩ := blk3 KP2.out
      have HAd := hide (fun W => addOne_any W s1 rc.qu HQ12.out.1 HQ12.out.2)
      unfold Qt.val at HAd
      simp only [← HS2e.out] at HAd
      clear HQ12 HS2e
      go_wp2_with fail
      refine (HAd.out _).mono ?_
      rintro x2 u3 ⟨rfl, hb3⟩
      have KP3 := hide ((hb3.block P (Array.getElem?_eq_some_iff.1 KP2.out).1).trans KP2.out)
      have KA3 := hide (KA2.out.below hb3)
      clear hb3 c0 c1 c2 f0 f1 f2 y1 y15 y16 y17 HY KP2 KA2 HAd
      obtain ⟨c0, c1, c2, f0, f1, f2⟩ := blk3 KP3.out
      have KP4 := hide (set3 KP3.out (.int .i64 s2.f) (.int .i64 s2.e) (.int .i64 s2.x))
      have KA4 := hide (((KA3.out.set 0 (.int .i64 s2.f)).set 1 (.int .i64 s2.e)).set 2 (.int .i64 s2.x))
      go_upto_region 13 with fail
      clear c0 c1 c2 f0 f1 f2 KP3 KA3
      generalize (((u3.setCell ⟨P, 0, none⟩ (.int .i64 s2.f)).setCell ⟨P, 1, none⟩ (.int .i64 s2.e)).setCell ⟨P, 2, none⟩ (.int .i64 s2.x)) = u4 at *
      obtain ⟨c0, c1, c2, f0, f1, f2⟩ := blk3 KP4.out
      have K1 : Hid ((u4.setCell ⟨P, 1, none⟩ (.int .i64 (s2.e + 1))).heap[P]? = some (.cells #[.int .i64 (acc rs k r (j + 1)).f, .int .i64 (acc rs k r (j + 1)).e, .int .i64 (acc rs k r (j + 1)).x] 39 (0, 0))) := by
        rw [HSt2.out]; exact hide (set1e KP4.out _)
      have K2 := hide (KA4.out.set 1 (.int .i64 (s2.e + 1)))
      go_wp2
      go_roundw
      case rel =>
        first
          | exact ⟨j + 1, by omega, by go_num, K1, K2⟩
          | ((repeat apply Exists.intro); refine ⟨?_, rfl⟩; exact ⟨j + 1, by omega, by go_num, K1, K2⟩)
      case measure => simp [intOf]; omega
    · obtain rfl : j = L := by omega
      have hd : decide ((j : Int) < (j : Int)) = false := by simp
      have HF := hide (HW.out wr KA.out)
      have HEr := hide (HE9.out.keep (KA.out.block M HE9.out.lt HMP.out))
      have KQ := KP.out
      rw [HEnd.out] at KQ
      obtain ⟨c0, c1, c2, f0, f1, f2⟩ := blk3 KQ
      have m15 : wr.cell? ⟨M, 15, none⟩ = some (.int .i64 r.qu.f) := HEr.out.get (j := 15) rfl
      have m16 : wr.cell? ⟨M, 16, none⟩ = some (.int .i64 r.qu.e) := HEr.out.get (j := 16) rfl
      have m17 : wr.cell? ⟨M, 17, none⟩ = some (.int .i64 r.qu.x) := HEr.out.get (j := 17) rfl
      clear KP KA KQ HEr HW HRow HE9 HOk HEnd hLk
      go_wp2
      go_ret
      exact ⟨by simp, HF.out⟩
  · have hb7 := (Below.refl w6.heap.size w6).alloc (Nat.le_refl _) (.cells #[.int .i64 0, .int .i64 0, .int .i64 0] 39)
    have a7 := heap_alloc_new w6 (.cells #[.int .i64 0, .int .i64 0, .int .i64 0] 39)
    have HE7 := hide (HE6.out.keep (hb7.block M HE6.out.lt))
    have HN7 := hide (HN6.out.below hb7)
    have HP : Hid (w.heap.size ≤ w6.heap.size) := hide HB6.out.size
    have HB7 := hide (HB6.out.trans (hb7.mono HB6.out.size))
    have HKg : Hid (∀ b, (Value.slice va L vc).ownBlock = some b → b ≠ w6.heap.size) := hide (fun b e9 => by have := (World.ownsRow.lt HV6.out b e9).2; omega)
    have HMP : Hid (M ≠ w6.heap.size) := hide (fun e9 => by have := HE6.out.lt; omega)
    have HV7 := hide (own_below HV6.out hb7)
    have HS7 := hide (HSt.out _ HE7.out HN7.out.bq)
    go_simp
    refine hK _ _ HS7.out ?_
    clear hK K
    generalize w6.alloc (.cells #[.int .i64 0, .int .i64 0, .int .i64 0] 39) = w7 at *
    obtain ⟨P, hP⟩ : ∃ P, w6.heap.size = P := ⟨_, rfl⟩
    rw [hP] at a7 HP HKg HMP ⊢
    have HC7 := hide a7
    clear hP hb7 a7
    try simp only [Act.put, List.setIfInBounds_toArray, List.set_cons_zero, List.set_cons_succ]
    clear HE6 HN6 HB6 HV6 HS6
    refine hd_call 8 (o := ⟨some 55, _, _, _, _, _⟩) (by kernel_rfl) rfl (by rfl) (fun K hK => ?_)
    go_simp
    go_wp2_with (go_at_call 22; refine (HAdd.out _).mono ?_; rintro e1 w8 ⟨rfl, hb8⟩)
    have HE8 := hide (HE7.out.keep (hb8.block M HE7.out.lt))
    have HN8 := hide (HN7.out.below hb8)
    have HB8 := hide (HB7.out.trans (hb8.mono HB7.out.size))
    have HV8 := hide (own_below HV7.out hb8)
    have HS8 := hide (HSt.out w8 HE8.out HN8.out.bq)
    have HC8 := hide ((hb8.block P (Array.getElem?_eq_some_iff.1 HC7.out).1).trans HC7.out)
    clear hb8 HC7
    clear HE7 HN7 HB7 HV7 HS7
    refine hK _ _ HS8.out ?_
    clear hK K
    try simp only [Act.put, List.setIfInBounds_toArray, List.set_cons_zero, List.set_cons_succ]
    refine hd_call 10 (o := ⟨none, _, _, _, _, _⟩) (by kernel_rfl) rfl (by rfl) (fun K hK => ?_)
    have HB9 : Hid (Below w.heap.size w (((w8.setCell ⟨P, 0, none⟩ (.int .i64 (r.le.plus r.pd).f)).setCell ⟨P, 1, none⟩ (.int .i64 (r.le.plus r.pd).e)).setCell ⟨P, 2, none⟩ (.int .i64 (r.le.plus r.pd).x))) := hide (((HB8.out.setCell (p := ⟨P, 0, none⟩) HP.out _).setCell (p := ⟨P, 1, none⟩) HP.out _).setCell (p := ⟨P, 2, none⟩) HP.out _)
    have HE9 : Hid (Eb (((w8.setCell ⟨P, 0, none⟩ (.int .i64 (r.le.plus r.pd).f)).setCell ⟨P, 1, none⟩ (.int .i64 (r.le.plus r.pd).e)).setCell ⟨P, 2, none⟩ (.int .i64 (r.le.plus r.pd).x)) M r.told) := hide (HE8.out.keep (by rw [heap_setCell_other _ _ _ _ HMP.out, heap_setCell_other _ _ _ _ HMP.out, heap_setCell_other _ _ _ _ HMP.out]))
    have HN9 := hide (HN0.out.below HB9.out)
    have HS9 := hide (HSt.out (((w8.setCell ⟨P, 0, none⟩ (.int .i64 (r.le.plus r.pd).f)).setCell ⟨P, 1, none⟩ (.int .i64 (r.le.plus r.pd).e)).setCell ⟨P, 2, none⟩ (.int .i64 (r.le.plus r.pd).x)) HE9.out HN9.out.bq)
    have HC9 : Hid ((((w8.setCell ⟨P, 0, none⟩ (.int .i64 (r.le.plus r.pd).f)).setCell ⟨P, 1, none⟩ (.int .i64 (r.le.plus r.pd).e)).setCell ⟨P, 2, none⟩ (.int .i64 (r.le.plus r.pd).x)).heap[P]? = some (.cells #[.int .i64 (acc rs k r 0).f, .int .i64 (acc rs k r 0).e, .int .i64 (acc rs k r 0).x] 39 (0, 0))) := by rw [acc_zero]; exact hide (set3 HC8.out _ _ _)
    have HRow : Hid (∀ j c : Nat, (kids rs (k : Int))[j]? = some c → ∃ kg, va = some ⟨kg, 0, none⟩ ∧ kg ≠ P ∧ kg < (((w8.setCell ⟨P, 0, none⟩ (.int .i64 (r.le.plus r.pd).f)).setCell ⟨P, 1, none⟩ (.int .i64 (r.le.plus r.pd).e)).setCell ⟨P, 2, none⟩ (.int .i64 (r.le.plus r.pd).x)).heap.size ∧ (((w8.setCell ⟨P, 0, none⟩ (.int .i64 (r.le.plus r.pd).f)).setCell ⟨P, 1, none⟩ (.int .i64 (r.le.plus r.pd).e)).setCell ⟨P, 2, none⟩ (.int .i64 (r.le.plus r.pd).x)).cell? ⟨kg, j, none⟩ = some (.int .i64 (c : Int))) := hide (fun j c hc => by
      have h9 := HV8.out
      obtain ⟨_, ⟨h0, _⟩ | ⟨g, cp, cur, h0, _⟩⟩ := HV8.out
      · injection h0 with _ h8 _
        have := (List.getElem?_eq_some_iff.1 hc).1
        omega
      · cases h0
        have hg := HKg.out g rfl
        have h7 := World.ownsRow.cells h9 rfl j (.int .i64 (c : Int)) (by simp [numN, hc])
        rw [add0] at h7
        have h6 : (((w8.setCell ⟨P, 0, none⟩ (.int .i64 (r.le.plus r.pd).f)).setCell ⟨P, 1, none⟩ (.int .i64 (r.le.plus r.pd).e)).setCell ⟨P, 2, none⟩ (.int .i64 (r.le.plus r.pd).x)).cell? ⟨g, j, none⟩ = some (.int .i64 (c : Int)) := by
          rw [World.cell?_of_block (heap_setCell_other _ _ _ _ hg), World.cell?_of_block (heap_setCell_other _ _ _ _ hg), World.cell?_of_block (heap_setCell_other _ _ _ _ hg)]
          exact h7
        exact ⟨g, rfl, hg, World.block_lt_of_cell? _ _ h6, h6⟩)
    obtain ⟨c0, c1, c2, f0, f1, f2⟩ := blk3 HC8.out
    go_simp
    refine hK _ _ HS9.out ?_
    clear hK K
    refine wpAnyH_done (by kernel_rfl) ?_ _
    clear c0 c1 c2 f0 f1 f2 HC8 HE8 HN8 HB8 HV8 HS8 HS9 HN9 HSt HAdd HKg
    generalize (((w8.setCell ⟨P, 0, none⟩ (.int .i64 (r.le.plus r.pd).f)).setCell ⟨P, 1, none⟩ (.int .i64 (r.le.plus r.pd).e)).setCell ⟨P, 2, none⟩ (.int .i64 (r.le.plus r.pd).x)) = w9 at *
    have HW : Hid (∀ W, At w9 P W → Below w.heap.size w W) := hide (fun W h9 => ⟨h9.os.trans HB9.out.os, h9.tape.trans HB9.out.tape, h9.output.trans HB9.out.output, Nat.le_trans HB9.out.size h9.size, fun b hb => (h9.block b (Nat.lt_of_lt_of_le hb HB9.out.size) (by have := HP.out; omega)).trans (HB9.out.block b hb)⟩)
    clear HB9
    go_upto_region 7 with fail
    go_loopw [12] (fun x wr => ∃ j : Nat, j ≤ L ∧ x = .int .i64 (j : Int) ∧ Hid (wr.heap[P]? = some (.cells #[.int .i64 (acc rs k r j).f, .int .i64 (acc rs k r j).e, .int .i64 (acc rs k r j).x] 39 (0, 0))) ∧ Hid (At w9 P wr)) (fun x _ => L - (intOf x).toNat)
    case atStart => exact ⟨0, by omega, rfl, HC9, At.refl _ _⟩
    case round =>
    clear HC9
    obtain ⟨j, hj, rfl, KP, KA⟩ := hrel
    by_cases hlt : j < L
    · have hd : decide ((j : Int) < (L : Int)) = true := by simp; omega
      have hj3 : (j : Int) < (L : Int) := by omega
      obtain ⟨c, hc⟩ : ∃ c, (kids rs (k : Int))[j]? = some c := ⟨_, List.getElem?_eq_getElem (by omega)⟩
      obtain ⟨kg, rfl, hgP, hgl, hgc⟩ := HRow.out j c hc
      obtain ⟨rc, hrc, hpa⟩ := kids_at (List.mem_of_getElem? hc)
      have HNr := hide (HN0.out.below (HW.out wr KA.out))
      have HIr := hide (info_any wr F T rs last HNr.out.et c rc hrc)
      have cj : wr.cell? ⟨kg, j, none⟩ = some (.int .i64 (c : Int)) := by
        rw [World.cell?_of_block (KA.out.block kg hgl hgP)]; exact hgc
      have hs1 := HOk.out j
      have hs2 := (HNr.out.iv.oks hrc).2.2
      have hst := acc_step (r := r) hc hrc
      obtain ⟨s1, hs1e⟩ : ∃ s, s = acc rs k r j := ⟨_, rfl⟩
      obtain ⟨s2, hs2e⟩ : ∃ s, s = s1.plus rc.qu := ⟨_, rfl⟩
      rw [← hs1e] at KP hst hs1
      rw [← hs2e] at hst
      have HQ12 := hide (And.intro hs1 hs2)
      have HS2e := hide hs2e
      have hb0 : -9223372036854775808 ≤ s2.e + 1 ∧ s2.e + 1 ≤ 9223372036854775807 := by
        obtain ⟨_, ⟨q1, q2⟩, _⟩ := hs1
        obtain ⟨_, ⟨q3, q4⟩, _⟩ := hs2
        rw [hs2e]
        simp only [Qt.plus]
        omega
      obtain ⟨hbl, hbu⟩ := hb0
      have HSt2 : Hid (acc rs k r (j + 1) = ⟨s2.f, s2.e + 1, s2.x⟩) := hide (by rw [hst]; simp [Qt.plus, Qt.one])
      have HPa := hide hpa
      clear hs1 hs2 hst hs1e hs2e hc hrc hgc HNr hpa HRow
      go_wp2_with fail
      refine HIr.out.mono ?_
      rintro x1 u1 ⟨rfl, hb1⟩
      have hz : Eb (u1.alloc (.cells Er.nil.head.toArray 41)) u1.heap.size Er.nil := Eb.new _ _
      have HY := hide (freshE_eb u1 rc.told)
      have hb2 := hb1.trans ((freshE_below u1 rc.told).mono hb1.size)
      have HB2 := hide hb2
      clear hb1 hb2 HIr cj
      go_upto_region 10 with (refine storeE rc.told ?mw2 _ _ rfl u1.heap.size Er.nil ?mx2 ?my2 ?mz2 ?_; rotate_left 4; change wpList _ _ _ _ _ (freshE u1 rc.told); generalize freshE u1 rc.told = u2 at *)
      try (case mw2 => rfl)
      try (case mx2 => rfl)
      try (case my2 => rfl)
      try (case mz2 => exact hz)
      clear hz
      generalize u1.heap.size = Y at *
      have KP2 := hide ((HB2.out.block P (Array.getElem?_eq_some_iff.1 KP.out).1).trans KP.out)
      have KA2 := hide (KA.out.below HB2.out)
      clear HB2 KP KA
      have y1 : u2.cell? ⟨Y, 1, none⟩ = some (.int .i64 (k : Int)) := by rw [← HPa.out]; exact HY.out.get (j := 1) rfl
      have y15 : u2.cell? ⟨Y, 15, none⟩ = some (.int .i64 rc.qu.f) := HY.out.get (j := 15) rfl
      have y16 : u2.cell? ⟨Y, 16, none⟩ = some (.int .i64 rc.qu.e) := HY.out.get (j := 16) rfl
      have y17 : u2.cell? ⟨Y, 17, none⟩ = some (.int .i64 rc.qu.x) := HY.out.get (j := 17) rfl
      obtain ⟨c0, c1, c2, f0, f1, f2⟩ := blk3 KP2.out
      have HAd := hide (fun W => addOne_any W s1 rc.qu HQ12.out.1 HQ12.out.2)
      unfold Qt.val at HAd
      simp only [← HS2e.out] at HAd
      clear HQ12 HS2e
      go_wp2_with fail
      refine (HAd.out _).mono ?_
      rintro x2 u3 ⟨rfl, hb3⟩
      have KP3 := hide ((hb3.block P (Array.getElem?_eq_some_iff.1 KP2.out).1).trans KP2.out)
      have KA3 := hide (KA2.out.below hb3)
      clear hb3 c0 c1 c2 f0 f1 f2 y1 y15 y16 y17 HY KP2 KA2 HAd
      obtain ⟨c0, c1, c2, f0, f1, f2⟩ := blk3 KP3.out
      have KP4 := hide (set3 KP3.out (.int .i64 s2.f) (.int .i64 s2.e) (.int .i64 s2.x))
      have KA4 := hide (((KA3.out.set 0 (.int .i64 s2.f)).set 1 (.int .i64 s2.e)).set 2 (.int .i64 s2.x))
      go_upto_region 13 with fail
      clear c0 c1 c2 f0 f1 f2 KP3 KA3
      generalize (((u3.setCell ⟨P, 0, none⟩ (.int .i64 s2.f)).setCell ⟨P, 1, none⟩ (.int .i64 s2.e)).setCell ⟨P, 2, none⟩ (.int .i64 s2.x)) = u4 at *
      obtain ⟨c0, c1, c2, f0, f1, f2⟩ := blk3 KP4.out
      have K1 : Hid ((u4.setCell ⟨P, 1, none⟩ (.int .i64 (s2.e + 1))).heap[P]? = some (.cells #[.int .i64 (acc rs k r (j + 1)).f, .int .i64 (acc rs k r (j + 1)).e, .int .i64 (acc rs k r (j + 1)).x] 39 (0, 0))) := by
        rw [HSt2.out]; exact hide (set1e KP4.out _)
      have K2 := hide (KA4.out.set 1 (.int .i64 (s2.e + 1)))
      go_wp2
      go_roundw
      case rel =>
        first
          | exact ⟨j + 1, by omega, by go_num, K1, K2⟩
          | ((repeat apply Exists.intro); refine ⟨?_, rfl⟩; exact ⟨j + 1, by omega, by go_num, K1, K2⟩)
      case measure => simp [intOf]; omega
    · obtain rfl : j = L := by omega
      have hd : decide ((j : Int) < (j : Int)) = false := by simp
      have HF := hide (HW.out wr KA.out)
      have HEr := hide (HE9.out.keep (KA.out.block M HE9.out.lt HMP.out))
      have KQ := KP.out
      rw [HEnd.out] at KQ
      obtain ⟨c0, c1, c2, f0, f1, f2⟩ := blk3 KQ
      have m15 : wr.cell? ⟨M, 15, none⟩ = some (.int .i64 r.qu.f) := HEr.out.get (j := 15) rfl
      have m16 : wr.cell? ⟨M, 16, none⟩ = some (.int .i64 r.qu.e) := HEr.out.get (j := 16) rfl
      have m17 : wr.cell? ⟨M, 17, none⟩ = some (.int .i64 r.qu.x) := HEr.out.get (j := 17) rfl
      clear KP KA KQ HEr HW HRow HE9 HOk HEnd hLk
      go_wp2
      go_ret
      exact ⟨by simp, HF.out⟩
end
end Go.Proofs.Ytoddadohmnaolaa

namespace Go.Proofs.Ytoddadohmnaolaa
open Go.ChangeShapes Go.WideShapes Go.ChangeAt Go.RowKit Go.Deep

/-- a step that came in -/
structure Ov where
  kd : Int
  t : Int
  e : Int
  n : Int
  m : Int
  q : Qt
  g : Nat → Nat
  pc : Nat
  on : Bool
def Ov.cells (o : Ov) : List Value := [.int .i64 o.kd, .int .i64 o.t, .int .i64 o.e, .int .i64 o.n, .int .i64 o.m, .int .i64 o.q.f, .int .i64 o.q.e, .int .i64 o.q.x, .int .u32 (o.g 0 : Nat), .int .u32 (o.g 1 : Nat), .int .u32 (o.g 2 : Nat), .int .u32 (o.g 3 : Nat), .int .u32 (o.g 4 : Nat), .int .u32 (o.g 5 : Nat), .int .u32 (o.g 6 : Nat), .int .u32 (o.g 7 : Nat), .int .u32 (o.pc : Nat), .bool o.on]
def Ov.nil : Ov := ⟨0, 0, 0, 0, 0, Qt.zero, fun _ => 0, 0, false⟩
theorem ov_len (v : Ov) : v.cells.length = 18 := rfl
/-- steps that came in -/
def IsOps (w : World) (a : Option Addr) (len : Nat) (O : Nat → Ov) : Prop :=
  ∀ k, k < len → ∃ x, a = some x ∧ ∀ (j : Nat) (v : Value), (O k).cells[j]? = some v → w.cell? ((x.add (k * 18)).add j) = some v
theorem IsOps.below {w w' : World} {a : Option Addr} {len : Nat} {O : Nat → Ov} (h : IsOps w a len O) (hb : Below w.heap.size w w') : IsOps w' a len O := by
  intro k hk
  obtain ⟨x, h1, h2⟩ := h k hk
  refine ⟨x, h1, fun j v hv => ?_⟩
  have h3 := h2 j v hv
  rw [hb.cell (World.block_lt_of_cell? w _ h3)]; exact h3
section
variable {H : Type} {enc : TypeId × Value → H} {w : World} {base : Nat} {spare : Nat → Bool} {held : Bool}
theorem bool_cell {t : TypeId} {n : Nat} {v : Value} {y : DataW H × List MemPlace} (ht : Try.prog.underlying t = some .bool) (h : DataW.trod enc Try.prog w base spare held n t [v] = some y) : ∃ z : Bool, v = .bool z := by
  obtain ⟨z, h1, _⟩ := DataW.trod_bool ht h
  exact ⟨z, by simpa using h1⟩
theorem u32_cell {t : TypeId} {n : Nat} {v : Value} {y : DataW H × List MemPlace} (ht : Try.prog.underlying t = some (.int .u32)) (h : DataW.trod enc Try.prog w base spare held n t [v] = some y) : ∃ z : Nat, v = .int .u32 (z : Int) := by
  obtain ⟨z, h1, _, h2⟩ := DataW.trod_int ht h
  have h3 : 0 ≤ z ∧ z ≤ 4294967295 := by simpa [Lit.wf, IntKind.min, IntKind.max, IntKind.signed, IntKind.bits] using h2
  refine ⟨z.toNat, ?_⟩
  simp at h1
  rw [h1, Int.toNat_of_nonneg h3.1]
set_option maxRecDepth 20000 in
theorem open_op {n : Nat} {cs : List Value} {y : DataW H × List MemPlace} (hl : cs.length = 18) (h : DataW.trod enc Try.prog w base spare held n 47 cs = some y) : ∃ o : Ov, cs = o.cells := by
  obtain ⟨xs, k, hk, hxy, _, hxl, hf⟩ := DataW.trod_struct Try.underlying47 h
  match xs, hxl with
  | [y0, y1, y2, y3, y4, y5, y6, y7], _ =>
    have g0 := hf 0 _ rfl
    have g1 := hf 1 _ rfl
    have g2 := hf 2 _ rfl
    have g3 := hf 3 _ rfl
    have g4 := hf 4 _ rfl
    have g5 := hf 5 _ rfl
    have g6 := hf 6 _ rfl
    have g7 := hf 7 _ rfl
    have e1 : Try.prog.cellsOf 3 = 1 := by kernel_rfl
    have e2 : Try.prog.cellsOf 4 = 1 := by kernel_rfl
    have e3 : Try.prog.cellsOf 39 = 3 := by kernel_rfl
    have e4 : Try.prog.cellsOf 33 = 9 := by kernel_rfl
    have e5 : Try.prog.cellsOf 30 = 1 := by kernel_rfl
    have e6 : Try.prog.cellsOf 31 = 8 := by kernel_rfl
    match cs, hl with
    | [v0, v1, v2, v3, v4, a0, a1, a2, b0, b1, b2, b3, b4, b5, b6, b7, b8, vz], _ =>
      simp [e1, e2, e3, e4] at g0 g1 g2 g3 g4 g5 g6 g7
      obtain ⟨z0, rfl⟩ := int_cell Try.underlying3 g0
      obtain ⟨z1, rfl⟩ := int_cell Try.underlying3 g1
      obtain ⟨z2, rfl⟩ := int_cell Try.underlying3 g2
      obtain ⟨z3, rfl⟩ := int_cell Try.underlying3 g3
      obtain ⟨z4, rfl⟩ := int_cell Try.underlying3 g4
      obtain ⟨on, rfl⟩ := bool_cell Try.underlying4 g7
      obtain ⟨xs, k, hk, hxy, _, hxl, hf⟩ := DataW.trod_struct Try.underlying39 g5
      match xs, hxl with
      | [y0, y1, y2], _ =>
        have g0 := hf 0 _ rfl
        have g1 := hf 1 _ rfl
        have g2 := hf 2 _ rfl
        simp [e1] at g0 g1 g2
        obtain ⟨q0, rfl⟩ := int_cell Try.underlying3 g0
        obtain ⟨q1, rfl⟩ := int_cell Try.underlying3 g1
        obtain ⟨q2, rfl⟩ := int_cell Try.underlying3 g2
        obtain ⟨xs, k, hk, hxy, _, hxl, hf⟩ := DataW.trod_struct Try.underlying33 g6
        match xs, hxl with
        | [y0, y1], _ =>
          have g0 := hf 0 _ rfl
          have g1 := hf 1 _ rfl
          simp [e5, e6] at g0 g1
          obtain ⟨pc, rfl⟩ := u32_cell Try.underlying30 g1
          obtain ⟨xs, k, hk, hxy, _, hxl, hf⟩ := DataW.trod_array Try.underlying31 g0
          match xs, hxl with
          | [x0, x1, x2, x3, x4, x5, x6, x7], _ =>
            have d0 := hf 0 (by omega)
            have d1 := hf 1 (by omega)
            have d2 := hf 2 (by omega)
            have d3 := hf 3 (by omega)
            have d4 := hf 4 (by omega)
            have d5 := hf 5 (by omega)
            have d6 := hf 6 (by omega)
            have d7 := hf 7 (by omega)
            simp [e5] at d0 d1 d2 d3 d4 d5 d6 d7
            obtain ⟨r0, rfl⟩ := u32_cell Try.underlying30 d0
            obtain ⟨r1, rfl⟩ := u32_cell Try.underlying30 d1
            obtain ⟨r2, rfl⟩ := u32_cell Try.underlying30 d2
            obtain ⟨r3, rfl⟩ := u32_cell Try.underlying30 d3
            obtain ⟨r4, rfl⟩ := u32_cell Try.underlying30 d4
            obtain ⟨r5, rfl⟩ := u32_cell Try.underlying30 d5
            obtain ⟨r6, rfl⟩ := u32_cell Try.underlying30 d6
            obtain ⟨r7, rfl⟩ := u32_cell Try.underlying30 d7
            exact ⟨⟨z0, z1, z2, z3, z4, ⟨q0, q1, q2⟩, fun i => [r0, r1, r2, r3, r4, r5, r6, r7].getD i 0, pc, on⟩, rfl⟩
theorem open_ops {fuel : Nat} {cs : List Value} {x : DataW H × List MemPlace} (h : DataW.trod enc Try.prog w base spare held fuel 45 cs = some x) :
    ∃ (a : Option Addr) (len cap : Nat) (O : Nat → Ov), cs = [.slice a len cap] ∧ len ≤ maxLen ∧ IsOps w a len O := by
  rcases open_slice Try.underlying45 h with ⟨rfl, _⟩ | ⟨a, len, cap, m, n, D, Pl, rfl, hb, hl, hm, hmm, rfl, hx⟩
  · exact ⟨none, 0, 0, fun _ => Ov.nil, rfl, Nat.zero_le _, fun k hk => by omega⟩
  have hlm : len ≤ m := by rw [hmm]; split <;> omega
  have ce : Try.prog.cellsOf 47 = 18 := by kernel_rfl
  have each : ∀ i, i < len → ∃ o : Ov, ∀ (j : Nat) (v : Value), o.cells[j]? = some v → w.cell? ((a.add (i * 18)).add j) = some v := by
    intro i hi
    obtain ⟨cs', h1, h2⟩ := hx i (by omega)
    rw [ce] at h1
    obtain ⟨_, hlen, hcell⟩ := World.cells?_some h1
    obtain ⟨o, rfl⟩ := open_op hlen h2
    refine ⟨o, fun j v hv => ?_⟩
    have hj : j < 18 := by have := (List.getElem?_eq_some_iff.1 hv).1; rwa [ov_len] at this
    rw [hcell j hj]; exact hv
  haveI : Inhabited Ov := ⟨Ov.nil⟩
  obtain ⟨O, hO⟩ := choose_lt each
  exact ⟨some a, len, cap, O, rfl, Nat.le_trans hl hm, fun k hk => ⟨a, rfl, hO k hk⟩⟩
end
end Go.Proofs.Ytoddadohmnaolaa

namespace Go.Proofs.Ytoddadohmnaolaa
open Go.RowKit Go.Shelf

theorem infoOp : (Try.prog.info? 47).map (·.size) = some 18 := by kernel_rfl
theorem loadOp (o : Ov) {ops : Array Oper} {rest : List Oper} {op : Oper} {a : Act} {w : World} {Q : Exit → Act → World → Prop} (hw : Region.wanted op (yielded ops a.tmps) = true) (x : Operand) (ho : op.op = .load 47 x) (ad : Addr)
    (hx : a.eval x = .pointer (some ad)) (hc : ∀ (j : Nat) (v : Value), o.cells[j]? = some v → w.cell? (ad.add j) = some v) (h : wpList Try.prog ops Q rest (a.put op.dst (.agg o.cells.toArray)) w) : wpList Try.prog ops Q (op :: rest) a w :=
  loadT Try.underlying47 rfl o.cells (by rw [ov_len]; exact infoOp) hw x ho ad hx hc h
theorem lvb_some {rs : List (Option Er)} {i : Nat} (h : lvb rs i = true) : ∃ r, rs[i]? = some (some r) := by
  exact lv_core.2 h
set_option maxRecDepth 100000 in
set_option maxHeartbeats 6400000 in
theorem quotas_walk (a : Option Addr) (len cap : Nat) (O : Nat → Ov) (w : World) (hl : len ≤ maxLen) (hZ : IsOps w a len O) :
    Calls Try.prog 6 #[.slice a len cap] w fun x w' => x = .returned (.bool true) ∧ Below w.heap.size w w' := by
  have HZ := hide hZ
  have HF := hide (first_ns w)
  unfold maxLen at hl
  clear hZ
  go_enter Try.func6, Try.ntmps6
  go_wp2_with fail
  refine HF.out.mono ?_
  rintro x w1 ⟨T, B, rfl, hB, F, hN, hF, hb⟩
  have HN := hide hN
  have HFl := hide hF
  have HB := hide hb
  have HBl := hide hB
  clear hN hF hb hB HF
  go_upto_region 5 with fail
  go_loopw [5] (fun x wr => ∃ j : Nat, j ≤ len ∧ x = .int .i64 (j : Int) ∧ ∃ rs last F, Hid (Ns wr F T B rs last) ∧ Hid (∀ b, F b → w.heap.size ≤ b) ∧ Hid (Below w.heap.size w wr)) (fun x _ => len - (intOf x).toNat)
  case atStart => exact ⟨0, by omega, rfl, rs3, 3, F, HN, HFl, HB⟩
  case round =>
  clear HN HFl HB
  obtain ⟨j, hj, rfl, rs, last, F, KN, KF, KB⟩ := hrel
  by_cases hlt : j < len
  · have hd : decide ((j : Int) < (len : Int)) = true := by simp; omega
    have hj3 : (j : Int) < (len : Int) := by omega
    obtain ⟨ad, rfl, hcl⟩ := HZ.out.below KB.out j hlt
    have HCl := hide hcl
    have HNo : Hid (Calls Try.prog 16 #[.pointer (some ⟨B, 0, none⟩), .pointer (some ⟨T, 0, none⟩), .agg (O j).cells.toArray] wr fun x w' => x = .returned (.bool true) ∧ Np wr F T B w') := hide (noted_any KN.out (O j).kd (O j).t (O j).e (O j).n (O j).m (O j).q (O j).g (O j).pc (O j).on)
    clear hcl
    generalize hoj : O j = o at *
    clear hoj
    go_wp2_with (refine loadOp o ?lw _ rfl (ad.add (j * 18)) ?lx HCl.out ?_; rotate_left 2)
    try (case lw => rfl)
    try (case lx => rfl)
    refine HNo.out.mono ?_
    rintro x2 w2 ⟨rfl, rs', last', F', hN2, hX⟩
    obtain ⟨hm, hf⟩ := hX
    have HN2 := hide hN2
    have KF2 : Hid (∀ b, F' b → w.heap.size ≤ b) := hide (fun b hb => by
      rcases hf b (.inr hb) with (e9 | e9) | e9
      · rw [e9]; exact HBl.out
      · exact KF.out b e9
      · exact Nat.le_trans KB.out.size e9)
    have KB2 : Hid (Below w.heap.size w w2) := hide ⟨hm.os.trans KB.out.os, hm.tape.trans KB.out.tape, hm.output.trans KB.out.output, Nat.le_trans KB.out.size hm.size, fun b hb => (hm.block b (Nat.lt_of_lt_of_le hb KB.out.size) (fun e9 => by
      rcases e9 with e9 | e9
      · have := HBl.out; omega
      · have := KF.out b e9; omega)).trans (KB.out.block b hb)⟩
    clear hN2 hm hf HNo HCl KN KF KB
    go_upto_region 11 with fail
    go_loopw [7] (fun x wq => ∃ e : Nat, e ≤ 16 ∧ x = .int .i64 (e : Int) ∧ Hid (Below w2.heap.size w2 wq)) (fun x _ => 16 - (intOf x).toNat)
    case atStart => exact ⟨0, by omega, rfl, Below.refl _ _⟩
    case round =>
    obtain ⟨e, he, rfl, KQ⟩ := hrel
    by_cases h16 : e < 16
    · have hd2 : decide ((e : Int) < 16) = true := by simp; omega
      have he3 : (e : Int) < 16 := by omega
      have HNe := hide (HN2.out.below KQ.out)
      obtain ⟨ce, fe⟩ := HNe.out.bq.cell h16
      cases hv : lvb rs' e
      · rw [hv] at ce
        clear HNe hv
        go_wp2
        go_roundw
        case rel =>
          first
            | exact ⟨e + 1, by omega, by go_num, KQ⟩
            | ((repeat apply Exists.intro); refine ⟨?_, rfl⟩; exact ⟨e + 1, by omega, by go_num, KQ⟩)
        case measure => simp [intOf]; omega
      · rw [hv] at ce
        obtain ⟨r, hr⟩ := lvb_some hv
        have HA := hide (adds_any HNe.out e r hr)
        clear HNe hv hr
        go_wp2_with fail
        refine HA.out.mono ?_
        rintro x3 w3 ⟨rfl, hb3⟩
        have K1 := hide (KQ.out.trans (hb3.mono KQ.out.size))
        clear hb3 HA KQ ce fe
        go_wp2
        go_roundw
        case rel =>
          first
            | exact ⟨e + 1, by omega, by go_num, K1⟩
            | ((repeat apply Exists.intro); refine ⟨?_, rfl⟩; exact ⟨e + 1, by omega, by go_num, K1⟩)
        case measure => simp [intOf]; omega
    · obtain rfl : e = 16 := by omega
      have HN3 := hide (HN2.out.below KQ.out)
      have KB3 := hide (KB2.out.trans (KQ.out.mono KB2.out.size))
      clear HN2 KB2 KQ
      go_wp2
      go_roundw
      case rel =>
        first
          | exact ⟨j + 1, by omega, by go_num, rs', last', F', HN3, KF2, KB3⟩
          | ((repeat apply Exists.intro); refine ⟨?_, rfl⟩; exact ⟨j + 1, by omega, by go_num, rs', last', F', HN3, KF2, KB3⟩)
      case measure => simp [intOf]; omega
  · obtain rfl : j = len := by omega
    have hd : decide ((j : Int) < (j : Int)) = false := by simp
    clear KN KF
    go_wp2
    go_ret
    exact ⟨by simp, KB.out⟩
end Go.Proofs.Ytoddadohmnaolaa
