import Derived.Test.YtoddadohmnaolabNB
import Derived.Test.YtoddadohmnaolabNC
namespace Go.Proofs.Ytoddadohmnaolab
open Go.RowKit Go.Shelf

section
variable {rs : List (Option Er)} {last : Int}
/-- what a number has paid -/
def pdv (rs : List (Option Er)) (i : Nat) : Qt := match look rs (i : Int) with | some r => r.pd | none => Qt.zero
theorem pdv_at {i : Nat} {r : Er} (h : rs[i]? = some (some r)) : pdv rs i = r.pd := by unfold pdv; rw [look_nat, h]; rfl
theorem pdv_nn (h : Iv rs last) (i : Nat) : (pdv rs i).nn := by
  unfold pdv
  cases hl : look rs (i : Int) with
  | none => exact ⟨Int.le_refl _, Int.le_refl _, Int.le_refl _⟩
  | some r =>
    obtain ⟨k, _, hr⟩ := look_some hl
    exact (h.q k r hr).pd
/-- what all of a list have paid -/
def pds (rs : List (Option Er)) (l : List Nat) : Qt := ⟨(l.map (fun i => (pdv rs i).f)).sum, (l.map (fun i => (pdv rs i).e)).sum, (l.map (fun i => (pdv rs i).x)).sum⟩
theorem pds_app (l m : List Nat) : pds rs (l ++ m) = (pds rs l).plus (pds rs m) := by
  unfold pds Qt.plus
  simp only [List.map_append, List.sum_append]
theorem pds_one (c : Nat) : pds rs [c] = pdv rs c := by
  unfold pds
  simp
theorem pds_cons (c : Nat) (l : List Nat) : pds rs (c :: l) = (pdv rs c).plus (pds rs l) := by rw [← pds_one (rs := rs) c, ← pds_app]; rfl
theorem pds_nil : pds rs [] = Qt.zero := rfl
theorem pds_take {l : List Nat} {j c : Nat} (hc : l[j]? = some c) : pds rs (l.take (j + 1)) = (pds rs (l.take j)).plus (pdv rs c) := by
  rw [List.take_add_one, hc, pds_app]
  show _ = _
  rw [show (some c).toList = [c] from rfl, pds_one]
theorem pds_nn (h : Iv rs last) : ∀ l : List Nat, (pds rs l).nn
  | [] => ⟨Int.le_refl _, Int.le_refl _, Int.le_refl _⟩
  | c :: l => by
    obtain ⟨a1, a2, a3⟩ := pds_nn h l
    obtain ⟨b1, b2, b3⟩ := pdv_nn h c
    rw [pds_cons]
    exact ⟨by simp only [Qt.plus]; omega, by simp only [Qt.plus]; omega, by simp only [Qt.plus]; omega⟩
theorem ps_cons (c : Nat) (l : List Nat) : ps rs (c :: l) = (prc rs c).plus (ps rs l) := by rw [← ps_one (rs := rs) c, ← ps_app]; rfl
/-- what all in a tree have paid, and how many there are -/
def Wh (rs : List (Option Er)) (n e : Nat) (r : Er) : Prop := (pds rs (wk rs n e)).f ≤ r.qu.f ∧ (pds rs (wk rs n e)).e + ((wk rs n e).length : Int) ≤ r.qu.e + 1 ∧ (pds rs (wk rs n e)).x ≤ r.qu.x
theorem whole_kids (n : Nat) : ∀ l : List Nat, (∀ k ∈ l, ∃ rk, rs[k]? = some (some rk) ∧ Wh rs n k rk) → (pds rs (l.flatMap (wk rs n))).f ≤ (ps rs l).f ∧ (pds rs (l.flatMap (wk rs n))).e + ((l.flatMap (wk rs n)).length : Int) ≤ (ps rs l).e ∧ (pds rs (l.flatMap (wk rs n))).x ≤ (ps rs l).x
  | [], _ => by simp [pds, ps]
  | k :: l, h => by
    obtain ⟨rk, hk, w1, w2, w3⟩ := h k List.mem_cons_self
    obtain ⟨i1, i2, i3⟩ := whole_kids n l (fun c hc => h c (List.mem_cons_of_mem _ hc))
    rw [List.flatMap_cons, pds_app, ps_cons, prc_at hk, List.length_append]
    simp only [Qt.plus, Qt.one]
    omega
theorem whole_sum (h : Iv rs last) : ∀ (n e : Nat) (r : Er), rs[e]? = some (some r) → Wh rs n e r
  | 0, e, r, hr => by
    have hq := h.q e r hr
    obtain ⟨p1, p2, p3⟩ := hq.parts
    obtain ⟨a1, a2, a3⟩ := hq.pd
    obtain ⟨b1, b2, b3⟩ := hq.le
    obtain ⟨c1, c2, c3⟩ := cv_nn h e
    unfold Wh
    simp only [wk, pds_one, pdv_at hr, List.length_cons, List.length_nil]
    omega
  | n + 1, e, r, hr => by
    have hq := h.q e r hr
    obtain ⟨p1, p2, p3⟩ := hq.parts
    obtain ⟨b1, b2, b3⟩ := hq.le
    obtain ⟨k1, k2, k3⟩ := whole_kids (rs := rs) n (kids rs (e : Int)) (fun k hk => by
      obtain ⟨rk, hrk, _⟩ := kids_at hk
      exact ⟨rk, hrk, whole_sum h n k rk hrk⟩)
    rw [ps_kids h.tr] at k1 k2 k3
    unfold Wh
    simp only [wk, pds_cons, pdv_at hr, List.length_cons, Qt.plus]
    omega
/-- what is left of a quota behind the first j of a list -/
def rst (rs : List (Option Er)) (r : Er) (l : List Nat) (j : Nat) : Qt := r.qu.less (pds rs (l.take j))
theorem qt_zero_less (q : Qt) : q.less Qt.zero = q := by unfold Qt.less Qt.zero; simp
theorem rst_zero (r : Er) (l : List Nat) : rst rs r l 0 = r.qu := by
  unfold rst
  rw [List.take_zero, pds_nil, qt_zero_less]
theorem rst_step {r rc : Er} {l : List Nat} {j c : Nat} (hc : l[j]? = some c) (hr : rs[c]? = some (some rc)) : rst rs r l (j + 1) = (rst rs r l j).less rc.pd := by
  unfold rst
  rw [pds_take hc, pdv_at hr]
  unfold Qt.less Qt.plus
  simp only [Qt.mk.injEq]
  exact ⟨by omega, by omega, by omega⟩
theorem rst_nn (h : Iv rs last) {e : Nat} {r : Er} (hr : rs[e]? = some (some r)) (n j : Nat) : (rst rs r (wk rs n e) j).nn := by
  obtain ⟨w1, w2, w3⟩ := whole_sum h n e r hr
  have h1 := pds_app (rs := rs) ((wk rs n e).take j) ((wk rs n e).drop j)
  rw [List.take_append_drop] at h1
  obtain ⟨a1, a2, a3⟩ := pds_nn h ((wk rs n e).drop j)
  have hl : 0 < (wk rs n e).length := List.length_pos_of_mem (wk_self n e)
  rw [h1] at w1 w2 w3
  unfold rst
  simp only [Qt.nn, Qt.less, Qt.plus] at *
  omega
theorem rst_ok (h : Iv rs last) {e : Nat} {r : Er} (hr : rs[e]? = some (some r)) (n j : Nat) : (rst rs r (wk rs n e) j).ok := by
  obtain ⟨a1, a2, a3⟩ := rst_nn h hr n j
  obtain ⟨b1, b2, b3⟩ := pds_nn h ((wk rs n e).take j)
  obtain ⟨⟨u1, u2⟩, ⟨u3, u4⟩, ⟨u5, u6⟩⟩ := (h.oks hr).2.2
  unfold rst at *
  simp only [Qt.ok, Qt.less] at *
  omega
theorem wk_short (h : Iv rs last) {e : Nat} {r : Er} (hr : rs[e]? = some (some r)) (n : Nat) : ((wk rs n e).length : Int) - 1 ≤ r.qu.e ∧ (wk rs n e).length ≤ 16 ∧ 0 < (wk rs n e).length := by
  obtain ⟨w1, w2, w3⟩ := whole_sum h n e r hr
  obtain ⟨a1, a2, a3⟩ := pds_nn h (wk rs n e)
  have hl : 0 < (wk rs n e).length := List.length_pos_of_mem (wk_self n e)
  have h16 := wk_len h.tr n ⟨r, hr⟩
  omega
end
section
variable {w : World} {F : Nat → Prop} {T : Nat} {rs : List (Option Er)} {last : Int}
set_option maxHeartbeats 800000 in
theorem treeT_any (h : Et w F T rs last) (iv : Iv rs last) (k : Nat) (hk : Lv rs k) : Calls Try.prog 17 #[.pointer (some ⟨T, 0, none⟩), .int .i64 (k : Int)] w fun x w' => ∃ v, x = .returned (.tuple #[v, .int .i64 0]) ∧ w'.ownsRow w.heap.size 3 1 v (wk rs 17 k).length (numN (wk rs 17 k)) ∧ Below w.heap.size w w' := by
  have HC := hide (walk_any rs iv.tr.dis (fun n e => wk_len' iv.tr n e) (fun e => kids_len iv.tr e) 17 k w F T last h (dp17 iv.tr k))
  obtain ⟨r, hr⟩ := hk
  obtain ⟨S, G, m, h⟩ := h
  have c0 := h.cell.1
  have HG := hide (getL_any _ G S m h.tab (k : Int))
  rcases h.cases (k : Int) with ⟨_, h1⟩ | ⟨k', b, r', e1, hm, h3, h4, _, hR⟩
  · rw [look_nat, hr] at h1; cases h1
  · obtain rfl : k = k' := by omega
    rw [h4] at HG
    simp only [ptr, Option.isSome_some] at HG
    clear h h4 hR
    go_enter Try.func17, Try.ntmps17
    go_wp2_with fail
    refine HG.out.mono ?_
    rintro e1 w1 ⟨rfl, rfl⟩
    go_wp2_with fail
    refine HC.out.mono ?_
    rintro e1 w2 ⟨v, rfl, ho, hb⟩
    obtain ⟨va, vc, rfl⟩ := own_shape ho
    have HO := hide ho
    have HB := hide hb
    clear ho hb
    go_wp2
    go_ret2
    exact ⟨_, rfl, HO.out, HB.out⟩
end
end Go.Proofs.Ytoddadohmnaolab

namespace Go.Proofs.Ytoddadohmnaolab
open Go.ChangeShapes Go.WideShapes Go.ChangeAt Go.RowKit Go.Deep Go.Shelf Go.Great

section
variable {rs : List (Option Er)} {last : Int}
theorem flatMap_congr' {α β : Type} {f g : α → List β} : ∀ {l : List α}, (∀ x ∈ l, f x = g x) → l.flatMap f = l.flatMap g
  | [], _ => rfl
  | x :: l, h => by
    rw [List.flatMap_cons, List.flatMap_cons, h x List.mem_cons_self, flatMap_congr' (fun y hy => h y (List.mem_cons_of_mem _ hy))]
theorem wk_stable : ∀ (n e : Nat), Dp rs n e → wk rs (n + 1) e = wk rs n e
  | 0, _, h => h.elim
  | n + 1, e, h => by
    show e :: (kids rs (e : Int)).flatMap (wk rs (n + 1)) = e :: (kids rs (e : Int)).flatMap (wk rs n)
    rw [flatMap_congr' (fun k hk => wk_stable n k (h k hk))]
theorem wk17 (h : Tr rs last) (e : Nat) : wk rs 17 e = e :: (kids rs (e : Int)).flatMap (wk rs 17) := by
  have hd : Dp rs 17 e := dp17 h e
  show e :: (kids rs (e : Int)).flatMap (wk rs 16) = _
  rw [flatMap_congr' (f := wk rs 17) (g := wk rs 16) (fun k hk => wk_stable 16 k (hd k hk))]
theorem ln_cons (iv : Tr rs last) {k : Nat} {r : Er} (hr : rs[k]? = some (some r)) : ln rs (k : Int) = (k : Int) :: ln rs r.pa := by
  obtain ⟨h1, h2⟩ := ln_line iv (k : Int)
  generalize ln rs (k : Int) = l at *
  rcases line_cases h1 with ⟨h, _⟩ | ⟨_, l', h, rfl, hl⟩
  · rw [look_at hr] at h; cases h
  · rw [look_at hr] at h
    cases h
    unfold ln
    rw [line_up hl 16 (by simp at h2; omega)]
theorem anc_ln (iv : Tr rs last) {a c : Nat} (h : Anc rs a c) (ha : Lv rs a) : (a : Int) ∈ ln rs (c : Int) := by
  refine anc_ind (P := fun c => (a : Int) ∈ ln rs (c : Int)) ?_ (fun c q hk _ ih => ?_) h
  · obtain ⟨r, hr⟩ := ha
    rw [ln_cons iv hr]; exact List.mem_cons_self
  · obtain ⟨r, hr, hp⟩ := kid_of hk
    rw [ln_cons iv hr, hp]
    exact List.mem_cons_of_mem _ ih
theorem line_ser (iv : Tr rs last) {e : Int} {l : List Int} (h : Line rs e l) : ∀ c : Nat, e = (c : Int) → ∀ z ∈ l, ∃ k : Nat, z = (k : Int) ∧ ser rs k ≤ ser rs c := by
  induction l generalizing e with
  | nil => intro c _ z hz; cases hz
  | cons z0 l' ih0 =>
    obtain ⟨rfl, r, h, hl⟩ := h
    have ih := ih0 hl
    intro c hc z hz
    rcases List.mem_cons.1 hz with rfl | hz'
    · exact ⟨c, hc, Int.le_refl _⟩
    · subst hc
      obtain ⟨k, e9, hr⟩ := look_some h
      obtain rfl : c = k := by omega
      by_cases h0 : c = 0
      · subst h0
        obtain ⟨r0, h1, h2⟩ := iv.root
        rw [hr] at h1
        obtain rfl : r = r0 := by simpa using h1
        rw [h2] at hl
        rcases line_cases hl with ⟨_, rfl⟩ | ⟨_, _, h, _⟩
        · cases hz'
        · cases h
      · obtain ⟨p, h1, _, h3⟩ := iv.par c r hr h0
        obtain ⟨k, h4, h5⟩ := ih p h1 z hz'
        exact ⟨k, h4, by omega⟩
theorem not_above (iv : Tr rs last) {e v : Nat} (h : ser rs e < ser rs v) : ¬ (v : Int) ∈ ln rs (e : Int) := fun hm => by
  obtain ⟨k, h1, h2⟩ := line_ser iv (ln_line iv (e : Int)).1 e rfl _ hm
  obtain rfl : v = k := by omega
  omega
theorem kids_sorted (e : Int) : (kids rs e).Pairwise (fun a b => ser rs a ≤ ser rs b) := by
  unfold kids
  refine (List.pairwise_mergeSort (le := fun a b => decide (ser rs a ≤ ser rs b)) (fun a b c h1 h2 => ?_) (fun a b => ?_) (kidsU rs e)).imp (fun {a b} h => of_decide_eq_true h)
  · simp only [decide_eq_true_eq] at h1 h2 ⊢; omega
  · by_cases h : ser rs a ≤ ser rs b <;> simp [h]; omega
theorem kids_rise (iv : Tr rs last) (e : Int) {i : Nat} {a b : Nat} (ha : (kids rs e)[i]? = some a) (hb : (kids rs e)[i + 1]? = some b) : ser rs a < ser rs b := by
  obtain ⟨h1, e1⟩ := List.getElem?_eq_some_iff.1 ha
  obtain ⟨h2, e2⟩ := List.getElem?_eq_some_iff.1 hb
  have h3 := List.pairwise_iff_getElem.1 (kids_sorted (rs := rs) e) i (i + 1) h1 h2 (by omega)
  have h4 := List.pairwise_iff_getElem.1 (kids_nodup (rs := rs) e) i (i + 1) h1 h2 (by omega)
  rw [e1, e2] at h3 h4
  have h5 : ser rs a ≠ ser rs b := fun h9 => h4 (iv.dis a b (kid_lv (kids_kid (List.mem_of_getElem? ha))) (kid_lv (kids_kid (List.mem_of_getElem? hb))) h9)
  omega
/-- where the i-th child's walk begins -/
def atW (rs : List (Option Er)) (ks : List Nat) (i : Nat) : Nat := 1 + ((ks.take i).flatMap (wk rs 17)).length
theorem atW_step {ks : List Nat} {i c : Nat} (hc : ks[i]? = some c) : atW rs ks (i + 1) = atW rs ks i + (wk rs 17 c).length := by
  unfold atW
  rw [List.take_add_one, hc, List.flatMap_append, List.length_append]
  simp
  omega
theorem atW_split {ks : List Nat} {i c : Nat} (hc : ks[i]? = some c) : ks.flatMap (wk rs 17) = (ks.take i).flatMap (wk rs 17) ++ (wk rs 17 c ++ (ks.drop (i + 1)).flatMap (wk rs 17)) := by
  obtain ⟨h1, e1⟩ := List.getElem?_eq_some_iff.1 hc
  conv => lhs; rw [← List.take_append_drop i ks, List.drop_eq_getElem_cons h1, e1]
  rw [List.flatMap_append, List.flatMap_cons]
theorem atW_get (h : Tr rs last) {e i c j : Nat} (hc : (kids rs (e : Int))[i]? = some c) (hj : j < (wk rs 17 c).length) : (wk rs 17 e)[atW rs (kids rs (e : Int)) i + j]? = (wk rs 17 c)[j]? := by
  rw [wk17 h e, atW_split hc]
  unfold atW
  rw [show 1 + (((kids rs (e : Int)).take i).flatMap (wk rs 17)).length + j = ((((kids rs (e : Int)).take i).flatMap (wk rs 17)).length + j) + 1 by omega, List.getElem?_cons_succ, List.getElem?_append_right (by omega), Nat.add_sub_cancel_left, List.getElem?_append_left hj]
theorem atW_le (h : Tr rs last) {e i c : Nat} (hc : (kids rs (e : Int))[i]? = some c) : atW rs (kids rs (e : Int)) i + (wk rs 17 c).length ≤ (wk rs 17 e).length := by
  rw [wk17 h e, atW_split hc]
  unfold atW
  simp
  omega
theorem atW_end (h : Tr rs last) (e : Nat) : atW rs (kids rs (e : Int)) (kids rs (e : Int)).length = (wk rs 17 e).length := by
  rw [wk17 h e]
  unfold atW
  rw [List.take_length]
  simp
  omega
/-- the serial that the next child's must be above -/
def lsr (rs : List (Option Er)) (e : Nat) (ks : List Nat) : Nat → Int
  | 0 => ser rs e
  | i + 1 => match ks[i]? with | some c => ser rs c | none => 0
theorem lsr_lt (h : Tr rs last) {e i c : Nat} (hc : (kids rs (e : Int))[i]? = some c) : lsr rs e (kids rs (e : Int)) i < ser rs c := by
  cases i with
  | zero => exact (kid_ser h (kids_kid (List.mem_of_getElem? hc))).1
  | succ i =>
    obtain ⟨h1, _⟩ := List.getElem?_eq_some_iff.1 hc
    have h2 : (kids rs (e : Int))[i]? = some ((kids rs (e : Int))[i]'(by omega)) := List.getElem?_eq_getElem (by omega)
    simp only [lsr, h2]
    exact kids_rise h _ h2 hc
/-- what lies in a child's walk is inside, and nothing of it above -/
theorem wk_in (h : Tr rs last) {e i c v : Nat} (hc : (kids rs (e : Int))[i]? = some c) (hv : v ∈ wk rs 17 c) : decide ((e : Int) ∈ ln rs (v : Int)) = true ∧ decide ((v : Int) ∈ ln rs (e : Int)) = false := by
  have hk := kids_kid (List.mem_of_getElem? hc)
  have h1 := kid_ser h hk
  have ha : Anc rs e v := (wk_anc 17 hv).top hk
  have h2 : ser rs e < ser rs v := by
    have := (wk_anc 17 hv).ser h
    omega
  exact ⟨decide_eq_true (anc_ln h ha h1.2.2), decide_eq_false (not_above h h2)⟩
end
end Go.Proofs.Ytoddadohmnaolab

namespace Go.Proofs.Ytoddadohmnaolab
open Go.ChangeShapes Go.WideShapes Go.ChangeAt Go.RowKit Go.Deep Go.Shelf Go.Great

theorem row_at {w : World} {base : Nat} {a : Option Addr} {n c : Nat} {l : List Nat} (h : w.ownsRow base 3 1 (.slice a n c) n (numN l)) {k z : Nat} (hk : l[k]? = some z) : ∃ g, a = some ⟨g, 0, none⟩ ∧ w.cell? ⟨g, k, none⟩ = some (.int .i64 (z : Int)) := by
  have h9 := h
  obtain ⟨hl, ⟨h0, h1⟩ | ⟨g, cp, cur, h0, _⟩⟩ := h
  · exfalso
    have : (numN l).length = 0 := by rw [hl, h1]
    have h2 := (List.getElem?_eq_some_iff.1 hk).1
    rw [numN_len] at this
    omega
  · cases h0
    refine ⟨g, rfl, ?_⟩
    have := World.ownsRow.cells h9 rfl k (.int .i64 (z : Int)) (by simp [numN, hk])
    rw [add0] at this
    exact this
section
variable {w : World} {F : Nat → Prop} {T B : Nat} {rs : List (Option Er)} {last : Int}
set_option maxRecDepth 100000 in
set_option maxHeartbeats 6400000 in
theorem branch_any (h : Et w F T rs last) (iv : Iv rs last) (e : Nat) (r : Er) (hr : rs[e]? = some (some r)) : Calls Try.prog 19 #[.pointer (some ⟨T, 0, none⟩), .int .i64 (e : Int)] w fun x w' => x = .returned (.bool true) ∧ Below w.heap.size w w' := by
  have HE := hide h
  have HIv := hide iv
  have HR := hide hr
  have HT := hide (treeT_any h iv e ⟨r, hr⟩)
  obtain ⟨_, hs2, hs3⟩ := wk_short iv hr 17
  have hkl := kids_len iv.tr (e : Int)
  have H0 := hide (show (wk rs 17 e)[0]? = some e by rw [wk17 iv.tr e]; rfl)
  clear h iv hr
  go_enter Try.func19, Try.ntmps19
  go_wp2_with fail
  refine HT.out.mono ?_
  rintro x1 w1 ⟨v, rfl, hv, hb1⟩
  obtain ⟨va, vc, rfl⟩ := own_shape hv
  have HV1 := hide (own_low hv (Nat.zero_le _))
  have HB1 := hide hb1
  have HC := hide (childrenT_any (HE.out.below hb1) HIv.out.tr.dis e ⟨r, HR.out⟩)
  clear hv hb1 HT
  go_wp2_with fail
  refine HC.out.mono ?_
  rintro x2 w2 ⟨u, rfl, hu, hb2⟩
  obtain ⟨ua, uc, rfl⟩ := own_shape hu
  have HV2 := hide (own_below HV1.out hb2)
  have HU2 := hide (own_low hu (Nat.zero_le _))
  have HB2 := hide (HB1.out.trans (hb2.mono HB1.out.size))
  have HI := hide (info_any _ F T rs last (HE.out.below HB2.out) e r HR.out)
  clear hu hb2 HC HV1 HB1
  go_wp2_with fail
  refine HI.out.mono ?_
  rintro x3 u1 ⟨rfl, hb1⟩
  have hz : Eb (u1.alloc (.cells Er.nil.head.toArray 40)) u1.heap.size Er.nil := Eb.new _ _
  have HEb := hide (freshE_eb u1 r.told)
  have hb3 := hb1.trans ((freshE_below u1 r.told).mono hb1.size)
  have HV3 := hide (own_below HV2.out hb3)
  have HU3 := hide (own_below HU2.out hb3)
  have HB3 := hide (HB2.out.trans (hb3.mono HB2.out.size))
  clear hb1 hb3 HI HV2 HU2 HB2
  go_upto_region 4 with (refine storeE r.told ?nw _ _ rfl u1.heap.size Er.nil ?nx ?ny ?nz ?_; rotate_left 4; change wpList _ _ _ _ _ (freshE u1 r.told); generalize freshE u1 r.told = u2 at *)
  try (case nw => rfl)
  try (case nx => rfl)
  try (case ny => rfl)
  try (case nz => exact hz)
  clear hz
  generalize u1.heap.size = M at *
  obtain ⟨gw, rfl, hw0⟩ := row_at HV3.out H0.out
  have m0 : u2.cell? ⟨M, 0, none⟩ = some (.int .i64 r.se) := HEb.out.get (j := 0) rfl
  have hse : r.se = ser rs e := by rw [ser_core, core_at HR.out]
  have HEnd := hide (atW_end HIv.out.tr e)
  have HAt0 := hide (show atW rs (kids rs (e : Int)) 0 = 1 from rfl)
  generalize hLs : (wk rs 17 e).length = L at *
  have HLs := hide hLs
  generalize hLk : (kids rs (e : Int)).length = K at *
  have HLk := hide hLk
  clear hLs hLk
  have t1 : ((L : Int) == 0) = false := by simp; omega
  have t2 : ¬ (L : Int) = 0 := by omega
  have t3 : ¬ (16 < (L : Int)) := by omega
  have t4 : (0 : Int) < (L : Int) := by omega
  go_upto_region 9 with fail
  try rw [hse]
  clear m0 t1 t2 t3 t4 hw0 hse HEb
  go_loopw [11, 12, 13] (fun x y z wr => ∃ i : Nat, i ≤ K ∧ x = .int .i64 (atW rs (kids rs (e : Int)) i : Nat) ∧ y = .int .i64 (lsr rs e (kids rs (e : Int)) i) ∧ z = .int .i64 (i : Int) ∧ Hid (Below u2.heap.size u2 wr)) (fun _ _ z _ => K - (intOf z).toNat)
  case atStart => exact ⟨0, by omega, rfl, rfl, rfl, Below.refl _ _⟩
  case round =>
  obtain ⟨i, hi, rfl, rfl, rfl, KB⟩ := hrel
  by_cases hlt : i < K
  · have hd : decide ((i : Int) < (K : Int)) = true := by simp; omega
    have hi3 : (i : Int) < (K : Int) := by omega
    obtain ⟨c, hc⟩ : ∃ c, (kids rs (e : Int))[i]? = some c := ⟨_, List.getElem?_eq_getElem (by have := HLk.out; omega)⟩
    obtain ⟨rc, hrc, hpa⟩ := kids_at (List.mem_of_getElem? hc)
    obtain ⟨gk, rfl, hck⟩ := row_at (own_below HU3.out KB.out) hc
    have hsc : rc.se = ser rs c := by rw [ser_core, core_at hrc]
    have HI := hide (info_any _ F T rs last (HE.out.below (HB3.out.trans (KB.out.mono HB3.out.size))) c rc hrc)
    have HC := hide hc
    have HRc := hide hrc
    have HCk : Hid (∀ W, Below u2.heap.size u2 W → W.cell? ⟨gk, i, none⟩ = some (.int .i64 (c : Int))) := hide (fun W hW => by
      obtain ⟨g, e9, h9⟩ := row_at (own_below HU3.out hW) hc
      cases e9; exact h9)
    clear hc
    go_wp2_with fail
    refine HI.out.mono ?_
    rintro x3 p1 ⟨rfl, hb1⟩
    have hz : Eb (p1.alloc (.cells Er.nil.head.toArray 40)) p1.heap.size Er.nil := Eb.new _ _
    have HEb := hide (freshE_eb p1 rc.told)
    have hb3 := hb1.trans ((freshE_below p1 rc.told).mono hb1.size)
    have KB2 := hide (KB.out.trans (hb3.mono KB.out.size))
    clear hb1 hb3 HI KB hck
    go_upto_region 12 with (refine storeE rc.told ?mw _ _ rfl p1.heap.size Er.nil ?mx ?my ?mz ?_; rotate_left 4; change wpList _ _ _ _ _ (freshE p1 rc.told); generalize freshE p1 rc.told = p2 at *)
    try (case mw => rfl)
    try (case mx => rfl)
    try (case my => rfl)
    try (case mz => exact hz)
    clear hz
    generalize p1.heap.size = M2 at *
    have hck := HCk.out p2 KB2.out
    have HTc := hide (treeT_any (HE.out.below (HB3.out.trans (KB2.out.mono HB3.out.size))) HIv.out c ⟨rc, HRc.out⟩)
    go_wp2_with fail
    refine HTc.out.mono ?_
    rintro x4 p3 ⟨y, rfl, hy, hb4⟩
    obtain ⟨ya, yc, rfl⟩ := own_shape hy
    have HY := hide (own_low hy (Nat.zero_le _))
    have KB3 := hide (KB2.out.trans (hb4.mono KB2.out.size))
    have HE3 := hide (HEb.out.keep (hb4.block M2 HEb.out.lt))
    have m1 : p3.cell? ⟨M2, 1, none⟩ = some (.int .i64 (e : Int)) := by rw [← hpa]; exact HE3.out.get (j := 1) rfl
    have m0 : p3.cell? ⟨M2, 0, none⟩ = some (.int .i64 (ser rs c)) := by rw [← hsc]; exact HE3.out.get (j := 0) rfl
    have q1 := lsr_lt HIv.out.tr HC.out
    have q2 := atW_le HIv.out.tr HC.out
    have q3 := atW_step (rs := rs) HC.out
    have HQ3 := hide q3
    have HLs2 : Hid (lsr rs e (kids rs (e : Int)) (i + 1) = ser rs c) := hide (by simp only [lsr]; rw [HC.out])
    clear hy hb4 HEb KB2 HTc hck HE3 q3 hsc hpa hrc
    rw [HLs.out] at q2
    obtain ⟨sc, hsc⟩ : ∃ sc, sc = ser rs c := ⟨_, rfl⟩
    rw [← hsc] at m0 q1 HLs2
    clear hsc
    generalize hl9 : lsr rs e (kids rs (e : Int)) i = ls at *
    clear hl9
    generalize hA : atW rs (kids rs (e : Int)) i = A at *
    have HA := hide hA
    clear hA
    generalize hLc : (wk rs 17 c).length = Lc at *
    have HLc := hide hLc
    clear hLc
    have q4 : ¬ (sc ≤ ls) := by omega
    have q5 : ¬ ((L : Int) < (A : Int) + (Lc : Int)) := by omega
    have q6 : IntKind.i64.wrap ((A : Int) + (Lc : Int)) = (A : Int) + (Lc : Int) := by
      simp only [IntKind.wrap, IntKind.signed, IntKind.bits]; simp; omega
    go_upto_region 17 with fail
    clear m0 m1 q4 q5 q6
    go_loopw [18] (fun x wq => ∃ j : Nat, j ≤ Lc ∧ x = .int .i64 (j : Int) ∧ Hid (Below p3.heap.size p3 wq)) (fun x _ => Lc - (intOf x).toNat)
    case atStart => exact ⟨0, by omega, rfl, Below.refl _ _⟩
    case round =>
    obtain ⟨j, hj, rfl, KJ⟩ := hrel
    by_cases hjl : j < Lc
    · have hd2 : decide ((j : Int) < (Lc : Int)) = true := by simp; omega
      have hj3 : (j : Int) < (Lc : Int) := by omega
      obtain ⟨v, hv⟩ : ∃ v, (wk rs 17 c)[j]? = some v := ⟨_, List.getElem?_eq_getElem (by have := HLc.out; omega)⟩
      have hvw : (wk rs 17 e)[A + j]? = some v := by
        rw [← HA.out, atW_get HIv.out.tr HC.out (by have := HLc.out; omega)]; exact hv
      obtain ⟨gy, rfl, hy1⟩ := row_at (own_below HY.out KJ.out) hv
      have KU := hide (KB3.out.trans (KJ.out.mono KB3.out.size))
      have HS : Hid (∀ W, Below p3.heap.size p3 W → W.cell? ⟨gy, j, none⟩ = some (.int .i64 (v : Int)) ∧ W.cell? ⟨gw, A + j, none⟩ = some (.int .i64 (v : Int))) := hide (fun W hW => by
        obtain ⟨g1, e1, h1⟩ := row_at (own_below HY.out hW) hv
        obtain ⟨g2, e2, h2⟩ := row_at (own_below HV3.out (KB3.out.trans (hW.mono KB3.out.size))) hvw
        cases e1; cases e2
        exact ⟨h1, h2⟩)
      obtain ⟨n1, n2⟩ := wk_in HIv.out.tr HC.out (List.mem_of_getElem? hv)
      have hEt : ∀ W, Below p3.heap.size p3 W → Et W F T rs last := fun W hW => HE.out.below (HB3.out.trans ((KB3.out.trans (hW.mono KB3.out.size)).mono HB3.out.size))
      have hI1 := fun W hW => inside_any (hEt W hW) HIv.out.tr (e : Int) (v : Int)
      have hI2 := fun W hW => inside_any (hEt W hW) HIv.out.tr (v : Int) (e : Int)
      simp only [n1] at hI1
      simp only [n2] at hI2
      have HI1 := hide hI1
      have HI2 := hide hI2
      have q7 : IntKind.i64.wrap ((A : Int) + (j : Int)) = (A : Int) + (j : Int) := by
        simp only [IntKind.wrap, IntKind.signed, IntKind.bits]; simp; omega
      have q8 : (A : Int) + (j : Int) < (L : Int) := by omega
      clear hv hvw hy1 hEt hI1 hI2 n1 n2 KU
      go_upto_region 19 with fail
      obtain ⟨w6, hw6⟩ : ∃ w6, w6 = wr.drew := ⟨_, rfl⟩
      have hb6 : Below wr.heap.size wr w6 := by rw [hw6]; exact ⟨rfl, rfl, rfl, Nat.le_refl _, fun _ _ => rfl⟩
      have K6 := hide (KJ.out.trans (hb6.mono KJ.out.size))
      have HS6 := hide (HS.out w6 K6.out)
      clear hb6 KJ
      refine wp_region_held_drew (S := fun W => W.cell? ⟨gy, j, none⟩ = some (.int .i64 (v : Int)) ∧ W.cell? ⟨gw, A + j, none⟩ = some (.int .i64 (v : Int))) (by kernel_rfl) (by rw [← hw6]; exact HS6.out) (fun _ => ?_)
      rw [← hw6]
      clear hw6
      refine hd_take 0 (o := ⟨some 121, _, _, _, _, _⟩) (.slice (some ⟨gy, 0, none⟩) Lc yc) (by kernel_rfl) (by kernel_rfl) (by kernel_rfl) rfl (by rfl) (fun W hSw => by go_simp) (fun _ _ _ h => h) HS6.out ?_
      try simp only [Act.put, List.setIfInBounds_toArray, List.set_cons_zero, List.set_cons_succ]
      refine hd_take 1 (o := ⟨some 122, _, _, _, _, _⟩) (.int .i64 (j : Int)) (by kernel_rfl) (by kernel_rfl) (by kernel_rfl) rfl (by rfl) (fun W hSw => by go_simp) (fun _ _ _ h => h) HS6.out ?_
      try simp only [Act.put, List.setIfInBounds_toArray, List.set_cons_zero, List.set_cons_succ]
      refine hd_take 2 (o := ⟨some 123, _, _, _, _, _⟩) (.pointer (some ⟨gy, j, none⟩)) (by kernel_rfl) (by kernel_rfl) (by kernel_rfl) rfl (by rfl) (fun W hSw => by go_simp) (fun _ _ _ h => h) HS6.out ?_
      try simp only [Act.put, List.setIfInBounds_toArray, List.set_cons_zero, List.set_cons_succ]
      refine hd_take 3 (o := ⟨some 124, _, _, _, _, _⟩) (.int .i64 (v : Int)) (by kernel_rfl) (by kernel_rfl) (by kernel_rfl) rfl (by rfl) (fun W hSw => by obtain ⟨s0, s1⟩ := hSw; go_simp) (fun _ _ _ h => h) HS6.out ?_
      try simp only [Act.put, List.setIfInBounds_toArray, List.set_cons_zero, List.set_cons_succ]
      refine hd_take 4 (o := ⟨some 125, _, _, _, _, _⟩) (.slice (some ⟨gw, 0, none⟩) L vc) (by kernel_rfl) (by kernel_rfl) (by kernel_rfl) rfl (by rfl) (fun W hSw => by go_simp) (fun _ _ _ h => h) HS6.out ?_
      try simp only [Act.put, List.setIfInBounds_toArray, List.set_cons_zero, List.set_cons_succ]
      refine hd_take 5 (o := ⟨some 126, _, _, _, _, _⟩) (.int .i64 (A : Int)) (by kernel_rfl) (by kernel_rfl) (by kernel_rfl) rfl (by rfl) (fun W hSw => by go_simp) (fun _ _ _ h => h) HS6.out ?_
      try simp only [Act.put, List.setIfInBounds_toArray, List.set_cons_zero, List.set_cons_succ]
      refine hd_take 6 (o := ⟨some 127, _, _, _, _, _⟩) (.int .i64 (j : Int)) (by kernel_rfl) (by kernel_rfl) (by kernel_rfl) rfl (by rfl) (fun W hSw => by go_simp) (fun _ _ _ h => h) HS6.out ?_
      try simp only [Act.put, List.setIfInBounds_toArray, List.set_cons_zero, List.set_cons_succ]
      refine hd_take 7 (o := ⟨some 128, _, _, _, _, _⟩) (.int .i64 ((A : Int) + (j : Int))) (by kernel_rfl) (by kernel_rfl) (by kernel_rfl) rfl (by rfl) (fun W hSw => by go_simp) (fun _ _ _ h => h) HS6.out ?_
      try simp only [Act.put, List.setIfInBounds_toArray, List.set_cons_zero, List.set_cons_succ]
      refine hd_take 8 (o := ⟨some 129, _, _, _, _, _⟩) (.pointer (some ⟨gw, A + j, none⟩)) (by kernel_rfl) (by kernel_rfl) (by kernel_rfl) rfl (by rfl) (fun W hSw => by have q10 : (0 : Int) ≤ (A : Int) + (j : Int) := (by omega); have q11 : ((A : Int) + (j : Int)).toNat = A + j := (by omega); go_simp; try (rw [if_pos q10, q11])) (fun _ _ _ h => h) HS6.out ?_
      try simp only [Act.put, List.setIfInBounds_toArray, List.set_cons_zero, List.set_cons_succ]
      refine hd_take 9 (o := ⟨some 130, _, _, _, _, _⟩) (.int .i64 (v : Int)) (by kernel_rfl) (by kernel_rfl) (by kernel_rfl) rfl (by rfl) (fun W hSw => by obtain ⟨s0, s1⟩ := hSw; go_simp) (fun _ _ _ h => h) HS6.out ?_
      try simp only [Act.put, List.setIfInBounds_toArray, List.set_cons_zero, List.set_cons_succ]
      refine hd_take 10 (o := ⟨some 131, _, _, _, _, _⟩) (.bool false) (by kernel_rfl) (by kernel_rfl) (by kernel_rfl) rfl (by rfl) (fun W hSw => by go_simp) (fun _ _ _ h => h) HS6.out ?_
      try simp only [Act.put, List.setIfInBounds_toArray, List.set_cons_zero, List.set_cons_succ]
      refine hd_take 11 (o := ⟨some 132, _, _, _, _, _⟩) (.bool false) (by kernel_rfl) (by kernel_rfl) (by kernel_rfl) rfl (by rfl) (fun W hSw => by go_simp) (fun _ _ _ h => h) HS6.out ?_
      try simp only [Act.put, List.setIfInBounds_toArray, List.set_cons_zero, List.set_cons_succ]
      refine hd_take 12 (o := ⟨some 133, _, _, _, _, _⟩) (.pointer (some ⟨T, 0, none⟩)) (by kernel_rfl) (by kernel_rfl) (by kernel_rfl) rfl (by rfl) (fun W hSw => by go_simp) (fun _ _ _ h => h) HS6.out ?_
      try simp only [Act.put, List.setIfInBounds_toArray, List.set_cons_zero, List.set_cons_succ]
      refine hd_take 13 (o := ⟨some 134, _, _, _, _, _⟩) (.int .i64 (e : Int)) (by kernel_rfl) (by kernel_rfl) (by kernel_rfl) rfl (by rfl) (fun W hSw => by go_simp) (fun _ _ _ h => h) HS6.out ?_
      try simp only [Act.put, List.setIfInBounds_toArray, List.set_cons_zero, List.set_cons_succ]
      refine hd_take 14 (o := ⟨some 135, _, _, _, _, _⟩) (.slice (some ⟨gy, 0, none⟩) Lc yc) (by kernel_rfl) (by kernel_rfl) (by kernel_rfl) rfl (by rfl) (fun W hSw => by go_simp) (fun _ _ _ h => h) HS6.out ?_
      try simp only [Act.put, List.setIfInBounds_toArray, List.set_cons_zero, List.set_cons_succ]
      refine hd_take 15 (o := ⟨some 136, _, _, _, _, _⟩) (.int .i64 (j : Int)) (by kernel_rfl) (by kernel_rfl) (by kernel_rfl) rfl (by rfl) (fun W hSw => by go_simp) (fun _ _ _ h => h) HS6.out ?_
      try simp only [Act.put, List.setIfInBounds_toArray, List.set_cons_zero, List.set_cons_succ]
      refine hd_take 16 (o := ⟨some 137, _, _, _, _, _⟩) (.pointer (some ⟨gy, j, none⟩)) (by kernel_rfl) (by kernel_rfl) (by kernel_rfl) rfl (by rfl) (fun W hSw => by go_simp) (fun _ _ _ h => h) HS6.out ?_
      try simp only [Act.put, List.setIfInBounds_toArray, List.set_cons_zero, List.set_cons_succ]
      refine hd_take 17 (o := ⟨some 138, _, _, _, _, _⟩) (.int .i64 (v : Int)) (by kernel_rfl) (by kernel_rfl) (by kernel_rfl) rfl (by rfl) (fun W hSw => by obtain ⟨s0, s1⟩ := hSw; go_simp) (fun _ _ _ h => h) HS6.out ?_
      try simp only [Act.put, List.setIfInBounds_toArray, List.set_cons_zero, List.set_cons_succ]
      refine hd_call 18 (o := ⟨some 139, _, _, _, _, _⟩) (by kernel_rfl) rfl (by rfl) (fun K hK => ?_)
      go_simp
      go_wp2_with (go_at_call 15; refine (HI1.out w6 K6.out).mono ?_; rintro e1 w7 ⟨rfl, hb7⟩)
      have K7 := hide (K6.out.trans (hb7.mono K6.out.size))
      have HS7 := hide (HS.out w7 K7.out)
      clear hb7
      refine hK _ _ HS7.out ?_
      clear hK K
      try simp only [Act.put, List.setIfInBounds_toArray, List.set_cons_zero, List.set_cons_succ]
      refine hd_take 19 (o := ⟨some 140, _, _, _, _, _⟩) (.bool false) (by kernel_rfl) (by kernel_rfl) (by kernel_rfl) rfl (by rfl) (fun W hSw => by go_simp) (fun _ _ _ h => h) HS7.out ?_
      try simp only [Act.put, List.setIfInBounds_toArray, List.set_cons_zero, List.set_cons_succ]
      refine hd_take 20 (o := ⟨some 141, _, _, _, _, _⟩) (.bool false) (by kernel_rfl) (by kernel_rfl) (by kernel_rfl) rfl (by rfl) (fun W hSw => by go_simp) (fun _ _ _ h => h) HS7.out ?_
      try simp only [Act.put, List.setIfInBounds_toArray, List.set_cons_zero, List.set_cons_succ]
      refine hd_take 21 (o := ⟨some 142, _, _, _, _, _⟩) (.bool false) (by kernel_rfl) (by kernel_rfl) (by kernel_rfl) rfl (by rfl) (fun W hSw => by go_simp) (fun _ _ _ h => h) HS7.out ?_
      try simp only [Act.put, List.setIfInBounds_toArray, List.set_cons_zero, List.set_cons_succ]
      refine hd_take 22 (o := ⟨some 143, _, _, _, _, _⟩) (.pointer (some ⟨T, 0, none⟩)) (by kernel_rfl) (by kernel_rfl) (by kernel_rfl) rfl (by rfl) (fun W hSw => by go_simp) (fun _ _ _ h => h) HS7.out ?_
      try simp only [Act.put, List.setIfInBounds_toArray, List.set_cons_zero, List.set_cons_succ]
      refine hd_take 23 (o := ⟨some 144, _, _, _, _, _⟩) (.slice (some ⟨gy, 0, none⟩) Lc yc) (by kernel_rfl) (by kernel_rfl) (by kernel_rfl) rfl (by rfl) (fun W hSw => by go_simp) (fun _ _ _ h => h) HS7.out ?_
      try simp only [Act.put, List.setIfInBounds_toArray, List.set_cons_zero, List.set_cons_succ]
      refine hd_take 24 (o := ⟨some 145, _, _, _, _, _⟩) (.int .i64 (j : Int)) (by kernel_rfl) (by kernel_rfl) (by kernel_rfl) rfl (by rfl) (fun W hSw => by go_simp) (fun _ _ _ h => h) HS7.out ?_
      try simp only [Act.put, List.setIfInBounds_toArray, List.set_cons_zero, List.set_cons_succ]
      refine hd_take 25 (o := ⟨some 146, _, _, _, _, _⟩) (.pointer (some ⟨gy, j, none⟩)) (by kernel_rfl) (by kernel_rfl) (by kernel_rfl) rfl (by rfl) (fun W hSw => by go_simp) (fun _ _ _ h => h) HS7.out ?_
      try simp only [Act.put, List.setIfInBounds_toArray, List.set_cons_zero, List.set_cons_succ]
      refine hd_take 26 (o := ⟨some 147, _, _, _, _, _⟩) (.int .i64 (v : Int)) (by kernel_rfl) (by kernel_rfl) (by kernel_rfl) rfl (by rfl) (fun W hSw => by obtain ⟨s0, s1⟩ := hSw; go_simp) (fun _ _ _ h => h) HS7.out ?_
      try simp only [Act.put, List.setIfInBounds_toArray, List.set_cons_zero, List.set_cons_succ]
      refine hd_take 27 (o := ⟨some 148, _, _, _, _, _⟩) (.int .i64 (e : Int)) (by kernel_rfl) (by kernel_rfl) (by kernel_rfl) rfl (by rfl) (fun W hSw => by go_simp) (fun _ _ _ h => h) HS7.out ?_
      try simp only [Act.put, List.setIfInBounds_toArray, List.set_cons_zero, List.set_cons_succ]
      refine hd_call 28 (o := ⟨some 149, _, _, _, _, _⟩) (by kernel_rfl) rfl (by rfl) (fun K hK => ?_)
      go_simp
      go_wp2_with (go_at_call 15; refine (HI2.out w7 K7.out).mono ?_; rintro e1 w8 ⟨rfl, hb8⟩)
      have K8 := hide (K7.out.trans (hb8.mono K7.out.size))
      have HS8 := hide (HS.out w8 K8.out)
      clear hb8
      refine hK _ _ HS8.out ?_
      clear hK K
      try simp only [Act.put, List.setIfInBounds_toArray, List.set_cons_zero, List.set_cons_succ]
      refine hd_take 29 (o := ⟨some 150, _, _, _, _, _⟩) (.bool false) (by kernel_rfl) (by kernel_rfl) (by kernel_rfl) rfl (by rfl) (fun W hSw => by go_simp) (fun _ _ _ h => h) HS8.out ?_
      try simp only [Act.put, List.setIfInBounds_toArray, List.set_cons_zero, List.set_cons_succ]
      refine wpAnyH_done (by kernel_rfl) ?_ _
      clear HS6 HS7 HS8 HS HI1 HI2 K6 K7
      go_wp2
      go_roundw
      case rel =>
        first
          | exact ⟨j + 1, by omega, by go_num, K8⟩
          | ((repeat apply Exists.intro); refine ⟨?_, rfl⟩; exact ⟨j + 1, by omega, by go_num, K8⟩)
      case measure => simp [intOf]; omega
    · obtain rfl : j = Lc := by omega
      have hd2 : decide ((j : Int) < (j : Int)) = false := by simp
      have KF := hide (KB3.out.trans (KJ.out.mono KB3.out.size))
      have q9 : -9223372036854775808 ≤ (A : Int) + (j : Int) ∧ (A : Int) + (j : Int) ≤ 9223372036854775807 := by omega
      have q6 : IntKind.i64.wrap ((A : Int) + (j : Int)) = (A : Int) + (j : Int) := by
        simp only [IntKind.wrap, IntKind.signed, IntKind.bits]; simp; omega
      clear KJ HY
      go_wp2
      go_roundw
      case rel =>
        first
          | exact ⟨i + 1, by omega, by rw [HQ3.out]; simp, by rw [HLs2.out], by go_num, KF⟩
          | ((repeat apply Exists.intro); refine ⟨?_, rfl⟩; exact ⟨i + 1, by omega, by rw [HQ3.out]; simp, by rw [HLs2.out], by go_num, KF⟩)
      case measure => simp [intOf]; omega
  · obtain rfl : i = K := by omega
    have hd : decide ((i : Int) < (i : Int)) = false := by simp
    rw [HEnd.out]
    have hEt := HE.out.below (HB3.out.trans (KB.out.mono HB3.out.size))
    have hI1 := inside_any hEt HIv.out.tr (e : Int) (e : Int)
    rw [decide_eq_true (show (e : Int) ∈ ln rs (e : Int) by rw [ln_cons HIv.out.tr HR.out]; exact List.mem_cons_self)] at hI1
    have HI1 := hide hI1
    have HBf := hide (HB3.out.trans (KB.out.mono HB3.out.size))
    clear hEt hI1 KB
    go_wp2_with fail
    refine HI1.out.mono ?_
    rintro x1 wf ⟨rfl, hbf⟩
    have HBg := hide (HBf.out.trans (hbf.mono HBf.out.size))
    clear hbf
    go_wp2
    go_ret
    exact ⟨rfl, HBg.out⟩
end
end Go.Proofs.Ytoddadohmnaolab

namespace Go.Proofs.Ytoddadohmnaolab
open Go.RowKit Go.Shelf
attribute [local go_sem] Oper.semAt_some

/-- what Find answers -/
def Fd (rs : List (Option Er)) (s z : Int) : Prop := (z = -1 ∧ ∀ (k : Nat) (r : Er), rs[k]? = some (some r) → r.se ≠ s) ∨ ∃ (k : Nat) (r : Er), z = (k : Int) ∧ rs[k]? = some (some r) ∧ r.se = s
theorem boxed_set {W : World} {b : Nat} {t : TypeId} {v : Value} (h : Boxed W b t v) (u : Value) : Boxed (W.setCell ⟨b, 0, none⟩ u) b t u := by
  have h9 := heap_setCell_same _ b 0 _ _ u h
  simpa [Boxed] using h9
def Nf (rs : List (Option Er)) (s : Int) (l : List Nat) : Prop := ∀ k ∈ l, ∀ r : Er, rs[k]? = some (some r) → r.se ≠ s
theorem Nf.snoc {rs : List (Option Er)} {s : Int} {l : List Nat} (h : Nf rs s l) {k : Nat} {r : Er} (hr : rs[k]? = some (some r)) (hn : r.se ≠ s) : Nf rs s (l ++ [k]) := by
  intro j hj r9 hr9
  rcases List.mem_append.1 hj with hj | hj
  · exact h j hj r9 hr9
  · simp at hj
    subst hj
    rw [hr] at hr9
    cases hr9
    exact hn
set_option maxRecDepth 100000 in
set_option maxHeartbeats 8000000 in
theorem find_in (n : Nat) (hn : 3 ≤ n) (w : World) (F : Nat → Prop) (T : Nat) (rs : List (Option Er)) (last : Int) (S : Nat) (G : Nat → Prop) (m : List (Option Nat)) (h : EtAt w F T S G m rs last) (s : Int) :
    CallsIn Fence.wide n Try.prog 20 #[.pointer (some ⟨T, 0, none⟩), .int .i64 s] w fun x W' => ∃ z, x = .returned (.int .i64 z) ∧ Fd rs s z ∧ Below w.heap.size w W' := by
  have h1 : 1 ≤ n := by omega
  have cT := fun o o' => (h.keep (w' := ((w.alloc o).alloc o')) (by simp; omega) (fun b hb => by
    have := h.lt b hb
    rw [Below.heap_alloc _ _ _ (by simp; omega), Below.heap_alloc _ _ _ this])).cell.1
  refine callsIn_of_wp_marks Try.func20 rfl trivial ?_ rfl
  simp only [Try.ntmps20, List.size_toArray, List.length_cons, List.length_nil, Nat.reduceAdd, Nat.reduceSub, Array.replicate_succ, Array.replicate_zero, List.push_toArray, List.append_toArray, List.nil_append, List.cons_append]
  gi_wp2_with fail
  refine ⟨trivial, (allL_in S (n - 1) _).mono ?_⟩
  rintro e' w' ⟨rfl, rfl⟩
  gi_wp2_with fail
  -- the range
  have c0 := (Boxed.new w 3 (.int .i64 s)).alloc (.cells #[.int .i64 0] 3)
  have c1 := Boxed.new (w.alloc (.cells #[.int .i64 s] 3)) 3 (.int .i64 0)
  have hbox := heap_alloc_new ((w.alloc (.cells #[.int .i64 s] 3)).alloc (.cells #[.int .i64 0] 3)) (.cells #[.pointer (some ⟨S, 0, none⟩)] 73)
  have hB0 : Below w.heap.size w (((w.alloc (.cells #[.int .i64 s] 3)).alloc (.cells #[.int .i64 0] 3)).alloc (.cells #[.pointer (some ⟨S, 0, none⟩)] 73)) := (((Below.refl _ w).alloc (Nat.le_refl _) _).alloc (by simp) _).alloc (by simp; omega) _
  have hsz : (((w.alloc (.cells #[.int .i64 s] 3)).alloc (.cells #[.int .i64 0] 3)).alloc (.cells #[.pointer (some ⟨S, 0, none⟩)] 73)).heap.size = w.heap.size + 3 := by simp
  have c0' := c0.alloc (.cells #[.pointer (some ⟨S, 0, none⟩)] 73)
  have c1' := c1.alloc (.cells #[.pointer (some ⟨S, 0, none⟩)] 73)
  simp only [World.size_alloc] at c0' c1' hbox
  clear c0 c1 cT
  generalize (((w.alloc (.cells #[.int .i64 s] 3)).alloc (.cells #[.int .i64 0] 3)).alloc (.cells #[.pointer (some ⟨S, 0, none⟩)] 73)) = W0 at *
  have hT := h.tab
  have hG : ∀ b, (G b ∨ b = (w.heap.size + 1 + 1)) → b < W0.heap.size := by
    rintro b (hb | rfl)
    · have := hT.lt b hb; omega
    · omega
  have hFl : ∀ b, G b → b < w.heap.size := hT.lt
  refine wpIn_rangeFunc_ownH rfl h1 (gf := 64) (lb := #[.pointer (some ⟨(w.heap.size + 1 + 1), 0, none⟩)]) rfl trivial (enters_of Try.func64 (by kernel_rfl) rfl)
    (allL_stops (n - 1) (by omega) (w.heap.size + 1 + 1) S G m _ hbox (hT.below hB0)) keepF_t (keepF_b hG) (Below.refl _ _) (fun _ => rfl)
    (fun pre W => (Nf rs s (pre.map (fun x => x.1.1)) ∧ Boxed W w.heap.size 3 (.int .i64 s) ∧ Boxed W (w.heap.size + 1) 3 (.int .i64 0) ∧ Boxed W (w.heap.size + 1 + 1) 73 (.pointer (some ⟨S, 0, none⟩))) ∧ Below w.heap.size w W)
    (fun c pre W => (c = .ret ∧ ∃ (k : Nat) (r : Er), rs[k]? = some (some r) ∧ r.se = s ∧ Boxed W (w.heap.size + 1) 3 (.int .i64 (k : Int))) ∧ Below w.heap.size w W)
    (OwnFrom.and (Own.from (fun s' A A' row hs hg hr => ⟨hs.1,
        hs.2.1.kept hg (fun e9 => by obtain ⟨o, h1, h2⟩ := hr _ e9.symm; rw [show A.heap[w.heap.size]? = _ from hs.2.1] at h1; cases h1; cases h2),
        hs.2.2.1.kept hg (fun e9 => by obtain ⟨o, h1, h2⟩ := hr _ e9.symm; rw [show A.heap[(w.heap.size + 1)]? = _ from hs.2.2.1] at h1; cases h1; cases h2),
        hs.2.2.2.kept hg (fun e9 => by obtain ⟨o, h1, h2⟩ := hr _ e9.symm; rw [show A.heap[(w.heap.size + 1 + 1)]? = _ from hs.2.2.2] at h1; cases h1; cases h2)⟩) _) (ownFrom_below (Nat.le_refl _) (by omega)))
    (fun c => OwnFrom.and (Own.from (fun s' A A' row hs hg hr => ⟨hs.1, by
        obtain ⟨_, k, r, hk, hr9, hb9⟩ := hs
        exact ⟨k, r, hk, hr9, hb9.kept hg (fun e9 => by obtain ⟨o, h1, h2⟩ := hr _ e9.symm; rw [show A.heap[(w.heap.size + 1)]? = _ from hb9] at h1; cases h1; cases h2)⟩⟩) _) (ownFrom_below (Nat.le_refl _) (by omega)))
    ⟨⟨fun k hk => by simp at hk, c0', c1', hbox⟩, hB0⟩
    (fun x a' _ => a' = { tmps := #[.pointer (some ⟨T, 0, none⟩), .int .i64 s, undef, .pointer (some ⟨w.heap.size, 0, none⟩), .pointer (some ⟨(w.heap.size + 1), 0, none⟩), .int .i64 (x.1.1 : Nat), .pointer (some ⟨x.1.2, 0, none⟩), .pointer (some ⟨T, 0, none⟩), .pointer (some ⟨T, 0, none⟩), .pointer (some ⟨T, 0, none⟩), .pointer (some ⟨S, 0, none⟩), .func (.func 64) #[] #[.pointer (some ⟨(w.heap.size + 1 + 1), 0, none⟩)], .int .i64 (x.1.1 : Nat), .pointer (some ⟨x.1.2, 0, none⟩), undef, undef, undef, undef, undef, undef, undef, undef], defers := [] })
    (fun _ _ _ _ _ _ hs _ _ => hs)
    ?assign ?body ?done ?stop
  case assign =>
    rintro l pre x W K hi' hK
    obtain ⟨⟨xi, xb⟩, hx⟩ := x
    gi_wp2
    exact hK _ _ (KeepsFrom.refl _ _) ⟨Nat.le_refl _, fun _ _ => rfl⟩ hi' rfl
  case body =>
    rintro l pre x a' W hl ⟨r, hr⟩ ⟨⟨hne, bS, bR, bA⟩, hB⟩ rfl hlt
    obtain ⟨⟨xi, xb⟩, hx⟩ := x
    obtain ⟨rec, hr1, hr2⟩ := h.held xi xb hx
    have hRb := hr2.keep (hB.block xb hr2.lt)
    have cP := hRb.get (j := 0) rfl
    have cE := bS.cell
    clear hr2 hRb
    gi_wp2_with fail
    have hb2 : Below W.heap.size W W.drew := ⟨rfl, rfl, rfl, Nat.le_refl _, fun _ _ => rfl⟩
    have bS2 := boxed_below bS hb2
    have bR2 := boxed_below bR hb2
    have bA2 := boxed_below bA hb2
    have hB2 := hB.trans (hb2.mono hB.size)
    have hK2 : KeepF (fun b => G b ∨ b = (w.heap.size + 1 + 1)) W W.drew := ⟨hb2.size, fun b hb' => hb2.block b (by rcases hb' with hb' | rfl; have := hFl b hb'; have := hB.size; omega; exact bA.lt)⟩
    have hO2 := (keepsOthers_below hb2).from W0.heap.size
    have HF := hide (And.intro bS2 (And.intro bR2 (And.intro bA2 (And.intro hB2 (And.intro hK2 hO2)))))
    clear bR bA hB hb2 bS2 bR2 bA2 hB2 hK2 hO2
    by_cases hpe : rec.se = s
    · subst hpe
      gi_region
      all_goals
        obtain ⟨bS2, bR2, bA2, hB2, hK2, hO2⟩ := HF.out
        generalize W.drew = W2 at *
        have cR := bR2.cell
        have fR := bR2.frozen
        have bN := boxed_set bR2 (.int .i64 (xi : Int))
        gi_wp2
        exact ⟨hO2.trans ((KeepsOthers.setCell _ _ _).from _), ⟨rfl, xi, rec, hr1, rfl, bN⟩, hB2.setCell (p := ⟨w.heap.size + 1, 0, none⟩) (by simp) _⟩
    · have hd : decide (rec.se = s) = false := by simp [hpe]
      gi_region
      all_goals
        obtain ⟨bS2, bR2, bA2, hB2, hK2, hO2⟩ := HF.out
        generalize W.drew = W2 at *
        gi_wp2
        refine ⟨hO2, hK2, ⟨?_, bS2, bR2, bA2⟩, hB2⟩
        rw [List.map_append]
        exact hne.snoc hr1 hpe
  case done =>
    rintro D ys W hDl hys ⟨⟨hne, bS, bR, bA⟩, hB⟩ hK
    have bN := boxed_set bR (.int .i64 (-1))
    have cR := bR.cell
    have fR := bR.frozen
    gi_wp2
    have hK' := (KeepsOthers.setCell W ⟨w.heap.size + 1, 0, none⟩ (.int .i64 (-1))).same D _ hK rfl
    refine ⟨by simp, .inl ⟨_, _, rfl, run_takeDeferred hK', ?_⟩⟩
    have bF := bN.kept (grownBy_putObj' _ D (.deferred none)) (fun e9 => by cases e9; omega)
    have hc5 := bF.cell
    refine ⟨.int .i64 (-1), ?_, -1, rfl, .inl ⟨rfl, fun k r hk => ?_⟩, (hB.setCell (p := ⟨w.heap.size + 1, 0, none⟩) (by simp) _).trans (belowK_b (w := w) (Nat.le_refl _) _ D _ _ (by omega) hK' rfl rfl)⟩
    · simp [results, Try.f20, go_sem, hc5]
    · have hm : k ∈ ys.map (fun x => x.1.1) := by
        have e1 : ys.map (fun x => x.1.1) = (prs rs 0).map Prod.fst := by rw [← h.fsts, ← hys, List.map_map]; rfl
        rw [e1]
        exact List.mem_map.2 ⟨(k, r), prs_mem.2 hk, rfl⟩
      exact hne k hm r hk
  case stop =>
    rintro D c pre W hDl hpre ⟨⟨rfl, k, r, hk, hr9, hb9⟩, hB⟩ hK
    gi_wp2
    refine ⟨by simp, .inl ⟨_, _, rfl, run_takeDeferred hK, ?_⟩⟩
    have bF := hb9.kept (grownBy_putObj' _ D (.deferred none)) (fun e9 => by cases e9; omega)
    have hc5 := bF.cell
    refine ⟨.int .i64 (k : Int), ?_, (k : Int), rfl, .inr ⟨k, r, rfl, hk, hr9⟩, hB.trans (belowK_b (w := w) (Nat.le_refl _) W D _ _ (by omega) hK rfl rfl)⟩
    simp [results, Try.f20, go_sem, hc5]
theorem find_any {w : World} {F : Nat → Prop} {T : Nat} {rs : List (Option Er)} {last : Int} (h : Et w F T rs last) (s : Int) : Calls Try.prog 20 #[.pointer (some ⟨T, 0, none⟩), .int .i64 s] w fun x W' => ∃ z, x = .returned (.int .i64 z) ∧ Fd rs s z ∧ Below w.heap.size w W' := by
  obtain ⟨S, G, m, h⟩ := h
  exact (callsIn_wide (n := 3)).1 (find_in 3 (Nat.le_refl _) w F T rs last S G m h s)
theorem find_at {rs : List (Option Er)} {last : Int} (iv : Tr rs last) {k : Nat} {r : Er} (hr : rs[k]? = some (some r)) {z : Int} (h : Fd rs r.se z) : z = (k : Int) := by
  rcases h with ⟨_, h⟩ | ⟨j, rj, h1, h2, h3⟩
  · exact absurd rfl (h k r hr)
  · have e1 : ser rs j = ser rs k := by rw [ser_core, ser_core, core_at h2, core_at hr]; exact h3
    rw [h1, iv.dis j k ⟨rj, h2⟩ ⟨r, hr⟩ e1]
theorem find_no {rs : List (Option Er)} {last : Int} (iv : Tr rs last) {s z : Int} (hs : last < s) (h : Fd rs s z) : z = -1 := by
  rcases h with ⟨h, _⟩ | ⟨j, rj, h1, h2, h3⟩
  · exact h
  · have e1 := iv.old j ⟨rj, h2⟩
    rw [ser_core, core_at h2] at e1
    simp only at e1
    omega
end Go.Proofs.Ytoddadohmnaolab

namespace Go.Proofs.Ytoddadohmnaolab
open Go.RowKit Go.Shelf
attribute [local go_sem] Oper.semAt_some

/-- all numbers in use -/
def lvL (rs : List (Option Er)) : List Nat := (prs rs 0).map Prod.fst
set_option maxRecDepth 100000 in
set_option maxHeartbeats 8000000 in
theorem live_in (n : Nat) (hn : 3 ≤ n) (w : World) (F : Nat → Prop) (T : Nat) (rs : List (Option Er)) (last : Int) (S : Nat) (G : Nat → Prop) (m : List (Option Nat)) (h : EtAt w F T S G m rs last) :
    CallsIn Fence.wide n Try.prog 16 #[.pointer (some ⟨T, 0, none⟩)] w fun x W' => ∃ v, x = .returned v ∧ W'.ownsRow w.heap.size 3 1 v (lvL rs).length (numN (lvL rs)) ∧ Below w.heap.size w W' := by
  have h1 : 1 ≤ n := by omega
  obtain ⟨i3, hi, hz, hs, hb⟩ := info3'
  have cT := fun o => (h.keep (w' := (w.alloc o)) (by simp) (fun b hb => by
    have := h.lt b hb
    rw [Below.heap_alloc _ _ _ this])).cell.1
  refine callsIn_of_wp_marks Try.func16 rfl trivial ?_ rfl
  simp only [Try.ntmps16, List.size_toArray, List.length_cons, List.length_nil, Nat.reduceAdd, Nat.reduceSub, Array.replicate_succ, Array.replicate_zero, List.push_toArray, List.append_toArray, List.nil_append, List.cons_append]
  gi_wp2_with fail
  refine ⟨trivial, (allL_in S (n - 1) _).mono ?_⟩
  rintro e' w' ⟨rfl, rfl⟩
  gi_wp2_with fail
  -- the range
  have c2 := Boxed.new w 49 (.slice none 0 0)
  have hbox := heap_alloc_new (w.alloc (.cells #[.slice none 0 0] 49)) (.cells #[.pointer (some ⟨S, 0, none⟩)] 73)
  have hB0 : Below w.heap.size w ((w.alloc (.cells #[.slice none 0 0] 49)).alloc (.cells #[.pointer (some ⟨S, 0, none⟩)] 73)) := ((Below.refl _ w).alloc (Nat.le_refl _) _).alloc (by simp) _
  have hsz : ((w.alloc (.cells #[.slice none 0 0] 49)).alloc (.cells #[.pointer (some ⟨S, 0, none⟩)] 73)).heap.size = w.heap.size + 2 := by simp
  have c2' := c2.alloc (.cells #[.pointer (some ⟨S, 0, none⟩)] 73)
  simp only [World.size_alloc] at c2' hbox
  clear c2 cT
  generalize ((w.alloc (.cells #[.slice none 0 0] 49)).alloc (.cells #[.pointer (some ⟨S, 0, none⟩)] 73)) = W0 at *
  have hT := h.tab
  have hG : ∀ b, (G b ∨ b = (w.heap.size + 1)) → b < W0.heap.size := by
    rintro b (hb | rfl)
    · have := hT.lt b hb; omega
    · omega
  have hFl : ∀ b, G b → b < w.heap.size := hT.lt
  have hlen : (prs m 0).length ≤ 16 := by rw [prs_len, ← h.len]; exact count_le
  refine wpIn_rangeFunc_ownH rfl h1 (gf := 64) (lb := #[.pointer (some ⟨(w.heap.size + 1), 0, none⟩)]) rfl trivial (enters_of Try.func64 (by kernel_rfl) rfl)
    (allL_stops (n - 1) (by omega) (w.heap.size + 1) S G m _ hbox (hT.below hB0)) keepF_t (keepF_b hG) (Below.refl _ _) (fun _ => rfl)
    (fun pre W => ((∃ v, Boxed W w.heap.size 49 v ∧ W.ownsRow (w.heap.size + 2) 3 1 v (pre.map (fun x => x.1.1)).length (numN (pre.map (fun x => x.1.1))) ∧ True) ∧ Boxed W (w.heap.size + 1) 73 (.pointer (some ⟨S, 0, none⟩)) ∧ pre.length ≤ (prs m 0).length) ∧ Below w.heap.size w W)
    (fun _ _ _ => False)
    (OwnFrom.and (Own.from (fun s A A' row hs hg hr => ⟨holdsRow_own (w.heap.size + 2) w.heap.size 49 3 1 (fun s : List { x : Nat × Nat // m[x.1]? = some (some x.2) } => (s.map (fun x => x.1.1)).length) (fun s => numN (s.map (fun x => x.1.1))) (fun _ _ => True) s A A' row hs.1 hg hr,
        hs.2.1.kept hg (fun e9 => by obtain ⟨o, h1, h2⟩ := hr _ e9.symm; rw [show A.heap[(w.heap.size + 1)]? = _ from hs.2.1] at h1; cases h1; cases h2), hs.2.2⟩) _) (ownFrom_below (Nat.le_refl _) (by omega)))
    (fun _ _ _ _ _ hs _ _ => hs)
    ⟨⟨⟨_, c2', ⟨rfl, .inl ⟨rfl, rfl⟩⟩, trivial⟩, hbox, by simp⟩, hB0⟩
    (fun x a' _ => a' = { tmps := #[.pointer (some ⟨T, 0, none⟩), undef, .slice none 0 0, .pointer (some ⟨w.heap.size, 0, none⟩), .int .i64 (x.1.1 : Nat), .pointer (some ⟨T, 0, none⟩), .pointer (some ⟨T, 0, none⟩), .pointer (some ⟨T, 0, none⟩), .pointer (some ⟨S, 0, none⟩), .func (.func 64) #[] #[.pointer (some ⟨(w.heap.size + 1), 0, none⟩)], .int .i64 (x.1.1 : Nat), .pointer (some ⟨x.1.2, 0, none⟩), undef, undef, undef, undef, undef], defers := [] })
    (fun _ _ _ _ _ _ hs _ _ => hs)
    ?assign ?body ?done ?stop
  case assign =>
    rintro l pre x W K hi' hK
    obtain ⟨⟨xi, xb⟩, hx⟩ := x
    gi_wp2
    exact hK _ _ (KeepsFrom.refl _ _) ⟨Nat.le_refl _, fun _ _ => rfl⟩ hi' rfl
  case body =>
    rintro l pre x a' W hl ⟨r, hr⟩ ⟨⟨⟨v, bS, hown, _⟩, bA, hpl⟩, hB⟩ rfl hlt
    obtain ⟨⟨xi, xb⟩, hx⟩ := x
    have hpre : (pre.map (fun x => x.1.1)).length ≤ 16 := by simp; omega
    obtain ⟨L, hL⟩ : ∃ L, L = (pre.map (fun x => x.1.1)).length := ⟨_, rfl⟩
    rw [← hL] at hown hpre
    have HL := hide hL
    clear hL
    obtain ⟨ao, co, rfl⟩ := own_shape hown
    have cS := bS.cell
    have hA4 := bA.lt
    gi_wp2_with (gi_at_builtin; refine wpListIn_append_own_at _ rfl _ _ 49 rfl (w.heap.size + 2) 3 i3 (.int .i64 0) 1 8 Try.underlying49 hi hz hs hb rfl (by decide) _ _ _ rfl (hown.alloc _) ⟨W.heap.size, 0, none⟩ 1 1 [.int .i64 (xi : Int)] rfl rfl (cell_one_new _ _ _) (by simp [Value.oneCell']) (by unfold maxLen; omega) (by omega) (by simp; omega) ?_; intro v' w3 hown3 hg3 _ _
                 obtain ⟨gg, cap, rfl⟩ := ownsRow_succ hown3
                 obtain ⟨b1, b2, _, b4, b5⟩ := Boxed.appended bS (by decide) (own_low hown (show w.heap.size ≤ w.heap.size + 2 by omega)) hB.size (by omega) (own_low hown3 (show w.heap.size ≤ w.heap.size + 2 by omega)) hg3
                 have b3 := hown3.kept (grownBy_setCell' w3 w.heap.size (.slice (some ⟨gg, 0, none⟩) (L + 1) cap)) (.inr (b1.not_row (by decide) hown3).symm)
                 have b7 := (bA.alloc (.cells #[.int .i64 (xi : Int)] 3)).kept hg3 (bA.not_row (by decide) hown)
                 have cB := b1.cell
                 have fB := b1.frozen)
    refine ⟨b4.from _, ⟨b5.size, fun b hb' => ?_⟩, ⟨⟨_, b2, ?_⟩, b7.other (by omega) _, by simp; omega⟩, hB.trans b5⟩
    · rcases hb' with hb' | rfl
      · exact b5.block b (hFl b hb')
      · exact (b7.other (by omega) _).trans bA.symm
    · have h9 : (pre ++ [(⟨(xi, xb), hx⟩ : { x : Nat × Nat // m[x.1]? = some (some x.2) })]).length = L + 1 := by rw [HL.out]; simp
      have e9 : numN (List.map (fun x : { x : Nat × Nat // m[x.1]? = some (some x.2) } => x.val.fst) (pre ++ [⟨(xi, xb), hx⟩])) = numN (List.map (fun x => x.val.fst) pre) ++ [.int .i64 (xi : Int)] := by simp [numN]
      rw [h9, e9]
      exact b3
  case done =>
    rintro D ys W hDl hys ⟨⟨⟨v, bS, hown, _⟩, bA, hpl⟩, hB⟩ hK
    have hk : ys.map (fun x => x.1.1) = lvL rs := by
      unfold lvL
      rw [← h.fsts, ← hys, List.map_map]
      rfl
    rw [hk] at hown
    obtain ⟨ao, co, rfl⟩ := own_shape hown
    have cS := bS.cell
    gi_wp2
    refine ⟨by simp, .inl ⟨_, _, rfl, run_takeDeferred hK, ?_⟩⟩
    refine ⟨_, results_tmp rfl _ _ _, _, rfl, ?_, hB.trans (belowK_b (w := w) (Nat.le_refl _) W D _ _ (by omega) hK rfl rfl)⟩
    have h9 := own_low hown (show w.heap.size ≤ w.heap.size + 2 by omega)
    exact ownsRow_putObj h9 _ hK rfl
  case stop =>
    rintro D c pre W _ _ h _
    exact h.elim
theorem live_any {w : World} {F : Nat → Prop} {T : Nat} {rs : List (Option Er)} {last : Int} (h : Et w F T rs last) : Calls Try.prog 16 #[.pointer (some ⟨T, 0, none⟩)] w fun x W' => ∃ v, x = .returned v ∧ W'.ownsRow w.heap.size 3 1 v (lvL rs).length (numN (lvL rs)) ∧ Below w.heap.size w W' := by
  obtain ⟨S, G, m, h⟩ := h
  exact (callsIn_wide (n := 3)).1 (live_in 3 (Nat.le_refl _) w F T rs last S G m h)
end Go.Proofs.Ytoddadohmnaolab

namespace Go.Proofs.Ytoddadohmnaolab
open Go.ChangeShapes Go.WideShapes Go.ChangeAt Go.RowKit Go.Deep Go.Shelf Go.Great

section
variable {rs : List (Option Er)} {last : Int}
/-- all that live are in the root's walk -/
theorem all_in (h : Tr rs last) : ∀ (n k : Nat), Lv rs k → (oldL rs k).length < n → k ∈ wk rs 17 0
  | 0, _, _, hl => by omega
  | n + 1, k, ⟨r, hr⟩, hl => by
    by_cases h0 : k = 0
    · subst h0; exact wk_self 17 0
    · obtain ⟨p, h1, h2, h3⟩ := h.par k r hr h0
      have hp := all_in h n p h2 (by have := oldL_lt h h2 h3; omega)
      exact wk_closed 17 (dp17 h 0) hp (by rw [kid_at hr]; simp [h1])
theorem lvL_mem {k : Nat} : k ∈ lvL rs ↔ Lv rs k := by
  unfold lvL
  constructor
  · intro hk
    obtain ⟨⟨a, r⟩, h1, rfl⟩ := List.mem_map.1 hk
    exact ⟨r, prs_mem.1 h1⟩
  · rintro ⟨r, hr⟩
    exact List.mem_map.2 ⟨(k, r), prs_mem.2 hr, rfl⟩
theorem lvL_nodup : (lvL rs).Nodup := prsL_nodup _ _
theorem root_lv (h : Tr rs last) : Lv rs 0 := by obtain ⟨r, h1, _⟩ := h.root; exact ⟨r, h1⟩
theorem wk_live (h : Tr rs last) : (wk rs 17 0).length = (lvL rs).length := by
  refine ((List.perm_ext_iff_of_nodup (wk_nodup h 17 0) lvL_nodup).2 (fun k => ?_)).length_eq
  rw [lvL_mem]
  exact ⟨fun hk => wk_lv 17 (root_lv h) hk, fun hk => all_in h 16 k hk (oldL_le h hk)⟩
theorem wk_once (h : Tr rs last) {k : Nat} (hk : Lv rs k) : (wk rs 17 0).count k = 1 := by
  rw [(wk_nodup h 17 0).count, if_pos (all_in h 16 k hk (oldL_le h hk))]
theorem lvb_iff {k : Nat} : lvb rs k = true ↔ Lv rs k := by unfold lvb; exact lv_core.symm
/-- those that live, by number -/
theorem lvL_eq (h : Tr rs last) : lvL rs = (List.range 16).filter (lvb rs) := by
  have hs : (lvL rs).Pairwise (fun a b => a < b) := by
    unfold lvL prs
    exact List.Pairwise.map _ (fun a b hab => hab) (prsL_sorted _ _)
  have hp : (lvL rs).Perm ((List.range 16).filter (lvb rs)) := by
    refine (List.perm_ext_iff_of_nodup lvL_nodup (List.Pairwise.filter _ List.nodup_range)).2 (fun k => ?_)
    rw [lvL_mem, List.mem_filter, List.mem_range, lvb_iff]
    exact ⟨fun hk => ⟨lv_lt h hk, hk⟩, fun hk => hk.2⟩
  exact List.Perm.eq_of_pairwise (le := fun a b => a < b) (fun a b _ _ h1 h2 => by omega) hs (List.Pairwise.filter _ List.pairwise_lt_range) hp
/-- how many live below a number -/
def cB (rs : List (Option Er)) (e : Nat) : Nat := ((List.range e).filter (lvb rs)).length
theorem cB_succ (e : Nat) : cB rs (e + 1) = cB rs e + (if lvb rs e = true then 1 else 0) := by
  unfold cB
  rw [List.range_succ, List.filter_append, List.length_append]
  by_cases h : lvb rs e = true
  · simp [h]
  · simp [h]
theorem cB_at (h : Tr rs last) {e : Nat} (he : e < 16) (hl : lvb rs e = true) : (lvL rs)[cB rs e]? = some e := by
  rw [lvL_eq h]
  obtain ⟨d, hd⟩ : ∃ d, 16 = e + (d + 1) := ⟨15 - e, by omega⟩
  rw [hd, List.range_add, List.filter_append]
  unfold cB
  rw [List.getElem?_append_right (Nat.le_refl _), Nat.sub_self, List.range_succ_eq_map, List.map_cons, Nat.add_zero, List.filter_cons_of_pos hl]
  rfl
theorem cB_lt (h : Tr rs last) {e : Nat} (he : e < 16) (hl : lvb rs e = true) : cB rs e < (lvL rs).length := (List.getElem?_eq_some_iff.1 (cB_at h he hl)).1
theorem cB_end (h : Tr rs last) : cB rs 16 = (lvL rs).length := by rw [lvL_eq h]; rfl
theorem nL_ge2 {kd e n : Int} {q : Qt} : last ≤ nL kd e n q rs last := by
  unfold nL
  split
  · unfold crL
    split
    · rename_i h9
      obtain ⟨_, _, _, _, _, h8, _⟩ := crE_zero2 h9
      omega
    · exact Int.le_refl _
  · exact Int.le_refl _
theorem nL_max {kd e n : Int} {q : Qt} (h : last ≤ 4611686018427387903) : nL kd e n q rs last ≤ 4611686018427387903 := by
  unfold nL
  split
  · unfold crL
    split
    · rename_i h9
      obtain ⟨_, _, _, _, _, _, h8, _⟩ := crE_zero2 h9
      exact h8
    · exact h
  · exact h
end
set_option maxRecDepth 8000 in
set_option maxHeartbeats 3200000 in
theorem count_any (w : World) (base : Nat) (a : Option Addr) (c : Nat) (l : List Nat) (hrow : w.ownsRow base 3 1 (.slice a l.length c) l.length (numN l)) (z : Nat) (hl : l.length ≤ 16) : Calls Try.prog 18 #[.slice a l.length c, .int .i64 (z : Int)] w fun x w' => x = .returned (.int .i64 (l.count z : Nat)) ∧ w' = w := by
  have HR := hide hrow
  obtain ⟨L, hL⟩ : ∃ L, l.length = L := ⟨_, rfl⟩
  have HL := hide hL
  rw [hL] at hl HR ⊢
  clear hrow hL
  go_enter Try.func18, Try.ntmps18
  go_upto_region 3 with fail
  go_loopw [5, 6] (fun x y wr => ∃ j : Nat, j ≤ L ∧ x = .int .i64 ((l.take j).count z : Nat) ∧ y = .int .i64 (j : Int) ∧ wr = w) (fun _ y _ => L - (intOf y).toNat)
  case atStart => exact ⟨0, by omega, by simp, rfl, rfl⟩
  case round =>
  obtain ⟨j, hj, rfl, rfl, rfl⟩ := hrel
  by_cases hlt : j < L
  · have hd : decide ((j : Int) < (L : Int)) = true := by simp; omega
    have hj3 : (j : Int) < (L : Int) := by omega
    obtain ⟨y, hy⟩ : ∃ y, l[j]? = some y := ⟨_, List.getElem?_eq_getElem (by have := HL.out; omega)⟩
    obtain ⟨g, rfl, hc⟩ := row_at HR.out hy
    have hst : (l.take (j + 1)).count z = (l.take j).count z + (if y = z then 1 else 0) := by
      rw [List.take_add_one, hy, List.count_append]
      by_cases e : y = z
      · simp [e]
      · simp [e]
    have hcl : (l.take j).count z ≤ 16 := by
      have h1 := List.count_le_length (a := z) (l := l.take j)
      have h2 := List.length_take_le j l
      have := HL.out
      omega
    generalize (l.take j).count z = cn at *
    have HSt := hide hst
    clear hy hst
    by_cases hyz : y = z
    · have hyb : ((y : Int) == (z : Int)) = true := by simp [hyz]
      have HYz := hide hyz
      clear hyz
      go_wp2
      go_roundw
      case rel =>
        first
          | exact ⟨j + 1, by omega, by rw [HSt.out, if_pos HYz.out]; simp, by go_num, by trivial⟩
          | ((repeat apply Exists.intro); refine ⟨?_, rfl⟩; exact ⟨j + 1, by omega, by rw [HSt.out, if_pos HYz.out]; simp, by go_num, by trivial⟩)
      case measure => simp [intOf]; omega
    · have hyb : ((y : Int) == (z : Int)) = false := by simp; omega
      have hyc : ¬ (y : Int) = (z : Int) := by omega
      go_wp2
      go_roundw
      case rel =>
        first
          | exact ⟨j + 1, by omega, by rw [HSt.out, if_neg hyz]; simp, by go_num, by trivial⟩
          | ((repeat apply Exists.intro); refine ⟨?_, rfl⟩; exact ⟨j + 1, by omega, by rw [HSt.out, if_neg hyz]; simp, by go_num, by trivial⟩)
      case measure => simp [intOf]; omega
  · have hd : decide ((j : Int) < (L : Int)) = false := by simp; omega
    have hE : l.take j = l := List.take_of_length_le (by have := HL.out; omega)
    rw [hE]
    generalize hcn : l.count z = cn at *
    have HCn := hide hcn
    clear hcn
    go_wp2
    go_ret
    exact ⟨by rw [HCn.out]; rfl, rfl⟩
end Go.Proofs.Ytoddadohmnaolab
