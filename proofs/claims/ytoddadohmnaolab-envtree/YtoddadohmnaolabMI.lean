import Derived.Test.YtoddadohmnaolabMG
import Derived.Test.YtoddadohmnaolabMH
namespace Go.Proofs.Ytoddadohmnaolab
open Go.RowKit Go.Shelf

section
variable {rs : List (Option Er)} {last : Int}
/-- what a number has paid -/
def pdv (rs : List (Option Er)) (i : Nat) : Qt := match look rs (i : Int) with | some r => r.pd | none => Qt.zero
theorem pdv_at {i : Nat} {r : Er} (h : rs[i]? = some (some r)) : pdv rs i = r.pd := by unfold pdv; rw [look_nat, h]; rfl
theorem pdv_nn (h : Iv rs last) (i : Nat) : (pdv rs i).nn := by
  unfold pdv
  cases hl : look rs (i : Int) with
  | none => exact ⟨Int.le_refl _, Int.le_refl _, Int.le_refl _⟩
  | some r =>
    obtain ⟨k, _, hr⟩ := look_some hl
    exact (h.q k r hr).pd
/-- what all of a list have paid -/
def pds (rs : List (Option Er)) (l : List Nat) : Qt := ⟨(l.map (fun i => (pdv rs i).f)).sum, (l.map (fun i => (pdv rs i).e)).sum, (l.map (fun i => (pdv rs i).x)).sum⟩
theorem pds_app (l m : List Nat) : pds rs (l ++ m) = (pds rs l).plus (pds rs m) := by
  unfold pds Qt.plus
  simp only [List.map_append, List.sum_append]
theorem pds_one (c : Nat) : pds rs [c] = pdv rs c := by
  unfold pds
  simp
theorem pds_cons (c : Nat) (l : List Nat) : pds rs (c :: l) = (pdv rs c).plus (pds rs l) := by rw [← pds_one (rs := rs) c, ← pds_app]; rfl
theorem pds_nil : pds rs [] = Qt.zero := rfl
theorem pds_take {l : List Nat} {j c : Nat} (hc : l[j]? = some c) : pds rs (l.take (j + 1)) = (pds rs (l.take j)).plus (pdv rs c) := by
  rw [List.take_add_one, hc, pds_app]
  show _ = _
  rw [show (some c).toList = [c] from rfl, pds_one]
theorem pds_nn (h : Iv rs last) : ∀ l : List Nat, (pds rs l).nn
  | [] => ⟨Int.le_refl _, Int.le_refl _, Int.le_refl _⟩
  | c :: l => by
    obtain ⟨a1, a2, a3⟩ := pds_nn h l
    obtain ⟨b1, b2, b3⟩ := pdv_nn h c
    rw [pds_cons]
    exact ⟨by simp only [Qt.plus]; omega, by simp only [Qt.plus]; omega, by simp only [Qt.plus]; omega⟩
theorem ps_cons (c : Nat) (l : List Nat) : ps rs (c :: l) = (prc rs c).plus (ps rs l) := by rw [← ps_one (rs := rs) c, ← ps_app]; rfl
/-- what all in a tree have paid, and how many there are -/
def Wh (rs : List (Option Er)) (n e : Nat) (r : Er) : Prop := (pds rs (wk rs n e)).f ≤ r.qu.f ∧ (pds rs (wk rs n e)).e + ((wk rs n e).length : Int) ≤ r.qu.e + 1 ∧ (pds rs (wk rs n e)).x ≤ r.qu.x
theorem whole_kids (n : Nat) : ∀ l : List Nat, (∀ k ∈ l, ∃ rk, rs[k]? = some (some rk) ∧ Wh rs n k rk) → (pds rs (l.flatMap (wk rs n))).f ≤ (ps rs l).f ∧ (pds rs (l.flatMap (wk rs n))).e + ((l.flatMap (wk rs n)).length : Int) ≤ (ps rs l).e ∧ (pds rs (l.flatMap (wk rs n))).x ≤ (ps rs l).x
  | [], _ => by simp [pds, ps]
  | k :: l, h => by
    obtain ⟨rk, hk, w1, w2, w3⟩ := h k List.mem_cons_self
    obtain ⟨i1, i2, i3⟩ := whole_kids n l (fun c hc => h c (List.mem_cons_of_mem _ hc))
    rw [List.flatMap_cons, pds_app, ps_cons, prc_at hk, List.length_append]
    simp only [Qt.plus, Qt.one]
    omega
theorem whole_sum (h : Iv rs last) : ∀ (n e : Nat) (r : Er), rs[e]? = some (some r) → Wh rs n e r
  | 0, e, r, hr => by
    have hq := h.q e r hr
    obtain ⟨p1, p2, p3⟩ := hq.parts
    obtain ⟨a1, a2, a3⟩ := hq.pd
    obtain ⟨b1, b2, b3⟩ := hq.le
    obtain ⟨c1, c2, c3⟩ := cv_nn h e
    unfold Wh
    simp only [wk, pds_one, pdv_at hr, List.length_cons, List.length_nil]
    omega
  | n + 1, e, r, hr => by
    have hq := h.q e r hr
    obtain ⟨p1, p2, p3⟩ := hq.parts
    obtain ⟨b1, b2, b3⟩ := hq.le
    obtain ⟨k1, k2, k3⟩ := whole_kids (rs := rs) n (kids rs (e : Int)) (fun k hk => by
      obtain ⟨rk, hrk, _⟩ := kids_at hk
      exact ⟨rk, hrk, whole_sum h n k rk hrk⟩)
    rw [ps_kids h.tr] at k1 k2 k3
    unfold Wh
    simp only [wk, pds_cons, pdv_at hr, List.length_cons, Qt.plus]
    omega
/-- what is left of a quota behind the first j of a list -/
def rst (rs : List (Option Er)) (r : Er) (l : List Nat) (j : Nat) : Qt := r.qu.less (pds rs (l.take j))
theorem qt_zero_less (q : Qt) : q.less Qt.zero = q := by unfold Qt.less Qt.zero; simp
theorem rst_zero (r : Er) (l : List Nat) : rst rs r l 0 = r.qu := by
  unfold rst
  rw [List.take_zero, pds_nil, qt_zero_less]
theorem rst_step {r rc : Er} {l : List Nat} {j c : Nat} (hc : l[j]? = some c) (hr : rs[c]? = some (some rc)) : rst rs r l (j + 1) = (rst rs r l j).less rc.pd := by
  unfold rst
  rw [pds_take hc, pdv_at hr]
  unfold Qt.less Qt.plus
  simp only [Qt.mk.injEq]
  exact ⟨by omega, by omega, by omega⟩
theorem rst_nn (h : Iv rs last) {e : Nat} {r : Er} (hr : rs[e]? = some (some r)) (n j : Nat) : (rst rs r (wk rs n e) j).nn := by
  obtain ⟨w1, w2, w3⟩ := whole_sum h n e r hr
  have h1 := pds_app (rs := rs) ((wk rs n e).take j) ((wk rs n e).drop j)
  rw [List.take_append_drop] at h1
  obtain ⟨a1, a2, a3⟩ := pds_nn h ((wk rs n e).drop j)
  have hl : 0 < (wk rs n e).length := List.length_pos_of_mem (wk_self n e)
  rw [h1] at w1 w2 w3
  unfold rst
  simp only [Qt.nn, Qt.less, Qt.plus] at *
  omega
theorem rst_ok (h : Iv rs last) {e : Nat} {r : Er} (hr : rs[e]? = some (some r)) (n j : Nat) : (rst rs r (wk rs n e) j).ok := by
  obtain ⟨a1, a2, a3⟩ := rst_nn h hr n j
  obtain ⟨b1, b2, b3⟩ := pds_nn h ((wk rs n e).take j)
  obtain ⟨⟨u1, u2⟩, ⟨u3, u4⟩, ⟨u5, u6⟩⟩ := (h.oks hr).2.2
  unfold rst at *
  simp only [Qt.ok, Qt.less] at *
  omega
theorem wk_short (h : Iv rs last) {e : Nat} {r : Er} (hr : rs[e]? = some (some r)) (n : Nat) : ((wk rs n e).length : Int) - 1 ≤ r.qu.e ∧ (wk rs n e).length ≤ 16 ∧ 0 < (wk rs n e).length := by
  obtain ⟨w1, w2, w3⟩ := whole_sum h n e r hr
  obtain ⟨a1, a2, a3⟩ := pds_nn h (wk rs n e)
  have hl : 0 < (wk rs n e).length := List.length_pos_of_mem (wk_self n e)
  have h16 := wk_len h.tr n ⟨r, hr⟩
  omega
end
section
variable {w : World} {F : Nat → Prop} {T : Nat} {rs : List (Option Er)} {last : Int}
set_option maxHeartbeats 800000 in
theorem treeT_any (h : Et w F T rs last) (iv : Iv rs last) (k : Nat) (hk : Lv rs k) : Calls Try.prog 17 #[.pointer (some ⟨T, 0, none⟩), .int .i64 (k : Int)] w fun x w' => ∃ v, x = .returned (.tuple #[v, .int .i64 0]) ∧ w'.ownsRow w.heap.size 3 1 v (wk rs 17 k).length (numN (wk rs 17 k)) ∧ Below w.heap.size w w' := by
  have HC := hide (walk_any rs iv.tr.dis (fun n e => wk_len' iv.tr n e) (fun e => kids_len iv.tr e) 17 k w F T last h (dp17 iv.tr k))
  obtain ⟨r, hr⟩ := hk
  obtain ⟨S, G, m, h⟩ := h
  have c0 := h.cell.1
  have HG := hide (getL_any _ G S m h.tab (k : Int))
  rcases h.cases (k : Int) with ⟨_, h1⟩ | ⟨k', b, r', e1, hm, h3, h4, _, hR⟩
  · rw [look_nat, hr] at h1; cases h1
  · obtain rfl : k = k' := by omega
    rw [h4] at HG
    simp only [ptr, Option.isSome_some] at HG
    clear h h4 hR
    go_enter Try.func17, Try.ntmps17
    go_wp2_with fail
    refine HG.out.mono ?_
    rintro e1 w1 ⟨rfl, rfl⟩
    go_wp2_with fail
    refine HC.out.mono ?_
    rintro e1 w2 ⟨v, rfl, ho, hb⟩
    obtain ⟨va, vc, rfl⟩ := own_shape ho
    have HO := hide ho
    have HB := hide hb
    clear ho hb
    go_wp2
    go_ret2
    exact ⟨_, rfl, HO.out, HB.out⟩
end
end Go.Proofs.Ytoddadohmnaolab

namespace Go.Proofs.Ytoddadohmnaolab
open Go.ChangeShapes Go.WideShapes Go.ChangeAt Go.RowKit Go.Deep Go.Shelf Go.Great

section
variable {rs : List (Option Er)} {last : Int}
theorem flatMap_congr' {α β : Type} {f g : α → List β} : ∀ {l : List α}, (∀ x ∈ l, f x = g x) → l.flatMap f = l.flatMap g
  | [], _ => rfl
  | x :: l, h => by
    rw [List.flatMap_cons, List.flatMap_cons, h x List.mem_cons_self, flatMap_congr' (fun y hy => h y (List.mem_cons_of_mem _ hy))]
theorem wk_stable : ∀ (n e : Nat), Dp rs n e → wk rs (n + 1) e = wk rs n e
  | 0, _, h => h.elim
  | n + 1, e, h => by
    show e :: (kids rs (e : Int)).flatMap (wk rs (n + 1)) = e :: (kids rs (e : Int)).flatMap (wk rs n)
    rw [flatMap_congr' (fun k hk => wk_stable n k (h k hk))]
theorem wk17 (h : Tr rs last) (e : Nat) : wk rs 17 e = e :: (kids rs (e : Int)).flatMap (wk rs 17) := by
  have hd : Dp rs 17 e := dp17 h e
  show e :: (kids rs (e : Int)).flatMap (wk rs 16) = _
  rw [flatMap_congr' (f := wk rs 17) (g := wk rs 16) (fun k hk => wk_stable 16 k (hd k hk))]
theorem ln_cons (iv : Tr rs last) {k : Nat} {r : Er} (hr : rs[k]? = some (some r)) : ln rs (k : Int) = (k : Int) :: ln rs r.pa := by
  obtain ⟨h1, h2⟩ := ln_line iv (k : Int)
  generalize ln rs (k : Int) = l at *
  rcases line_cases h1 with ⟨h, _⟩ | ⟨_, l', h, rfl, hl⟩
  · rw [look_at hr] at h; cases h
  · rw [look_at hr] at h
    cases h
    unfold ln
    rw [line_up hl 16 (by simp at h2; omega)]
theorem anc_ln (iv : Tr rs last) {a c : Nat} (h : Anc rs a c) (ha : Lv rs a) : (a : Int) ∈ ln rs (c : Int) := by
  refine anc_ind (P := fun c => (a : Int) ∈ ln rs (c : Int)) ?_ (fun c q hk _ ih => ?_) h
  · obtain ⟨r, hr⟩ := ha
    rw [ln_cons iv hr]; exact List.mem_cons_self
  · obtain ⟨r, hr, hp⟩ := kid_of hk
    rw [ln_cons iv hr, hp]
    exact List.mem_cons_of_mem _ ih
theorem line_ser (iv : Tr rs last) {e : Int} {l : List Int} (h : Line rs e l) : ∀ c : Nat, e = (c : Int) → ∀ z ∈ l, ∃ k : Nat, z = (k : Int) ∧ ser rs k ≤ ser rs c := by
  induction l generalizing e with
  | nil => intro c _ z hz; cases hz
  | cons z0 l' ih0 =>
    obtain ⟨rfl, r, h, hl⟩ := h
    have ih := ih0 hl
    intro c hc z hz
    rcases List.mem_cons.1 hz with rfl | hz'
    · exact ⟨c, hc, Int.le_refl _⟩
    · subst hc
      obtain ⟨k, e9, hr⟩ := look_some h
      obtain rfl : c = k := by omega
      by_cases h0 : c = 0
      · subst h0
        obtain ⟨r0, h1, h2⟩ := iv.root
        rw [hr] at h1
        obtain rfl : r = r0 := by simpa using h1
        rw [h2] at hl
        rcases line_cases hl with ⟨_, rfl⟩ | ⟨_, _, h, _⟩
        · cases hz'
        · cases h
      · obtain ⟨p, h1, _, h3⟩ := iv.par c r hr h0
        obtain ⟨k, h4, h5⟩ := ih p h1 z hz'
        exact ⟨k, h4, by omega⟩
theorem not_above (iv : Tr rs last) {e v : Nat} (h : ser rs e < ser rs v) : ¬ (v : Int) ∈ ln rs (e : Int) := fun hm => by
  obtain ⟨k, h1, h2⟩ := line_ser iv (ln_line iv (e : Int)).1 e rfl _ hm
  obtain rfl : v = k := by omega
  omega
theorem kids_sorted (e : Int) : (kids rs e).Pairwise (fun a b => ser rs a ≤ ser rs b) := by
  unfold kids
  refine (List.pairwise_mergeSort (le := fun a b => decide (ser rs a ≤ ser rs b)) (fun a b c h1 h2 => ?_) (fun a b => ?_) (kidsU rs e)).imp (fun {a b} h => of_decide_eq_true h)
  · simp only [decide_eq_true_eq] at h1 h2 ⊢; omega
  · by_cases h : ser rs a ≤ ser rs b <;> simp [h]; omega
theorem kids_rise (iv : Tr rs last) (e : Int) {i : Nat} {a b : Nat} (ha : (kids rs e)[i]? = some a) (hb : (kids rs e)[i + 1]? = some b) : ser rs a < ser rs b := by
  obtain ⟨h1, e1⟩ := List.getElem?_eq_some_iff.1 ha
  obtain ⟨h2, e2⟩ := List.getElem?_eq_some_iff.1 hb
  have h3 := List.pairwise_iff_getElem.1 (kids_sorted (rs := rs) e) i (i + 1) h1 h2 (by omega)
  have h4 := List.pairwise_iff_getElem.1 (kids_nodup (rs := rs) e) i (i + 1) h1 h2 (by omega)
  rw [e1, e2] at h3 h4
  have h5 : ser rs a ≠ ser rs b := fun h9 => h4 (iv.dis a b (kid_lv (kids_kid (List.mem_of_getElem? ha))) (kid_lv (kids_kid (List.mem_of_getElem? hb))) h9)
  omega
/-- where the i-th child's walk begins -/
def atW (rs : List (Option Er)) (ks : List Nat) (i : Nat) : Nat := 1 + ((ks.take i).flatMap (wk rs 17)).length
theorem atW_step {ks : List Nat} {i c : Nat} (hc : ks[i]? = some c) : atW rs ks (i + 1) = atW rs ks i + (wk rs 17 c).length := by
  unfold atW
  rw [List.take_add_one, hc, List.flatMap_append, List.length_append]
  simp
  omega
theorem atW_split {ks : List Nat} {i c : Nat} (hc : ks[i]? = some c) : ks.flatMap (wk rs 17) = (ks.take i).flatMap (wk rs 17) ++ (wk rs 17 c ++ (ks.drop (i + 1)).flatMap (wk rs 17)) := by
  obtain ⟨h1, e1⟩ := List.getElem?_eq_some_iff.1 hc
  conv => lhs; rw [← List.take_append_drop i ks, List.drop_eq_getElem_cons h1, e1]
  rw [List.flatMap_append, List.flatMap_cons]
theorem atW_get (h : Tr rs last) {e i c j : Nat} (hc : (kids rs (e : Int))[i]? = some c) (hj : j < (wk rs 17 c).length) : (wk rs 17 e)[atW rs (kids rs (e : Int)) i + j]? = (wk rs 17 c)[j]? := by
  rw [wk17 h e, atW_split hc]
  unfold atW
  rw [show 1 + (((kids rs (e : Int)).take i).flatMap (wk rs 17)).length + j = ((((kids rs (e : Int)).take i).flatMap (wk rs 17)).length + j) + 1 by omega, List.getElem?_cons_succ, List.getElem?_append_right (by omega), Nat.add_sub_cancel_left, List.getElem?_append_left hj]
theorem atW_le (h : Tr rs last) {e i c : Nat} (hc : (kids rs (e : Int))[i]? = some c) : atW rs (kids rs (e : Int)) i + (wk rs 17 c).length ≤ (wk rs 17 e).length := by
  rw [wk17 h e, atW_split hc]
  unfold atW
  simp
  omega
theorem atW_end (h : Tr rs last) (e : Nat) : atW rs (kids rs (e : Int)) (kids rs (e : Int)).length = (wk rs 17 e).length := by
  rw [wk17 h e]
  unfold atW
  rw [List.take_length]
  simp
  omega
/-- the serial that the next child's must be above -/
def lsr (rs : List (Option Er)) (e : Nat) (ks : List Nat) : Nat → Int
  | 0 => ser rs e
  | i + 1 => match ks[i]? with | some c => ser rs c | none => 0
theorem lsr_lt (h : Tr rs last) {e i c : Nat} (hc : (kids rs (e : Int))[i]? = some c) : lsr rs e (kids rs (e : Int)) i < ser rs c := by
  cases i with
  | zero => exact (kid_ser h (kids_kid (List.mem_of_getElem? hc))).1
  | succ i =>
    obtain ⟨h1, _⟩ := List.getElem?_eq_some_iff.1 hc
    have h2 : (kids rs (e : Int))[i]? = some ((kids rs (e : Int))[i]'(by omega)) := List.getElem?_eq_getElem (by omega)
    simp only [lsr, h2]
    exact kids_rise h _ h2 hc
/-- what lies in a child's walk is inside, and nothing of it above -/
theorem wk_in (h : Tr rs last) {e i c v : Nat} (hc : (kids rs (e : Int))[i]? = some c) (hv : v ∈ wk rs 17 c) : decide ((e : Int) ∈ ln rs (v : Int)) = true ∧ decide ((v : Int) ∈ ln rs (e : Int)) = false := by
  have hk := kids_kid (List.mem_of_getElem? hc)
  have h1 := kid_ser h hk
  have ha : Anc rs e v := (wk_anc 17 hv).top hk
  have h2 : ser rs e < ser rs v := by
    have := (wk_anc 17 hv).ser h
    omega
  exact ⟨decide_eq_true (anc_ln h ha h1.2.2), decide_eq_false (not_above h h2)⟩
end
end Go.Proofs.Ytoddadohmnaolab
