import Derived.Test.YtoddadohmnaolaaFB
namespace Go.Proofs.Ytoddadohmnaolaa
open Go.RowKit Go.Shelf

/-- a child's part of what is carved -/
def tm (s : Qt → Int) (rs : List (Option Er)) (e : Nat) (i : Nat) : Int := if kid rs (e : Int) i = true then s (prc rs i) else 0
/-- what the children carve -/
def cv (rs : List (Option Er)) (e : Nat) : Qt := ⟨tot (tm Qt.f rs e), tot (tm Qt.e rs e), tot (tm Qt.x rs e)⟩
def Qt.nn (q : Qt) : Prop := 0 ≤ q.f ∧ 0 ≤ q.e ∧ 0 ≤ q.x
structure Qk (rs : List (Option Er)) (k : Nat) (r : Er) : Prop where
  good : r.qu.good
  pd : r.pd.nn
  le : r.le.nn
  sum : r.qu = (r.pd.plus r.le).plus (cv rs k)
structure Iv (rs : List (Option Er)) (last : Int) : Prop where
  tr : Tr rs last
  q : ∀ k r, rs[k]? = some (some r) → Qk rs k r
section
variable {rs rs' : List (Option Er)} {last : Int}
theorem Same.cv (h : Same rs rs') (e : Nat) : cv rs' e = cv rs e := by
  have h1 : ∀ s : Qt → Int, tm s rs' e = tm s rs e := fun s => by
    funext i
    unfold tm
    rw [h.kid, h.prc]
  unfold Go.Proofs.Ytoddadohmnaolaa.cv
  rw [h1, h1, h1]
theorem prc_at {i : Nat} {r : Er} (h : rs[i]? = some (some r)) : prc rs i = r.qu.plus Qt.one := by unfold prc; rw [core_at h]
theorem tm_pos (h : Iv rs last) (e i : Nat) : 0 ≤ tm Qt.f rs e i ∧ 0 ≤ tm Qt.e rs e i ∧ 0 ≤ tm Qt.x rs e i := by
  unfold tm
  by_cases hk : kid rs (e : Int) i = true
  · obtain ⟨r, hr⟩ := kid_lv hk
    obtain ⟨g1, g2, g3⟩ := good_bounds (h.q i r hr).good
    rw [if_pos hk, if_pos hk, if_pos hk, prc_at hr]
    simp only [Qt.plus, Qt.one]
    omega
  · rw [if_neg hk, if_neg hk, if_neg hk]; omega
theorem cv_nn (h : Iv rs last) (e : Nat) : (cv rs e).nn := ⟨tot_pos (fun j _ => (tm_pos h e j).1), tot_pos (fun j _ => (tm_pos h e j).2.1), tot_pos (fun j _ => (tm_pos h e j).2.2)⟩
theorem Qk.parts {k : Nat} {r : Er} (h : Qk rs k r) : r.qu.f = r.pd.f + r.le.f + (cv rs k).f ∧ r.qu.e = r.pd.e + r.le.e + (cv rs k).e ∧ r.qu.x = r.pd.x + r.le.x + (cv rs k).x := by
  have := h.sum
  simp only [Qt.plus] at this
  exact ⟨congrArg Qt.f this, congrArg Qt.e this, congrArg Qt.x this⟩
theorem Iv.oks (h : Iv rs last) {k : Nat} {r : Er} (hr : rs[k]? = some (some r)) : r.le.ok ∧ r.pd.ok ∧ r.qu.ok := by
  have hq := h.q k r hr
  obtain ⟨g1, g2, g3⟩ := good_bounds hq.good
  obtain ⟨p1, p2, p3⟩ := hq.parts
  obtain ⟨a1, a2, a3⟩ := hq.pd
  obtain ⟨b1, b2, b3⟩ := hq.le
  obtain ⟨c1, c2, c3⟩ := cv_nn h k
  unfold Qt.ok
  omega
/-- what a child costs fits into its parent's quota -/
theorem Iv.price (h : Iv rs last) {k p : Nat} {r : Er} (hr : rs[k]? = some (some r)) (hpa : r.pa = (p : Int)) :
    (r.qu.f ≤ (cv rs p).f ∧ r.qu.e + 1 ≤ (cv rs p).e ∧ r.qu.x ≤ (cv rs p).x) := by
  have hk : kid rs (p : Int) k = true := by rw [kid_at hr]; simp [hpa]
  have hkl := lv_lt h.tr ⟨r, hr⟩
  have t1 := tot_le hkl (fun j _ => (tm_pos h p j).1)
  have t2 := tot_le hkl (fun j _ => (tm_pos h p j).2.1)
  have t3 := tot_le hkl (fun j _ => (tm_pos h p j).2.2)
  simp only [tm, hk, if_true, prc_at hr, Qt.plus, Qt.one] at t1 t2 t3
  show r.qu.f ≤ tot (tm Qt.f rs p) ∧ r.qu.e + 1 ≤ tot (tm Qt.e rs p) ∧ r.qu.x ≤ tot (tm Qt.x rs p)
  omega
theorem Iv.priceOk (h : Iv rs last) {k p : Nat} {r rp : Er} (hr : rs[k]? = some (some r)) (hp : rs[p]? = some (some rp)) (hpa : r.pa = (p : Int)) : (r.qu.plus Qt.one).ok := by
  obtain ⟨q1, q2, q3⟩ := h.price hr hpa
  have hq := h.q p rp hp
  obtain ⟨g1, g2, g3⟩ := good_bounds hq.good
  obtain ⟨k1, k2, k3⟩ := good_bounds (h.q k r hr).good
  obtain ⟨p1, p2, p3⟩ := hq.parts
  obtain ⟨a1, a2, a3⟩ := hq.pd
  obtain ⟨b1, b2, b3⟩ := hq.le
  simp only [Qt.ok, Qt.plus, Qt.one]
  omega
/-- a record that is changed in what may change -/
theorem Iv.upd (h : Iv rs last) {k : Nat} {r r' : Er} (hr : rs[k]? = some (some r)) (h1 : r'.se = r.se) (h2 : r'.pa = r.pa) (h3 : r'.qu = r.qu) (h4 : r'.pd.nn) (h5 : r'.le.nn) (h6 : r'.pd.plus r'.le = r.pd.plus r.le) : Iv (rs.set k (some r')) last := by
  have hs := Same.set hr h1 h2 h3
  refine ⟨h.tr.same hs, fun j rj hj => ?_⟩
  by_cases e : j = k
  · subst e
    rw [List.getElem?_set_self (List.getElem?_eq_some_iff.1 hr).1] at hj
    cases hj
    have hq := h.q j r hr
    exact ⟨by rw [h3]; exact hq.good, h4, h5, by rw [h3, h6, hs.cv]; exact hq.sum⟩
  · rw [List.getElem?_set_ne (fun e' => e e'.symm)] at hj
    have hq := h.q j rj hj
    exact ⟨hq.good, hq.pd, hq.le, by rw [hs.cv]; exact hq.sum⟩
theorem Iv.keepq (h : Iv rs last) {k : Nat} {r r' : Er} (hr : rs[k]? = some (some r)) (h1 : r'.se = r.se) (h2 : r'.pa = r.pa) (h3 : r'.qu = r.qu) (h4 : r'.pd = r.pd) (h5 : r'.le = r.le) : Iv (rs.set k (some r')) last :=
  h.upd hr h1 h2 h3 (by rw [h4]; exact (h.q k r hr).pd) (by rw [h5]; exact (h.q k r hr).le) (by rw [h4, h5])
theorem qt_ext {a b : Qt} (h1 : a.f = b.f) (h2 : a.e = b.e) (h3 : a.x = b.x) : a = b := by cases a; cases b; simp_all
theorem Iv.pay (h : Iv rs last) (e : Int) (q : Qt) : Iv (payS rs e q) last := by
  unfold payS
  cases hl : look rs e with
  | none => exact h
  | some r =>
    obtain ⟨k, rfl, hr⟩ := look_some hl
    simp only []
    by_cases hg : q.good
    · rw [if_pos hg]
      by_cases hf : q.le r.le
      · rw [if_pos hf]
        obtain ⟨g1, g2, g3⟩ := good_bounds hg
        obtain ⟨f1, f2, f3⟩ := hf
        obtain ⟨a1, a2, a3⟩ := (h.q k r hr).pd
        refine h.upd hr rfl rfl rfl ?_ ?_ (qt_ext ?_ ?_ ?_) <;> simp only [Qt.nn, Qt.plus, Qt.less] <;> omega
      · rw [if_neg hf]; exact h
    · rw [if_neg hg]; exact h
theorem Iv.refund (h : Iv rs last) (e : Int) (q : Qt) : Iv (refS rs e q) last := by
  unfold refS
  cases hl : look rs e with
  | none => exact h
  | some r =>
    obtain ⟨k, rfl, hr⟩ := look_some hl
    simp only []
    by_cases hc : q.good ∧ q.le r.pd
    · rw [if_pos hc]
      obtain ⟨g1, g2, g3⟩ := good_bounds hc.1
      obtain ⟨f1, f2, f3⟩ := hc.2
      obtain ⟨a1, a2, a3⟩ := (h.q k r hr).le
      refine h.upd hr rfl rfl rfl ?_ ?_ (qt_ext ?_ ?_ ?_) <;> simp only [Qt.nn, Qt.plus, Qt.less] <;> omega
    · rw [if_neg hc]; exact h
end
end Go.Proofs.Ytoddadohmnaolaa
