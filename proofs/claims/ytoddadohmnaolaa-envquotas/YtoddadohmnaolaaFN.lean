import Derived.Test.YtoddadohmnaolaaFM
namespace Go.Proofs.Ytoddadohmnaolaa
open Go.RowKit Go.Shelf

section
variable {rs : List (Option Er)} {last : Int}
def ps (rs : List (Option Er)) (l : List Nat) : Qt := ⟨(l.map (fun i => (prc rs i).f)).sum, (l.map (fun i => (prc rs i).e)).sum, (l.map (fun i => (prc rs i).x)).sum⟩
theorem ps_app (l m : List Nat) : ps rs (l ++ m) = (ps rs l).plus (ps rs m) := by
  unfold ps Qt.plus
  simp only [List.map_append, List.sum_append]
theorem ps_one (c : Nat) : ps rs [c] = prc rs c := by
  unfold ps
  simp
theorem ps_take {l : List Nat} {j c : Nat} (hc : l[j]? = some c) : ps rs (l.take (j + 1)) = (ps rs (l.take j)).plus (prc rs c) := by
  rw [List.take_add_one, hc, ps_app]
  show _ = _
  rw [show (some c).toList = [c] from rfl, ps_one]
theorem ps_nn : ∀ l : List Nat, (∀ i ∈ l, (prc rs i).nn) → (ps rs l).nn
  | [], _ => ⟨Int.le_refl _, Int.le_refl _, Int.le_refl _⟩
  | c :: l, h => by
    have h1 := ps_nn l (fun i hi => h i (List.mem_cons_of_mem _ hi))
    have h2 := h c List.mem_cons_self
    have h3 : ps rs (c :: l) = (prc rs c).plus (ps rs l) := by rw [← ps_one (rs := rs) c, ← ps_app]; rfl
    rw [h3]
    obtain ⟨a1, a2, a3⟩ := h1
    obtain ⟨b1, b2, b3⟩ := h2
    exact ⟨by simp only [Qt.plus]; omega, by simp only [Qt.plus]; omega, by simp only [Qt.plus]; omega⟩
theorem ps_kids (h : Tr rs last) (e : Nat) : ps rs (kids rs (e : Int)) = cv rs e := by
  unfold ps cv
  rw [← kids_sum h Qt.f e, ← kids_sum h Qt.e e, ← kids_sum h Qt.x e]
theorem kids_at {e c : Nat} (hc : c ∈ kids rs (e : Int)) : ∃ rc, rs[c]? = some (some rc) ∧ rc.pa = (e : Int) := by
  have h1 := kids_mem.1 hc
  obtain ⟨rc, hrc⟩ := kidsU_lv h1
  refine ⟨rc, hrc, ?_⟩
  have h2 : kid rs (e : Int) c = true := by
    unfold kidsU fitK at h1
    exact (List.mem_filter.1 h1).2
  rw [kid_core, core_at hrc] at h2
  exact of_decide_eq_true h2
def acc (rs : List (Option Er)) (k : Nat) (r : Er) (j : Nat) : Qt := (r.le.plus r.pd).plus (ps rs ((kids rs (k : Int)).take j))
theorem acc_zero (k : Nat) (r : Er) : acc rs k r 0 = r.le.plus r.pd := by
  unfold acc ps Qt.plus
  simp
theorem acc_step {k j c : Nat} {r rc : Er} (hc : (kids rs (k : Int))[j]? = some c) (hrc : rs[c]? = some (some rc)) : acc rs k r (j + 1) = ((acc rs k r j).plus rc.qu).plus Qt.one := by
  unfold acc
  rw [ps_take hc, prc_at hrc]
  unfold Qt.plus
  simp only [Qt.mk.injEq]
  exact ⟨by omega, by omega, by omega⟩
theorem acc_end (h : Iv rs last) {k : Nat} {r : Er} (hr : rs[k]? = some (some r)) : acc rs k r (kids rs (k : Int)).length = r.qu := by
  have h1 := (h.q k r hr).sum
  unfold acc
  rw [List.take_length, ps_kids h.tr, h1]
  unfold Qt.plus
  simp only [Qt.mk.injEq]
  exact ⟨by omega, by omega, by omega⟩
theorem kid_nn (h : Iv rs last) {e c : Nat} (hc : c ∈ kids rs (e : Int)) : (prc rs c).nn := by
  obtain ⟨rc, hrc, -⟩ := kids_at hc
  rw [prc_at hrc]
  obtain ⟨g1, g2, g3⟩ := good_bounds (h.q c rc hrc).good
  exact ⟨by simp only [Qt.plus, Qt.one]; omega, by simp only [Qt.plus, Qt.one]; omega, by simp only [Qt.plus, Qt.one]; omega⟩
theorem acc_ok (h : Iv rs last) {k : Nat} {r : Er} (hr : rs[k]? = some (some r)) (j : Nat) : (acc rs k r j).ok := by
  have h1 := acc_end h hr
  have h2 := ps_nn (rs := rs) ((kids rs (k : Int)).take j) (fun i hi => kid_nn h (List.mem_of_mem_take hi))
  have h3 := ps_nn (rs := rs) ((kids rs (k : Int)).drop j) (fun i hi => kid_nn h (List.mem_of_mem_drop hi))
  have h4 := ps_app (rs := rs) ((kids rs (k : Int)).take j) ((kids rs (k : Int)).drop j)
  rw [List.take_append_drop] at h4
  unfold acc at h1 ⊢
  rw [List.take_length, h4] at h1
  obtain ⟨l1, l2, l3⟩ := (h.q k r hr).le
  obtain ⟨p1, p2, p3⟩ := (h.q k r hr).pd
  obtain ⟨⟨u1, u2⟩, ⟨u3, u4⟩, ⟨u5, u6⟩⟩ := (h.oks hr).2.2
  rw [← h1] at u1 u2 u3 u4 u5 u6
  obtain ⟨a1, a2, a3⟩ := h2
  obtain ⟨b1, b2, b3⟩ := h3
  simp only [Qt.plus] at u1 u2 u3 u4 u5 u6
  exact ⟨⟨by simp only [Qt.plus]; omega, by simp only [Qt.plus]; omega⟩, ⟨by simp only [Qt.plus]; omega, by simp only [Qt.plus]; omega⟩, ⟨by simp only [Qt.plus]; omega, by simp only [Qt.plus]; omega⟩⟩
end
end Go.Proofs.Ytoddadohmnaolaa
