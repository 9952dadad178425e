import Derived.Test.YtoddadohmnaolaaFC
namespace Go.Proofs.Ytoddadohmnaolaa
open Go.RowKit Go.Shelf

section
variable {rs : List (Option Er)} {last : Int}
theorem core_set {i : Nat} (hi : i < rs.length) (o : Option Er) (j : Nat) : core (rs.set i o) j = if j = i then o.map (fun r => (r.se, r.pa, r.qu)) else core rs j := by
  unfold core
  rw [look_nat, look_nat]
  by_cases e : j = i
  · subst e; rw [if_pos rfl, List.getElem?_set_self hi]; cases o <;> rfl
  · rw [if_neg e, List.getElem?_set_ne (fun e' => e e'.symm)]
theorem kid_dead (h : Tr rs last) {i : Nat} (hi : ¬ Lv rs i) (j : Nat) : kid rs (i : Int) j = false := by
  cases hk : kid rs (i : Int) j with
  | false => rfl
  | true => exact absurd (kid_ser h hk).2.2 hi
theorem not_lv {i : Nat} (h : rs[i]? = some none) : ¬ Lv rs i := by rintro ⟨r, hr⟩; rw [h] at hr; cases hr
theorem kid_no {i : Nat} (h : ¬ Lv rs i) (e : Int) : kid rs e i = false := by
  cases hk : kid rs e i with
  | false => rfl
  | true => exact absurd (kid_lv hk) h
/-- a new one at a free place -/
theorem Iv.create (h : Iv rs last) {i k : Nat} {r : Er} (hi : rs[i]? = some none) (hr : rs[k]? = some (some r)) {serial : Int} (hs : last < serial) {q : Qt} (hg : q.good) (hf : (q.plus Qt.one).le r.le) :
    Iv ((rs.set i (some (Er.new serial k q))).set k (some { r with le := r.le.less (q.plus Qt.one) })) serial := by
  have hil := (List.getElem?_eq_some_iff.1 hi).1
  have hi16 : i < 16 := by rw [← h.tr.len]; exact hil
  have hki : k ≠ i := fun e => by rw [e, hi] at hr; cases hr
  have hid := not_lv hi
  obtain ⟨rs1, hrs1⟩ : ∃ rs1, rs1 = rs.set i (some (Er.new serial k q)) := ⟨_, rfl⟩
  have hr1 : rs1[k]? = some (some r) := by rw [hrs1, List.getElem?_set_ne (fun e => hki e.symm)]; exact hr
  have hi1 : rs1[i]? = some (some (Er.new serial k q)) := by rw [hrs1, List.getElem?_set_self hil]
  have ho : ∀ j, j ≠ i → rs1[j]? = rs[j]? := fun j hj => by rw [hrs1, List.getElem?_set_ne (fun e => hj e.symm)]
  have hcore : ∀ j, j ≠ i → core rs1 j = core rs j := fun j hj => by rw [hrs1, core_set hil, if_neg hj]
  have hkid : ∀ (e : Int) j, j ≠ i → kid rs1 e j = kid rs e j := fun e j hj => by rw [kid_core, kid_core, hcore j hj]
  have hser : ∀ j, j ≠ i → ser rs1 j = ser rs j := fun j hj => by rw [ser_core, ser_core, hcore j hj]
  have hprc : ∀ j, j ≠ i → prc rs1 j = prc rs j := fun j hj => by unfold prc; rw [hcore j hj]
  have hlv : ∀ j, j ≠ i → (Lv rs1 j ↔ Lv rs j) := fun j hj => by rw [lv_core, lv_core, hcore j hj]
  have hsi : ser rs1 i = serial := by rw [ser_at hi1]; rfl
  have hki1 : kid rs1 (k : Int) i = true := by rw [kid_at hi1]; simp [Er.new]
  have hkie : ∀ e : Nat, e ≠ k → kid rs1 (e : Int) i = false := fun e he => by rw [kid_at hi1]; exact decide_eq_false (fun e9 => he (by have e8 : ((k : Nat) : Int) = (e : Int) := e9; omega))
  have htm : ∀ (s : Qt → Int) (e : Nat), tot (tm s rs1 e) = tot (tm s rs e) + (if e = k then s (q.plus Qt.one) else 0) := fun s e => by
    have h1 := tot_upd (f := tm s rs e) (g := tm s rs1 e) hi16 (fun j _ hj => by unfold tm; rw [hkid _ j hj, hprc j hj])
    have h2 : tm s rs e i = 0 := by unfold tm; rw [kid_no hid]; rfl
    have h3 : tm s rs1 e i = if e = k then s (q.plus Qt.one) else 0 := by
      unfold tm
      by_cases he : e = k
      · subst he; rw [if_pos hki1, if_pos rfl, prc_at hi1]; rfl
      · rw [hkie e he, if_neg he]; rfl
    rw [h1, h2, h3]; omega
  have hS : Same rs1 (rs1.set k (some { r with le := r.le.less (q.plus Qt.one) })) := Same.set hr1 rfl rfl rfl
  have hT1 : Tr rs1 serial := by
    refine ⟨by rw [hrs1]; simpa using h.tr.len, ?_, fun j rj hj h0 => ?_, fun j hj => ?_, fun a b ha hb e => ?_⟩
    · obtain ⟨r0, h1, h2⟩ := h.tr.root
      exact ⟨r0, by rw [ho 0 (fun e => by rw [← e] at hi; rw [h1] at hi; cases hi)]; exact h1, h2⟩
    · by_cases e : j = i
      · subst e
        rw [hi1] at hj; cases hj
        exact ⟨k, rfl, ⟨r, hr1⟩, by rw [hsi, hser k hki]; have := h.tr.old k ⟨r, hr⟩; omega⟩
      · rw [ho j e] at hj
        obtain ⟨p, h1, h2, h3⟩ := h.tr.par j rj hj h0
        have hpi : p ≠ i := fun e' => hid (e' ▸ h2)
        exact ⟨p, h1, (hlv p hpi).2 h2, by rw [hser p hpi, hser j e]; exact h3⟩
    · by_cases e : j = i
      · subst e; rw [hsi]; exact Int.le_refl _
      · rw [hser j e]; have := h.tr.old j ((hlv j e).1 hj); omega
    · by_cases ea : a = i
      · by_cases eb : b = i
        · rw [ea, eb]
        · rw [ea, hsi, hser b eb] at e
          have := h.tr.old b ((hlv b eb).1 hb); omega
      · by_cases eb : b = i
        · rw [eb, hsi, hser a ea] at e
          have := h.tr.old a ((hlv a ea).1 ha); omega
        · rw [hser a ea, hser b eb] at e
          exact h.tr.dis a b ((hlv a ea).1 ha) ((hlv b eb).1 hb) e
  rw [← hrs1]
  refine ⟨hT1.same hS, fun j rj hj => ?_⟩
  obtain ⟨f1, f2, f3⟩ := hf
  simp only [Qt.plus, Qt.one] at f1 f2 f3
  by_cases ek : j = k
  · subst ek
    rw [List.getElem?_set_self (List.getElem?_eq_some_iff.1 hr1).1] at hj
    cases hj
    have hq := h.q j r hr
    obtain ⟨p1, p2, p3⟩ := hq.parts
    refine ⟨hq.good, hq.pd, ?_, ?_⟩
    · simp only [Qt.nn, Qt.less, Qt.plus, Qt.one]; omega
    · rw [hS.cv]
      refine qt_ext ?_ ?_ ?_ <;> simp only [Qt.plus, Qt.less, cv, htm, if_true, Qt.one] at p1 p2 p3 ⊢ <;> omega
  · rw [List.getElem?_set_ne (fun e' => ek e'.symm)] at hj
    by_cases ei : j = i
    · subst ei
      rw [hi1] at hj; cases hj
      refine ⟨hg, ⟨Int.le_refl _, Int.le_refl _, Int.le_refl _⟩, ?_, ?_⟩
      · obtain ⟨g1, g2, g3⟩ := good_bounds hg
        exact ⟨g1.1, g2.1, g3.1⟩
      · have hz : ∀ s : Qt → Int, tot (tm s rs j) = 0 := fun s => by
          rw [tot_congr (f := fun _ => 0) (fun x _ => by unfold tm; rw [kid_dead h.tr hid]; rfl)]; rfl
        rw [hS.cv]
        refine qt_ext ?_ ?_ ?_ <;> simp only [Er.new, Qt.plus, Qt.zero, cv, htm, hz, if_neg ek] <;> omega
    · rw [ho j ei] at hj
      have hq := h.q j rj hj
      refine ⟨hq.good, hq.pd, hq.le, ?_⟩
      rw [hS.cv]
      have e1 : cv rs1 j = cv rs j := by unfold cv; rw [htm, htm, htm, if_neg ek, if_neg ek, if_neg ek, Int.add_zero, Int.add_zero, Int.add_zero]
      rw [e1]; exact hq.sum
end
end Go.Proofs.Ytoddadohmnaolaa
