import Derived.Test.YtoddadohmnaolaaFD
namespace Go.Proofs.Ytoddadohmnaolaa
open Go.RowKit Go.Shelf

section
variable {rs : List (Option Er)} {last : Int}
/-- one that ended, with all below it -/
theorem Iv.destroy (h : Iv rs last) {k p : Nat} {r rp : Er} (hr : rs[k]? = some (some r)) (hk0 : k ≠ 0) (hpa : r.pa = (p : Int)) (hp : rs[p]? = some (some rp)) :
    Iv (drops (rs.set p (some { rp with le := rp.le.plus (r.qu.plus Qt.one) })) (wk rs 17 k)) last := by
  have hT := h.tr
  have hDp := dp17 hT k
  have hkp : kid rs (p : Int) k = true := by rw [kid_at hr]; simp [hpa]
  have hself := wk_self (rs := rs) 17 k
  have hlive : ∀ c ∈ wk rs 17 k, Lv rs c := fun c hc => wk_lv 17 ⟨r, hr⟩ hc
  have hsp := (kid_ser hT hkp).1
  have hpl : p ∉ wk rs 17 k := fun hc => by
    rcases wk_ser hT 17 hc with e | e
    · rw [e] at hsp; omega
    · omega
  have h0l : 0 ∉ wk rs 17 k := fun hc => by
    rcases wk_up 17 hc with e | ⟨q, _, e⟩
    · exact hk0 e.symm
    · exact (kid_ser hT e).2.1 rfl
  have hcl : ∀ c d, c ∈ wk rs 17 k → kid rs (c : Int) d = true → d ∈ wk rs 17 k := fun c d hc hd => wk_closed 17 hDp hc hd
  have hup : ∀ j, j ∈ wk rs 17 k → j = k ∨ ∃ q, q ∈ wk rs 17 k ∧ kid rs (q : Int) j = true := fun j hj => wk_up 17 hj
  generalize wk rs 17 k = l at *
  obtain ⟨rs1, hrs1⟩ : ∃ rs1, rs1 = rs.set p (some { rp with le := rp.le.plus (r.qu.plus Qt.one) }) := ⟨_, rfl⟩
  have hS : Same rs rs1 := by rw [hrs1]; exact Same.set hp rfl rfl rfl
  have hT1 := hT.same hS
  have hp1 : rs1[p]? = some (some { rp with le := rp.le.plus (r.qu.plus Qt.one) }) := by rw [hrs1, List.getElem?_set_self (List.getElem?_eq_some_iff.1 hp).1]
  have ho1 : ∀ x, x ≠ p → rs1[x]? = rs[x]? := fun x hx => by rw [hrs1, List.getElem?_set_ne (fun e => hx e.symm)]
  rw [← hrs1]
  have hlen2 : (drops rs1 l).length = 16 := by rw [drops_len]; exact hT1.len
  have hout : ∀ x, x ∉ l → (drops rs1 l)[x]? = rs1[x]? := fun x hx => drops_other l rs1 x hx
  have hin : ∀ x, x ∈ l → (drops rs1 l)[x]? = some none := fun x hx => drops_gone l rs1 x hx (by rw [hT1.len]; exact lv_lt hT (hlive x hx))
  generalize drops rs1 l = rs2 at *
  have hc_out : ∀ x, x ∉ l → core rs2 x = core rs x := fun x hx => by
    rw [← hS.2 x]
    unfold core
    rw [look_nat, look_nat, hout x hx]
  have hnl : ∀ x, Lv rs2 x → x ∉ l := fun x hx hm => not_lv (hin x hm) hx
  have hlv : ∀ x, x ∉ l → (Lv rs2 x ↔ Lv rs x) := fun x hx => by rw [lv_core, lv_core, hc_out x hx]
  have hse : ∀ x, x ∉ l → ser rs2 x = ser rs x := fun x hx => by rw [ser_core, ser_core, hc_out x hx]
  have hkd : ∀ (e : Int) x, x ∉ l → kid rs2 e x = kid rs e x := fun e x hx => by rw [kid_core, kid_core, hc_out x hx]
  have hpr : ∀ x, x ∉ l → prc rs2 x = prc rs x := fun x hx => by unfold prc; rw [hc_out x hx]
  have hkin : ∀ (e : Int) x, x ∈ l → kid rs2 e x = false := fun e x hx => kid_no (not_lv (hin x hx)) e
  refine ⟨⟨hlen2, ?_, fun x rx hx h0 => ?_, fun x hx => ?_, fun a b ha hb e => ?_⟩, fun x rx hx => ?_⟩
  · obtain ⟨r0, h1, h2⟩ := hT1.root
    exact ⟨r0, by rw [hout 0 h0l]; exact h1, h2⟩
  · have hxl := hnl x ⟨rx, hx⟩
    rw [hout x hxl] at hx
    obtain ⟨q, h1, h2, h3⟩ := hT1.par x rx hx h0
    have hkx : kid rs (q : Int) x = true := by rw [← hS.kid, kid_at hx]; simp [h1]
    have hql : q ∉ l := fun hq => hxl (hcl q x hq hkx)
    exact ⟨q, h1, (hlv q hql).2 ((hS.lv q).1 h2), by rw [hse q hql, hse x hxl, ← hS.ser, ← hS.ser]; exact h3⟩
  · have hxl := hnl x hx
    rw [hse x hxl]; exact hT.old x ((hlv x hxl).1 hx)
  · have hal := hnl a ha
    have hbl := hnl b hb
    rw [hse a hal, hse b hbl] at e
    exact hT.dis a b ((hlv a hal).1 ha) ((hlv b hbl).1 hb) e
  · have hxl := hnl x ⟨rx, hx⟩
    rw [hout x hxl] at hx
    by_cases exp : x = p
    · subst exp
      rw [hp1] at hx; cases hx
      have hq := h.q x rp hp
      obtain ⟨p1, p2, p3⟩ := hq.parts
      obtain ⟨b1, b2, b3⟩ := hq.le
      obtain ⟨k1, k2, k3⟩ := good_bounds (h.q k r hr).good
      have htm : ∀ s : Qt → Int, tot (tm s rs2 x) = tot (tm s rs x) - s (r.qu.plus Qt.one) := fun s => by
        have h1 := tot_upd (f := tm s rs x) (g := tm s rs2 x) (i := k) (lv_lt hT ⟨r, hr⟩) (fun j _ hj => by
          unfold tm
          by_cases hjl : j ∈ l
          · have hkf : kid rs (x : Int) j = false := by
              cases hkj : kid rs (x : Int) j with
              | false => rfl
              | true =>
                rcases hup j hjl with e | ⟨q, hq1, hq2⟩
                · exact absurd e hj
                · exact absurd (kid_one hkj hq2 ▸ hq1) hpl
            rw [hkin _ j hjl, hkf]; rfl
          · rw [hkd _ j hjl, hpr j hjl])
        have h2 : tm s rs x k = s (r.qu.plus Qt.one) := by unfold tm; rw [if_pos hkp, prc_at hr]
        have h3 : tm s rs2 x k = 0 := by unfold tm; rw [hkin _ k hself]; rfl
        rw [h1, h2, h3]; omega
      refine ⟨hq.good, hq.pd, ?_, ?_⟩
      · simp only [Qt.nn, Qt.plus, Qt.one]; omega
      · refine qt_ext ?_ ?_ ?_ <;> simp only [Qt.plus, cv, htm, Qt.one] at p1 p2 p3 ⊢ <;> omega
    · rw [ho1 x exp] at hx
      have hq := h.q x rx hx
      refine ⟨hq.good, hq.pd, hq.le, ?_⟩
      have htm : ∀ s : Qt → Int, tot (tm s rs2 x) = tot (tm s rs x) := fun s => tot_congr (fun j _ => by
        unfold tm
        by_cases hjl : j ∈ l
        · have hkf : kid rs (x : Int) j = false := by
            cases hkj : kid rs (x : Int) j with
            | false => rfl
            | true =>
              rcases hup j hjl with e | ⟨q, hq1, hq2⟩
              · subst e; exact absurd (kid_one hkj hkp) exp
              · exact absurd (kid_one hkj hq2 ▸ hq1) hxl
          rw [hkin _ j hjl, hkf]; rfl
        · rw [hkd _ j hjl, hpr j hjl])
      have e1 : cv rs2 x = cv rs x := by unfold cv; rw [htm, htm, htm]
      rw [e1]; exact hq.sum
end
end Go.Proofs.Ytoddadohmnaolaa
