import Derived.Test.YtoddadohmnaolaaEI
namespace Go.Proofs.Ytoddadohmnaolaa
open Go.RowKit

theorem pt_bounds (n : Int) : 0 ≤ pt n ∧ pt n ≤ 4611686018427387903 := by unfold pt; split <;> (try split) <;> omega
theorem good_bounds {q : Qt} (h : q.good) : (0 ≤ q.f ∧ q.f ≤ 4611686018427387903) ∧ (0 ≤ q.e ∧ q.e ≤ 4611686018427387903) ∧ (0 ≤ q.x ∧ q.x ≤ 4611686018427387903) := by
  obtain ⟨h1, h2, h3⟩ := h
  refine ⟨?_, ?_, ?_⟩
  · rw [← h1]; exact pt_bounds _
  · rw [← h2]; exact pt_bounds _
  · rw [← h3]; exact pt_bounds _
theorem Et_ext {w w' : World} {F : Nat → Prop} {b : Nat} (h : At w b w') (hf : F b) : Ext F w F w' := ⟨h.mod hf, fun _ h => .inl h⟩
section
variable (w : World) (F : Nat → Prop) (T : Nat) (rs : List (Option Er)) (last : Int)
set_option maxRecDepth 8000 in
set_option maxHeartbeats 6400000 in
theorem createOk_any (h : Et w F T rs last) (k : Nat) (r : Er) (hr : rs[k]? = some (some r)) (serial : Int) (q : Qt) (hg : q.good) (hs1 : last < serial) (hs2 : serial ≤ 4611686018427387903) (ha : (q.plus Qt.one).le r.le) (hle : r.le.ok) (hroom : ff rs < 16) :
    Calls Try.prog 18 #[.pointer (some ⟨T, 0, none⟩), .int .i64 (k : Int), .int .i64 serial, q.val] w fun x w' => x = .returned (.tuple #[.int .i64 (ff rs : Nat), .int .i64 0]) ∧ ∃ F', Et w' F' T ((rs.set (ff rs) (some (Er.new serial k q))).set k (some { r with le := r.le.less (q.plus Qt.one) })) serial ∧ Ext F w F' w' := by
  obtain ⟨g1, g2, g3⟩ := good_bounds hg
  have hqo : q.ok := by unfold Qt.ok; omega
  have hpo : (q.plus Qt.one).ok := by
    obtain ⟨a1, a2, a3⟩ := ha
    obtain ⟨l1, l2, l3⟩ := hle
    simp only [Qt.plus, Qt.one] at a1 a2 a3
    simp only [Qt.ok, Qt.plus, Qt.one]; omega
  obtain ⟨S, G, m, h⟩ := h
  have hff := h.ff_eq
  have hlen := h.len
  have hb1 := (Below.refl w.heap.size w).alloc (Nat.le_refl _) (.cells #[.int .i64 q.f, .int .i64 q.e, .int .i64 q.x] 39)
  have a1 := heap_alloc_new w (.cells #[.int .i64 q.f, .int .i64 q.e, .int .i64 q.x] 39)
  have h1 := h.below hb1
  have HNG : Hid (¬ G w.heap.size) := hide (fun e => by have := h.lt _ (h.fG _ e).1; omega)
  rcases h1.cases (k : Int) with ⟨_, h2⟩ | ⟨k', b, r', e1, hm, h3, h4, _, hR⟩
  · rw [look_nat, hr] at h2; cases h2
  obtain rfl : k = k' := by omega
  rw [hr] at h3; cases h3
  have HFb : Hid (F b ∧ w.heap.size ≠ b) := hide ⟨(h.own k b hm).1, fun e => by have := h.lt _ (h.own k b hm).1; omega⟩
  have HM := hide hm
  have HRr := hide hr
  have hfm : m[ff rs]? = some none := by rw [← hff]; exact ff_free (by rw [hff, h.len]; exact hroom)
  have HFM := hide hfm
  have hne : ff rs ≠ k := fun e => by rw [e, hm] at hfm; cases hfm
  have HNE := hide hne
  have HG := hide (getL_any _ G S m h1.tab (k : Int))
  rw [h4] at HG
  simp only [ptr, Option.isSome_some] at HG
  have HC1 := hide (fun W => isGood_any W q)
  rw [show decide q.good = true by simpa using hg] at HC1
  have HC2 := hide (fun W => price_any W q hqo)
  have haf : decide ((q.plus Qt.one).le r.le) = true := by simpa using ha
  have HC3 := hide (fun W (hb : Rb W b r) => affords_any W b r hb (q.plus Qt.one))
  rw [haf] at HC3
  have HC4 := hide (fun W => newRecord_any W serial (k : Int) q)
  have HC5 := hide (fun W (hb : Rb W b r) => carve_any W b r hb (q.plus Qt.one) hpo hle)
  have HPut : Hid (∀ W c, Tab KL W G S m → Calls Try.prog 45 #[.pointer (some ⟨S, 0, none⟩), .pointer (some ⟨c, 0, none⟩)] W fun x w' => x = .returned (.tuple #[.int .i64 (ff rs : Nat), .int .i64 0]) ∧ ∃ F', Tab KL w' F' S (m.set (ff rs) (some c)) ∧ Ext G W F' w') := hide (fun W c hT => by
    have h9 := (putL_any W G S m hT c).mono (fun _ _ h => h.1 (by rw [hff, hlen]; exact hroom))
    rw [hff] at h9; exact h9)
  have HE1 := hide h1
  have HB1 := hide hb1
  have HA1 := hide a1
  have hsl : ¬ serial ≤ last := by omega
  have hsm : ¬ 4611686018427387903 < serial := by omega
  obtain ⟨i, hi⟩ : ∃ i, ff rs = i := ⟨_, rfl⟩
  rw [hi] at HFM HNE HPut ⊢
  obtain ⟨r', hr'⟩ : ∃ r' : Er, { r with le := r.le.less (q.plus Qt.one) } = r' := ⟨_, rfl⟩
  rw [hr'] at HC5 ⊢
  obtain ⟨qp, hqp⟩ : ∃ qp, q.plus Qt.one = qp := ⟨_, rfl⟩
  rw [hqp] at HC2 HC3 HC5
  clear h h1 h4 hR hm hr hfm hne hb1 a1 hg g1 g2 g3 hqo hpo ha hle hroom hff hlen haf hs1 hs2 hi hr' hqp
  unfold Qt.val at *
  go_enter Try.func18, Try.ntmps18
  go_upto_region 1 with fail
  generalize w.alloc (.cells #[.int .i64 q.f, .int .i64 q.e, .int .i64 q.x] 39) = w1 at *
  obtain ⟨N, hN⟩ : ∃ N, w.heap.size = N := ⟨_, rfl⟩
  have HN := hide hN
  rw [hN] at HB1 HA1 HNG HFb ⊢
  clear hN
  have t0 := HE1.out.cell.1
  go_wp2_with fail
  refine HG.out.mono ?_
  rintro e1 w2 ⟨rfl, rfl⟩
  obtain ⟨c0, c1, c2, -, -, -⟩ := blk3 HA1.out
  go_wp2_with fail
  refine (HC1.out _).mono ?_
  rintro e1 w3 ⟨rfl, hb3⟩
  have HE3 := hide (HE1.out.below hb3)
  have HB3 := hide (HB1.out.trans (hb3.mono (by rw [← HN.out]; exact HB1.out.size)))
  have HA3 := hide ((hb3.block N (Array.getElem?_eq_some_iff.1 HA1.out).1).trans HA1.out)
  have t1 := HE3.out.cell.2.1
  clear hb3 c0 c1 c2 t0 HE1 HB1 HA1 HG HC1
  go_upto_region 6 with fail
  obtain ⟨w4, hw4⟩ : ∃ W, W = w3.drew := ⟨_, rfl⟩
  have HE4 : Hid (EtAt w4 F T S G m rs last) := by rw [hw4]; exact hide (HE3.out.keep (Nat.le_refl _) (fun _ _ => rfl))
  have HB4 : Hid (Below N w w4) := by rw [hw4]; exact hide HB3.out.drew
  have HA4 : Hid (w4.heap[N]? = some (.cells #[.int .i64 q.f, .int .i64 q.e, .int .i64 q.x] 39 (0, 0))) := by rw [hw4]; exact HA3
  refine wp_region_held_drew (S := fun W => W.heap[N]? = some (.cells #[.int .i64 q.f, .int .i64 q.e, .int .i64 q.x] 39 (0, 0))) (by kernel_rfl) (by rw [← hw4]; exact HA4.out) (fun _ => ?_)
  rw [← hw4]
  clear hw4 t1 HE3 HB3 HA3
  refine hd_take 0 (o := ⟨some 40, _, _, _, _, _⟩) (.pointer (some ⟨b, 0, none⟩)) (by kernel_rfl) (by kernel_rfl) (by kernel_rfl) rfl (by rfl) (fun W hSw => by go_simp) (fun _ _ _ h => h) HA4.out ?_
  simp only [Act.put, List.setIfInBounds_toArray, List.set_cons_zero, List.set_cons_succ]
  refine hd_take 1 (o := ⟨some 41, _, _, _, _, _⟩) (.pointer (some ⟨b, 0, none⟩)) (by kernel_rfl) (by kernel_rfl) (by kernel_rfl) rfl (by rfl) (fun W hSw => by go_simp) (fun _ _ _ h => h) HA4.out ?_
  simp only [Act.put, List.setIfInBounds_toArray, List.set_cons_zero, List.set_cons_succ]
  refine hd_take 2 (o := ⟨some 42, _, _, _, _, _⟩) (.pointer (some ⟨b, 21, none⟩)) (by kernel_rfl) (by kernel_rfl) (by kernel_rfl) rfl (by rfl) (fun W hSw => by go_simp) (fun _ _ _ h => h) HA4.out ?_
  simp only [Act.put, List.setIfInBounds_toArray, List.set_cons_zero, List.set_cons_succ]
  refine hd_take 3 (o := ⟨some 43, _, _, _, _, _⟩) (.agg #[.int .i64 q.f, .int .i64 q.e, .int .i64 q.x]) (by kernel_rfl) (by kernel_rfl) (by kernel_rfl) rfl (by rfl) (fun W hSw => by obtain ⟨c0, c1, c2, -, -, -⟩ := blk3 hSw; go_simp) (fun _ _ _ h => h) HA4.out ?_
  simp only [Act.put, List.setIfInBounds_toArray, List.set_cons_zero, List.set_cons_succ]
  refine hd_call 4 (o := ⟨some 44, _, _, _, _, _⟩) (by kernel_rfl) rfl (by rfl) (fun K hK => ?_)
  go_simp
  go_wp2_with (go_at_call 44; refine (HC2.out _).mono ?_; rintro e1 w5 ⟨rfl, hb5⟩)
  have HA5 := hide ((hb5.block N (Array.getElem?_eq_some_iff.1 HA4.out).1).trans HA4.out)
  have HE5 := hide (HE4.out.below hb5)
  have HB5 := hide (HB4.out.trans (hb5.mono (by rw [← HN.out]; exact HB4.out.size)))
  clear hb5
  refine hK _ _ HA5.out ?_
  clear hK K
  have hR5 : Rb w5 b r := by
    obtain ⟨e, q1, q2⟩ := HE5.out.held k b HM.out
    rw [HRr.out] at q1; cases q1; exact q2
  have HAf := hide (HC3.out w5 hR5)
  clear hR5
  try simp only [Act.put, List.setIfInBounds_toArray, List.set_cons_zero, List.set_cons_succ]
  refine hd_call 5 (o := ⟨some 45, _, _, _, _, _⟩) (by kernel_rfl) rfl (by rfl) (fun K hK => ?_)
  go_simp
  go_wp2_with (go_at_call 43; refine HAf.out.mono ?_; rintro e1 w6 ⟨rfl, hb6⟩)
  have HA6 := hide ((hb6.block N (Array.getElem?_eq_some_iff.1 HA5.out).1).trans HA5.out)
  have HE6 := hide (HE5.out.below hb6)
  have HB6 := hide (HB5.out.trans (hb6.mono (by rw [← HN.out]; exact HB5.out.size)))
  clear hb6
  refine hK _ _ HA6.out ?_
  clear hK K HAf
  try simp only [Act.put, List.setIfInBounds_toArray, List.set_cons_zero, List.set_cons_succ]
  refine hd_take 6 (o := ⟨some 46, _, _, _, _, _⟩) (.bool false) (by kernel_rfl) (by kernel_rfl) (by kernel_rfl) rfl (by rfl) (fun W hSw => by go_simp) (fun _ _ _ h => h) HA6.out ?_
  simp only [Act.put, List.setIfInBounds_toArray, List.set_cons_zero, List.set_cons_succ]
  refine wpAnyH_done (by kernel_rfl) ?_ _
  clear HA5 HE5 HB5 HA4 HE4 HB4
  go_upto_region 8 with fail
  obtain ⟨w7, hw7⟩ : ∃ W, W = w6.drew := ⟨_, rfl⟩
  have HE7 : Hid (EtAt w7 F T S G m rs last) := by rw [hw7]; exact hide (HE6.out.keep (Nat.le_refl _) (fun _ _ => rfl))
  have HB7 : Hid (Below N w w7) := by rw [hw7]; exact hide HB6.out.drew
  have HA7 : Hid (w7.heap[N]? = some (.cells #[.int .i64 q.f, .int .i64 q.e, .int .i64 q.x] 39 (0, 0))) := by rw [hw7]; exact HA6
  have HS7 : Hid (w7.cell? ⟨T, 0, none⟩ = some (.pointer (some ⟨S, 0, none⟩)) ∧ w7.heap[N]? = some (.cells #[.int .i64 q.f, .int .i64 q.e, .int .i64 q.x] 39 (0, 0))) := hide ⟨HE7.out.cell.1, HA7.out⟩
  refine wp_region_held_drew (S := fun W => W.cell? ⟨T, 0, none⟩ = some (.pointer (some ⟨S, 0, none⟩)) ∧ W.heap[N]? = some (.cells #[.int .i64 q.f, .int .i64 q.e, .int .i64 q.x] 39 (0, 0))) (by kernel_rfl) (by rw [← hw7]; exact HS7.out) (fun _ => ?_)
  rw [← hw7]
  clear hw7 HE6 HB6 HA6
  refine hd_take 0 (o := ⟨some 48, _, _, _, _, _⟩) (.pointer (some ⟨T, 0, none⟩)) (by kernel_rfl) (by kernel_rfl) (by kernel_rfl) rfl (by rfl) (fun W hSw => by go_simp) (fun _ _ _ h => h) HS7.out ?_
  simp only [Act.put, List.setIfInBounds_toArray, List.set_cons_zero, List.set_cons_succ]
  refine hd_take 1 (o := ⟨some 49, _, _, _, _, _⟩) (.pointer (some ⟨T, 0, none⟩)) (by kernel_rfl) (by kernel_rfl) (by kernel_rfl) rfl (by rfl) (fun W hSw => by go_simp) (fun _ _ _ h => h) HS7.out ?_
  simp only [Act.put, List.setIfInBounds_toArray, List.set_cons_zero, List.set_cons_succ]
  refine hd_take 2 (o := ⟨some 50, _, _, _, _, _⟩) (.pointer (some ⟨T, 0, none⟩)) (by kernel_rfl) (by kernel_rfl) (by kernel_rfl) rfl (by rfl) (fun W hSw => by go_simp) (fun _ _ _ h => h) HS7.out ?_
  simp only [Act.put, List.setIfInBounds_toArray, List.set_cons_zero, List.set_cons_succ]
  refine hd_take 3 (o := ⟨some 51, _, _, _, _, _⟩) (.pointer (some ⟨S, 0, none⟩)) (by kernel_rfl) (by kernel_rfl) (by kernel_rfl) rfl (by rfl) (fun W hSw => by have c0 := hSw.1; go_simp) (fun _ _ _ h => h) HS7.out ?_
  simp only [Act.put, List.setIfInBounds_toArray, List.set_cons_zero, List.set_cons_succ]
  refine hd_take 4 (o := ⟨some 52, _, _, _, _, _⟩) (.int .i64 serial) (by kernel_rfl) (by kernel_rfl) (by kernel_rfl) rfl (by rfl) (fun W hSw => by go_simp) (fun _ _ _ h => h) HS7.out ?_
  simp only [Act.put, List.setIfInBounds_toArray, List.set_cons_zero, List.set_cons_succ]
  refine hd_take 5 (o := ⟨some 53, _, _, _, _, _⟩) (.int .i64 (k : Int)) (by kernel_rfl) (by kernel_rfl) (by kernel_rfl) rfl (by rfl) (fun W hSw => by go_simp) (fun _ _ _ h => h) HS7.out ?_
  simp only [Act.put, List.setIfInBounds_toArray, List.set_cons_zero, List.set_cons_succ]
  refine hd_take 6 (o := ⟨some 54, _, _, _, _, _⟩) (.agg #[.int .i64 q.f, .int .i64 q.e, .int .i64 q.x]) (by kernel_rfl) (by kernel_rfl) (by kernel_rfl) rfl (by rfl) (fun W hSw => by obtain ⟨c0, c1, c2, -, -, -⟩ := blk3 hSw.2; go_simp) (fun _ _ _ h => h) HS7.out ?_
  simp only [Act.put, List.setIfInBounds_toArray, List.set_cons_zero, List.set_cons_succ]
  refine hd_call 7 (o := ⟨some 55, _, _, _, _, _⟩) (by kernel_rfl) rfl (by rfl) (fun K hK => ?_)
  go_simp
  go_wp2_with (go_at_call 46; refine (HC4.out _).mono ?_; rintro e1 w8 ⟨nb, rfl, hR8, hlb, hb8⟩)
  have HE8 := hide (HE7.out.below hb8)
  refine hK _ _ ⟨HE8.out.cell.1, (hb8.block N (Array.getElem?_eq_some_iff.1 HA7.out).1).trans HA7.out⟩ ?_
  have HB8 := hide hb8
  have HR8 := hide hR8
  have HLB := hide hlb
  have HP := hide (HPut.out w8 nb HE8.out.tab)
  clear hK K hb8 hR8 hlb HPut
  try simp only [Act.put, List.setIfInBounds_toArray, List.set_cons_zero, List.set_cons_succ]
  refine hd_call 8 (o := ⟨some 56, _, _, _, _, _⟩) (by kernel_rfl) rfl (by rfl) (fun K hK => ?_)
  go_simp
  go_wp2_with (go_at_call 45; refine HP.out.mono ?_; rintro e1 w9 ⟨rfl, G', hT9, hx9⟩)
  obtain ⟨hE9, hX9⟩ := HE7.out.opn (i := i) HFM.out HB8.out HLB.out HR8.out hT9 hx9
  have HA9 : Hid (w9.heap[N]? = some (.cells #[.int .i64 q.f, .int .i64 q.e, .int .i64 q.x] 39 (0, 0))) := hide (by
    have hl := (Array.getElem?_eq_some_iff.1 HA7.out).1
    rw [hx9.mod.block N (Nat.lt_of_lt_of_le hl HB8.out.size) HNG.out, HB8.out.block N hl]; exact HA7.out)
  have HS9 : Hid (w9.cell? ⟨T, 0, none⟩ = some (.pointer (some ⟨S, 0, none⟩)) ∧ w9.heap[N]? = some (.cells #[.int .i64 q.f, .int .i64 q.e, .int .i64 q.x] 39 (0, 0))) := hide ⟨hE9.cell.1, HA9.out⟩
  have HE9 := hide hE9
  have HX9 : Hid (Ext F w (fun x => F x ∨ x = nb ∨ G' x) w9) := hide (Ext.trans (⟨⟨HB7.out.os, HB7.out.tape, HB7.out.output, HB7.out.size, fun c hc _ => HB7.out.block c (by rw [← HN.out]; exact hc)⟩, fun _ h => .inl h⟩ : Ext F w F w7) hX9)
  refine hK _ _ HS9.out ?_
  clear hK K HP hE9 hX9 hT9 hx9 HE8 HB8 HR8 HLB
  try simp only [Act.put, List.setIfInBounds_toArray, List.set_cons_zero, List.set_cons_succ]
  refine hd_take 9 (o := ⟨some 47, _, _, _, _, _⟩) (.tuple #[.int .i64 (i : Nat), .int .i64 0]) (by kernel_rfl) (by kernel_rfl) (by kernel_rfl) rfl (by rfl) (fun W hSw => by go_simp) (fun _ _ _ h => h) HS9.out ?_
  simp only [Act.put, List.setIfInBounds_toArray, List.set_cons_zero, List.set_cons_succ]
  refine hd_take 10 (o := ⟨some 57, _, _, _, _, _⟩) (.int .i64 (i : Nat)) (by kernel_rfl) (by kernel_rfl) (by kernel_rfl) rfl (by rfl) (fun W hSw => by go_simp) (fun _ _ _ h => h) HS9.out ?_
  simp only [Act.put, List.setIfInBounds_toArray, List.set_cons_zero, List.set_cons_succ]
  refine hd_take 11 (o := ⟨some 58, _, _, _, _, _⟩) (.int .i64 0) (by kernel_rfl) (by kernel_rfl) (by kernel_rfl) rfl (by rfl) (fun W hSw => by go_simp) (fun _ _ _ h => h) HS9.out ?_
  simp only [Act.put, List.setIfInBounds_toArray, List.set_cons_zero, List.set_cons_succ]
  refine hd_take 12 (o := ⟨some 12, _, _, _, _, _⟩) (.int .i64 (i : Nat)) (by kernel_rfl) (by kernel_rfl) (by kernel_rfl) rfl (by rfl) (fun W hSw => by go_simp) (fun _ _ _ h => h) HS9.out ?_
  simp only [Act.put, List.setIfInBounds_toArray, List.set_cons_zero, List.set_cons_succ]
  refine hd_take 13 (o := ⟨some 13, _, _, _, _, _⟩) (.int .i64 0) (by kernel_rfl) (by kernel_rfl) (by kernel_rfl) rfl (by rfl) (fun W hSw => by go_simp) (fun _ _ _ h => h) HS9.out ?_
  simp only [Act.put, List.setIfInBounds_toArray, List.set_cons_zero, List.set_cons_succ]
  refine wpAnyH_done (by kernel_rfl) ?_ _
  go_upto_region 11 with fail
  obtain ⟨F9, hF9⟩ : ∃ F9, (fun x => F x ∨ x = nb ∨ G' x) = F9 := ⟨_, rfl⟩
  have HF9b : Hid (F9 b) := hide (by rw [← hF9]; exact .inl HFb.out.1)
  rw [hF9] at HE9 HX9
  clear hF9
  have HM9 : Hid ((m.set i (some nb))[k]? = some (some b)) := hide (by rw [List.getElem?_set_ne HNE.out]; exact HM.out)
  have HR9 : Hid ((rs.set i (some (Er.new serial (k : Int) q)))[k]? = some (some r)) := hide (by rw [List.getElem?_set_ne HNE.out]; exact HRr.out)
  generalize m.set i (some nb) = m9 at *
  obtain ⟨w10, hw10⟩ : ∃ W, W = w9.drew := ⟨_, rfl⟩
  have HE10 : Hid (EtAt w10 F9 T S G' m9 (rs.set i (some (Er.new serial (k : Int) q))) last) := by rw [hw10]; exact hide (HE9.out.keep (Nat.le_refl _) (fun _ _ => rfl))
  have HX10 : Hid (Ext F w F9 w10) := by rw [hw10]; exact hide ⟨⟨HX9.out.mod.os, HX9.out.mod.tape, HX9.out.mod.output, HX9.out.mod.size, HX9.out.mod.block⟩, HX9.out.new⟩
  have HA10 : Hid (w10.heap[N]? = some (.cells #[.int .i64 q.f, .int .i64 q.e, .int .i64 q.x] 39 (0, 0))) := by rw [hw10]; exact HA9
  refine wp_region_held_drew (S := fun W => W.heap[N]? = some (.cells #[.int .i64 q.f, .int .i64 q.e, .int .i64 q.x] 39 (0, 0))) (by kernel_rfl) (by rw [← hw10]; exact HA10.out) (fun _ => ?_)
  rw [← hw10]
  clear hw10 HE9 HX9 HA9 HS9 HE7 HB7 HA7 HS7
  refine hd_take 0 (o := ⟨some 62, _, _, _, _, _⟩) (.pointer (some ⟨b, 0, none⟩)) (by kernel_rfl) (by kernel_rfl) (by kernel_rfl) rfl (by rfl) (fun W hSw => by go_simp) (fun _ _ _ h => h) HA10.out ?_
  simp only [Act.put, List.setIfInBounds_toArray, List.set_cons_zero, List.set_cons_succ]
  refine hd_take 1 (o := ⟨some 63, _, _, _, _, _⟩) (.pointer (some ⟨b, 0, none⟩)) (by kernel_rfl) (by kernel_rfl) (by kernel_rfl) rfl (by rfl) (fun W hSw => by go_simp) (fun _ _ _ h => h) HA10.out ?_
  simp only [Act.put, List.setIfInBounds_toArray, List.set_cons_zero, List.set_cons_succ]
  refine hd_take 2 (o := ⟨some 64, _, _, _, _, _⟩) (.pointer (some ⟨b, 21, none⟩)) (by kernel_rfl) (by kernel_rfl) (by kernel_rfl) rfl (by rfl) (fun W hSw => by go_simp) (fun _ _ _ h => h) HA10.out ?_
  simp only [Act.put, List.setIfInBounds_toArray, List.set_cons_zero, List.set_cons_succ]
  refine hd_take 3 (o := ⟨some 65, _, _, _, _, _⟩) (.agg #[.int .i64 q.f, .int .i64 q.e, .int .i64 q.x]) (by kernel_rfl) (by kernel_rfl) (by kernel_rfl) rfl (by rfl) (fun W hSw => by obtain ⟨c0, c1, c2, -, -, -⟩ := blk3 hSw; go_simp) (fun _ _ _ h => h) HA10.out ?_
  simp only [Act.put, List.setIfInBounds_toArray, List.set_cons_zero, List.set_cons_succ]
  refine hd_call 4 (o := ⟨some 66, _, _, _, _, _⟩) (by kernel_rfl) rfl (by rfl) (fun K hK => ?_)
  go_simp
  go_wp2_with (go_at_call 44; refine (HC2.out _).mono ?_; rintro e1 w11 ⟨rfl, hb11⟩)
  have HA11 := hide ((hb11.block N (Array.getElem?_eq_some_iff.1 HA10.out).1).trans HA10.out)
  have HE11 := hide (HE10.out.below hb11)
  have HX11 : Hid (Ext F w F9 w11) := hide (HX10.out.trans (⟨⟨hb11.os, hb11.tape, hb11.output, hb11.size, fun c hc _ => hb11.block c hc⟩, fun _ h => .inl h⟩ : Ext F9 w10 F9 w11))
  clear hb11
  refine hK _ _ HA11.out ?_
  clear hK K
  have hR11 : Rb w11 b r := by
    obtain ⟨e, q1, q2⟩ := HE11.out.held k b HM9.out
    rw [HR9.out] at q1; cases q1; exact q2
  have HCa := hide (HC5.out w11 hR11)
  clear hR11
  try simp only [Act.put, List.setIfInBounds_toArray, List.set_cons_zero, List.set_cons_succ]
  refine hd_call 5 (o := ⟨some 67, _, _, _, _, _⟩) (by kernel_rfl) rfl (by rfl) (fun K hK => ?_)
  go_simp
  go_wp2_with (go_at_call 47; refine HCa.out.mono ?_; rintro e1 w12 ⟨rfl, hR12, hA12⟩)
  have HE12 := hide (HE11.out.upd HM9.out hA12.size hA12.block hR12)
  have HX12 : Hid (Ext F w F9 w12) := hide (HX11.out.trans (Et_ext hA12 HF9b.out))
  have HA12 := hide ((hA12.block N (Array.getElem?_eq_some_iff.1 HA11.out).1 HFb.out.2).trans HA11.out)
  clear hR12 hA12
  refine hK _ _ HA12.out ?_
  clear hK K HCa
  refine wpAnyH_done (by kernel_rfl) ?_ _
  have t1 := HE12.out.cell.2.1
  have tf := HE12.out.cell.2.2
  have HE13 := hide (HE12.out.setLast serial)
  have HX13 : Hid (Ext F w F9 (w12.setCell ⟨T, 1, none⟩ (.int .i64 serial))) := hide (HX12.out.trans (Et_ext ((At.refl w12 T).set 1 _) HE12.out.fT))
  clear HE10 HX10 HA10 HE11 HX11 HA11
  go_wp2
  go_ret2
  exact ⟨rfl, F9, ⟨S, G', m9, HE13.out⟩, HX13.out⟩
end
end Go.Proofs.Ytoddadohmnaolaa
