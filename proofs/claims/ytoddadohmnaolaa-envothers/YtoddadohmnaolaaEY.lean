import Derived.Test.YtoddadohmnaolaaEX
namespace Go.Proofs.Ytoddadohmnaolaa
open Go.RowKit Go.Shelf

section
variable (w : World) (F : Nat → Prop) (T : Nat) (rs : List (Option Er)) (last : Int)
set_option maxHeartbeats 800000 in
theorem createNone_any (h : Et w F T rs last) (e : Int) (hn : look rs e = none) (serial : Int) (q : Qt) : Calls Try.prog 18 #[.pointer (some ⟨T, 0, none⟩), .int .i64 e, .int .i64 serial, q.val] w fun x w' => x = .returned (.tuple #[.int .i64 (-1), .int .i64 90]) ∧ Below w.heap.size w w' := by
  have hb1 := (Below.refl w.heap.size w).alloc (Nat.le_refl _) (.cells #[.int .i64 q.f, .int .i64 q.e, .int .i64 q.x] 39)
  obtain ⟨S, G, m, h⟩ := h
  have h1 := h.below hb1
  have c0 := h1.cell.1
  have HG := hide (getL_any _ G S m h1.tab e)
  have HB := hide hb1
  rcases h.cases e with ⟨h2, _⟩ | ⟨k', b, r', e1, hm, h3, h4, h5, hR⟩
  · rw [h2] at HG
    simp only [ptr, Option.isSome_none] at HG
    clear h h1 h2 hb1
    unfold Qt.val
    go_enter Try.func18, Try.ntmps18
    go_wp2_with fail
    refine HG.out.mono ?_
    rintro e1 w1 ⟨rfl, rfl⟩
    go_wp2
    go_ret2
    exact ⟨rfl, HB.out⟩
  · rw [hn] at h5; cases h5
set_option maxRecDepth 8000 in
set_option maxHeartbeats 6400000 in
theorem createBad1_any (h : Et w F T rs last) (k : Nat) (r : Er) (hr : rs[k]? = some (some r)) (serial : Int) (q : Qt) (hg : ¬ q.good) : Calls Try.prog 18 #[.pointer (some ⟨T, 0, none⟩), .int .i64 (k : Int), .int .i64 serial, q.val] w fun x w' => x = .returned (.tuple #[.int .i64 (-1), .int .i64 1]) ∧ Below w.heap.size w w' := by
  have hb1 := (Below.refl w.heap.size w).alloc (Nat.le_refl _) (.cells #[.int .i64 q.f, .int .i64 q.e, .int .i64 q.x] 39)
  have a1 := heap_alloc_new w (.cells #[.int .i64 q.f, .int .i64 q.e, .int .i64 q.x] 39)
  obtain ⟨S, G, m, h⟩ := h
  have h1 := h.below hb1
  rcases h1.cases (k : Int) with ⟨_, h2⟩ | ⟨k', b, r', e1, hm, h3, h4, _, hR⟩
  · rw [look_nat, hr] at h2; cases h2
  obtain rfl : k = k' := by omega
  rw [hr] at h3; cases h3
  have HM := hide hm
  have HRr := hide hr
  have HG := hide (getL_any _ G S m h1.tab (k : Int))
  rw [h4] at HG
  simp only [ptr, Option.isSome_some] at HG
  have HC1 := hide (fun W => isGood_any W q)
  have HE1 := hide h1
  have HB1 := hide hb1
  have HA1 := hide a1
  rw [show decide q.good = false by simpa using hg] at HC1
  clear h h1 h4 hR hm hr hb1 a1 hg
  unfold Qt.val at *
  go_enter Try.func18, Try.ntmps18
  go_upto_region 1 with fail
  generalize w.alloc (.cells #[.int .i64 q.f, .int .i64 q.e, .int .i64 q.x] 39) = w1 at *
  obtain ⟨N, hN⟩ : ∃ N, w.heap.size = N := ⟨_, rfl⟩
  have HN := hide hN
  rw [hN] at HB1 HA1 ⊢
  clear hN
  have t0 := HE1.out.cell.1
  go_wp2_with fail
  refine HG.out.mono ?_
  rintro e1 w2 ⟨rfl, rfl⟩
  obtain ⟨c0, c1, c2, -, -, -⟩ := blk3 HA1.out
  go_wp2_with fail
  refine (HC1.out _).mono ?_
  rintro e1 w3 ⟨rfl, hb3⟩
  have HE3 := hide (HE1.out.below hb3)
  have HB3 := hide (HB1.out.trans (hb3.mono (by rw [← HN.out]; exact HB1.out.size)))
  have HA3 := hide ((hb3.block N (Array.getElem?_eq_some_iff.1 HA1.out).1).trans HA1.out)
  have t1 := HE3.out.cell.2.1
  clear hb3 c0 c1 c2 t0 HE1 HB1 HA1 HG HC1
  go_wp2
  go_ret2
  exact ⟨rfl, by rw [HN.out]; exact HB3.out⟩
set_option maxRecDepth 8000 in
set_option maxHeartbeats 6400000 in
theorem createBad2_any (h : Et w F T rs last) (k : Nat) (r : Er) (hr : rs[k]? = some (some r)) (serial : Int) (q : Qt) (hg : q.good) (hs : serial ≤ last) : Calls Try.prog 18 #[.pointer (some ⟨T, 0, none⟩), .int .i64 (k : Int), .int .i64 serial, q.val] w fun x w' => x = .returned (.tuple #[.int .i64 (-1), .int .i64 1]) ∧ Below w.heap.size w w' := by
  have hb1 := (Below.refl w.heap.size w).alloc (Nat.le_refl _) (.cells #[.int .i64 q.f, .int .i64 q.e, .int .i64 q.x] 39)
  have a1 := heap_alloc_new w (.cells #[.int .i64 q.f, .int .i64 q.e, .int .i64 q.x] 39)
  obtain ⟨S, G, m, h⟩ := h
  have h1 := h.below hb1
  rcases h1.cases (k : Int) with ⟨_, h2⟩ | ⟨k', b, r', e1, hm, h3, h4, _, hR⟩
  · rw [look_nat, hr] at h2; cases h2
  obtain rfl : k = k' := by omega
  rw [hr] at h3; cases h3
  have HM := hide hm
  have HRr := hide hr
  have HG := hide (getL_any _ G S m h1.tab (k : Int))
  rw [h4] at HG
  simp only [ptr, Option.isSome_some] at HG
  have HC1 := hide (fun W => isGood_any W q)
  have HE1 := hide h1
  have HB1 := hide hb1
  have HA1 := hide a1
  rw [show decide q.good = true by simpa using hg] at HC1
  clear h h1 h4 hR hm hr hb1 a1 hg
  unfold Qt.val at *
  go_enter Try.func18, Try.ntmps18
  go_upto_region 1 with fail
  generalize w.alloc (.cells #[.int .i64 q.f, .int .i64 q.e, .int .i64 q.x] 39) = w1 at *
  obtain ⟨N, hN⟩ : ∃ N, w.heap.size = N := ⟨_, rfl⟩
  have HN := hide hN
  rw [hN] at HB1 HA1 ⊢
  clear hN
  have t0 := HE1.out.cell.1
  go_wp2_with fail
  refine HG.out.mono ?_
  rintro e1 w2 ⟨rfl, rfl⟩
  obtain ⟨c0, c1, c2, -, -, -⟩ := blk3 HA1.out
  go_wp2_with fail
  refine (HC1.out _).mono ?_
  rintro e1 w3 ⟨rfl, hb3⟩
  have HE3 := hide (HE1.out.below hb3)
  have HB3 := hide (HB1.out.trans (hb3.mono (by rw [← HN.out]; exact HB1.out.size)))
  have HA3 := hide ((hb3.block N (Array.getElem?_eq_some_iff.1 HA1.out).1).trans HA1.out)
  have t1 := HE3.out.cell.2.1
  clear hb3 c0 c1 c2 t0 HE1 HB1 HA1 HG HC1
  go_wp2
  go_ret2
  exact ⟨rfl, by rw [HN.out]; exact HB3.out⟩
set_option maxRecDepth 8000 in
set_option maxHeartbeats 6400000 in
theorem createBad3_any (h : Et w F T rs last) (k : Nat) (r : Er) (hr : rs[k]? = some (some r)) (serial : Int) (q : Qt) (hg : q.good) (hs : last < serial) (hx : 4611686018427387903 < serial) : Calls Try.prog 18 #[.pointer (some ⟨T, 0, none⟩), .int .i64 (k : Int), .int .i64 serial, q.val] w fun x w' => x = .returned (.tuple #[.int .i64 (-1), .int .i64 1]) ∧ Below w.heap.size w w' := by
  have hb1 := (Below.refl w.heap.size w).alloc (Nat.le_refl _) (.cells #[.int .i64 q.f, .int .i64 q.e, .int .i64 q.x] 39)
  have a1 := heap_alloc_new w (.cells #[.int .i64 q.f, .int .i64 q.e, .int .i64 q.x] 39)
  obtain ⟨S, G, m, h⟩ := h
  have h1 := h.below hb1
  rcases h1.cases (k : Int) with ⟨_, h2⟩ | ⟨k', b, r', e1, hm, h3, h4, _, hR⟩
  · rw [look_nat, hr] at h2; cases h2
  obtain rfl : k = k' := by omega
  rw [hr] at h3; cases h3
  have HM := hide hm
  have HRr := hide hr
  have HG := hide (getL_any _ G S m h1.tab (k : Int))
  rw [h4] at HG
  simp only [ptr, Option.isSome_some] at HG
  have HC1 := hide (fun W => isGood_any W q)
  have HE1 := hide h1
  have HB1 := hide hb1
  have HA1 := hide a1
  rw [show decide q.good = true by simpa using hg] at HC1
  clear h h1 h4 hR hm hr hb1 a1 hg
  have hsl : ¬ serial ≤ last := by omega
  clear hs
  unfold Qt.val at *
  go_enter Try.func18, Try.ntmps18
  go_upto_region 1 with fail
  generalize w.alloc (.cells #[.int .i64 q.f, .int .i64 q.e, .int .i64 q.x] 39) = w1 at *
  obtain ⟨N, hN⟩ : ∃ N, w.heap.size = N := ⟨_, rfl⟩
  have HN := hide hN
  rw [hN] at HB1 HA1 ⊢
  clear hN
  have t0 := HE1.out.cell.1
  go_wp2_with fail
  refine HG.out.mono ?_
  rintro e1 w2 ⟨rfl, rfl⟩
  obtain ⟨c0, c1, c2, -, -, -⟩ := blk3 HA1.out
  go_wp2_with fail
  refine (HC1.out _).mono ?_
  rintro e1 w3 ⟨rfl, hb3⟩
  have HE3 := hide (HE1.out.below hb3)
  have HB3 := hide (HB1.out.trans (hb3.mono (by rw [← HN.out]; exact HB1.out.size)))
  have HA3 := hide ((hb3.block N (Array.getElem?_eq_some_iff.1 HA1.out).1).trans HA1.out)
  have t1 := HE3.out.cell.2.1
  clear hb3 c0 c1 c2 t0 HE1 HB1 HA1 HG HC1
  go_wp2
  go_ret2
  exact ⟨rfl, by rw [HN.out]; exact HB3.out⟩
set_option maxRecDepth 8000 in
set_option maxHeartbeats 6400000 in
theorem createFull_any (h : Et w F T rs last) (k : Nat) (r : Er) (hr : rs[k]? = some (some r)) (serial : Int) (q : Qt) (hg : q.good) (hs1 : last < serial) (hs2 : serial ≤ 4611686018427387903) (ha : ¬ (q.plus Qt.one).le r.le) : Calls Try.prog 18 #[.pointer (some ⟨T, 0, none⟩), .int .i64 (k : Int), .int .i64 serial, q.val] w fun x w' => x = .returned (.tuple #[.int .i64 (-1), .int .i64 2]) ∧ Below w.heap.size w w' := by
  have hb1 := (Below.refl w.heap.size w).alloc (Nat.le_refl _) (.cells #[.int .i64 q.f, .int .i64 q.e, .int .i64 q.x] 39)
  have a1 := heap_alloc_new w (.cells #[.int .i64 q.f, .int .i64 q.e, .int .i64 q.x] 39)
  obtain ⟨S, G, m, h⟩ := h
  have h1 := h.below hb1
  rcases h1.cases (k : Int) with ⟨_, h2⟩ | ⟨k', b, r', e1, hm, h3, h4, _, hR⟩
  · rw [look_nat, hr] at h2; cases h2
  obtain rfl : k = k' := by omega
  rw [hr] at h3; cases h3
  have HM := hide hm
  have HRr := hide hr
  have HG := hide (getL_any _ G S m h1.tab (k : Int))
  rw [h4] at HG
  simp only [ptr, Option.isSome_some] at HG
  have HC1 := hide (fun W => isGood_any W q)
  have HE1 := hide h1
  have HB1 := hide hb1
  have HA1 := hide a1
  rw [show decide q.good = true by simpa using hg] at HC1
  have HC2 := hide (fun W => price_any W q (good_ok hg))
  have HC3 := hide (fun W (hb : Rb W b r) => affords_any W b r hb (q.plus Qt.one))
  rw [show decide ((q.plus Qt.one).le r.le) = false by simpa using ha] at HC3
  obtain ⟨qp, hqp⟩ : ∃ qp, q.plus Qt.one = qp := ⟨_, rfl⟩
  rw [hqp] at HC2 HC3
  have hsl : ¬ serial ≤ last := by omega
  have hsm : ¬ 4611686018427387903 < serial := by omega
  clear h h1 h4 hR hm hr hb1 a1 hg ha hs1 hs2 hqp
  unfold Qt.val at *
  go_enter Try.func18, Try.ntmps18
  go_upto_region 1 with fail
  generalize w.alloc (.cells #[.int .i64 q.f, .int .i64 q.e, .int .i64 q.x] 39) = w1 at *
  obtain ⟨N, hN⟩ : ∃ N, w.heap.size = N := ⟨_, rfl⟩
  have HN := hide hN
  rw [hN] at HB1 HA1 ⊢
  clear hN
  have t0 := HE1.out.cell.1
  go_wp2_with fail
  refine HG.out.mono ?_
  rintro e1 w2 ⟨rfl, rfl⟩
  obtain ⟨c0, c1, c2, -, -, -⟩ := blk3 HA1.out
  go_wp2_with fail
  refine (HC1.out _).mono ?_
  rintro e1 w3 ⟨rfl, hb3⟩
  have HE3 := hide (HE1.out.below hb3)
  have HB3 := hide (HB1.out.trans (hb3.mono (by rw [← HN.out]; exact HB1.out.size)))
  have HA3 := hide ((hb3.block N (Array.getElem?_eq_some_iff.1 HA1.out).1).trans HA1.out)
  have t1 := HE3.out.cell.2.1
  clear hb3 c0 c1 c2 t0 HE1 HB1 HA1 HG HC1
  go_upto_region 6 with fail
  obtain ⟨w4, hw4⟩ : ∃ W, W = w3.drew := ⟨_, rfl⟩
  have HE4 : Hid (EtAt w4 F T S G m rs last) := by rw [hw4]; exact hide (HE3.out.keep (Nat.le_refl _) (fun _ _ => rfl))
  have HB4 : Hid (Below N w w4) := by rw [hw4]; exact hide HB3.out.drew
  have HA4 : Hid (w4.heap[N]? = some (.cells #[.int .i64 q.f, .int .i64 q.e, .int .i64 q.x] 39 (0, 0))) := by rw [hw4]; exact HA3
  refine wp_region_held_drew (S := fun W => W.heap[N]? = some (.cells #[.int .i64 q.f, .int .i64 q.e, .int .i64 q.x] 39 (0, 0))) (by kernel_rfl) (by rw [← hw4]; exact HA4.out) (fun _ => ?_)
  rw [← hw4]
  clear hw4 t1 HE3 HB3 HA3
  refine hd_take 0 (o := ⟨some 40, _, _, _, _, _⟩) (.pointer (some ⟨b, 0, none⟩)) (by kernel_rfl) (by kernel_rfl) (by kernel_rfl) rfl (by rfl) (fun W hSw => by go_simp) (fun _ _ _ h => h) HA4.out ?_
  simp only [Act.put, List.setIfInBounds_toArray, List.set_cons_zero, List.set_cons_succ]
  refine hd_take 1 (o := ⟨some 41, _, _, _, _, _⟩) (.pointer (some ⟨b, 0, none⟩)) (by kernel_rfl) (by kernel_rfl) (by kernel_rfl) rfl (by rfl) (fun W hSw => by go_simp) (fun _ _ _ h => h) HA4.out ?_
  simp only [Act.put, List.setIfInBounds_toArray, List.set_cons_zero, List.set_cons_succ]
  refine hd_take 2 (o := ⟨some 42, _, _, _, _, _⟩) (.pointer (some ⟨b, 21, none⟩)) (by kernel_rfl) (by kernel_rfl) (by kernel_rfl) rfl (by rfl) (fun W hSw => by go_simp) (fun _ _ _ h => h) HA4.out ?_
  simp only [Act.put, List.setIfInBounds_toArray, List.set_cons_zero, List.set_cons_succ]
  refine hd_take 3 (o := ⟨some 43, _, _, _, _, _⟩) (.agg #[.int .i64 q.f, .int .i64 q.e, .int .i64 q.x]) (by kernel_rfl) (by kernel_rfl) (by kernel_rfl) rfl (by rfl) (fun W hSw => by obtain ⟨c0, c1, c2, -, -, -⟩ := blk3 hSw; go_simp) (fun _ _ _ h => h) HA4.out ?_
  simp only [Act.put, List.setIfInBounds_toArray, List.set_cons_zero, List.set_cons_succ]
  refine hd_call 4 (o := ⟨some 44, _, _, _, _, _⟩) (by kernel_rfl) rfl (by rfl) (fun K hK => ?_)
  go_simp
  go_wp2_with (go_at_call 44; refine (HC2.out _).mono ?_; rintro e1 w5 ⟨rfl, hb5⟩)
  have HA5 := hide ((hb5.block N (Array.getElem?_eq_some_iff.1 HA4.out).1).trans HA4.out)
  have HE5 := hide (HE4.out.below hb5)
  have HB5 := hide (HB4.out.trans (hb5.mono (by rw [← HN.out]; exact HB4.out.size)))
  clear hb5
  refine hK _ _ HA5.out ?_
  clear hK K
  have hR5 : Rb w5 b r := by
    obtain ⟨e, q1, q2⟩ := HE5.out.held k b HM.out
    rw [HRr.out] at q1; cases q1; exact q2
  have HAf := hide (HC3.out w5 hR5)
  clear hR5
  try simp only [Act.put, List.setIfInBounds_toArray, List.set_cons_zero, List.set_cons_succ]
  refine hd_call 5 (o := ⟨some 45, _, _, _, _, _⟩) (by kernel_rfl) rfl (by rfl) (fun K hK => ?_)
  go_simp
  go_wp2_with (go_at_call 43; refine HAf.out.mono ?_; rintro e1 w6 ⟨rfl, hb6⟩)
  have HA6 := hide ((hb6.block N (Array.getElem?_eq_some_iff.1 HA5.out).1).trans HA5.out)
  have HE6 := hide (HE5.out.below hb6)
  have HB6 := hide (HB5.out.trans (hb6.mono (by rw [← HN.out]; exact HB5.out.size)))
  clear hb6
  refine hK _ _ HA6.out ?_
  clear hK K HAf
  try simp only [Act.put, List.setIfInBounds_toArray, List.set_cons_zero, List.set_cons_succ]
  refine hd_take 6 (o := ⟨some 46, _, _, _, _, _⟩) (.bool true) (by kernel_rfl) (by kernel_rfl) (by kernel_rfl) rfl (by rfl) (fun W hSw => by go_simp) (fun _ _ _ h => h) HA6.out ?_
  simp only [Act.put, List.setIfInBounds_toArray, List.set_cons_zero, List.set_cons_succ]
  refine wpAnyH_done (by kernel_rfl) ?_ _
  clear HA5 HE5 HB5 HA4 HE4 HB4
  go_wp2
  go_ret2
  exact ⟨rfl, by rw [HN.out]; exact HB6.out⟩
set_option maxRecDepth 8000 in
set_option maxHeartbeats 6400000 in
theorem createRoom_any (h : Et w F T rs last) (k : Nat) (r : Er) (hr : rs[k]? = some (some r)) (serial : Int) (q : Qt) (hg : q.good) (hs1 : last < serial) (hs2 : serial ≤ 4611686018427387903) (ha : (q.plus Qt.one).le r.le) (hroom : ff rs = 16) : Calls Try.prog 18 #[.pointer (some ⟨T, 0, none⟩), .int .i64 (k : Int), .int .i64 serial, q.val] w fun x w' => x = .returned (.tuple #[.int .i64 (-1), .int .i64 2]) ∧ Below w.heap.size w w' := by
  have hb1 := (Below.refl w.heap.size w).alloc (Nat.le_refl _) (.cells #[.int .i64 q.f, .int .i64 q.e, .int .i64 q.x] 39)
  have a1 := heap_alloc_new w (.cells #[.int .i64 q.f, .int .i64 q.e, .int .i64 q.x] 39)
  obtain ⟨S, G, m, h⟩ := h
  have h1 := h.below hb1
  rcases h1.cases (k : Int) with ⟨_, h2⟩ | ⟨k', b, r', e1, hm, h3, h4, _, hR⟩
  · rw [look_nat, hr] at h2; cases h2
  obtain rfl : k = k' := by omega
  rw [hr] at h3; cases h3
  have HM := hide hm
  have HRr := hide hr
  have HG := hide (getL_any _ G S m h1.tab (k : Int))
  rw [h4] at HG
  simp only [ptr, Option.isSome_some] at HG
  have HC1 := hide (fun W => isGood_any W q)
  have HE1 := hide h1
  have HB1 := hide hb1
  have HA1 := hide a1
  rw [show decide q.good = true by simpa using hg] at HC1
  have HC2 := hide (fun W => price_any W q (good_ok hg))
  have HC3 := hide (fun W (hb : Rb W b r) => affords_any W b r hb (q.plus Qt.one))
  rw [show decide ((q.plus Qt.one).le r.le) = true by simpa using ha] at HC3
  obtain ⟨qp, hqp⟩ : ∃ qp, q.plus Qt.one = qp := ⟨_, rfl⟩
  rw [hqp] at HC2 HC3
  have hsl : ¬ serial ≤ last := by omega
  have hsm : ¬ 4611686018427387903 < serial := by omega
  have HC4 := hide (fun W => newRecord_any W serial (k : Int) q)
  have HPut : Hid (∀ W c, Tab KL W G S m → Calls Try.prog 45 #[.pointer (some ⟨S, 0, none⟩), .pointer (some ⟨c, 0, none⟩)] W fun x w' => x = .returned (.tuple #[.int .i64 (-1), .int .i64 2]) ∧ w' = W) := hide (fun W c hT => by
    exact (putL_any W G S m hT c).mono (fun _ _ h9 => h9.2 (by rw [h.ff_eq, h.len]; exact hroom)))
  clear h h1 h4 hR hm hr hb1 a1 hg ha hs1 hs2 hqp hroom
  unfold Qt.val at *
  go_enter Try.func18, Try.ntmps18
  go_upto_region 1 with fail
  generalize w.alloc (.cells #[.int .i64 q.f, .int .i64 q.e, .int .i64 q.x] 39) = w1 at *
  obtain ⟨N, hN⟩ : ∃ N, w.heap.size = N := ⟨_, rfl⟩
  have HN := hide hN
  rw [hN] at HB1 HA1 ⊢
  clear hN
  have t0 := HE1.out.cell.1
  go_wp2_with fail
  refine HG.out.mono ?_
  rintro e1 w2 ⟨rfl, rfl⟩
  obtain ⟨c0, c1, c2, -, -, -⟩ := blk3 HA1.out
  go_wp2_with fail
  refine (HC1.out _).mono ?_
  rintro e1 w3 ⟨rfl, hb3⟩
  have HE3 := hide (HE1.out.below hb3)
  have HB3 := hide (HB1.out.trans (hb3.mono (by rw [← HN.out]; exact HB1.out.size)))
  have HA3 := hide ((hb3.block N (Array.getElem?_eq_some_iff.1 HA1.out).1).trans HA1.out)
  have t1 := HE3.out.cell.2.1
  clear hb3 c0 c1 c2 t0 HE1 HB1 HA1 HG HC1
  go_upto_region 6 with fail
  obtain ⟨w4, hw4⟩ : ∃ W, W = w3.drew := ⟨_, rfl⟩
  have HE4 : Hid (EtAt w4 F T S G m rs last) := by rw [hw4]; exact hide (HE3.out.keep (Nat.le_refl _) (fun _ _ => rfl))
  have HB4 : Hid (Below N w w4) := by rw [hw4]; exact hide HB3.out.drew
  have HA4 : Hid (w4.heap[N]? = some (.cells #[.int .i64 q.f, .int .i64 q.e, .int .i64 q.x] 39 (0, 0))) := by rw [hw4]; exact HA3
  refine wp_region_held_drew (S := fun W => W.heap[N]? = some (.cells #[.int .i64 q.f, .int .i64 q.e, .int .i64 q.x] 39 (0, 0))) (by kernel_rfl) (by rw [← hw4]; exact HA4.out) (fun _ => ?_)
  rw [← hw4]
  clear hw4 t1 HE3 HB3 HA3
  refine hd_take 0 (o := ⟨some 40, _, _, _, _, _⟩) (.pointer (some ⟨b, 0, none⟩)) (by kernel_rfl) (by kernel_rfl) (by kernel_rfl) rfl (by rfl) (fun W hSw => by go_simp) (fun _ _ _ h => h) HA4.out ?_
  simp only [Act.put, List.setIfInBounds_toArray, List.set_cons_zero, List.set_cons_succ]
  refine hd_take 1 (o := ⟨some 41, _, _, _, _, _⟩) (.pointer (some ⟨b, 0, none⟩)) (by kernel_rfl) (by kernel_rfl) (by kernel_rfl) rfl (by rfl) (fun W hSw => by go_simp) (fun _ _ _ h => h) HA4.out ?_
  simp only [Act.put, List.setIfInBounds_toArray, List.set_cons_zero, List.set_cons_succ]
  refine hd_take 2 (o := ⟨some 42, _, _, _, _, _⟩) (.pointer (some ⟨b, 21, none⟩)) (by kernel_rfl) (by kernel_rfl) (by kernel_rfl) rfl (by rfl) (fun W hSw => by go_simp) (fun _ _ _ h => h) HA4.out ?_
  simp only [Act.put, List.setIfInBounds_toArray, List.set_cons_zero, List.set_cons_succ]
  refine hd_take 3 (o := ⟨some 43, _, _, _, _, _⟩) (.agg #[.int .i64 q.f, .int .i64 q.e, .int .i64 q.x]) (by kernel_rfl) (by kernel_rfl) (by kernel_rfl) rfl (by rfl) (fun W hSw => by obtain ⟨c0, c1, c2, -, -, -⟩ := blk3 hSw; go_simp) (fun _ _ _ h => h) HA4.out ?_
  simp only [Act.put, List.setIfInBounds_toArray, List.set_cons_zero, List.set_cons_succ]
  refine hd_call 4 (o := ⟨some 44, _, _, _, _, _⟩) (by kernel_rfl) rfl (by rfl) (fun K hK => ?_)
  go_simp
  go_wp2_with (go_at_call 44; refine (HC2.out _).mono ?_; rintro e1 w5 ⟨rfl, hb5⟩)
  have HA5 := hide ((hb5.block N (Array.getElem?_eq_some_iff.1 HA4.out).1).trans HA4.out)
  have HE5 := hide (HE4.out.below hb5)
  have HB5 := hide (HB4.out.trans (hb5.mono (by rw [← HN.out]; exact HB4.out.size)))
  clear hb5
  refine hK _ _ HA5.out ?_
  clear hK K
  have hR5 : Rb w5 b r := by
    obtain ⟨e, q1, q2⟩ := HE5.out.held k b HM.out
    rw [HRr.out] at q1; cases q1; exact q2
  have HAf := hide (HC3.out w5 hR5)
  clear hR5
  try simp only [Act.put, List.setIfInBounds_toArray, List.set_cons_zero, List.set_cons_succ]
  refine hd_call 5 (o := ⟨some 45, _, _, _, _, _⟩) (by kernel_rfl) rfl (by rfl) (fun K hK => ?_)
  go_simp
  go_wp2_with (go_at_call 43; refine HAf.out.mono ?_; rintro e1 w6 ⟨rfl, hb6⟩)
  have HA6 := hide ((hb6.block N (Array.getElem?_eq_some_iff.1 HA5.out).1).trans HA5.out)
  have HE6 := hide (HE5.out.below hb6)
  have HB6 := hide (HB5.out.trans (hb6.mono (by rw [← HN.out]; exact HB5.out.size)))
  clear hb6
  refine hK _ _ HA6.out ?_
  clear hK K HAf
  try simp only [Act.put, List.setIfInBounds_toArray, List.set_cons_zero, List.set_cons_succ]
  refine hd_take 6 (o := ⟨some 46, _, _, _, _, _⟩) (.bool false) (by kernel_rfl) (by kernel_rfl) (by kernel_rfl) rfl (by rfl) (fun W hSw => by go_simp) (fun _ _ _ h => h) HA6.out ?_
  simp only [Act.put, List.setIfInBounds_toArray, List.set_cons_zero, List.set_cons_succ]
  refine wpAnyH_done (by kernel_rfl) ?_ _
  clear HA5 HE5 HB5 HA4 HE4 HB4
  go_upto_region 8 with fail
  obtain ⟨w7, hw7⟩ : ∃ W, W = w6.drew := ⟨_, rfl⟩
  have HE7 : Hid (EtAt w7 F T S G m rs last) := by rw [hw7]; exact hide (HE6.out.keep (Nat.le_refl _) (fun _ _ => rfl))
  have HB7 : Hid (Below N w w7) := by rw [hw7]; exact hide HB6.out.drew
  have HA7 : Hid (w7.heap[N]? = some (.cells #[.int .i64 q.f, .int .i64 q.e, .int .i64 q.x] 39 (0, 0))) := by rw [hw7]; exact HA6
  have HS7 : Hid (w7.cell? ⟨T, 0, none⟩ = some (.pointer (some ⟨S, 0, none⟩)) ∧ w7.heap[N]? = some (.cells #[.int .i64 q.f, .int .i64 q.e, .int .i64 q.x] 39 (0, 0))) := hide ⟨HE7.out.cell.1, HA7.out⟩
  refine wp_region_held_drew (S := fun W => W.cell? ⟨T, 0, none⟩ = some (.pointer (some ⟨S, 0, none⟩)) ∧ W.heap[N]? = some (.cells #[.int .i64 q.f, .int .i64 q.e, .int .i64 q.x] 39 (0, 0))) (by kernel_rfl) (by rw [← hw7]; exact HS7.out) (fun _ => ?_)
  rw [← hw7]
  clear hw7 HE6 HB6 HA6
  refine hd_take 0 (o := ⟨some 48, _, _, _, _, _⟩) (.pointer (some ⟨T, 0, none⟩)) (by kernel_rfl) (by kernel_rfl) (by kernel_rfl) rfl (by rfl) (fun W hSw => by go_simp) (fun _ _ _ h => h) HS7.out ?_
  simp only [Act.put, List.setIfInBounds_toArray, List.set_cons_zero, List.set_cons_succ]
  refine hd_take 1 (o := ⟨some 49, _, _, _, _, _⟩) (.pointer (some ⟨T, 0, none⟩)) (by kernel_rfl) (by kernel_rfl) (by kernel_rfl) rfl (by rfl) (fun W hSw => by go_simp) (fun _ _ _ h => h) HS7.out ?_
  simp only [Act.put, List.setIfInBounds_toArray, List.set_cons_zero, List.set_cons_succ]
  refine hd_take 2 (o := ⟨some 50, _, _, _, _, _⟩) (.pointer (some ⟨T, 0, none⟩)) (by kernel_rfl) (by kernel_rfl) (by kernel_rfl) rfl (by rfl) (fun W hSw => by go_simp) (fun _ _ _ h => h) HS7.out ?_
  simp only [Act.put, List.setIfInBounds_toArray, List.set_cons_zero, List.set_cons_succ]
  refine hd_take 3 (o := ⟨some 51, _, _, _, _, _⟩) (.pointer (some ⟨S, 0, none⟩)) (by kernel_rfl) (by kernel_rfl) (by kernel_rfl) rfl (by rfl) (fun W hSw => by have c0 := hSw.1; go_simp) (fun _ _ _ h => h) HS7.out ?_
  simp only [Act.put, List.setIfInBounds_toArray, List.set_cons_zero, List.set_cons_succ]
  refine hd_take 4 (o := ⟨some 52, _, _, _, _, _⟩) (.int .i64 serial) (by kernel_rfl) (by kernel_rfl) (by kernel_rfl) rfl (by rfl) (fun W hSw => by go_simp) (fun _ _ _ h => h) HS7.out ?_
  simp only [Act.put, List.setIfInBounds_toArray, List.set_cons_zero, List.set_cons_succ]
  refine hd_take 5 (o := ⟨some 53, _, _, _, _, _⟩) (.int .i64 (k : Int)) (by kernel_rfl) (by kernel_rfl) (by kernel_rfl) rfl (by rfl) (fun W hSw => by go_simp) (fun _ _ _ h => h) HS7.out ?_
  simp only [Act.put, List.setIfInBounds_toArray, List.set_cons_zero, List.set_cons_succ]
  refine hd_take 6 (o := ⟨some 54, _, _, _, _, _⟩) (.agg #[.int .i64 q.f, .int .i64 q.e, .int .i64 q.x]) (by kernel_rfl) (by kernel_rfl) (by kernel_rfl) rfl (by rfl) (fun W hSw => by obtain ⟨c0, c1, c2, -, -, -⟩ := blk3 hSw.2; go_simp) (fun _ _ _ h => h) HS7.out ?_
  simp only [Act.put, List.setIfInBounds_toArray, List.set_cons_zero, List.set_cons_succ]
  refine hd_call 7 (o := ⟨some 55, _, _, _, _, _⟩) (by kernel_rfl) rfl (by rfl) (fun K hK => ?_)
  go_simp
  go_wp2_with (go_at_call 46; refine (HC4.out _).mono ?_; rintro e1 w8 ⟨nb, rfl, hR8, hlb, hb8⟩)
  have HE8 := hide (HE7.out.below hb8)
  refine hK _ _ ⟨HE8.out.cell.1, (hb8.block N (Array.getElem?_eq_some_iff.1 HA7.out).1).trans HA7.out⟩ ?_
  have HB8 := hide hb8
  have HR8 := hide hR8
  have HLB := hide hlb
  have HP := hide (HPut.out w8 nb HE8.out.tab)
  clear hK K hb8 hR8 hlb HPut
  try simp only [Act.put, List.setIfInBounds_toArray, List.set_cons_zero, List.set_cons_succ]
  refine hd_call 8 (o := ⟨some 56, _, _, _, _, _⟩) (by kernel_rfl) rfl (by rfl) (fun K hK => ?_)
  go_simp
  go_wp2_with (go_at_call 45; refine HP.out.mono ?_; rintro e1 w9 ⟨rfl, rfl⟩)
  have HB9 : Hid (Below N w w9) := hide (HB7.out.trans (HB8.out.mono (by rw [← HN.out]; exact HB7.out.size)))
  have HS9 : Hid (w9.cell? ⟨T, 0, none⟩ = some (.pointer (some ⟨S, 0, none⟩)) ∧ w9.heap[N]? = some (.cells #[.int .i64 q.f, .int .i64 q.e, .int .i64 q.x] 39 (0, 0))) := hide ⟨HE8.out.cell.1, (HB8.out.block N (Array.getElem?_eq_some_iff.1 HA7.out).1).trans HA7.out⟩
  refine hK _ _ HS9.out ?_
  clear hK K
  try simp only [Act.put, List.setIfInBounds_toArray, List.set_cons_zero, List.set_cons_succ]
  refine hd_take 9 (o := ⟨some 47, _, _, _, _, _⟩) (.tuple #[.int .i64 (-1), .int .i64 2]) (by kernel_rfl) (by kernel_rfl) (by kernel_rfl) rfl (by rfl) (fun W hSw => by go_simp) (fun _ _ _ h => h) HS9.out ?_
  try simp only [Act.put, List.setIfInBounds_toArray, List.set_cons_zero, List.set_cons_succ]
  refine hd_take 10 (o := ⟨some 57, _, _, _, _, _⟩) (.int .i64 (-1)) (by kernel_rfl) (by kernel_rfl) (by kernel_rfl) rfl (by rfl) (fun W hSw => by go_simp) (fun _ _ _ h => h) HS9.out ?_
  try simp only [Act.put, List.setIfInBounds_toArray, List.set_cons_zero, List.set_cons_succ]
  refine hd_take 11 (o := ⟨some 58, _, _, _, _, _⟩) (.int .i64 2) (by kernel_rfl) (by kernel_rfl) (by kernel_rfl) rfl (by rfl) (fun W hSw => by go_simp) (fun _ _ _ h => h) HS9.out ?_
  try simp only [Act.put, List.setIfInBounds_toArray, List.set_cons_zero, List.set_cons_succ]
  refine hd_take 12 (o := ⟨some 12, _, _, _, _, _⟩) (.int .i64 (-1)) (by kernel_rfl) (by kernel_rfl) (by kernel_rfl) rfl (by rfl) (fun W hSw => by go_simp) (fun _ _ _ h => h) HS9.out ?_
  try simp only [Act.put, List.setIfInBounds_toArray, List.set_cons_zero, List.set_cons_succ]
  refine hd_take 13 (o := ⟨some 13, _, _, _, _, _⟩) (.int .i64 2) (by kernel_rfl) (by kernel_rfl) (by kernel_rfl) rfl (by rfl) (fun W hSw => by go_simp) (fun _ _ _ h => h) HS9.out ?_
  try simp only [Act.put, List.setIfInBounds_toArray, List.set_cons_zero, List.set_cons_succ]
  refine wpAnyH_done (by kernel_rfl) ?_ _
  go_wp2
  go_ret2
  exact ⟨rfl, by rw [HN.out]; exact HB9.out⟩
end
end Go.Proofs.Ytoddadohmnaolaa
