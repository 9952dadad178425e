import Derived.Test.YtoddadohmnaolaaEW
namespace Go.Proofs.Ytoddadohmnaolaa
open Go.RowKit Go.Shelf

section
variable (w : World) (F : Nat → Prop) (T : Nat) (rs : List (Option Er)) (last : Int)
set_option maxHeartbeats 800000 in
theorem payTNone_any (h : Et w F T rs last) (e : Int) (hn : look rs e = none) (q : Qt) : Calls Try.prog 25 #[.pointer (some ⟨T, 0, none⟩), .int .i64 e, q.val] w fun x w' => x = .returned (.int .i64 90) ∧ Below w.heap.size w w' := by
  have hb1 := (Below.refl w.heap.size w).alloc (Nat.le_refl _) (.cells #[.int .i64 q.f, .int .i64 q.e, .int .i64 q.x] 39)
  obtain ⟨S, G, m, h⟩ := h
  have h1 := h.below hb1
  have c0 := h1.cell.1
  have HG := hide (getL_any _ G S m h1.tab e)
  have HB := hide hb1
  rcases h.cases e with ⟨h2, _⟩ | ⟨k', b, r', e1, hm, h3, h4, h5, hR⟩
  · rw [h2] at HG
    simp only [ptr, Option.isSome_none] at HG
    clear h h1 h2 hb1
    unfold Qt.val
    go_enter Try.func25, Try.ntmps25
    go_wp2_with fail
    refine HG.out.mono ?_
    rintro e1 w1 ⟨rfl, rfl⟩
    go_wp2
    go_ret
    exact ⟨rfl, HB.out⟩
  · rw [hn] at h5; cases h5
set_option maxRecDepth 100000 in
set_option maxHeartbeats 3200000 in
theorem payT_via (h : Et w F T rs last) (k : Nat) (r r' : Er) (hr : rs[k]? = some (some r)) (q : Qt) (c : Int) (hc : ∀ W b, Rb W b r → Calls Try.prog 52 #[.pointer (some ⟨b, 21, none⟩), q.val] W fun e w' => e = .returned (.int .i64 c) ∧ Rb w' b r' ∧ At W b w') :
    Calls Try.prog 25 #[.pointer (some ⟨T, 0, none⟩), .int .i64 (k : Int), q.val] w fun x w' => x = .returned (.int .i64 c) ∧ Et w' F T (rs.set k (some r')) last ∧ Mod F w w' := by
  have hb1 := (Below.refl w.heap.size w).alloc (Nat.le_refl _) (.cells #[.int .i64 q.f, .int .i64 q.e, .int .i64 q.x] 39)
  have a1 := heap_alloc_new w (.cells #[.int .i64 q.f, .int .i64 q.e, .int .i64 q.x] 39)
  have hlt := h.lt
  obtain ⟨S, G, m, h⟩ := h
  have h1 := h.below hb1
  have c0 := h1.cell.1
  have HG := hide (getL_any _ G S m h1.tab (k : Int))
  rcases h1.cases (k : Int) with ⟨_, h2⟩ | ⟨k', b, r9, e1, hm, h3, h4, h5, hR⟩
  · rw [look_nat, hr] at h2; cases h2
  obtain rfl : k = k' := by omega
  rw [hr] at h3; cases h3
  rw [h4] at HG
  simp only [ptr, Option.isSome_some] at HG
  have HC := hide (fun W (hb : Rb W b r) => hc W b hb)
  have HH := hide h1
  have HR := hide hR
  have HM := hide hm
  have HMo : Hid (Mod F w _) := hide (Mod.of_below (F := F) hb1)
  have HNb : Hid (w.heap.size ≠ b) := hide (fun e => by have := hlt b (h.own k b hm).1; omega)
  have HA := hide a1
  clear h h1 h4 h5 hR hb1 hc hr a1 hlt hm
  unfold Qt.val at *
  go_enter Try.func25, Try.ntmps25
  go_wp2_with fail
  refine HG.out.mono ?_
  rintro e1 w1 ⟨rfl, rfl⟩
  go_upto_region 4 with fail
  generalize w.alloc (.cells #[.int .i64 q.f, .int .i64 q.e, .int .i64 q.x] 39) = w1 at *
  generalize w.heap.size = N at *
  obtain ⟨w3, hw3⟩ : ∃ w3, w3 = w1.drew := ⟨_, rfl⟩
  have hb3 : Below w1.heap.size w1 w3 := by rw [hw3]; exact ⟨rfl, rfl, rfl, Nat.le_refl _, fun _ _ => rfl⟩
  have HA3 : Hid (w3.heap[N]? = some (.cells #[.int .i64 q.f, .int .i64 q.e, .int .i64 q.x] 39 (0, 0))) := hide ((hb3.block N (Array.getElem?_eq_some_iff.1 HA.out).1).trans HA.out)
  have HH3 := hide (HH.out.below hb3)
  have HR3 := hide (HR.out.keep (hb3.block b HR.out.lt))
  have HM3 := hide (HMo.out.trans (Mod.of_below hb3))
  clear HA HH HR HMo hb3 HG c0
  refine wp_region_held_drew (S := fun W => W.heap[N]? = some (.cells #[.int .i64 q.f, .int .i64 q.e, .int .i64 q.x] 39 (0, 0))) (by kernel_rfl) (by rw [← hw3]; exact HA3.out) (fun _ => ?_)
  rw [← hw3]
  clear hw3
  refine hd_take 0 (o := ⟨some 20, _, _, _, _, _⟩) (.pointer (some ⟨b, 0, none⟩)) (by kernel_rfl) (by kernel_rfl) (by kernel_rfl) rfl (by rfl) (fun W hSw => by go_simp) (fun _ _ _ h => h) HA3.out ?_
  try simp only [Act.put, List.setIfInBounds_toArray, List.set_cons_zero, List.set_cons_succ]
  refine hd_take 1 (o := ⟨some 21, _, _, _, _, _⟩) (.pointer (some ⟨b, 0, none⟩)) (by kernel_rfl) (by kernel_rfl) (by kernel_rfl) rfl (by rfl) (fun W hSw => by go_simp) (fun _ _ _ h => h) HA3.out ?_
  try simp only [Act.put, List.setIfInBounds_toArray, List.set_cons_zero, List.set_cons_succ]
  refine hd_take 2 (o := ⟨some 22, _, _, _, _, _⟩) (.pointer (some ⟨b, 21, none⟩)) (by kernel_rfl) (by kernel_rfl) (by kernel_rfl) rfl (by rfl) (fun W hSw => by go_simp) (fun _ _ _ h => h) HA3.out ?_
  try simp only [Act.put, List.setIfInBounds_toArray, List.set_cons_zero, List.set_cons_succ]
  refine hd_take 3 (o := ⟨some 23, _, _, _, _, _⟩) (.agg #[.int .i64 q.f, .int .i64 q.e, .int .i64 q.x]) (by kernel_rfl) (by kernel_rfl) (by kernel_rfl) rfl (by rfl) (fun W hSw => by obtain ⟨c0, c1, c2, -, -, -⟩ := blk3 hSw; go_simp) (fun _ _ _ h => h) HA3.out ?_
  try simp only [Act.put, List.setIfInBounds_toArray, List.set_cons_zero, List.set_cons_succ]
  refine hd_call 4 (o := ⟨some 24, _, _, _, _, _⟩) (by kernel_rfl) rfl (by rfl) (fun K hK => ?_)
  go_simp
  go_wp2_with (go_at_call 52; refine (HC.out _ HR3.out).mono ?_; rintro e1 w4 ⟨rfl, hr4, ha4⟩)
  have HA4 : Hid (w4.heap[N]? = some (.cells #[.int .i64 q.f, .int .i64 q.e, .int .i64 q.x] 39 (0, 0))) := hide ((ha4.block N (Array.getElem?_eq_some_iff.1 HA3.out).1 HNb.out).trans HA3.out)
  have HU := hide (Et.upd HH3.out HM.out hr4 ha4)
  clear hr4 ha4
  refine hK _ _ HA4.out ?_
  clear hK K
  try simp only [Act.put, List.setIfInBounds_toArray, List.set_cons_zero, List.set_cons_succ]
  refine hd_take 5 (o := ⟨some 6, _, _, _, _, _⟩) (.int .i64 c) (by kernel_rfl) (by kernel_rfl) (by kernel_rfl) rfl (by rfl) (fun W hSw => by go_simp) (fun _ _ _ h => h) HA4.out ?_
  try simp only [Act.put, List.setIfInBounds_toArray, List.set_cons_zero, List.set_cons_succ]
  refine wpAnyH_done (by kernel_rfl) ?_ _
  go_wp2
  go_ret
  exact ⟨rfl, HU.out.1, HM3.out.trans HU.out.2⟩
set_option maxHeartbeats 800000 in
theorem refundTNone_any (h : Et w F T rs last) (e : Int) (hn : look rs e = none) (q : Qt) : Calls Try.prog 26 #[.pointer (some ⟨T, 0, none⟩), .int .i64 e, q.val] w fun x w' => x = .returned (.int .i64 90) ∧ Below w.heap.size w w' := by
  have hb1 := (Below.refl w.heap.size w).alloc (Nat.le_refl _) (.cells #[.int .i64 q.f, .int .i64 q.e, .int .i64 q.x] 39)
  obtain ⟨S, G, m, h⟩ := h
  have h1 := h.below hb1
  have c0 := h1.cell.1
  have HG := hide (getL_any _ G S m h1.tab e)
  have HB := hide hb1
  rcases h.cases e with ⟨h2, _⟩ | ⟨k', b, r', e1, hm, h3, h4, h5, hR⟩
  · rw [h2] at HG
    simp only [ptr, Option.isSome_none] at HG
    clear h h1 h2 hb1
    unfold Qt.val
    go_enter Try.func26, Try.ntmps26
    go_wp2_with fail
    refine HG.out.mono ?_
    rintro e1 w1 ⟨rfl, rfl⟩
    go_wp2
    go_ret
    exact ⟨rfl, HB.out⟩
  · rw [hn] at h5; cases h5
set_option maxRecDepth 100000 in
set_option maxHeartbeats 3200000 in
theorem refundT_via (h : Et w F T rs last) (k : Nat) (r r' : Er) (hr : rs[k]? = some (some r)) (q : Qt) (c : Int) (hc : ∀ W b, Rb W b r → Calls Try.prog 53 #[.pointer (some ⟨b, 21, none⟩), q.val] W fun e w' => e = .returned (.int .i64 c) ∧ Rb w' b r' ∧ At W b w') :
    Calls Try.prog 26 #[.pointer (some ⟨T, 0, none⟩), .int .i64 (k : Int), q.val] w fun x w' => x = .returned (.int .i64 c) ∧ Et w' F T (rs.set k (some r')) last ∧ Mod F w w' := by
  have hb1 := (Below.refl w.heap.size w).alloc (Nat.le_refl _) (.cells #[.int .i64 q.f, .int .i64 q.e, .int .i64 q.x] 39)
  have a1 := heap_alloc_new w (.cells #[.int .i64 q.f, .int .i64 q.e, .int .i64 q.x] 39)
  have hlt := h.lt
  obtain ⟨S, G, m, h⟩ := h
  have h1 := h.below hb1
  have c0 := h1.cell.1
  have HG := hide (getL_any _ G S m h1.tab (k : Int))
  rcases h1.cases (k : Int) with ⟨_, h2⟩ | ⟨k', b, r9, e1, hm, h3, h4, h5, hR⟩
  · rw [look_nat, hr] at h2; cases h2
  obtain rfl : k = k' := by omega
  rw [hr] at h3; cases h3
  rw [h4] at HG
  simp only [ptr, Option.isSome_some] at HG
  have HC := hide (fun W (hb : Rb W b r) => hc W b hb)
  have HH := hide h1
  have HR := hide hR
  have HM := hide hm
  have HMo : Hid (Mod F w _) := hide (Mod.of_below (F := F) hb1)
  have HNb : Hid (w.heap.size ≠ b) := hide (fun e => by have := hlt b (h.own k b hm).1; omega)
  have HA := hide a1
  clear h h1 h4 h5 hR hb1 hc hr a1 hlt hm
  unfold Qt.val at *
  go_enter Try.func26, Try.ntmps26
  go_wp2_with fail
  refine HG.out.mono ?_
  rintro e1 w1 ⟨rfl, rfl⟩
  go_upto_region 4 with fail
  generalize w.alloc (.cells #[.int .i64 q.f, .int .i64 q.e, .int .i64 q.x] 39) = w1 at *
  generalize w.heap.size = N at *
  obtain ⟨w3, hw3⟩ : ∃ w3, w3 = w1.drew := ⟨_, rfl⟩
  have hb3 : Below w1.heap.size w1 w3 := by rw [hw3]; exact ⟨rfl, rfl, rfl, Nat.le_refl _, fun _ _ => rfl⟩
  have HA3 : Hid (w3.heap[N]? = some (.cells #[.int .i64 q.f, .int .i64 q.e, .int .i64 q.x] 39 (0, 0))) := hide ((hb3.block N (Array.getElem?_eq_some_iff.1 HA.out).1).trans HA.out)
  have HH3 := hide (HH.out.below hb3)
  have HR3 := hide (HR.out.keep (hb3.block b HR.out.lt))
  have HM3 := hide (HMo.out.trans (Mod.of_below hb3))
  clear HA HH HR HMo hb3 HG c0
  refine wp_region_held_drew (S := fun W => W.heap[N]? = some (.cells #[.int .i64 q.f, .int .i64 q.e, .int .i64 q.x] 39 (0, 0))) (by kernel_rfl) (by rw [← hw3]; exact HA3.out) (fun _ => ?_)
  rw [← hw3]
  clear hw3
  refine hd_take 0 (o := ⟨some 20, _, _, _, _, _⟩) (.pointer (some ⟨b, 0, none⟩)) (by kernel_rfl) (by kernel_rfl) (by kernel_rfl) rfl (by rfl) (fun W hSw => by go_simp) (fun _ _ _ h => h) HA3.out ?_
  try simp only [Act.put, List.setIfInBounds_toArray, List.set_cons_zero, List.set_cons_succ]
  refine hd_take 1 (o := ⟨some 21, _, _, _, _, _⟩) (.pointer (some ⟨b, 0, none⟩)) (by kernel_rfl) (by kernel_rfl) (by kernel_rfl) rfl (by rfl) (fun W hSw => by go_simp) (fun _ _ _ h => h) HA3.out ?_
  try simp only [Act.put, List.setIfInBounds_toArray, List.set_cons_zero, List.set_cons_succ]
  refine hd_take 2 (o := ⟨some 22, _, _, _, _, _⟩) (.pointer (some ⟨b, 21, none⟩)) (by kernel_rfl) (by kernel_rfl) (by kernel_rfl) rfl (by rfl) (fun W hSw => by go_simp) (fun _ _ _ h => h) HA3.out ?_
  try simp only [Act.put, List.setIfInBounds_toArray, List.set_cons_zero, List.set_cons_succ]
  refine hd_take 3 (o := ⟨some 23, _, _, _, _, _⟩) (.agg #[.int .i64 q.f, .int .i64 q.e, .int .i64 q.x]) (by kernel_rfl) (by kernel_rfl) (by kernel_rfl) rfl (by rfl) (fun W hSw => by obtain ⟨c0, c1, c2, -, -, -⟩ := blk3 hSw; go_simp) (fun _ _ _ h => h) HA3.out ?_
  try simp only [Act.put, List.setIfInBounds_toArray, List.set_cons_zero, List.set_cons_succ]
  refine hd_call 4 (o := ⟨some 24, _, _, _, _, _⟩) (by kernel_rfl) rfl (by rfl) (fun K hK => ?_)
  go_simp
  go_wp2_with (go_at_call 53; refine (HC.out _ HR3.out).mono ?_; rintro e1 w4 ⟨rfl, hr4, ha4⟩)
  have HA4 : Hid (w4.heap[N]? = some (.cells #[.int .i64 q.f, .int .i64 q.e, .int .i64 q.x] 39 (0, 0))) := hide ((ha4.block N (Array.getElem?_eq_some_iff.1 HA3.out).1 HNb.out).trans HA3.out)
  have HU := hide (Et.upd HH3.out HM.out hr4 ha4)
  clear hr4 ha4
  refine hK _ _ HA4.out ?_
  clear hK K
  try simp only [Act.put, List.setIfInBounds_toArray, List.set_cons_zero, List.set_cons_succ]
  refine hd_take 5 (o := ⟨some 6, _, _, _, _, _⟩) (.int .i64 c) (by kernel_rfl) (by kernel_rfl) (by kernel_rfl) rfl (by rfl) (fun W hSw => by go_simp) (fun _ _ _ h => h) HA4.out ?_
  try simp only [Act.put, List.setIfInBounds_toArray, List.set_cons_zero, List.set_cons_succ]
  refine wpAnyH_done (by kernel_rfl) ?_ _
  go_wp2
  go_ret
  exact ⟨rfl, HU.out.1, HM3.out.trans HU.out.2⟩

end
theorem good_ok {q : Qt} (h : q.good) : q.ok := by
  obtain ⟨g1, g2, g3⟩ := good_bounds h
  unfold Qt.ok; omega
/-- what Pay answers, and the table behind it -/
def payE (rs : List (Option Er)) (e : Int) (q : Qt) : Int := match look rs e with | none => 90 | some r => if q.good then (if q.le r.le then 0 else 2) else 1
def payS (rs : List (Option Er)) (e : Int) (q : Qt) : List (Option Er) := match look rs e with | none => rs | some r => if q.good then (if q.le r.le then rs.set e.toNat (some { r with pd := r.pd.plus q, le := r.le.less q }) else rs) else rs
def refE (rs : List (Option Er)) (e : Int) (q : Qt) : Int := match look rs e with | none => 90 | some r => if q.good ∧ q.le r.pd then 0 else 1
def refS (rs : List (Option Er)) (e : Int) (q : Qt) : List (Option Er) := match look rs e with | none => rs | some r => if q.good ∧ q.le r.pd then rs.set e.toNat (some { r with pd := r.pd.less q, le := r.le.plus q }) else rs
theorem set_same {rs : List (Option Er)} {k : Nat} {r : Er} (h : rs[k]? = some (some r)) : rs.set k (some r) = rs := by
  obtain ⟨h1, h2⟩ := List.getElem?_eq_some_iff.1 h
  rw [← h2]; exact List.set_getElem_self h1
section
variable {w : World} {F : Nat → Prop} {T : Nat} {rs : List (Option Er)} {last : Int}
theorem look_some {e : Int} {r : Er} (h : look rs e = some r) : ∃ k : Nat, e = k ∧ rs[k]? = some (some r) := by
  rcases look_cases rs e with ⟨_, h1⟩ | ⟨k, _, _, _, h1⟩ | ⟨k, x, h0, h1, h2, h3⟩
  · rw [h1] at h; cases h
  · rw [h1] at h; cases h
  · rw [h3] at h; cases h; exact ⟨k, h0, h2⟩
theorem pay_any (h : Et w F T rs last) (e : Int) (q : Qt) (hok : ∀ r, look rs e = some r → r.le.ok ∧ r.pd.ok) : Calls Try.prog 25 #[.pointer (some ⟨T, 0, none⟩), .int .i64 e, q.val] w fun x w' => x = .returned (.int .i64 (payE rs e q)) ∧ Et w' F T (payS rs e q) last ∧ Mod F w w' := by
  unfold payE payS
  cases hl : look rs e with
  | none =>
    refine (payTNone_any w F T rs last h e hl q).mono ?_
    rintro x w' ⟨rfl, hb⟩
    exact ⟨rfl, h.below hb, Mod.of_below hb⟩
  | some r =>
    obtain ⟨k, rfl, hr⟩ := look_some hl
    obtain ⟨hle, hpd⟩ := hok r hl
    simp only []
    by_cases hg : q.good
    · rw [if_pos hg, if_pos hg]
      by_cases hf : q.le r.le
      · rw [if_pos hf, if_pos hf]
        exact payT_via w F T rs last h k r _ hr q 0 (fun W b hb => payOk_any W b r hb q hg (good_ok hg) hf hle hpd)
      · rw [if_neg hf, if_neg hf]
        have := payT_via w F T rs last h k r r hr q 2 (fun W b hb => (payFull_any W b r hb q hg hf).mono (fun x w' ⟨h1, h2⟩ => ⟨h1, hb.keep (h2.block b hb.lt), At.of_below h2⟩))
        rw [set_same hr] at this
        exact this
    · rw [if_neg hg, if_neg hg]
      have := payT_via w F T rs last h k r r hr q 1 (fun W b hb => (payBad_any W b q hg).mono (fun x w' ⟨h1, h2⟩ => ⟨h1, hb.keep (h2.block b hb.lt), At.of_below h2⟩))
      rw [set_same hr] at this
      exact this
theorem refund_any (h : Et w F T rs last) (e : Int) (q : Qt) (hok : ∀ r, look rs e = some r → r.le.ok ∧ r.pd.ok) : Calls Try.prog 26 #[.pointer (some ⟨T, 0, none⟩), .int .i64 e, q.val] w fun x w' => x = .returned (.int .i64 (refE rs e q)) ∧ Et w' F T (refS rs e q) last ∧ Mod F w w' := by
  unfold refE refS
  cases hl : look rs e with
  | none =>
    refine (refundTNone_any w F T rs last h e hl q).mono ?_
    rintro x w' ⟨rfl, hb⟩
    exact ⟨rfl, h.below hb, Mod.of_below hb⟩
  | some r =>
    obtain ⟨k, rfl, hr⟩ := look_some hl
    obtain ⟨hle, hpd⟩ := hok r hl
    simp only []
    by_cases hc : q.good ∧ q.le r.pd
    · rw [if_pos hc, if_pos hc]
      exact refundT_via w F T rs last h k r _ hr q 0 (fun W b hb => refundOk_any W b r hb q hc.1 (good_ok hc.1) hc.2 hle hpd)
    · rw [if_neg hc, if_neg hc]
      have := refundT_via w F T rs last h k r r hr q 1 (fun W b hb => by
        by_cases hg : q.good
        · exact refundMore_any W b r hb q hg (fun hf => hc ⟨hg, hf⟩)
        · exact refundBad_any W b r hb q hg)
      rw [set_same hr] at this
      exact this
end
end Go.Proofs.Ytoddadohmnaolaa
