import Derived.Test.YtoddadohmnaolaaFL
namespace Go.Proofs.Ytoddadohmnaolaa
open Go.RowKit Go.Shelf

section
variable {w : World} {F : Nat → Prop} {T B : Nat} {rs : List (Option Er)} {last : Int}
set_option maxHeartbeats 800000 in
theorem childrenT_any (h : Et w F T rs last) (hD : Dis rs) (k : Nat) (hk : Lv rs k) : Calls Try.prog 51 #[.pointer (some ⟨T, 0, none⟩), .int .i64 (k : Int)] w fun x w' => ∃ v, x = .returned (.tuple #[v, .int .i64 0]) ∧ w'.ownsRow w.heap.size 3 1 v (kids rs (k : Int)).length (numN (kids rs (k : Int))) ∧ Below w.heap.size w w' := by
  have HC := hide (children_any w F T last h hD (k : Int))
  obtain ⟨r, hr⟩ := hk
  obtain ⟨S, G, m, h⟩ := h
  have c0 := h.cell.1
  have HG := hide (getL_any _ G S m h.tab (k : Int))
  rcases h.cases (k : Int) with ⟨_, h1⟩ | ⟨k', b, r', e1, hm, h3, h4, _, hR⟩
  · rw [look_nat, hr] at h1; cases h1
  · obtain rfl : k = k' := by omega
    rw [h4] at HG
    simp only [ptr, Option.isSome_some] at HG
    clear h h4 hR
    go_enter Try.func51, Try.ntmps51
    go_wp2_with fail
    refine HG.out.mono ?_
    rintro e1 w1 ⟨rfl, rfl⟩
    go_wp2_with fail
    refine HC.out.mono ?_
    rintro e1 w2 ⟨v, rfl, ho, hb⟩
    obtain ⟨va, vc, rfl⟩ := own_shape ho
    have HO := hide ho
    have HB := hide hb
    clear ho hb
    go_wp2
    go_ret2
    exact ⟨_, rfl, HO.out, HB.out⟩
set_option maxHeartbeats 800000 in
theorem below_nn (w : World) (q : Qt) (hq : q.nn) : Calls Try.prog 23 #[q.val] w fun x w' => x = .returned (.bool false) ∧ Below w.heap.size w w' := by
  have hb := (Below.refl w.heap.size w).alloc (Nat.le_refl _) (.cells #[.int .i64 q.f, .int .i64 q.e, .int .i64 q.x] 39)
  have HB := hide hb
  obtain ⟨h1, h2, h3⟩ := hq
  have h1' : ¬ q.f < 0 := by omega
  have h2' : ¬ q.e < 0 := by omega
  have h3' : ¬ q.x < 0 := by omega
  clear hb h1 h2 h3
  unfold Qt.val
  go_enter Try.func23, Try.ntmps23
  go_wp2
  go_ret
  exact ⟨by simp, HB.out⟩
end
/-- sums over lists -/
theorem sum_filter (P : Nat → Bool) (g : Nat → Int) : ∀ l : List Nat, ((l.filter P).map g).sum = (l.map (fun i => if P i = true then g i else 0)).sum
  | [] => rfl
  | x :: l => by
    by_cases h : P x = true
    · rw [List.filter_cons_of_pos h]; simp only [List.map_cons, List.sum_cons, h, if_true, sum_filter P g l]
    · rw [List.filter_cons_of_neg h]; simp only [List.map_cons, List.sum_cons, if_neg h, sum_filter P g l]; omega
theorem tot_range (f : Nat → Int) : ((List.range 16).map f).sum = tot f := by
  unfold tot
  simp only [List.range, List.range.loop, List.map_cons, List.map_nil, List.sum_cons, List.sum_nil]
  omega
theorem sum_perm {a b : List Nat} (h : a.Perm b) (g : Nat → Int) : (a.map g).sum = (b.map g).sum := by
  induction h with
  | nil => rfl
  | cons x _ ih => simp only [List.map_cons, List.sum_cons, ih]
  | swap x y l => simp only [List.map_cons, List.sum_cons]; omega
  | trans _ _ h1 h2 => exact h1.trans h2
section
variable {rs : List (Option Er)} {last : Int}
theorem kids_perm (h : Tr rs last) (e : Int) : (kids rs e).Perm ((List.range 16).filter (kid rs e)) := by
  refine (List.perm_ext_iff_of_nodup (kids_nodup e) (List.Pairwise.filter _ List.nodup_range)).2 (fun k => ?_)
  rw [List.mem_filter, List.mem_range]
  exact ⟨fun hk => ⟨lv_lt h (kid_lv (kids_kid hk)), kids_kid hk⟩, fun hk => kid_kids hk.2⟩
/-- what the children carve, child by child -/
theorem kids_sum (h : Tr rs last) (s : Qt → Int) (e : Nat) : ((kids rs (e : Int)).map (fun i => s (prc rs i))).sum = tot (tm s rs e) := by
  rw [sum_perm (kids_perm h _) _, sum_filter, tot_range]
  rfl
end
/-- the law's own beginning -/
theorem live_rs3 {i : Nat} {r : Er} (h : rs3[i]? = some (some r)) : (i = 0 ∧ r = e0) ∨ (i = 1 ∧ r = e1) ∨ (i = 2 ∧ r = e2) := by
  unfold rs3 at h
  match i with
  | 0 => left; simp at h; exact ⟨rfl, h.symm⟩
  | 1 => right; left; simp at h; exact ⟨rfl, h.symm⟩
  | 2 => right; right; simp at h; exact ⟨rfl, h.symm⟩
  | i + 3 =>
    have h9 : (List.replicate 13 (none : Option Er))[i]? = some (some r) := h
    rw [List.getElem?_replicate] at h9
    split at h9 <;> cases h9
theorem tr_rs3 : Tr rs3 3 := by
  have s0 : ser rs3 0 = 1 := rfl
  have s1 : ser rs3 1 = 2 := rfl
  have s2 : ser rs3 2 = 3 := rfl
  refine ⟨rfl, ⟨e0, rfl, rfl⟩, fun k r hr h0 => ?_, fun k ⟨r, hr⟩ => ?_, fun a b ⟨ra, ha⟩ ⟨rb, hb⟩ e => ?_⟩
  · rcases live_rs3 hr with ⟨rfl, rfl⟩ | ⟨rfl, rfl⟩ | ⟨rfl, rfl⟩
    · exact absurd rfl h0
    · exact ⟨0, rfl, ⟨e0, rfl⟩, by rw [s0, s1]; decide⟩
    · exact ⟨1, rfl, ⟨e1, rfl⟩, by rw [s1, s2]; decide⟩
  · rcases live_rs3 hr with ⟨rfl, rfl⟩ | ⟨rfl, rfl⟩ | ⟨rfl, rfl⟩
    · rw [s0]; decide
    · rw [s1]; decide
    · rw [s2]; decide
  · rcases live_rs3 ha with ⟨rfl, rfl⟩ | ⟨rfl, rfl⟩ | ⟨rfl, rfl⟩ <;> rcases live_rs3 hb with ⟨rfl, rfl⟩ | ⟨rfl, rfl⟩ | ⟨rfl, rfl⟩ <;> first | rfl | (simp only [s0, s1, s2] at e; omega)
theorem iv_rs3 : Iv rs3 3 := by
  refine ⟨tr_rs3, fun k r hr => ?_⟩
  rcases live_rs3 hr with ⟨rfl, rfl⟩ | ⟨rfl, rfl⟩ | ⟨rfl, rfl⟩
  · refine ⟨⟨rfl, rfl, rfl⟩, ⟨by decide, by decide, by decide⟩, ⟨by decide, by decide, by decide⟩, qt_ext ?_ ?_ ?_⟩ <;> decide +kernel
  · refine ⟨⟨rfl, rfl, rfl⟩, ⟨by decide, by decide, by decide⟩, ⟨by decide, by decide, by decide⟩, qt_ext ?_ ?_ ?_⟩ <;> decide +kernel
  · refine ⟨⟨rfl, rfl, rfl⟩, ⟨by decide, by decide, by decide⟩, ⟨by decide, by decide, by decide⟩, qt_ext ?_ ?_ ?_⟩ <;> decide +kernel
theorem wd_rs3 : Wd rs3 := by
  intro k r hr
  rcases live_rs3 hr with ⟨rfl, rfl⟩ | ⟨rfl, rfl⟩ | ⟨rfl, rfl⟩ <;> exact ⟨by decide, by decide⟩
theorem Bk.bq {w : World} {B : Nat} (h : Bk w B 3) : Bq w B rs3 3 := by
  refine ⟨bookL 3, h, ⟨rfl, fun i hi => ?_, fun i hi => ⟨Qt.zero, ?_, ?_, ?_, fun r hr => ?_⟩, rfl⟩⟩
  · have : i = 0 ∨ i = 1 ∨ i = 2 ∨ i = 3 ∨ i = 4 ∨ i = 5 ∨ i = 6 ∨ i = 7 ∨ i = 8 ∨ i = 9 ∨ i = 10 ∨ i = 11 ∨ i = 12 ∨ i = 13 ∨ i = 14 ∨ i = 15 := by omega
    rcases this with rfl | rfl | rfl | rfl | rfl | rfl | rfl | rfl | rfl | rfl | rfl | rfl | rfl | rfl | rfl | rfl <;> rfl
  · have : i = 0 ∨ i = 1 ∨ i = 2 ∨ i = 3 ∨ i = 4 ∨ i = 5 ∨ i = 6 ∨ i = 7 ∨ i = 8 ∨ i = 9 ∨ i = 10 ∨ i = 11 ∨ i = 12 ∨ i = 13 ∨ i = 14 ∨ i = 15 := by omega
    rcases this with rfl | rfl | rfl | rfl | rfl | rfl | rfl | rfl | rfl | rfl | rfl | rfl | rfl | rfl | rfl | rfl <;> rfl
  · have : i = 0 ∨ i = 1 ∨ i = 2 ∨ i = 3 ∨ i = 4 ∨ i = 5 ∨ i = 6 ∨ i = 7 ∨ i = 8 ∨ i = 9 ∨ i = 10 ∨ i = 11 ∨ i = 12 ∨ i = 13 ∨ i = 14 ∨ i = 15 := by omega
    rcases this with rfl | rfl | rfl | rfl | rfl | rfl | rfl | rfl | rfl | rfl | rfl | rfl | rfl | rfl | rfl | rfl <;> rfl
  · have : i = 0 ∨ i = 1 ∨ i = 2 ∨ i = 3 ∨ i = 4 ∨ i = 5 ∨ i = 6 ∨ i = 7 ∨ i = 8 ∨ i = 9 ∨ i = 10 ∨ i = 11 ∨ i = 12 ∨ i = 13 ∨ i = 14 ∨ i = 15 := by omega
    rcases this with rfl | rfl | rfl | rfl | rfl | rfl | rfl | rfl | rfl | rfl | rfl | rfl | rfl | rfl | rfl | rfl <;> rfl
  · rcases live_rs3 hr with ⟨rfl, rfl⟩ | ⟨rfl, rfl⟩ | ⟨rfl, rfl⟩ <;> rfl
theorem first_ns (w : World) : Calls Try.prog 9 #[] w fun x w' => ∃ T B, x = .returned (.tuple #[.pointer (some ⟨T, 0, none⟩), .pointer (some ⟨B, 0, none⟩)]) ∧ w.heap.size ≤ B ∧ ∃ F, Ns w' F T B rs3 3 ∧ (∀ b, F b → w.heap.size ≤ b) ∧ Below w.heap.size w w' := by
  refine (first_any w).mono ?_
  rintro x w' ⟨T, B, rfl, hB, hl, F, hE, hn, hF, hb⟩
  exact ⟨T, B, rfl, hl, F, ⟨hE, iv_rs3, wd_rs3, hB.bq, hn⟩, hF, hb⟩
end Go.Proofs.Ytoddadohmnaolaa
