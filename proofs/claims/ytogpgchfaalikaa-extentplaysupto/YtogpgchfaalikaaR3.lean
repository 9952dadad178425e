import Derived.Test.YtogpgchfaalikaaR2
namespace Go.Proofs.Ytogpgchfaalikaa
open Go.RowKit

theorem encCs_set (cl : List (Nat × Cl)) (i : Nat) (n : Nat) (c : Cl) (m : Nat) (hi : cl[i]? = some (n, c)) : (encCs cl).set (i * 3 + 2) (.int .i64 (m : Int)) = encCs (cl.set i (n, ⟨c.se, m⟩)) := by
  induction cl generalizing i with
  | nil => simp at hi
  | cons x r ih =>
    cases i with
    | zero =>
      simp at hi; subst hi
      show (encC (n, c) ++ encCs r).set 2 _ = encC (n, ⟨c.se, m⟩) ++ encCs r
      simp [encC]
    | succ i =>
      show (encC x ++ encCs r).set ((i + 1) * 3 + 2) _ = encC x ++ encCs (r.set i _)
      rw [List.set_append_right _ _ (by simp [encC]; omega), ← ih i (by simpa using hi)]
      congr 2; simp [encC]; omega
theorem Rel.set {cl : List (Nat × Cl)} {C : Nat → Cl} (h : Rel cl C) {i n m : Nat} (hi : cl[i]? = some (n, C n)) (hn : n < 32) (hm : 0 < m) : Rel (cl.set i (n, ⟨(C n).se, m⟩)) (put C n ⟨(C n).se, m⟩) := by
  have hil := (List.getElem?_eq_some_iff.1 hi).1
  have key : ∀ (j k : Nat) (c : Cl), (cl.set i (n, ⟨(C n).se, m⟩))[j]? = some (k, c) → (j = i ∧ k = n ∧ c = ⟨(C n).se, m⟩) ∨ (j ≠ i ∧ cl[j]? = some (k, c) ∧ k ≠ n) := by
    intro j k c hj
    rw [List.getElem?_set] at hj
    by_cases e : i = j
    · subst e; simp [hil] at hj; exact .inl ⟨rfl, hj.1.symm, hj.2.symm⟩
    · rw [if_neg e] at hj
      refine .inr ⟨fun e' => e e'.symm, hj, fun ek => ?_⟩
      subst ek
      exact e (h.one i j k _ _ hi hj)
  refine ⟨fun j k c hj => ?_, fun k hk h0 => ?_, fun j j' k c d hj hj' => ?_⟩
  · rcases key j k c hj with ⟨_, rfl, rfl⟩ | ⟨_, hj2, hkn⟩
    · exact ⟨hn, put_same _ _ _, hm⟩
    · obtain ⟨q1, q2, q3⟩ := h.is j k c hj2
      exact ⟨q1, by rw [put_other _ _ hkn]; exact q2, q3⟩
  · by_cases e : k = n
    · subst e; exact ⟨i, by rw [List.getElem?_set_self hil, put_same]⟩
    · rw [put_other _ _ e] at h0 ⊢
      obtain ⟨j, hj⟩ := h.has k hk h0
      have hji : i ≠ j := fun e' => by subst e'; rw [hi] at hj; cases hj; exact e rfl
      exact ⟨j, by rw [List.getElem?_set_ne hji]; exact hj⟩
  · rcases key j k c hj with ⟨e1, rfl, _⟩ | ⟨_, hj2, hkn⟩ <;> rcases key j' k d hj' with ⟨e2, e3, _⟩ | ⟨_, hj3, hkn2⟩
    · rw [e1, e2]
    · exact absurd rfl hkn2
    · exact absurd e3 hkn
    · exact h.one j j' k c d hj2 hj3
theorem holds_set {w : World} {K R N : Nat} {C : Nat → Cl} {F : Nat → Prop} {cv : Value} {cl : List (Nat × Cl)} {g cap i n : Nat} (hT : TkAt w K R cv cl) (hRl : Rel cl C) (hlN : cl.length ≤ N) (he : ∀ b, F b ↔ b = K ∨ cv.ownBlock = some b)
    (hv : cv = .slice (some ⟨g, 0, none⟩) cl.length cap) (hi : cl[i]? = some (n, C n)) (hn : n < 32) (m : Nat) (hm : 0 < m) {z : Int} (hz : z = (m : Int)) (w2 : World) (q1 : w2.heap = w.heap) (q2 : w2.os = w.os) (q3 : w2.tape = w.tape) (q4 : w2.output = w.output) :
    TkA K R (put C n ⟨(C n).se, m⟩) N (w2.setCell ⟨g, i * 3 + 2, none⟩ (.int .i64 z)) F ∧ Ext F w F (w2.setCell ⟨g, i * 3 + 2, none⟩ (.int .i64 z)) := by
  subst hz
  have hKg : K ≠ g := fun e => hT.ne (by rw [hv, e]; rfl)
  have hFg : F g := (he g).2 (.inr (by rw [hv]; rfl))
  refine ⟨⟨cv, cl.set i (n, ⟨(C n).se, m⟩), ⟨?_, ?_, hT.ne⟩, hRl.set hi hn hm, by simpa using hlN, he⟩, ⟨⟨q2, q3, q4, by simp [World.setCell, q1], fun b hb hf => ?_⟩, fun _ h => .inl h⟩⟩
  · rw [heap_setCell_other _ _ _ _ hKg, q1]; exact hT.top
  · have hr := hT.row
    subst hv
    obtain ⟨hl, ⟨h0, _⟩ | ⟨g', cap', cur, hv', hb', hg', hn', hm', hs', ht'⟩⟩ := hr
    · cases h0
    · cases hv'
      rw [← q1] at hg'
      refine ⟨by rw [encCs_len], .inr ⟨g, cap, cur.setIfInBounds (i * 3 + 2) (.int .i64 (m : Int)), by simp, hb', heap_setCell_same _ _ _ _ _ _ hg', by simpa using hn', hm', by simpa using hs', ?_⟩⟩
      rw [List.length_set, Array.toList_setIfInBounds, List.take_set, ht', encCs_set _ _ _ _ _ hi]
  · rw [heap_setCell_other _ _ _ _ (fun e => hf (by have e' : b = g := e; rw [e']; exact hFg)), q1]
section
variable {w : World} {K R N : Nat} {C : Nat → Cl} {F : Nat → Prop}
set_option maxRecDepth 100000 in
set_option maxHeartbeats 1600000 in
theorem holdK_ok (h : TkA K R C N w F) (hN : N ≤ 2097152) (n : Nat) (hn : n < 32) (m : Nat) (hm : (C n).ho = m) (h0 : 0 < m) (hb : m < 9223372036854775807) : Calls Try.prog 58 #[tp K, .int .i64 (n : Int)] w fun e w' => e = .returned (.int .i64 0) ∧ TkA K R (put C n ⟨(C n).se, m + 1⟩) N w' F ∧ Ext F w F w' := by
  obtain ⟨cv, cl, hT, hRl, hlN, he⟩ := h
  obtain ⟨c0, _, _⟩ := hT.cv0
  have hcl : isCl C (n : Int) = true := by rw [isCl_nat C hn, hm]; simp; omega
  obtain ⟨n', i, hnn, _, hh, hi, hA⟩ := at_yes hT hRl (by omega) hcl
  obtain rfl : n' = n := by omega
  have HA := hide hA
  obtain ⟨g, cap, hv, d0, d1, d2, ff⟩ := hT.at hi
  have f2 := ff (i * 3 + 2)
  simp only [hm] at d2
  have hil := (List.getElem?_eq_some_iff.1 hi).1
  have HFin : Hid (∀ w2 : World, w2.heap = w.heap → w2.os = w.os → w2.tape = w.tape → w2.output = w.output → TkA K R (put C n' ⟨(C n').se, m + 1⟩) N (w2.setCell ⟨g, i * 3 + 2, none⟩ (.int .i64 ((m : Int) + 1))) F ∧ Ext F w F (w2.setCell ⟨g, i * 3 + 2, none⟩ (.int .i64 ((m : Int) + 1)))) :=
    hide (fun w2 q1 q2 q3 q4 => holds_set hT hRl hlN he hv hi hn (m + 1) (by omega) (by omega) w2 q1 q2 q3 q4)
  have hKg : K ≠ g := fun e => hT.ne (by rw [hv, e]; rfl)
  obtain ⟨L, hL⟩ : ∃ L, cl.length = L := ⟨_, rfl⟩
  rw [hL] at hv hil
  subst hv
  have hil' : (i : Int) < (L : Int) := by omega
  generalize (C n').se = se at *
  clear hi hT hA hh hRl he hm hcl d0 d1 ff hlN
  · go_enter Try.func58, Try.ntmps58
    go_wp2_with fail
    refine HA.out.mono ?_
    rintro e w1 ⟨rfl, rfl⟩
    go_upto_region 4 with fail
    refine wp_region_held_drew (S := fun W => W.cell? ⟨K, 0, none⟩ = some (.slice (some ⟨g, 0, none⟩) L cap)) (by kernel_rfl) c0 (fun _ => ?_)
    obtain ⟨w2, hw2⟩ : ∃ w2, w2 = w1.drew := ⟨_, rfl⟩
    rw [← hw2]
    have c2 : w2.cell? ⟨K, 0, none⟩ = some (.slice (some ⟨g, 0, none⟩) L cap) := by rw [hw2]; exact c0
    have d3 : w2.cell? ⟨g, i * 3 + 2, none⟩ = some (.int .i64 (m : Int)) := by rw [hw2]; exact d2
    have f3 : w2.frozen? ⟨g, i * 3 + 2, none⟩ = false := by rw [hw2]; exact f2
    have HS2 : Hid (w2.heap = w1.heap ∧ w2.os = w1.os ∧ w2.tape = w1.tape ∧ w2.output = w1.output) := by rw [hw2]; exact hide ⟨rfl, rfl, rfl, rfl⟩
    clear hw2 d2 f2 c0
    refine hd_take 0 (o := ⟨some 11, _, _, _, _, _⟩) (tp K) (by kernel_rfl) (by kernel_rfl) (by kernel_rfl) rfl (by rfl) (fun W hSw => by go_simp) (fun _ _ _ h => h) c2 ?_
    simp only [Act.put, List.setIfInBounds_toArray, List.set_cons_zero, List.set_cons_succ]
    refine hd_take 1 (o := ⟨some 12, _, _, _, _, _⟩) (.pointer (some ⟨K, 0, none⟩)) (by kernel_rfl) (by kernel_rfl) (by kernel_rfl) rfl (by rfl) (fun W hSw => by go_simp) (fun _ _ _ h => h) c2 ?_
    simp only [Act.put, List.setIfInBounds_toArray, List.set_cons_zero, List.set_cons_succ]
    refine hd_take 2 (o := ⟨some 13, _, _, _, _, _⟩) (.pointer (some ⟨K, 0, none⟩)) (by kernel_rfl) (by kernel_rfl) (by kernel_rfl) rfl (by rfl) (fun W hSw => by go_simp) (fun _ _ _ h => h) c2 ?_
    simp only [Act.put, List.setIfInBounds_toArray, List.set_cons_zero, List.set_cons_succ]
    refine hd_take 3 (o := ⟨some 14, _, _, _, _, _⟩) (.slice (some ⟨g, 0, none⟩) L cap) (by kernel_rfl) (by kernel_rfl) (by kernel_rfl) rfl (by rfl) (fun W hSw => by go_simp) (fun _ _ _ h => h) c2 ?_
    simp only [Act.put, List.setIfInBounds_toArray, List.set_cons_zero, List.set_cons_succ]
    refine hd_take 4 (o := ⟨some 15, _, _, _, _, _⟩) (.int .i64 (i : Int)) (by kernel_rfl) (by kernel_rfl) (by kernel_rfl) rfl (by rfl) (fun W hSw => by go_simp) (fun _ _ _ h => h) c2 ?_
    simp only [Act.put, List.setIfInBounds_toArray, List.set_cons_zero, List.set_cons_succ]
    refine hd_take 5 (o := ⟨some 16, _, _, _, _, _⟩) (tp K) (by kernel_rfl) (by kernel_rfl) (by kernel_rfl) rfl (by rfl) (fun W hSw => by go_simp) (fun _ _ _ h => h) c2 ?_
    simp only [Act.put, List.setIfInBounds_toArray, List.set_cons_zero, List.set_cons_succ]
    refine hd_take 6 (o := ⟨some 17, _, _, _, _, _⟩) (.pointer (some ⟨K, 0, none⟩)) (by kernel_rfl) (by kernel_rfl) (by kernel_rfl) rfl (by rfl) (fun W hSw => by go_simp) (fun _ _ _ h => h) c2 ?_
    simp only [Act.put, List.setIfInBounds_toArray, List.set_cons_zero, List.set_cons_succ]
    refine hd_take 7 (o := ⟨some 18, _, _, _, _, _⟩) (.pointer (some ⟨K, 0, none⟩)) (by kernel_rfl) (by kernel_rfl) (by kernel_rfl) rfl (by rfl) (fun W hSw => by go_simp) (fun _ _ _ h => h) c2 ?_
    simp only [Act.put, List.setIfInBounds_toArray, List.set_cons_zero, List.set_cons_succ]
    refine hd_take 8 (o := ⟨some 19, _, _, _, _, _⟩) (.slice (some ⟨g, 0, none⟩) L cap) (by kernel_rfl) (by kernel_rfl) (by kernel_rfl) rfl (by rfl) (fun W hSw => by go_simp) (fun _ _ _ h => h) c2 ?_
    simp only [Act.put, List.setIfInBounds_toArray, List.set_cons_zero, List.set_cons_succ]
    refine hd_take 9 (o := ⟨some 20, _, _, _, _, _⟩) (.int .i64 (i : Int)) (by kernel_rfl) (by kernel_rfl) (by kernel_rfl) rfl (by rfl) (fun W hSw => by go_simp) (fun _ _ _ h => h) c2 ?_
    simp only [Act.put, List.setIfInBounds_toArray, List.set_cons_zero, List.set_cons_succ]
    refine hd_take 10 (o := ⟨some 21, _, _, _, _, _⟩) (.pointer (some ⟨g, i * 3, none⟩)) (by kernel_rfl) (by kernel_rfl) (by kernel_rfl) rfl (by rfl) (fun W hSw => by go_simp <;> omega) (fun _ _ _ h => h) c2 ?_
    simp only [Act.put, List.setIfInBounds_toArray, List.set_cons_zero, List.set_cons_succ]
    refine hd_take 11 (o := ⟨some 22, _, _, _, _, _⟩) (.pointer (some ⟨g, i * 3 + 2, none⟩)) (by kernel_rfl) (by kernel_rfl) (by kernel_rfl) rfl (by rfl) (fun W hSw => by go_simp) (fun _ _ _ h => h) c2 ?_
    simp only [Act.put, List.setIfInBounds_toArray, List.set_cons_zero, List.set_cons_succ]
    refine hd_call 12 (o := ⟨some 23, _, _, _, _, _⟩) (by kernel_rfl) rfl (by rfl) (fun K' hK => ?_)
    go_simp
    refine hK _ _ c2 ?_
    clear hK K'
    try simp only [Act.put, List.setIfInBounds_toArray, List.set_cons_zero, List.set_cons_succ]
    refine hd_call 13 (o := ⟨some 24, _, _, _, _, _⟩) (by kernel_rfl) rfl (by rfl) (fun K' hK => ?_)
    go_simp
    refine hK _ _ c2 ?_
    clear hK K'
    try simp only [Act.put, List.setIfInBounds_toArray, List.set_cons_zero, List.set_cons_succ]
    refine hd_call 14 (o := ⟨some 25, _, _, _, _, _⟩) (by kernel_rfl) rfl (by rfl) (fun K' hK => ?_)
    go_simp
    go_wp2_with fail
    refine hK _ _ c2 ?_
    clear hK K'
    try simp only [Act.put, List.setIfInBounds_toArray, List.set_cons_zero, List.set_cons_succ]
    refine hd_call 15 (o := ⟨some 26, _, _, _, _, _⟩) (by kernel_rfl) rfl (by rfl) (fun K' hK => ?_)
    go_simp
    refine hK _ _ c2 ?_
    clear hK K'
    try simp only [Act.put, List.setIfInBounds_toArray, List.set_cons_zero, List.set_cons_succ]
    refine hd_call 16 (o := ⟨none, _, _, _, _, _⟩) (by kernel_rfl) rfl (by rfl) (fun K' hK => ?_)
    go_simp
    refine hK _ _ (by rw [World.cell?_of_block (heap_setCell_other _ _ _ _ hKg)]; exact c2) ?_
    clear hK K'
    try simp only [Act.put, List.setIfInBounds_toArray, List.set_cons_zero, List.set_cons_succ]
    refine wpAnyH_done (by kernel_rfl) ?_ _
    obtain ⟨hf1, hf2⟩ := HFin.out w2 HS2.out.1 HS2.out.2.1 HS2.out.2.2.1 HS2.out.2.2.2
    have H1 := hide hf1
    have H2 := hide hf2
    clear hf1 hf2 HFin
    try rw [show IntKind.i64.wrap ((m : Int) + 1) = (m : Int) + 1 by simp [IntKind.wrap, IntKind.signed, IntKind.bits]; omega]
    generalize w2.setCell ⟨g, i * 3 + 2, none⟩ _ = w3 at *
    go_wp2
    go_ret
    exact ⟨rfl, H1.out, H2.out⟩
set_option maxRecDepth 100000 in
set_option maxHeartbeats 1600000 in
theorem dropK_some (h : TkA K R C N w F) (hN : N ≤ 2097152) (n : Nat) (hn : n < 32) (m : Nat) (hm : (C n).ho = m) (h0 : 1 < m) (hb : m < 9223372036854775807) : Calls Try.prog 59 #[tp K, .int .i64 (n : Int)] w fun e w' => e = .returned (.tuple #[.bool false, .int .i64 0]) ∧ TkA K R (put C n ⟨(C n).se, m - 1⟩) N w' F ∧ Ext F w F w' := by
  obtain ⟨cv, cl, hT, hRl, hlN, he⟩ := h
  obtain ⟨c0, _, _⟩ := hT.cv0
  have hcl : isCl C (n : Int) = true := by rw [isCl_nat C hn, hm]; simp; omega
  obtain ⟨n', i, hnn, _, hh, hi, hA⟩ := at_yes hT hRl (by omega) hcl
  obtain rfl : n' = n := by omega
  have HA := hide hA
  obtain ⟨g, cap, hv, d0, d1, d2, ff⟩ := hT.at hi
  have f2 := ff (i * 3 + 2)
  simp only [hm] at d2
  have hil := (List.getElem?_eq_some_iff.1 hi).1
  have HFin : Hid (∀ w2 : World, w2.heap = w.heap → w2.os = w.os → w2.tape = w.tape → w2.output = w.output → TkA K R (put C n' ⟨(C n').se, m - 1⟩) N (w2.setCell ⟨g, i * 3 + 2, none⟩ (.int .i64 ((m : Int) - 1))) F ∧ Ext F w F (w2.setCell ⟨g, i * 3 + 2, none⟩ (.int .i64 ((m : Int) - 1)))) :=
    hide (fun w2 q1 q2 q3 q4 => holds_set hT hRl hlN he hv hi hn (m - 1) (by omega) (by omega) w2 q1 q2 q3 q4)
  have hKg : K ≠ g := fun e => hT.ne (by rw [hv, e]; rfl)
  obtain ⟨L, hL⟩ : ∃ L, cl.length = L := ⟨_, rfl⟩
  rw [hL] at hv hil
  subst hv
  have hil' : (i : Int) < (L : Int) := by omega
  generalize (C n').se = se at *
  clear hi hT hA hh hRl he hm hcl d0 d1 ff hlN
  · go_enter Try.func59, Try.ntmps59
    go_wp2_with fail
    refine HA.out.mono ?_
    rintro e w1 ⟨rfl, rfl⟩
    go_upto_region 5 with fail
    refine wp_region_held_drew (S := fun W => W.cell? ⟨K, 0, none⟩ = some (.slice (some ⟨g, 0, none⟩) L cap)) (by kernel_rfl) c0 (fun _ => ?_)
    obtain ⟨w2, hw2⟩ : ∃ w2, w2 = w1.drew := ⟨_, rfl⟩
    rw [← hw2]
    have c2 : w2.cell? ⟨K, 0, none⟩ = some (.slice (some ⟨g, 0, none⟩) L cap) := by rw [hw2]; exact c0
    have d3 : w2.cell? ⟨g, i * 3 + 2, none⟩ = some (.int .i64 (m : Int)) := by rw [hw2]; exact d2
    have f3 : w2.frozen? ⟨g, i * 3 + 2, none⟩ = false := by rw [hw2]; exact f2
    have HS2 : Hid (w2.heap = w1.heap ∧ w2.os = w1.os ∧ w2.tape = w1.tape ∧ w2.output = w1.output) := by rw [hw2]; exact hide ⟨rfl, rfl, rfl, rfl⟩
    clear hw2 d2 f2 c0
    refine hd_take 0 (o := ⟨some 23, _, _, _, _, _⟩) (tp K) (by kernel_rfl) (by kernel_rfl) (by kernel_rfl) rfl (by rfl) (fun W hSw => by go_simp) (fun _ _ _ h => h) c2 ?_
    simp only [Act.put, List.setIfInBounds_toArray, List.set_cons_zero, List.set_cons_succ]
    refine hd_take 1 (o := ⟨some 24, _, _, _, _, _⟩) (.pointer (some ⟨K, 0, none⟩)) (by kernel_rfl) (by kernel_rfl) (by kernel_rfl) rfl (by rfl) (fun W hSw => by go_simp) (fun _ _ _ h => h) c2 ?_
    simp only [Act.put, List.setIfInBounds_toArray, List.set_cons_zero, List.set_cons_succ]
    refine hd_take 2 (o := ⟨some 25, _, _, _, _, _⟩) (.pointer (some ⟨K, 0, none⟩)) (by kernel_rfl) (by kernel_rfl) (by kernel_rfl) rfl (by rfl) (fun W hSw => by go_simp) (fun _ _ _ h => h) c2 ?_
    simp only [Act.put, List.setIfInBounds_toArray, List.set_cons_zero, List.set_cons_succ]
    refine hd_take 3 (o := ⟨some 26, _, _, _, _, _⟩) (.slice (some ⟨g, 0, none⟩) L cap) (by kernel_rfl) (by kernel_rfl) (by kernel_rfl) rfl (by rfl) (fun W hSw => by go_simp) (fun _ _ _ h => h) c2 ?_
    simp only [Act.put, List.setIfInBounds_toArray, List.set_cons_zero, List.set_cons_succ]
    refine hd_take 4 (o := ⟨some 27, _, _, _, _, _⟩) (.int .i64 (i : Int)) (by kernel_rfl) (by kernel_rfl) (by kernel_rfl) rfl (by rfl) (fun W hSw => by go_simp) (fun _ _ _ h => h) c2 ?_
    simp only [Act.put, List.setIfInBounds_toArray, List.set_cons_zero, List.set_cons_succ]
    refine hd_take 5 (o := ⟨some 28, _, _, _, _, _⟩) (tp K) (by kernel_rfl) (by kernel_rfl) (by kernel_rfl) rfl (by rfl) (fun W hSw => by go_simp) (fun _ _ _ h => h) c2 ?_
    simp only [Act.put, List.setIfInBounds_toArray, List.set_cons_zero, List.set_cons_succ]
    refine hd_take 6 (o := ⟨some 29, _, _, _, _, _⟩) (.pointer (some ⟨K, 0, none⟩)) (by kernel_rfl) (by kernel_rfl) (by kernel_rfl) rfl (by rfl) (fun W hSw => by go_simp) (fun _ _ _ h => h) c2 ?_
    simp only [Act.put, List.setIfInBounds_toArray, List.set_cons_zero, List.set_cons_succ]
    refine hd_take 7 (o := ⟨some 30, _, _, _, _, _⟩) (.pointer (some ⟨K, 0, none⟩)) (by kernel_rfl) (by kernel_rfl) (by kernel_rfl) rfl (by rfl) (fun W hSw => by go_simp) (fun _ _ _ h => h) c2 ?_
    simp only [Act.put, List.setIfInBounds_toArray, List.set_cons_zero, List.set_cons_succ]
    refine hd_take 8 (o := ⟨some 31, _, _, _, _, _⟩) (.slice (some ⟨g, 0, none⟩) L cap) (by kernel_rfl) (by kernel_rfl) (by kernel_rfl) rfl (by rfl) (fun W hSw => by go_simp) (fun _ _ _ h => h) c2 ?_
    simp only [Act.put, List.setIfInBounds_toArray, List.set_cons_zero, List.set_cons_succ]
    refine hd_take 9 (o := ⟨some 32, _, _, _, _, _⟩) (.int .i64 (i : Int)) (by kernel_rfl) (by kernel_rfl) (by kernel_rfl) rfl (by rfl) (fun W hSw => by go_simp) (fun _ _ _ h => h) c2 ?_
    simp only [Act.put, List.setIfInBounds_toArray, List.set_cons_zero, List.set_cons_succ]
    refine hd_take 10 (o := ⟨some 33, _, _, _, _, _⟩) (.pointer (some ⟨g, i * 3, none⟩)) (by kernel_rfl) (by kernel_rfl) (by kernel_rfl) rfl (by rfl) (fun W hSw => by go_simp <;> omega) (fun _ _ _ h => h) c2 ?_
    simp only [Act.put, List.setIfInBounds_toArray, List.set_cons_zero, List.set_cons_succ]
    refine hd_take 11 (o := ⟨some 34, _, _, _, _, _⟩) (.pointer (some ⟨g, i * 3 + 2, none⟩)) (by kernel_rfl) (by kernel_rfl) (by kernel_rfl) rfl (by rfl) (fun W hSw => by go_simp) (fun _ _ _ h => h) c2 ?_
    simp only [Act.put, List.setIfInBounds_toArray, List.set_cons_zero, List.set_cons_succ]
    refine hd_call 12 (o := ⟨some 35, _, _, _, _, _⟩) (by kernel_rfl) rfl (by rfl) (fun K' hK => ?_)
    go_simp
    refine hK _ _ c2 ?_
    clear hK K'
    try simp only [Act.put, List.setIfInBounds_toArray, List.set_cons_zero, List.set_cons_succ]
    refine hd_call 13 (o := ⟨some 36, _, _, _, _, _⟩) (by kernel_rfl) rfl (by rfl) (fun K' hK => ?_)
    go_simp
    refine hK _ _ c2 ?_
    clear hK K'
    try simp only [Act.put, List.setIfInBounds_toArray, List.set_cons_zero, List.set_cons_succ]
    refine hd_call 14 (o := ⟨some 37, _, _, _, _, _⟩) (by kernel_rfl) rfl (by rfl) (fun K' hK => ?_)
    go_simp
    go_wp2_with fail
    refine hK _ _ c2 ?_
    clear hK K'
    try simp only [Act.put, List.setIfInBounds_toArray, List.set_cons_zero, List.set_cons_succ]
    refine hd_call 15 (o := ⟨some 38, _, _, _, _, _⟩) (by kernel_rfl) rfl (by rfl) (fun K' hK => ?_)
    go_simp
    refine hK _ _ c2 ?_
    clear hK K'
    try simp only [Act.put, List.setIfInBounds_toArray, List.set_cons_zero, List.set_cons_succ]
    refine hd_call 16 (o := ⟨none, _, _, _, _, _⟩) (by kernel_rfl) rfl (by rfl) (fun K' hK => ?_)
    go_simp
    refine hK _ _ (by rw [World.cell?_of_block (heap_setCell_other _ _ _ _ hKg)]; exact c2) ?_
    clear hK K'
    try simp only [Act.put, List.setIfInBounds_toArray, List.set_cons_zero, List.set_cons_succ]
    refine wpAnyH_done (by kernel_rfl) ?_ _
    obtain ⟨hf1, hf2⟩ := HFin.out w2 HS2.out.1 HS2.out.2.1 HS2.out.2.2.1 HS2.out.2.2.2
    have H1 := hide hf1
    have H2 := hide hf2
    clear hf1 hf2 HFin
    try rw [show IntKind.i64.wrap ((m : Int) - 1) = (m : Int) - 1 by simp [IntKind.wrap, IntKind.signed, IntKind.bits]; omega]
    generalize w2.setCell ⟨g, i * 3 + 2, none⟩ _ = w3 at *
    go_wp2
    go_ret2
    exact ⟨rfl, H1.out, H2.out⟩
theorem holdK_no (h : TkA K R C N w F) (hN : N ≤ 2097152) (z : Int) (hc : isCl C z = false) : Calls Try.prog 58 #[tp K, .int .i64 z] w fun e w' => e = .returned (.int .i64 100) ∧ w' = w := by
  obtain ⟨cv, cl, hT, hRl, hlN, he⟩ := h
  have HA := hide (at_no hT hRl (by omega) hc)
  clear hc hT
  go_enter Try.func58, Try.ntmps58
  go_wp2_with fail
  refine HA.out.mono ?_
  rintro e w1 ⟨rfl, rfl⟩
  go_wp2
  go_ret
  exact ⟨rfl, rfl⟩
theorem dropK_no (h : TkA K R C N w F) (hN : N ≤ 2097152) (z : Int) (hc : isCl C z = false) : Calls Try.prog 59 #[tp K, .int .i64 z] w fun e w' => e = .returned (.tuple #[.bool false, .int .i64 100]) ∧ w' = w := by
  obtain ⟨cv, cl, hT, hRl, hlN, he⟩ := h
  have HA := hide (at_no hT hRl (by omega) hc)
  clear hc hT
  go_enter Try.func59, Try.ntmps59
  go_wp2_with fail
  refine HA.out.mono ?_
  rintro e w1 ⟨rfl, rfl⟩
  go_wp2
  go_ret2
  exact ⟨rfl, rfl⟩
end
end Go.Proofs.Ytogpgchfaalikaa
