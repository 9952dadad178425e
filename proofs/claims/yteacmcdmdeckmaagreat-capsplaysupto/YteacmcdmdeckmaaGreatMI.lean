import Derived.Test.YteacmcdmdeckmaaGreatMH
namespace Go.Proofs.YteacmcdmdeckmaaGreat
open Go.RowKit

theorem no_row {bk : List (Option Lst)} {K : List Rw} (ha : Ag bk K) {e : Int} (hn : look bk e = none) (P : Rc → Bool) : K.filter (fun x => decide ((x.1.1 : Int) = e) && P x.2) = [] := by
  rw [List.filter_eq_nil_iff]
  intro x hx hp
  simp only [Bool.and_eq_true, decide_eq_true_eq] at hp
  have hat := (ha.mem x.1.1 x.1.2 x.2).1 hx
  rw [hp.1] at hat
  unfold atB at hat
  rw [hn] at hat
  cases hat
section
variable {w1 : World} {F1 : Nat → Prop} {B R : Nat} {bk : List (Option Lst)} {f : Int → Int → Nat}
theorem count_both (h : Book w1 F1 B bk) (e k : Int) : Calls Tryz.prog 18 #[tp B, .int .i64 e, .int .i64 k] w1 fun x w2 => ∃ c : Int, x = .returned (.int .i64 c) ∧ Below w1.heap.size w1 w2 ∧ ∀ w3 F3, RbA R bk w3 F3 → Calls Tryz.prog 19 #[tp R, .int .i64 e, .int .i64 k] w3 fun x w4 => x = .returned (.int .i64 c) ∧ Below w3.heap.size w3 w4 := by
  have hw := h.wb
  refine (count_any w1 F1 B bk h e k).mono ?_
  rintro x w2 ⟨rfl, hb⟩
  refine ⟨_, rfl, hb, fun w3 F3 hr => ?_⟩
  obtain ⟨v, K, h1, ha, he⟩ := hr
  refine (countD_any h1 (ha.len hw.p8) e k).mono ?_
  rintro x w4 ⟨rfl, rfl⟩
  refine ⟨?_, Below.refl _ _⟩
  have : (K.filter (fun x : Rw => decide ((x.1.1 : Int) = e) && decide (x.2.k = k))).length = cnt bk e k := by
    unfold cnt
    cases hl : look bk e with
    | none => rw [no_row ha hl (fun r => decide (r.k = k))]; rfl
    | some l =>
      obtain ⟨i, ei, hi⟩ := look_open hl
      subst ei
      rw [ha.one hi (fun r => decide (r.k = k))]
      unfold lrw fit
      dsimp only
      rw [List.filter_map, List.length_map, List.length_map]
      rfl
  rw [this]
theorem on_both (h : Book w1 F1 B bk) (k o : Int) : Calls Tryz.prog 20 #[tp B, .int .i64 k, .int .i64 o] w1 fun x w2 => ∃ c : Int, x = .returned (.int .i64 c) ∧ Below w1.heap.size w1 w2 ∧ ∀ w3 F3, RbA R bk w3 F3 → Calls Tryz.prog 21 #[tp R, .int .i64 k, .int .i64 o] w3 fun x w4 => x = .returned (.int .i64 c) ∧ Below w3.heap.size w3 w4 := by
  have hw := h.wb
  refine (on_any w1 F1 B bk h k o).mono ?_
  rintro x w2 ⟨rfl, hb⟩
  refine ⟨_, rfl, hb, fun w3 F3 hr => ?_⟩
  obtain ⟨v, K, h1, ha, he⟩ := hr
  refine (onD_any h1 (ha.len hw.p8) k o).mono ?_
  rintro x w4 ⟨rfl, rfl⟩
  refine ⟨?_, Below.refl _ _⟩
  have e1 := ha.pls (fun r => decide (r.k = k) && decide (r.o = o))
  rw [e1, rws_len (fun p hp => by
    obtain ⟨r, hr, _⟩ := mem_pls.1 (show (p.1, p.2) ∈ _ from hp)
    exact ⟨r, hr⟩)]
theorem env_rows {K : List Rw} (ha : Ag bk K) {i : Nat} {l : Lst} (hi : bk[i]? = some (some l)) : K.filter (fun x : Rw => decide ((x.1.1 : Int) = (i : Int))) = lrw i l := by
  have e1 := ha.one hi (fun _ => true)
  have e2 : (lrw i l).filter (fun _ : Rw => true) = lrw i l := List.filter_eq_self.2 (fun _ _ => rfl)
  simp only [Bool.and_true] at e1
  rw [e1, e2]
theorem room_both (h : Book w1 F1 B bk) (e : Int) : Calls Tryz.prog 22 #[tp B, .int .i64 e] w1 fun x w2 => ∃ c : Int, x = .returned (.int .i64 c) ∧ Below w1.heap.size w1 w2 ∧ ∀ w3 F3, RbA R bk w3 F3 → Calls Tryz.prog 23 #[tp R, .int .i64 e] w3 fun x w4 => x = .returned (.int .i64 c) ∧ Below w3.heap.size w3 w4 := by
  have hw := h.wb
  cases hl : look bk e with
  | none =>
    refine (room_none w1 F1 B bk h e hl).mono ?_
    rintro x w2 ⟨rfl, rfl⟩
    refine ⟨_, rfl, Below.refl _ _, fun w3 F3 hr => ?_⟩
    obtain ⟨v, K, h1, ha, he⟩ := hr
    refine (roomD_any h1 hw (ha.len hw.p8) e).mono ?_
    rintro x w4 ⟨rfl, hb⟩
    rw [hl]
    exact ⟨rfl, hb⟩
  | some l =>
    obtain ⟨i, ei, hi⟩ := look_open hl
    subst ei
    refine (room_any w1 F1 B bk h i l hi).mono ?_
    rintro x w2 ⟨rfl, rfl⟩
    refine ⟨_, rfl, Below.refl _ _, fun w3 F3 hr => ?_⟩
    obtain ⟨v, K, h1, ha, he⟩ := hr
    refine (roomD_any h1 hw (ha.len hw.p8) (i : Int)).mono ?_
    rintro x w4 ⟨rfl, hb⟩
    rw [hl, env_rows ha hi]
    refine ⟨?_, hb⟩
    have : (lrw i l).length = l.countP Option.isSome := by unfold lrw; rw [List.length_map, prs_len]
    rw [this]; rfl
theorem find_both (h : Book w1 F1 B bk) (hs : Snd bk f) (e k s rt : Int) : Calls Tryz.prog 24 #[tp B, .int .i64 e, .int .i64 k, .int .i64 s, .int .i64 rt] w1 fun x w2 => ∃ c : Int, x = .returned (.int .i64 c) ∧ Below w1.heap.size w1 w2 ∧ ∀ w3 F3, RbA R bk w3 F3 → Calls Tryz.prog 25 #[tp R, .int .i64 e, .int .i64 k, .int .i64 s, .int .i64 rt] w3 fun x w4 => x = .returned (.int .i64 c) ∧ Below w3.heap.size w3 w4 := by
  have hw := h.wb
  by_cases hrt : 0 ≤ rt ∧ rt ≤ 15
  · obtain ⟨q, rfl⟩ : ∃ q : Nat, rt = (q : Int) := ⟨rt.toNat, by omega⟩
    have hdoc : ∀ w3 F3, RbA R bk w3 F3 → ∀ c : Int, (∀ K, Ag bk K → ∀ u, DFnd e k s (q : Int) K u → u = c) → Calls Tryz.prog 25 #[tp R, .int .i64 e, .int .i64 k, .int .i64 s, .int .i64 (q : Int)] w3 fun x w4 => x = .returned (.int .i64 c) ∧ Below w3.heap.size w3 w4 := by
      intro w3 F3 hr c hc
      obtain ⟨v, K, h1, ha, he⟩ := hr
      refine (findD_any h1 ha hw (fun e s r h => (hs e s r h).1) e k s q (by omega)).mono ?_
      rintro x w4 ⟨u, rfl, hd, hb⟩
      exact ⟨by rw [hc K ha u hd], hb⟩
    cases hl : look bk e with
    | none =>
      refine (find_none w1 F1 B bk h e k s (q : Int) hl).mono ?_
      rintro x w2 ⟨rfl, hb⟩
      exact ⟨_, rfl, hb, fun w3 F3 hr => hdoc w3 F3 hr _ (fun K ha u hd => dfnd_none ha hl hd)⟩
    | some l =>
      obtain ⟨i, ei, hi⟩ := look_open hl
      subst ei
      refine (find_any w1 F1 B bk h i l hi k s (q : Int) hrt).mono ?_
      rintro x w2 ⟨c, rfl, hf, hb⟩
      exact ⟨_, rfl, hb, fun w3 F3 hr => hdoc w3 F3 hr _ (fun K ha u hd => dfnd_eq ha hi hf hd)⟩
  · refine (find_bad w1 F1 B bk h e k s rt hrt).mono ?_
    rintro x w2 ⟨rfl, hb⟩
    refine ⟨_, rfl, hb, fun w3 F3 _ => ?_⟩
    refine (findD_bad e k s rt hrt).mono ?_
    rintro x w4 ⟨rfl, rfl⟩
    exact ⟨rfl, Below.refl _ _⟩
end
set_option maxRecDepth 100000 in
set_option maxHeartbeats 6400000 in
theorem pl_count {w0 w : World} {B R : Nat} {Rst : Asn} (hS : Sys w0 w (star (PrA B R) Rst)) (hG : Good Rst) (o : Opr) (two : Bool) (ins : Value) (hq : o.q = 12) :
    Calls Tryz.prog 6 #[tp B, tp R, o.val two ins] w fun x w' => x = .returned (.bool true) ∧ Sys w0 w' (star (PrA B R) Rst) := by
  have S0 := hS.box ((good_pr B R).star hG) o two ins
  obtain ⟨bk, f, hsnd, S1⟩ := S0.swap.open8
  have hgX : Good (star (BxA w.heap.size o two ins) Rst) := (good_bx _ _ _ _).star hG
  have hwb := S1.wb
  have HSn := hide hsnd
  have HW := hide hwb
  have HG := hide hG
  have HGX := hide hgX
  have HS1 := hide S1
  obtain ⟨c0, c1, c2, c3, c4, c5, c6, c7, c8, c9, c10, c11⟩ := S1.bx
  have HQ := hide hq
  clear hS S0 S1 hsnd hgX hwb hG hq
  unfold Opr.val
  go_enter Tryz.func6, Tryz.ntmps6
  go_upto_region 1 with fail
  generalize w.alloc (.cells #[.bool two, .int .i64 o.q, .int .i64 o.e, .int .i64 o.s, .int .i64 o.t, .int .i64 o.a, .int .i64 o.r, .int .i64 o.ck, .int .i64 o.co, .int .i64 o.cs, .int .i64 o.cr, ins] 31) = w1 at *
  generalize w.heap.size = G at *
  rw [HQ.out] at c1
  go_upto_region 19 with fail
  obtain ⟨wd, hwd⟩ : ∃ W, W = w1.drew := ⟨_, rfl⟩
  have HSd : Hid (Sys w0 wd (star (BkA B bk) (star (RbA R bk) (star (BxA G o two ins) Rst)))) := hide (HS1.out.below ((good_bk B bk).star ((good_rb R bk).star HGX.out)) (by rw [hwd]; exact ⟨rfl, rfl, rfl, Nat.le_refl _, fun _ _ => rfl⟩))
  have HS : Hid (Cells12 wd G o two ins) := hide HSd.out.bx
  refine wp_region_held_drew (S := fun W => Cells12 W G o two ins) (by kernel_rfl) (by rw [← hwd]; exact HS.out) (fun _ => ?_)
  rw [← hwd]
  clear hwd HS1
  refine hd_take 0 (o := ⟨some 140, _, _, _, _, _⟩) (tp B) (by kernel_rfl) (by kernel_rfl) (by kernel_rfl) rfl (by rfl) (fun W hSw => by go_simp) (fun _ _ _ h => h) HS.out ?_
  simp only [Act.put, List.setIfInBounds_toArray, List.set_cons_zero, List.set_cons_succ]
  refine hd_take 1 (o := ⟨some 141, _, _, _, _, _⟩) (.pointer (some ⟨G, 2, none⟩)) (by kernel_rfl) (by kernel_rfl) (by kernel_rfl) rfl (by rfl) (fun W hSw => by go_simp) (fun _ _ _ h => h) HS.out ?_
  simp only [Act.put, List.setIfInBounds_toArray, List.set_cons_zero, List.set_cons_succ]
  refine hd_take 2 (o := ⟨some 142, _, _, _, _, _⟩) (.int .i64 o.e) (by kernel_rfl) (by kernel_rfl) (by kernel_rfl) rfl (by rfl) (fun W hSw => by have hc := hSw.c2; go_simp) (fun _ _ _ h => h) HS.out ?_
  simp only [Act.put, List.setIfInBounds_toArray, List.set_cons_zero, List.set_cons_succ]
  refine hd_take 3 (o := ⟨some 143, _, _, _, _, _⟩) (.pointer (some ⟨G, 7, none⟩)) (by kernel_rfl) (by kernel_rfl) (by kernel_rfl) rfl (by rfl) (fun W hSw => by go_simp) (fun _ _ _ h => h) HS.out ?_
  simp only [Act.put, List.setIfInBounds_toArray, List.set_cons_zero, List.set_cons_succ]
  refine hd_take 4 (o := ⟨some 144, _, _, _, _, _⟩) (.pointer (some ⟨G, 7, none⟩)) (by kernel_rfl) (by kernel_rfl) (by kernel_rfl) rfl (by rfl) (fun W hSw => by go_simp) (fun _ _ _ h => h) HS.out ?_
  simp only [Act.put, List.setIfInBounds_toArray, List.set_cons_zero, List.set_cons_succ]
  refine hd_take 5 (o := ⟨some 145, _, _, _, _, _⟩) (.int .i64 o.ck) (by kernel_rfl) (by kernel_rfl) (by kernel_rfl) rfl (by rfl) (fun W hSw => by have hc := hSw.c7; go_simp) (fun _ _ _ h => h) HS.out ?_
  simp only [Act.put, List.setIfInBounds_toArray, List.set_cons_zero, List.set_cons_succ]
  refine hd_take 7 (o := ⟨some 147, _, _, _, _, _⟩) (tp R) (by kernel_rfl) (by kernel_rfl) (by kernel_rfl) rfl (by rfl) (fun W hSw => by go_simp) (fun _ _ _ h => h) HS.out ?_
  simp only [Act.put, List.setIfInBounds_toArray, List.set_cons_zero, List.set_cons_succ]
  refine hd_take 8 (o := ⟨some 148, _, _, _, _, _⟩) (.pointer (some ⟨G, 2, none⟩)) (by kernel_rfl) (by kernel_rfl) (by kernel_rfl) rfl (by rfl) (fun W hSw => by go_simp) (fun _ _ _ h => h) HS.out ?_
  simp only [Act.put, List.setIfInBounds_toArray, List.set_cons_zero, List.set_cons_succ]
  refine hd_take 9 (o := ⟨some 149, _, _, _, _, _⟩) (.int .i64 o.e) (by kernel_rfl) (by kernel_rfl) (by kernel_rfl) rfl (by rfl) (fun W hSw => by have hc := hSw.c2; go_simp) (fun _ _ _ h => h) HS.out ?_
  simp only [Act.put, List.setIfInBounds_toArray, List.set_cons_zero, List.set_cons_succ]
  refine hd_take 10 (o := ⟨some 150, _, _, _, _, _⟩) (.pointer (some ⟨G, 7, none⟩)) (by kernel_rfl) (by kernel_rfl) (by kernel_rfl) rfl (by rfl) (fun W hSw => by go_simp) (fun _ _ _ h => h) HS.out ?_
  simp only [Act.put, List.setIfInBounds_toArray, List.set_cons_zero, List.set_cons_succ]
  refine hd_take 11 (o := ⟨some 151, _, _, _, _, _⟩) (.pointer (some ⟨G, 7, none⟩)) (by kernel_rfl) (by kernel_rfl) (by kernel_rfl) rfl (by rfl) (fun W hSw => by go_simp) (fun _ _ _ h => h) HS.out ?_
  simp only [Act.put, List.setIfInBounds_toArray, List.set_cons_zero, List.set_cons_succ]
  refine hd_take 12 (o := ⟨some 152, _, _, _, _, _⟩) (.int .i64 o.ck) (by kernel_rfl) (by kernel_rfl) (by kernel_rfl) rfl (by rfl) (fun W hSw => by have hc := hSw.c7; go_simp) (fun _ _ _ h => h) HS.out ?_
  simp only [Act.put, List.setIfInBounds_toArray, List.set_cons_zero, List.set_cons_succ]
  obtain ⟨F1, hb, _, _⟩ := HSd.out.call ((good_rb R bk).star HGX.out)
  have HP := hide (count_both (R := R) hb o.e o.ck)
  clear hb c0 c1 c2 c3 c4 c5 c6 c7 c8 c9 c10 c11
  refine hd_call 6 (o := ⟨some 146, _, _, _, _, _⟩) (by kernel_rfl) rfl (by rfl) (fun K' hK => ?_)
  go_simp
  go_wp2_with (go_at_call 18; refine HP.out.mono ?_; rintro e1 w2 ⟨c, rfl, hb2, h6⟩)
  have HS2 := hide (HSd.out.below ((good_bk B bk).star ((good_rb R bk).star HGX.out)) hb2)
  obtain ⟨F3, hr⟩ := HS2.out.drop.head
  have HR := hide (h6 w2 F3 hr)
  clear h6 hr hb2 HP
  refine hK _ _ HS2.out.bx ?_
  clear hK K'
  try simp only [Act.put, List.setIfInBounds_toArray, List.set_cons_zero, List.set_cons_succ]
  refine hd_call 13 (o := ⟨some 153, _, _, _, _, _⟩) (by kernel_rfl) rfl (by rfl) (fun K' hK => ?_)
  go_simp
  go_wp2_with (go_at_call 19; refine HR.out.mono ?_; rintro e1 w3 ⟨rfl, hb3⟩)
  have HS3 := hide (HS2.out.below ((good_bk B bk).star ((good_rb R bk).star HGX.out)) hb3)
  have HE := hide (HS3.out.shut8 HSn.out).swap.drop
  clear hb3 HR HS2
  refine hK _ _ HS3.out.bx ?_
  clear hK K'
  try simp only [Act.put, List.setIfInBounds_toArray, List.set_cons_zero, List.set_cons_succ]
  refine hd_call 14 (o := ⟨some 154, _, _, _, _, _⟩) (by kernel_rfl) rfl (by rfl) (fun K' hK => ?_)
  go_simp
  refine hK _ _ HS3.out.bx ?_
  clear hK K'
  try simp only [Act.put, List.setIfInBounds_toArray, List.set_cons_zero, List.set_cons_succ]
  refine hd_call 15 (o := ⟨some 6, _, _, _, _, _⟩) (by kernel_rfl) rfl (by rfl) (fun K' hK => ?_)
  go_simp
  refine hK _ _ HS3.out.bx ?_
  clear hK K'
  try simp only [Act.put, List.setIfInBounds_toArray, List.set_cons_zero, List.set_cons_succ]
  refine wpAnyH_done (by kernel_rfl) ?_ _
  go_wp2
  go_ret
  exact ⟨rfl, HE.out⟩
set_option maxRecDepth 100000 in
set_option maxHeartbeats 6400000 in
theorem pl_on {w0 w : World} {B R : Nat} {Rst : Asn} (hS : Sys w0 w (star (PrA B R) Rst)) (hG : Good Rst) (o : Opr) (two : Bool) (ins : Value) (hq : o.q = 13) :
    Calls Tryz.prog 6 #[tp B, tp R, o.val two ins] w fun x w' => x = .returned (.bool true) ∧ Sys w0 w' (star (PrA B R) Rst) := by
  have S0 := hS.box ((good_pr B R).star hG) o two ins
  obtain ⟨bk, f, hsnd, S1⟩ := S0.swap.open8
  have hgX : Good (star (BxA w.heap.size o two ins) Rst) := (good_bx _ _ _ _).star hG
  have hwb := S1.wb
  have HSn := hide hsnd
  have HW := hide hwb
  have HG := hide hG
  have HGX := hide hgX
  have HS1 := hide S1
  obtain ⟨c0, c1, c2, c3, c4, c5, c6, c7, c8, c9, c10, c11⟩ := S1.bx
  have HQ := hide hq
  clear hS S0 S1 hsnd hgX hwb hG hq
  unfold Opr.val
  go_enter Tryz.func6, Tryz.ntmps6
  go_upto_region 1 with fail
  generalize w.alloc (.cells #[.bool two, .int .i64 o.q, .int .i64 o.e, .int .i64 o.s, .int .i64 o.t, .int .i64 o.a, .int .i64 o.r, .int .i64 o.ck, .int .i64 o.co, .int .i64 o.cs, .int .i64 o.cr, ins] 31) = w1 at *
  generalize w.heap.size = G at *
  rw [HQ.out] at c1
  go_upto_region 21 with fail
  obtain ⟨wd, hwd⟩ : ∃ W, W = w1.drew := ⟨_, rfl⟩
  have HSd : Hid (Sys w0 wd (star (BkA B bk) (star (RbA R bk) (star (BxA G o two ins) Rst)))) := hide (HS1.out.below ((good_bk B bk).star ((good_rb R bk).star HGX.out)) (by rw [hwd]; exact ⟨rfl, rfl, rfl, Nat.le_refl _, fun _ _ => rfl⟩))
  have HS : Hid (Cells12 wd G o two ins) := hide HSd.out.bx
  refine wp_region_held_drew (S := fun W => Cells12 W G o two ins) (by kernel_rfl) (by rw [← hwd]; exact HS.out) (fun _ => ?_)
  rw [← hwd]
  clear hwd HS1
  refine hd_take 0 (o := ⟨some 157, _, _, _, _, _⟩) (tp B) (by kernel_rfl) (by kernel_rfl) (by kernel_rfl) rfl (by rfl) (fun W hSw => by go_simp) (fun _ _ _ h => h) HS.out ?_
  simp only [Act.put, List.setIfInBounds_toArray, List.set_cons_zero, List.set_cons_succ]
  refine hd_take 1 (o := ⟨some 158, _, _, _, _, _⟩) (.pointer (some ⟨G, 7, none⟩)) (by kernel_rfl) (by kernel_rfl) (by kernel_rfl) rfl (by rfl) (fun W hSw => by go_simp) (fun _ _ _ h => h) HS.out ?_
  simp only [Act.put, List.setIfInBounds_toArray, List.set_cons_zero, List.set_cons_succ]
  refine hd_take 2 (o := ⟨some 159, _, _, _, _, _⟩) (.pointer (some ⟨G, 7, none⟩)) (by kernel_rfl) (by kernel_rfl) (by kernel_rfl) rfl (by rfl) (fun W hSw => by go_simp) (fun _ _ _ h => h) HS.out ?_
  simp only [Act.put, List.setIfInBounds_toArray, List.set_cons_zero, List.set_cons_succ]
  refine hd_take 3 (o := ⟨some 160, _, _, _, _, _⟩) (.int .i64 o.ck) (by kernel_rfl) (by kernel_rfl) (by kernel_rfl) rfl (by rfl) (fun W hSw => by have hc := hSw.c7; go_simp) (fun _ _ _ h => h) HS.out ?_
  simp only [Act.put, List.setIfInBounds_toArray, List.set_cons_zero, List.set_cons_succ]
  refine hd_take 4 (o := ⟨some 161, _, _, _, _, _⟩) (.pointer (some ⟨G, 7, none⟩)) (by kernel_rfl) (by kernel_rfl) (by kernel_rfl) rfl (by rfl) (fun W hSw => by go_simp) (fun _ _ _ h => h) HS.out ?_
  simp only [Act.put, List.setIfInBounds_toArray, List.set_cons_zero, List.set_cons_succ]
  refine hd_take 5 (o := ⟨some 162, _, _, _, _, _⟩) (.pointer (some ⟨G, 8, none⟩)) (by kernel_rfl) (by kernel_rfl) (by kernel_rfl) rfl (by rfl) (fun W hSw => by go_simp) (fun _ _ _ h => h) HS.out ?_
  simp only [Act.put, List.setIfInBounds_toArray, List.set_cons_zero, List.set_cons_succ]
  refine hd_take 6 (o := ⟨some 163, _, _, _, _, _⟩) (.int .i64 o.co) (by kernel_rfl) (by kernel_rfl) (by kernel_rfl) rfl (by rfl) (fun W hSw => by have hc := hSw.c8; go_simp) (fun _ _ _ h => h) HS.out ?_
  simp only [Act.put, List.setIfInBounds_toArray, List.set_cons_zero, List.set_cons_succ]
  refine hd_take 8 (o := ⟨some 165, _, _, _, _, _⟩) (tp R) (by kernel_rfl) (by kernel_rfl) (by kernel_rfl) rfl (by rfl) (fun W hSw => by go_simp) (fun _ _ _ h => h) HS.out ?_
  simp only [Act.put, List.setIfInBounds_toArray, List.set_cons_zero, List.set_cons_succ]
  refine hd_take 9 (o := ⟨some 166, _, _, _, _, _⟩) (.pointer (some ⟨G, 7, none⟩)) (by kernel_rfl) (by kernel_rfl) (by kernel_rfl) rfl (by rfl) (fun W hSw => by go_simp) (fun _ _ _ h => h) HS.out ?_
  simp only [Act.put, List.setIfInBounds_toArray, List.set_cons_zero, List.set_cons_succ]
  refine hd_take 10 (o := ⟨some 167, _, _, _, _, _⟩) (.pointer (some ⟨G, 7, none⟩)) (by kernel_rfl) (by kernel_rfl) (by kernel_rfl) rfl (by rfl) (fun W hSw => by go_simp) (fun _ _ _ h => h) HS.out ?_
  simp only [Act.put, List.setIfInBounds_toArray, List.set_cons_zero, List.set_cons_succ]
  refine hd_take 11 (o := ⟨some 168, _, _, _, _, _⟩) (.int .i64 o.ck) (by kernel_rfl) (by kernel_rfl) (by kernel_rfl) rfl (by rfl) (fun W hSw => by have hc := hSw.c7; go_simp) (fun _ _ _ h => h) HS.out ?_
  simp only [Act.put, List.setIfInBounds_toArray, List.set_cons_zero, List.set_cons_succ]
  refine hd_take 12 (o := ⟨some 169, _, _, _, _, _⟩) (.pointer (some ⟨G, 7, none⟩)) (by kernel_rfl) (by kernel_rfl) (by kernel_rfl) rfl (by rfl) (fun W hSw => by go_simp) (fun _ _ _ h => h) HS.out ?_
  simp only [Act.put, List.setIfInBounds_toArray, List.set_cons_zero, List.set_cons_succ]
  refine hd_take 13 (o := ⟨some 170, _, _, _, _, _⟩) (.pointer (some ⟨G, 8, none⟩)) (by kernel_rfl) (by kernel_rfl) (by kernel_rfl) rfl (by rfl) (fun W hSw => by go_simp) (fun _ _ _ h => h) HS.out ?_
  simp only [Act.put, List.setIfInBounds_toArray, List.set_cons_zero, List.set_cons_succ]
  refine hd_take 14 (o := ⟨some 171, _, _, _, _, _⟩) (.int .i64 o.co) (by kernel_rfl) (by kernel_rfl) (by kernel_rfl) rfl (by rfl) (fun W hSw => by have hc := hSw.c8; go_simp) (fun _ _ _ h => h) HS.out ?_
  simp only [Act.put, List.setIfInBounds_toArray, List.set_cons_zero, List.set_cons_succ]
  obtain ⟨F1, hb, _, _⟩ := HSd.out.call ((good_rb R bk).star HGX.out)
  have HP := hide (on_both (R := R) hb o.ck o.co)
  clear hb c0 c1 c2 c3 c4 c5 c6 c7 c8 c9 c10 c11
  refine hd_call 7 (o := ⟨some 164, _, _, _, _, _⟩) (by kernel_rfl) rfl (by rfl) (fun K' hK => ?_)
  go_simp
  go_wp2_with (go_at_call 20; refine HP.out.mono ?_; rintro e1 w2 ⟨c, rfl, hb2, h6⟩)
  have HS2 := hide (HSd.out.below ((good_bk B bk).star ((good_rb R bk).star HGX.out)) hb2)
  obtain ⟨F3, hr⟩ := HS2.out.drop.head
  have HR := hide (h6 w2 F3 hr)
  clear h6 hr hb2 HP
  refine hK _ _ HS2.out.bx ?_
  clear hK K'
  try simp only [Act.put, List.setIfInBounds_toArray, List.set_cons_zero, List.set_cons_succ]
  refine hd_call 15 (o := ⟨some 172, _, _, _, _, _⟩) (by kernel_rfl) rfl (by rfl) (fun K' hK => ?_)
  go_simp
  go_wp2_with (go_at_call 21; refine HR.out.mono ?_; rintro e1 w3 ⟨rfl, hb3⟩)
  have HS3 := hide (HS2.out.below ((good_bk B bk).star ((good_rb R bk).star HGX.out)) hb3)
  have HE := hide (HS3.out.shut8 HSn.out).swap.drop
  clear hb3 HR HS2
  refine hK _ _ HS3.out.bx ?_
  clear hK K'
  try simp only [Act.put, List.setIfInBounds_toArray, List.set_cons_zero, List.set_cons_succ]
  refine hd_call 16 (o := ⟨some 173, _, _, _, _, _⟩) (by kernel_rfl) rfl (by rfl) (fun K' hK => ?_)
  go_simp
  refine hK _ _ HS3.out.bx ?_
  clear hK K'
  try simp only [Act.put, List.setIfInBounds_toArray, List.set_cons_zero, List.set_cons_succ]
  refine hd_call 17 (o := ⟨some 6, _, _, _, _, _⟩) (by kernel_rfl) rfl (by rfl) (fun K' hK => ?_)
  go_simp
  refine hK _ _ HS3.out.bx ?_
  clear hK K'
  try simp only [Act.put, List.setIfInBounds_toArray, List.set_cons_zero, List.set_cons_succ]
  refine wpAnyH_done (by kernel_rfl) ?_ _
  go_wp2
  go_ret
  exact ⟨rfl, HE.out⟩
set_option maxRecDepth 100000 in
set_option maxHeartbeats 6400000 in
theorem pl_room {w0 w : World} {B R : Nat} {Rst : Asn} (hS : Sys w0 w (star (PrA B R) Rst)) (hG : Good Rst) (o : Opr) (two : Bool) (ins : Value) (hq : o.q = 14) :
    Calls Tryz.prog 6 #[tp B, tp R, o.val two ins] w fun x w' => x = .returned (.bool true) ∧ Sys w0 w' (star (PrA B R) Rst) := by
  have S0 := hS.box ((good_pr B R).star hG) o two ins
  obtain ⟨bk, f, hsnd, S1⟩ := S0.swap.open8
  have hgX : Good (star (BxA w.heap.size o two ins) Rst) := (good_bx _ _ _ _).star hG
  have hwb := S1.wb
  have HSn := hide hsnd
  have HW := hide hwb
  have HG := hide hG
  have HGX := hide hgX
  have HS1 := hide S1
  obtain ⟨c0, c1, c2, c3, c4, c5, c6, c7, c8, c9, c10, c11⟩ := S1.bx
  have HQ := hide hq
  clear hS S0 S1 hsnd hgX hwb hG hq
  unfold Opr.val
  go_enter Tryz.func6, Tryz.ntmps6
  go_upto_region 1 with fail
  generalize w.alloc (.cells #[.bool two, .int .i64 o.q, .int .i64 o.e, .int .i64 o.s, .int .i64 o.t, .int .i64 o.a, .int .i64 o.r, .int .i64 o.ck, .int .i64 o.co, .int .i64 o.cs, .int .i64 o.cr, ins] 31) = w1 at *
  generalize w.heap.size = G at *
  rw [HQ.out] at c1
  go_upto_region 23 with fail
  obtain ⟨wd, hwd⟩ : ∃ W, W = w1.drew := ⟨_, rfl⟩
  have HSd : Hid (Sys w0 wd (star (BkA B bk) (star (RbA R bk) (star (BxA G o two ins) Rst)))) := hide (HS1.out.below ((good_bk B bk).star ((good_rb R bk).star HGX.out)) (by rw [hwd]; exact ⟨rfl, rfl, rfl, Nat.le_refl _, fun _ _ => rfl⟩))
  have HS : Hid (Cells12 wd G o two ins) := hide HSd.out.bx
  refine wp_region_held_drew (S := fun W => Cells12 W G o two ins) (by kernel_rfl) (by rw [← hwd]; exact HS.out) (fun _ => ?_)
  rw [← hwd]
  clear hwd HS1
  refine hd_take 0 (o := ⟨some 176, _, _, _, _, _⟩) (tp B) (by kernel_rfl) (by kernel_rfl) (by kernel_rfl) rfl (by rfl) (fun W hSw => by go_simp) (fun _ _ _ h => h) HS.out ?_
  simp only [Act.put, List.setIfInBounds_toArray, List.set_cons_zero, List.set_cons_succ]
  refine hd_take 1 (o := ⟨some 177, _, _, _, _, _⟩) (.pointer (some ⟨G, 2, none⟩)) (by kernel_rfl) (by kernel_rfl) (by kernel_rfl) rfl (by rfl) (fun W hSw => by go_simp) (fun _ _ _ h => h) HS.out ?_
  simp only [Act.put, List.setIfInBounds_toArray, List.set_cons_zero, List.set_cons_succ]
  refine hd_take 2 (o := ⟨some 178, _, _, _, _, _⟩) (.int .i64 o.e) (by kernel_rfl) (by kernel_rfl) (by kernel_rfl) rfl (by rfl) (fun W hSw => by have hc := hSw.c2; go_simp) (fun _ _ _ h => h) HS.out ?_
  simp only [Act.put, List.setIfInBounds_toArray, List.set_cons_zero, List.set_cons_succ]
  refine hd_take 4 (o := ⟨some 180, _, _, _, _, _⟩) (tp R) (by kernel_rfl) (by kernel_rfl) (by kernel_rfl) rfl (by rfl) (fun W hSw => by go_simp) (fun _ _ _ h => h) HS.out ?_
  simp only [Act.put, List.setIfInBounds_toArray, List.set_cons_zero, List.set_cons_succ]
  refine hd_take 5 (o := ⟨some 181, _, _, _, _, _⟩) (.pointer (some ⟨G, 2, none⟩)) (by kernel_rfl) (by kernel_rfl) (by kernel_rfl) rfl (by rfl) (fun W hSw => by go_simp) (fun _ _ _ h => h) HS.out ?_
  simp only [Act.put, List.setIfInBounds_toArray, List.set_cons_zero, List.set_cons_succ]
  refine hd_take 6 (o := ⟨some 182, _, _, _, _, _⟩) (.int .i64 o.e) (by kernel_rfl) (by kernel_rfl) (by kernel_rfl) rfl (by rfl) (fun W hSw => by have hc := hSw.c2; go_simp) (fun _ _ _ h => h) HS.out ?_
  simp only [Act.put, List.setIfInBounds_toArray, List.set_cons_zero, List.set_cons_succ]
  obtain ⟨F1, hb, _, _⟩ := HSd.out.call ((good_rb R bk).star HGX.out)
  have HP := hide (room_both (R := R) hb o.e)
  clear hb c0 c1 c2 c3 c4 c5 c6 c7 c8 c9 c10 c11
  refine hd_call 3 (o := ⟨some 179, _, _, _, _, _⟩) (by kernel_rfl) rfl (by rfl) (fun K' hK => ?_)
  go_simp
  go_wp2_with (go_at_call 22; refine HP.out.mono ?_; rintro e1 w2 ⟨c, rfl, hb2, h6⟩)
  have HS2 := hide (HSd.out.below ((good_bk B bk).star ((good_rb R bk).star HGX.out)) hb2)
  obtain ⟨F3, hr⟩ := HS2.out.drop.head
  have HR := hide (h6 w2 F3 hr)
  clear h6 hr hb2 HP
  refine hK _ _ HS2.out.bx ?_
  clear hK K'
  try simp only [Act.put, List.setIfInBounds_toArray, List.set_cons_zero, List.set_cons_succ]
  refine hd_call 7 (o := ⟨some 183, _, _, _, _, _⟩) (by kernel_rfl) rfl (by rfl) (fun K' hK => ?_)
  go_simp
  go_wp2_with (go_at_call 23; refine HR.out.mono ?_; rintro e1 w3 ⟨rfl, hb3⟩)
  have HS3 := hide (HS2.out.below ((good_bk B bk).star ((good_rb R bk).star HGX.out)) hb3)
  have HE := hide (HS3.out.shut8 HSn.out).swap.drop
  clear hb3 HR HS2
  refine hK _ _ HS3.out.bx ?_
  clear hK K'
  try simp only [Act.put, List.setIfInBounds_toArray, List.set_cons_zero, List.set_cons_succ]
  refine hd_call 8 (o := ⟨some 184, _, _, _, _, _⟩) (by kernel_rfl) rfl (by rfl) (fun K' hK => ?_)
  go_simp
  refine hK _ _ HS3.out.bx ?_
  clear hK K'
  try simp only [Act.put, List.setIfInBounds_toArray, List.set_cons_zero, List.set_cons_succ]
  refine hd_call 9 (o := ⟨some 6, _, _, _, _, _⟩) (by kernel_rfl) rfl (by rfl) (fun K' hK => ?_)
  go_simp
  refine hK _ _ HS3.out.bx ?_
  clear hK K'
  try simp only [Act.put, List.setIfInBounds_toArray, List.set_cons_zero, List.set_cons_succ]
  refine wpAnyH_done (by kernel_rfl) ?_ _
  go_wp2
  go_ret
  exact ⟨rfl, HE.out⟩
set_option maxRecDepth 100000 in
set_option maxHeartbeats 6400000 in
theorem pl_find {w0 w : World} {B R : Nat} {Rst : Asn} (hS : Sys w0 w (star (PrA B R) Rst)) (hG : Good Rst) (o : Opr) (two : Bool) (ins : Value) (hq : o.q = 15) :
    Calls Tryz.prog 6 #[tp B, tp R, o.val two ins] w fun x w' => x = .returned (.bool true) ∧ Sys w0 w' (star (PrA B R) Rst) := by
  have S0 := hS.box ((good_pr B R).star hG) o two ins
  obtain ⟨bk, f, hsnd, S1⟩ := S0.swap.open8
  have hgX : Good (star (BxA w.heap.size o two ins) Rst) := (good_bx _ _ _ _).star hG
  have hwb := S1.wb
  have HSn := hide hsnd
  have HW := hide hwb
  have HG := hide hG
  have HGX := hide hgX
  have HS1 := hide S1
  obtain ⟨c0, c1, c2, c3, c4, c5, c6, c7, c8, c9, c10, c11⟩ := S1.bx
  have HQ := hide hq
  clear hS S0 S1 hsnd hgX hwb hG hq
  unfold Opr.val
  go_enter Tryz.func6, Tryz.ntmps6
  go_upto_region 1 with fail
  generalize w.alloc (.cells #[.bool two, .int .i64 o.q, .int .i64 o.e, .int .i64 o.s, .int .i64 o.t, .int .i64 o.a, .int .i64 o.r, .int .i64 o.ck, .int .i64 o.co, .int .i64 o.cs, .int .i64 o.cr, ins] 31) = w1 at *
  generalize w.heap.size = G at *
  rw [HQ.out] at c1
  go_upto_region 25 with fail
  obtain ⟨wd, hwd⟩ : ∃ W, W = w1.drew := ⟨_, rfl⟩
  have HSd : Hid (Sys w0 wd (star (BkA B bk) (star (RbA R bk) (star (BxA G o two ins) Rst)))) := hide (HS1.out.below ((good_bk B bk).star ((good_rb R bk).star HGX.out)) (by rw [hwd]; exact ⟨rfl, rfl, rfl, Nat.le_refl _, fun _ _ => rfl⟩))
  have HS : Hid (Cells12 wd G o two ins) := hide HSd.out.bx
  refine wp_region_held_drew (S := fun W => Cells12 W G o two ins) (by kernel_rfl) (by rw [← hwd]; exact HS.out) (fun _ => ?_)
  rw [← hwd]
  clear hwd HS1
  refine hd_take 0 (o := ⟨some 187, _, _, _, _, _⟩) (tp B) (by kernel_rfl) (by kernel_rfl) (by kernel_rfl) rfl (by rfl) (fun W hSw => by go_simp) (fun _ _ _ h => h) HS.out ?_
  simp only [Act.put, List.setIfInBounds_toArray, List.set_cons_zero, List.set_cons_succ]
  refine hd_take 1 (o := ⟨some 188, _, _, _, _, _⟩) (.pointer (some ⟨G, 2, none⟩)) (by kernel_rfl) (by kernel_rfl) (by kernel_rfl) rfl (by rfl) (fun W hSw => by go_simp) (fun _ _ _ h => h) HS.out ?_
  simp only [Act.put, List.setIfInBounds_toArray, List.set_cons_zero, List.set_cons_succ]
  refine hd_take 2 (o := ⟨some 189, _, _, _, _, _⟩) (.int .i64 o.e) (by kernel_rfl) (by kernel_rfl) (by kernel_rfl) rfl (by rfl) (fun W hSw => by have hc := hSw.c2; go_simp) (fun _ _ _ h => h) HS.out ?_
  simp only [Act.put, List.setIfInBounds_toArray, List.set_cons_zero, List.set_cons_succ]
  refine hd_take 3 (o := ⟨some 190, _, _, _, _, _⟩) (.pointer (some ⟨G, 7, none⟩)) (by kernel_rfl) (by kernel_rfl) (by kernel_rfl) rfl (by rfl) (fun W hSw => by go_simp) (fun _ _ _ h => h) HS.out ?_
  simp only [Act.put, List.setIfInBounds_toArray, List.set_cons_zero, List.set_cons_succ]
  refine hd_take 4 (o := ⟨some 191, _, _, _, _, _⟩) (.pointer (some ⟨G, 7, none⟩)) (by kernel_rfl) (by kernel_rfl) (by kernel_rfl) rfl (by rfl) (fun W hSw => by go_simp) (fun _ _ _ h => h) HS.out ?_
  simp only [Act.put, List.setIfInBounds_toArray, List.set_cons_zero, List.set_cons_succ]
  refine hd_take 5 (o := ⟨some 192, _, _, _, _, _⟩) (.int .i64 o.ck) (by kernel_rfl) (by kernel_rfl) (by kernel_rfl) rfl (by rfl) (fun W hSw => by have hc := hSw.c7; go_simp) (fun _ _ _ h => h) HS.out ?_
  simp only [Act.put, List.setIfInBounds_toArray, List.set_cons_zero, List.set_cons_succ]
  refine hd_take 6 (o := ⟨some 193, _, _, _, _, _⟩) (.pointer (some ⟨G, 7, none⟩)) (by kernel_rfl) (by kernel_rfl) (by kernel_rfl) rfl (by rfl) (fun W hSw => by go_simp) (fun _ _ _ h => h) HS.out ?_
  simp only [Act.put, List.setIfInBounds_toArray, List.set_cons_zero, List.set_cons_succ]
  refine hd_take 7 (o := ⟨some 194, _, _, _, _, _⟩) (.pointer (some ⟨G, 9, none⟩)) (by kernel_rfl) (by kernel_rfl) (by kernel_rfl) rfl (by rfl) (fun W hSw => by go_simp) (fun _ _ _ h => h) HS.out ?_
  simp only [Act.put, List.setIfInBounds_toArray, List.set_cons_zero, List.set_cons_succ]
  refine hd_take 8 (o := ⟨some 195, _, _, _, _, _⟩) (.int .i64 o.cs) (by kernel_rfl) (by kernel_rfl) (by kernel_rfl) rfl (by rfl) (fun W hSw => by have hc := hSw.c9; go_simp) (fun _ _ _ h => h) HS.out ?_
  simp only [Act.put, List.setIfInBounds_toArray, List.set_cons_zero, List.set_cons_succ]
  refine hd_take 9 (o := ⟨some 196, _, _, _, _, _⟩) (.pointer (some ⟨G, 6, none⟩)) (by kernel_rfl) (by kernel_rfl) (by kernel_rfl) rfl (by rfl) (fun W hSw => by go_simp) (fun _ _ _ h => h) HS.out ?_
  simp only [Act.put, List.setIfInBounds_toArray, List.set_cons_zero, List.set_cons_succ]
  refine hd_take 10 (o := ⟨some 197, _, _, _, _, _⟩) (.int .i64 o.r) (by kernel_rfl) (by kernel_rfl) (by kernel_rfl) rfl (by rfl) (fun W hSw => by have hc := hSw.c6; go_simp) (fun _ _ _ h => h) HS.out ?_
  simp only [Act.put, List.setIfInBounds_toArray, List.set_cons_zero, List.set_cons_succ]
  refine hd_take 12 (o := ⟨some 199, _, _, _, _, _⟩) (tp R) (by kernel_rfl) (by kernel_rfl) (by kernel_rfl) rfl (by rfl) (fun W hSw => by go_simp) (fun _ _ _ h => h) HS.out ?_
  simp only [Act.put, List.setIfInBounds_toArray, List.set_cons_zero, List.set_cons_succ]
  refine hd_take 13 (o := ⟨some 200, _, _, _, _, _⟩) (.pointer (some ⟨G, 2, none⟩)) (by kernel_rfl) (by kernel_rfl) (by kernel_rfl) rfl (by rfl) (fun W hSw => by go_simp) (fun _ _ _ h => h) HS.out ?_
  simp only [Act.put, List.setIfInBounds_toArray, List.set_cons_zero, List.set_cons_succ]
  refine hd_take 14 (o := ⟨some 201, _, _, _, _, _⟩) (.int .i64 o.e) (by kernel_rfl) (by kernel_rfl) (by kernel_rfl) rfl (by rfl) (fun W hSw => by have hc := hSw.c2; go_simp) (fun _ _ _ h => h) HS.out ?_
  simp only [Act.put, List.setIfInBounds_toArray, List.set_cons_zero, List.set_cons_succ]
  refine hd_take 15 (o := ⟨some 202, _, _, _, _, _⟩) (.pointer (some ⟨G, 7, none⟩)) (by kernel_rfl) (by kernel_rfl) (by kernel_rfl) rfl (by rfl) (fun W hSw => by go_simp) (fun _ _ _ h => h) HS.out ?_
  simp only [Act.put, List.setIfInBounds_toArray, List.set_cons_zero, List.set_cons_succ]
  refine hd_take 16 (o := ⟨some 203, _, _, _, _, _⟩) (.pointer (some ⟨G, 7, none⟩)) (by kernel_rfl) (by kernel_rfl) (by kernel_rfl) rfl (by rfl) (fun W hSw => by go_simp) (fun _ _ _ h => h) HS.out ?_
  simp only [Act.put, List.setIfInBounds_toArray, List.set_cons_zero, List.set_cons_succ]
  refine hd_take 17 (o := ⟨some 204, _, _, _, _, _⟩) (.int .i64 o.ck) (by kernel_rfl) (by kernel_rfl) (by kernel_rfl) rfl (by rfl) (fun W hSw => by have hc := hSw.c7; go_simp) (fun _ _ _ h => h) HS.out ?_
  simp only [Act.put, List.setIfInBounds_toArray, List.set_cons_zero, List.set_cons_succ]
  refine hd_take 18 (o := ⟨some 205, _, _, _, _, _⟩) (.pointer (some ⟨G, 7, none⟩)) (by kernel_rfl) (by kernel_rfl) (by kernel_rfl) rfl (by rfl) (fun W hSw => by go_simp) (fun _ _ _ h => h) HS.out ?_
  simp only [Act.put, List.setIfInBounds_toArray, List.set_cons_zero, List.set_cons_succ]
  refine hd_take 19 (o := ⟨some 206, _, _, _, _, _⟩) (.pointer (some ⟨G, 9, none⟩)) (by kernel_rfl) (by kernel_rfl) (by kernel_rfl) rfl (by rfl) (fun W hSw => by go_simp) (fun _ _ _ h => h) HS.out ?_
  simp only [Act.put, List.setIfInBounds_toArray, List.set_cons_zero, List.set_cons_succ]
  refine hd_take 20 (o := ⟨some 207, _, _, _, _, _⟩) (.int .i64 o.cs) (by kernel_rfl) (by kernel_rfl) (by kernel_rfl) rfl (by rfl) (fun W hSw => by have hc := hSw.c9; go_simp) (fun _ _ _ h => h) HS.out ?_
  simp only [Act.put, List.setIfInBounds_toArray, List.set_cons_zero, List.set_cons_succ]
  refine hd_take 21 (o := ⟨some 208, _, _, _, _, _⟩) (.pointer (some ⟨G, 6, none⟩)) (by kernel_rfl) (by kernel_rfl) (by kernel_rfl) rfl (by rfl) (fun W hSw => by go_simp) (fun _ _ _ h => h) HS.out ?_
  simp only [Act.put, List.setIfInBounds_toArray, List.set_cons_zero, List.set_cons_succ]
  refine hd_take 22 (o := ⟨some 209, _, _, _, _, _⟩) (.int .i64 o.r) (by kernel_rfl) (by kernel_rfl) (by kernel_rfl) rfl (by rfl) (fun W hSw => by have hc := hSw.c6; go_simp) (fun _ _ _ h => h) HS.out ?_
  simp only [Act.put, List.setIfInBounds_toArray, List.set_cons_zero, List.set_cons_succ]
  obtain ⟨F1, hb, _, _⟩ := HSd.out.call ((good_rb R bk).star HGX.out)
  have HP := hide (find_both (R := R) hb HSn.out o.e o.ck o.cs o.r)
  clear hb c0 c1 c2 c3 c4 c5 c6 c7 c8 c9 c10 c11
  refine hd_call 11 (o := ⟨some 198, _, _, _, _, _⟩) (by kernel_rfl) rfl (by rfl) (fun K' hK => ?_)
  go_simp
  go_wp2_with (go_at_call 24; refine HP.out.mono ?_; rintro e1 w2 ⟨c, rfl, hb2, h6⟩)
  have HS2 := hide (HSd.out.below ((good_bk B bk).star ((good_rb R bk).star HGX.out)) hb2)
  obtain ⟨F3, hr⟩ := HS2.out.drop.head
  have HR := hide (h6 w2 F3 hr)
  clear h6 hr hb2 HP
  refine hK _ _ HS2.out.bx ?_
  clear hK K'
  try simp only [Act.put, List.setIfInBounds_toArray, List.set_cons_zero, List.set_cons_succ]
  refine hd_call 23 (o := ⟨some 210, _, _, _, _, _⟩) (by kernel_rfl) rfl (by rfl) (fun K' hK => ?_)
  go_simp
  go_wp2_with (go_at_call 25; refine HR.out.mono ?_; rintro e1 w3 ⟨rfl, hb3⟩)
  have HS3 := hide (HS2.out.below ((good_bk B bk).star ((good_rb R bk).star HGX.out)) hb3)
  have HE := hide (HS3.out.shut8 HSn.out).swap.drop
  clear hb3 HR HS2
  refine hK _ _ HS3.out.bx ?_
  clear hK K'
  try simp only [Act.put, List.setIfInBounds_toArray, List.set_cons_zero, List.set_cons_succ]
  refine hd_call 24 (o := ⟨some 211, _, _, _, _, _⟩) (by kernel_rfl) rfl (by rfl) (fun K' hK => ?_)
  go_simp
  refine hK _ _ HS3.out.bx ?_
  clear hK K'
  try simp only [Act.put, List.setIfInBounds_toArray, List.set_cons_zero, List.set_cons_succ]
  refine hd_call 25 (o := ⟨some 6, _, _, _, _, _⟩) (by kernel_rfl) rfl (by rfl) (fun K' hK => ?_)
  go_simp
  refine hK _ _ HS3.out.bx ?_
  clear hK K'
  try simp only [Act.put, List.setIfInBounds_toArray, List.set_cons_zero, List.set_cons_succ]
  refine wpAnyH_done (by kernel_rfl) ?_ _
  go_wp2
  go_ret
  exact ⟨rfl, HE.out⟩
end Go.Proofs.YteacmcdmdeckmaaGreat

namespace Go.Proofs.YteacmcdmdeckmaaGreat
open Go.RowKit

theorem getA_any {w : World} {R : Nat} {bk : List (Option Lst)} {F : Nat → Prop} (h : RbA R bk w F) (hw : Wb bk) (e s : Int) : Calls Tryz.prog 10 #[tp R, .int .i64 e, .int .i64 s] w fun x w' => x = .returned (.tuple #[((atB bk e s).getD Rc.zero).cap, .int .i64 (lcode bk e s)]) ∧ Below w.heap.size w w' := by
  obtain ⟨v, K, h1, ha, he⟩ := h
  exact getD_any h1 ha hw e s
theorem fromA_any {w : World} {R : Nat} {bk : List (Option Lst)} {F : Nat → Prop} (h : RbA R bk w F) (hw : Wb bk) (e s : Int) : Calls Tryz.prog 12 #[tp R, .int .i64 e, .int .i64 s] w fun x w' => x = .returned (.tuple #[.agg #[.int .i64 (fromB bk e s).1, .int .i64 (fromB bk e s).2], .int .i64 (lcode bk e s)]) ∧ Below w.heap.size w w' := by
  obtain ⟨v, K, h1, ha, he⟩ := h
  exact fromD_any h1 ha hw e s
section
variable {w1 : World} {F1 : Nat → Prop} {B R : Nat} {bk : List (Option Lst)} {o : Opr}
theorem list_both (h : Book w1 F1 B bk) : Calls Tryz.prog 15 #[tp B, .int .i64 o.e] w1 fun x w2 => ∃ (u1 : Value) (c : Int) (n : Nat) (xs : List Value) (bk2 : List (Option Lst)), x = .returned (.tuple #[u1, .int .i64 c]) ∧ w2.ownsRow w1.heap.size 78 6 u1 n xs ∧ Book w2 F1 B bk2 ∧ Ext F1 w1 F1 w2 ∧ Hl n xs ∧ bk2 = bk ∧ ∀ w3 F3, RbA R bk w3 F3 → Calls Tryz.prog 16 #[tp R, .int .i64 o.e] w3 fun x w4 => ∃ u2 F4, x = .returned (.tuple #[u2, .int .i64 c]) ∧ w4.ownsRow w3.heap.size 78 6 u2 n xs ∧ RbA R bk2 w4 F4 ∧ Ext F3 w3 F4 w4 := by
  have hw := h.wb
  cases hl : look bk o.e with
  | none =>
    refine (list_none w1 F1 B bk h o.e hl).mono ?_
    rintro x w2 ⟨rfl, hb⟩
    refine ⟨_, _, 0, [], bk, rfl, World.ownsRow_nil _ _ _ _, h.below hb, Ext.of_below hb, hl_nil, rfl, fun w3 F3 hr => ?_⟩
    obtain ⟨v, K, h1, ha, he⟩ := hr
    refine (listD_none h1 hw o.e hl).mono ?_
    rintro x w4 ⟨rfl, rfl⟩
    exact ⟨_, F3, rfl, World.ownsRow_nil _ _ _ _, ⟨v, K, h1, ha, he⟩, Ext.refl _ _⟩
  | some l =>
    obtain ⟨i, ei, hi⟩ := look_open hl
    rw [ei]
    rw [ei] at hl
    have hP : Calls Tryz.prog 15 #[.pointer (some ⟨B, 0, none⟩), .int .i64 (i : Int)] w1 fun e W' => ∃ v, e = .returned (.tuple #[v, .int .i64 0]) ∧ W'.ownsRow w1.heap.size 78 6 v (prs l 0).length (encHs (i : Int) (prs l 0)) ∧ Below w1.heap.size w1 W' := by
      obtain ⟨T, G, m, fs, h⟩ := h
      exact (callsIn_wide (n := 3)).1 (list_in 3 (Nat.le_refl _) F1 B T G m fs bk w1 h i l hi)
    refine hP.mono ?_
    rintro x w2 ⟨v, rfl, h1, hb⟩
    refine ⟨_, _, _, _, bk, rfl, h1, h.below hb, Ext.of_below hb, hl_one hw hi, rfl, fun w3 F3 hr => ?_⟩
    obtain ⟨v, K, h1, ha, he⟩ := hr
    refine (listD_open h1 hw (ha.len hw.p8) (i : Int) (by rw [hl]; rfl)).mono ?_
    rintro x w4 ⟨u, rfl, k1, k2⟩
    rw [env_rows ha hi, encG_lrw] at k1
    have e1 : (lrw i l).length = (prs l 0).length := by simp [lrw]
    rw [e1] at k1
    exact ⟨u, F3, rfl, k1, RbA.below ⟨v, K, h1, ha, he⟩ k2, Ext.of_below k2⟩
end
set_option maxRecDepth 100000 in
set_option maxHeartbeats 6400000 in
theorem pl_get {w0 w : World} {B R : Nat} {Rst : Asn} (hS : Sys w0 w (star (PrA B R) Rst)) (hG : Good Rst) (o : Opr) (two : Bool) (ins : Value) (hq : o.q = 8) :
    Calls Tryz.prog 6 #[tp B, tp R, o.val two ins] w fun x w' => x = .returned (.bool true) ∧ Sys w0 w' (star (PrA B R) Rst) := by
  have S0 := hS.box ((good_pr B R).star hG) o two ins
  obtain ⟨bk, f, hsnd, S1⟩ := S0.swap.open8
  have hgX : Good (star (BxA w.heap.size o two ins) Rst) := (good_bx _ _ _ _).star hG
  have hwb := S1.wb
  have HSn := hide hsnd
  have HW := hide hwb
  have HG := hide hG
  have HGX := hide hgX
  have HS1 := hide S1
  obtain ⟨c0, c1, c2, c3, c4, c5, c6, c7, c8, c9, c10, c11⟩ := S1.bx
  have HQ := hide hq
  clear hS S0 S1 hsnd hgX hwb hG hq
  unfold Opr.val
  go_enter Tryz.func6, Tryz.ntmps6
  go_upto_region 1 with fail
  generalize w.alloc (.cells #[.bool two, .int .i64 o.q, .int .i64 o.e, .int .i64 o.s, .int .i64 o.t, .int .i64 o.a, .int .i64 o.r, .int .i64 o.ck, .int .i64 o.co, .int .i64 o.cs, .int .i64 o.cr, ins] 31) = w1 at *
  generalize w.heap.size = G at *
  rw [HQ.out] at c1
  have hP0 := fun F1 hb => get_any w1 F1 B bk hb o.e o.s
  have hR0 := fun w3 F3 hr => getA_any (w := w3) (F := F3) (R := R) hr HW.out o.e o.s
  obtain ⟨lc, hlc⟩ : ∃ lc, lcode bk o.e o.s = lc := ⟨_, rfl⟩
  simp only [hlc] at hP0 hR0
  generalize (atB bk o.e o.s).getD Rc.zero = r at hP0 hR0
  simp only [Rc.cap] at hP0 hR0
  have HR0 := hide hR0
  have HP0 := hide hP0
  clear hP0 hR0 hlc
  obtain ⟨F1, hb, _, hcl⟩ := HS1.out.call ((good_rb R bk).star HGX.out)
  have HP := hide (HP0.out F1 hb)
  have HC := hide hcl
  have HBk := hide hb
  clear hb hcl
  go_wp2_with fail
  refine HP.out.mono ?_
  rintro e1 w2 ⟨rfl, h1⟩
  have HS2 := hide (HC.out _ F1 (BkA B bk) (HBk.out.below h1) (Ext.of_below h1))
  obtain ⟨-, -, d2, d3, -, -, -, -, -, -, -, -⟩ := HS2.out.bx
  clear c0 c1 c2 c3 c4 c5 c6 c7 c8 c9 c10 c11 h1 HBk HP0 HP HC HS1
  go_upto_region 4 with fail
  have HS3 := hide (HS2.out.ob ((good_bk B bk).star ((good_rb R bk).star HGX.out)) #[.int .i64 r.k, .int .i64 r.o, .int .i64 r.s, .int .i64 r.r] 28).swap.swap2.swap
  obtain ⟨-, -, e2, e3, -, -, -, -, -, -, -, -⟩ := HS3.out.drop.bx
  clear d2 d3 HS2
  generalize w2.alloc (.cells #[.int .i64 r.k, .int .i64 r.o, .int .i64 r.s, .int .i64 r.r] 28) = w3 at *
  generalize w2.heap.size = g1 at *
  obtain ⟨F3, hr, _, hcl⟩ := HS3.out.call ((good_bk B bk).star ((good_ob g1 #[.int .i64 r.k, .int .i64 r.o, .int .i64 r.s, .int .i64 r.r] 28).star HGX.out))
  have HR := hide (HR0.out w3 F3 hr)
  have HC2 := hide hcl
  have HRb := hide hr
  clear hr hcl
  go_wp2_with fail
  refine HR.out.mono ?_
  rintro e1 w4 ⟨rfl, k1⟩
  have HS4 := hide (HC2.out _ F3 (RbA R bk) (RbA.below HRb.out k1) (Ext.of_below k1))
  clear e2 e3 k1 HRb HR HC2 HS3
  go_upto_region 5 with fail
  have HS5 := hide (HS4.out.alloc ((good_rb R bk).star ((good_bk B bk).star ((good_ob g1 #[.int .i64 r.k, .int .i64 r.o, .int .i64 r.s, .int .i64 r.r] 28).star HGX.out))) (.cells #[.int .i64 r.k, .int .i64 r.o, .int .i64 r.s, .int .i64 r.r] 28))
  have hx2 : (w4.alloc (.cells #[.int .i64 r.k, .int .i64 r.o, .int .i64 r.s, .int .i64 r.r] 28)).heap[w4.heap.size]? = some (.cells #[.int .i64 r.k, .int .i64 r.o, .int .i64 r.s, .int .i64 r.r] 28 (0, 0)) := heap_alloc_last _ _
  have hx1 := HS5.out.drop.drop.obAt
  have HE := hide (((HS5.out.swap.shut8 HSn.out).swap.drop).swap.drop)
  clear HS4 HS5
  generalize w4.alloc (.cells #[.int .i64 r.k, .int .i64 r.o, .int .i64 r.s, .int .i64 r.r] 28) = w5 at *
  generalize w4.heap.size = g2 at *
  obtain ⟨p0, p1, p2, p3⟩ := blkc4 hx1
  obtain ⟨q0, q1, q2, q3⟩ := blkc4 hx2
  clear hx1 hx2
  go_wp2
  go_ret
  exact ⟨rfl, HE.out⟩
set_option maxRecDepth 100000 in
set_option maxHeartbeats 6400000 in
theorem pl_from {w0 w : World} {B R : Nat} {Rst : Asn} (hS : Sys w0 w (star (PrA B R) Rst)) (hG : Good Rst) (o : Opr) (two : Bool) (ins : Value) (hq : o.q = 9) :
    Calls Tryz.prog 6 #[tp B, tp R, o.val two ins] w fun x w' => x = .returned (.bool true) ∧ Sys w0 w' (star (PrA B R) Rst) := by
  have S0 := hS.box ((good_pr B R).star hG) o two ins
  obtain ⟨bk, f, hsnd, S1⟩ := S0.swap.open8
  have hgX : Good (star (BxA w.heap.size o two ins) Rst) := (good_bx _ _ _ _).star hG
  have hwb := S1.wb
  have HSn := hide hsnd
  have HW := hide hwb
  have HG := hide hG
  have HGX := hide hgX
  have HS1 := hide S1
  obtain ⟨c0, c1, c2, c3, c4, c5, c6, c7, c8, c9, c10, c11⟩ := S1.bx
  have HQ := hide hq
  clear hS S0 S1 hsnd hgX hwb hG hq
  unfold Opr.val
  go_enter Tryz.func6, Tryz.ntmps6
  go_upto_region 1 with fail
  generalize w.alloc (.cells #[.bool two, .int .i64 o.q, .int .i64 o.e, .int .i64 o.s, .int .i64 o.t, .int .i64 o.a, .int .i64 o.r, .int .i64 o.ck, .int .i64 o.co, .int .i64 o.cs, .int .i64 o.cr, ins] 31) = w1 at *
  generalize w.heap.size = G at *
  rw [HQ.out] at c1
  have hP0 := fun F1 hb => from_any w1 F1 B bk hb o.e o.s
  have hR0 := fun w3 F3 hr => fromA_any (w := w3) (F := F3) (R := R) hr HW.out o.e o.s
  obtain ⟨lc, hlc⟩ : ∃ lc, lcode bk o.e o.s = lc := ⟨_, rfl⟩
  simp only [hlc] at hP0 hR0
  obtain ⟨fa, hfa⟩ : ∃ a, (fromB bk o.e o.s).1 = a := ⟨_, rfl⟩
  obtain ⟨fb, hfb⟩ : ∃ a, (fromB bk o.e o.s).2 = a := ⟨_, rfl⟩
  simp only [hfa, hfb] at hP0 hR0
  clear hfa hfb
  have HR0 := hide hR0
  have HP0 := hide hP0
  clear hP0 hR0 hlc
  obtain ⟨F1, hb, _, hcl⟩ := HS1.out.call ((good_rb R bk).star HGX.out)
  have HP := hide (HP0.out F1 hb)
  have HC := hide hcl
  have HBk := hide hb
  clear hb hcl
  go_wp2_with fail
  refine HP.out.mono ?_
  rintro e1 w2 ⟨rfl, h1⟩
  have HS2 := hide (HC.out _ F1 (BkA B bk) (HBk.out.below h1) (Ext.of_below h1))
  obtain ⟨-, -, d2, d3, -, -, -, -, -, -, -, -⟩ := HS2.out.bx
  clear c0 c1 c2 c3 c4 c5 c6 c7 c8 c9 c10 c11 h1 HBk HP0 HP HC HS1
  go_upto_region 8 with fail
  have HS3 := hide (HS2.out.ob ((good_bk B bk).star ((good_rb R bk).star HGX.out)) #[.int .i64 fa, .int .i64 fb] 48).swap.swap2.swap
  obtain ⟨-, -, e2, e3, -, -, -, -, -, -, -, -⟩ := HS3.out.drop.bx
  clear d2 d3 HS2
  generalize w2.alloc (.cells #[.int .i64 fa, .int .i64 fb] 48) = w3 at *
  generalize w2.heap.size = g1 at *
  obtain ⟨F3, hr, _, hcl⟩ := HS3.out.call ((good_bk B bk).star ((good_ob g1 #[.int .i64 fa, .int .i64 fb] 48).star HGX.out))
  have HR := hide (HR0.out w3 F3 hr)
  have HC2 := hide hcl
  have HRb := hide hr
  clear hr hcl
  go_wp2_with fail
  refine HR.out.mono ?_
  rintro e1 w4 ⟨rfl, k1⟩
  have HS4 := hide (HC2.out _ F3 (RbA R bk) (RbA.below HRb.out k1) (Ext.of_below k1))
  clear e2 e3 k1 HRb HR HC2 HS3
  go_upto_region 9 with fail
  have HS5 := hide (HS4.out.alloc ((good_rb R bk).star ((good_bk B bk).star ((good_ob g1 #[.int .i64 fa, .int .i64 fb] 48).star HGX.out))) (.cells #[.int .i64 fa, .int .i64 fb] 48))
  have hx2 : (w4.alloc (.cells #[.int .i64 fa, .int .i64 fb] 48)).heap[w4.heap.size]? = some (.cells #[.int .i64 fa, .int .i64 fb] 48 (0, 0)) := heap_alloc_last _ _
  have hx1 := HS5.out.drop.drop.obAt
  have HE := hide (((HS5.out.swap.shut8 HSn.out).swap.drop).swap.drop)
  clear HS4 HS5
  generalize w4.alloc (.cells #[.int .i64 fa, .int .i64 fb] 48) = w5 at *
  generalize w4.heap.size = g2 at *
  obtain ⟨p0, p1, -, -⟩ := blk2 hx1
  obtain ⟨q0, q1, -, -⟩ := blk2 hx2
  clear hx1 hx2
  go_wp2
  go_ret
  exact ⟨rfl, HE.out⟩
set_option maxRecDepth 100000 in
set_option maxHeartbeats 6400000 in
theorem pl_list {w0 w : World} {B R : Nat} {Rst : Asn} (hS : Sys w0 w (star (PrA B R) Rst)) (hG : Good Rst) (o : Opr) (two : Bool) (ins : Value) (hq : o.q = 11) :
    Calls Tryz.prog 6 #[tp B, tp R, o.val two ins] w fun x w' => x = .returned (.bool true) ∧ Sys w0 w' (star (PrA B R) Rst) := by
  have S0 := hS.box ((good_pr B R).star hG) o two ins
  obtain ⟨bk, f, hsnd, S1⟩ := S0.swap.open8
  have hgX : Good (star (BxA w.heap.size o two ins) Rst) := (good_bx _ _ _ _).star hG
  have hwb := S1.wb
  have HSn := hide hsnd
  have HW := hide hwb
  have HG := hide hG
  have HGX := hide hgX
  have HS1 := hide S1
  obtain ⟨c0, c1, c2, c3, c4, c5, c6, c7, c8, c9, c10, c11⟩ := S1.bx
  have HQ := hide hq
  clear hS S0 S1 hsnd hgX hwb hG hq
  unfold Opr.val
  go_enter Tryz.func6, Tryz.ntmps6
  go_upto_region 1 with fail
  generalize w.alloc (.cells #[.bool two, .int .i64 o.q, .int .i64 o.e, .int .i64 o.s, .int .i64 o.t, .int .i64 o.a, .int .i64 o.r, .int .i64 o.ck, .int .i64 o.co, .int .i64 o.cs, .int .i64 o.cr, ins] 31) = w1 at *
  generalize w.heap.size = G at *
  rw [HQ.out] at c1
  obtain ⟨F1, hb, hcl⟩ := HS1.out.callRow (good_bk B bk) ((good_rb R bk).star HGX.out)
  have HP := hide (list_both (R := R) (o := o) hb)
  have HC := hide hcl
  clear hb hcl
  go_wp2_with fail
  refine HP.out.mono ?_
  rintro e1 w2 ⟨u1, c, n, xs, bk2, rfl, h1, h2, h3, h4, h5, h6⟩
  have HS2 := hide (HC.out w2 (BkA B bk2) u1 n xs h2 h3 h1).swap.swap2.swap
  have HSt := hide h5
  have HHl := hide h4
  obtain ⟨-, -, d2, -, -, -, -, -, -, -, -, -⟩ := HS2.out.drop.bx
  obtain ⟨F3, hr, _, hcl⟩ := HS2.out.call ((good_bk B bk2).star ((good_rw u1 n xs).star HGX.out))
  have HR := hide (h6 w2 F3 hr)
  have HC2 := hide hcl
  clear c0 c1 c2 c3 c4 c5 c6 c7 c8 c9 c10 c11 h1 h2 h3 h4 h5 h6 hr hcl HP HC HS1
  go_wp2_with fail
  refine HR.out.mono ?_
  rintro e1 w3 ⟨u2, F4, rfl, k1, k2, k3⟩
  have HS3 := hide (HC2.out _ F4 (RbA R bk2) k2 k3)
  have HSm := hide (same_hl HHl.out HS3.out.drop.drop.rwAt k1)
  clear k1 k2 k3 HR HC2 d2
  go_wp2_with fail
  refine HSm.out.mono ?_
  rintro e1 w4 ⟨rfl, hb4⟩
  have HE := hide (((HS3.out.below ((good_rb R bk2).star ((good_bk B bk2).star ((good_rw u1 n xs).star HGX.out))) hb4).swap.shut8 (show Snd bk2 f by rw [HSt.out]; exact HSn.out)).swap.drop).swap.drop
  clear hb4 HSm HS3
  go_wp2
  go_ret
  exact ⟨rfl, HE.out⟩
end Go.Proofs.YteacmcdmdeckmaaGreat
