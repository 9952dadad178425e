import Derived.Test.YtbocpmcodlceoaaGreatME
namespace Go.Proofs.YtbocpmcodlceoaaGreat
open Go.ChangeShapes Go.WideShapes Go.ChangeAt Go.RowKit Go.Deep

theorem add_off (g o j : Nat) : (⟨g, o, none⟩ : Addr).add j = ⟨g, o + j, none⟩ := by
  by_cases hj : j = 0
  · subst hj; rfl
  · simp [Addr.add, hj]
theorem below_drew (w : World) : Below w.heap.size w w.drew := ⟨rfl, rfl, rfl, Nat.le_refl _, fun _ _ => rfl⟩
theorem own_sets {base ty size g n c : Nat} : ∀ (us : List Value) (j : Nat) (w : World) (xs : List Value), w.ownsRow base ty size (.slice (some ⟨g, 0, none⟩) n c) n xs → (w.setCells g j us).ownsRow base ty size (.slice (some ⟨g, 0, none⟩) n c) n (setsL xs j us)
  | [], _, _, _, h => h
  | u :: r, j, w, xs, h => by rw [World.setCells]; exact own_sets r (j + 1) _ _ (own_set h u)
theorem setsL_mid : ∀ (us : List Value) (A x B : List Value) (j : Nat), j + us.length ≤ x.length → setsL (A ++ (x ++ B)) (A.length + j) us = A ++ (setsL x j us ++ B)
  | [], _, _, _, _, _ => rfl
  | u :: r, A, x, B, j, h => by
    simp only [List.length_cons] at h
    show setsL ((A ++ (x ++ B)).set (A.length + j) u) (A.length + j + 1) r = A ++ (setsL (x.set j u) (j + 1) r ++ B)
    rw [List.set_append_right _ _ (by omega), Nat.add_sub_cancel_left, List.set_append_left _ _ (by omega), Nat.add_assoc]
    exact setsL_mid r A (x.set j u) B (j + 1) (by simp; omega)
theorem encW_split {K : List Rw} {i : Nat} {x : Rw} (h : K[i]? = some x) : encW K = encW (K.take i) ++ (encW1 x ++ encW (K.drop (i + 1))) := by
  obtain ⟨h1, h2⟩ := List.getElem?_eq_some_iff.1 h
  conv => lhs; rw [← List.take_append_drop i K, List.drop_eq_getElem_cons h1, h2]
  rw [encW_app]; rfl
theorem encW_sets {K : List Rw} {i j : Nat} {x y : Rw} {us : List Value} (h : K[i]? = some x) (hj : j + us.length ≤ 25) (he : setsL (encW1 x) j us = encW1 y) : setsL (encW K) (i * 25 + j) us = encW (K.set i y) := by
  have hil := (List.getElem?_eq_some_iff.1 h).1
  have h2 : (K.set i y)[i]? = some y := by rw [List.getElem?_set, if_pos rfl, if_pos hil]
  have hl : (encW (K.take i)).length = i * 25 := by rw [encW_len, List.length_take, Nat.min_eq_left (Nat.le_of_lt hil)]
  have e1 : (K.set i y).take i = K.take i := by rw [List.take_set]; exact List.set_eq_of_length_le (by simp; omega)
  have e2 : (K.set i y).drop (i + 1) = K.drop (i + 1) := List.drop_set_of_lt (by omega)
  rw [encW_split h, encW_split h2, e1, e2, ← he, ← hl]
  exact setsL_mid us _ _ _ j (by rw [encW1_len]; exact hj)
theorem mod_sets {F : Nat → Prop} {a : World} {g : Nat} (hg : F g ∨ a.heap.size ≤ g) : ∀ (us : List Value) (o : Nat) (w : World), Mod F a w → Mod F a (w.setCells g o us)
  | [], _, _, h => h
  | u :: r, o, w, h => by rw [World.setCells]; exact mod_sets hg r (o + 1) _ (h.setCell (p := ⟨g, o, none⟩) hg u)
theorem ext_below {F : Nat → Prop} {a w : World} (h : Below a.heap.size a w) : Ext F a F w := ⟨Mod.of_below h, fun _ h => .inl h⟩
/-- a struct loaded: what the operation yields -/
theorem run_loadT {t : TypeId} {d : TypeDesc} (hu : Tryz.prog.underlying t = some d) (hd : (match d with | .struct _ | .array _ _ => true | _ => false) = true) (cs : List Value) (hi : (Tryz.prog.info? t).map (·.size) = some cs.length) {op : Oper} {a : Act} {w : World} (x : Operand) (ho : op.op = .load t x) (ad : Addr)
    (hx : a.eval x = .pointer (some ad)) (hc : ∀ (j : Nat) (v : Value), cs[j]? = some v → w.cell? (ad.add j) = some v) : (execOp a.eval op).run Tryz.prog w = .ok (.value (.agg cs.toArray)) w := by
  have hl : (loadCells ad cs.length).run Tryz.prog w = .ok cs.toArray w := run_loadCells_list w ad cs hc
  have hv : (loadVar t ad).run Tryz.prog w = .ok (.agg cs.toArray) w := by
    cases hq : Tryz.prog.info? t with
    | none => simp [hq] at hi
    | some i =>
      have hs : i.size = cs.length := by simpa [hq] using hi
      have hagg : (isAgg t).run Tryz.prog w = .ok true w := by
        unfold isAgg
        rw [Sem.run_bind, run_underlying hu w]
        cases d <;> simp_all
      simp [loadVar, Sem.run_bind, hagg, sizeOf, typeInfo, hq, hs, hl]
  unfold execOp
  simp only [ho, hx, Instr.loadAt, Instr.sureAddr, Sem.run_bind, Sem.run_pure, Result.andThen_ok, hv]
theorem row_cells {W : World} {B t : Nat} {cs : List Value} (h : W.heap[B]? = some (.cells cs.toArray t (0, 0))) (j : Nat) (v : Value) (hv : cs[j]? = some v) : W.cell? ((⟨B, 0, none⟩ : Addr).add j) = some v := by
  rw [add_nat, cell_of_row _ _ _ _ _ _ h]; simpa using hv
theorem top_cell {W : World} {R t : Nat} {v u : Value} (h : W.heap[R]? = some (.cells #[v, u] t (0, 0))) : W.cell? ⟨R, 0, none⟩ = some v := by rw [cell_of_row _ _ _ _ _ _ h]; rfl
theorem top_cell1 {W : World} {R t : Nat} {v u : Value} (h : W.heap[R]? = some (.cells #[v, u] t (0, 0))) : W.cell? ⟨R, 1, none⟩ = some u := by rw [cell_of_row _ _ _ _ _ _ h]; rfl
section
variable {w : World} {R : Nat} {v : Value} {K : List Rw} {last : Int} {rs : List (Option Er)} {F : Nat → Prop}
theorem RtAt.there {g L c i k n : Nat} {x : Rw} (h : RtAt w R (.slice (some ⟨g, 0, none⟩) L c) K last) (hx : K[i]? = some x) (hk : k + n ≤ 25) : w.there g (i * 25 + k) n := fun j hj => by
  obtain ⟨g', c', hv, hrow⟩ := h.at hx
  have hlt : k + j < (encW1 x).length := by rw [encW1_len]; omega
  refine ⟨?_, h.rfrz _⟩
  have h1 := hrow (k + j) _ (List.getElem?_eq_getElem hlt)
  cases hv
  rw [← Nat.add_assoc] at h1; rw [h1]; rfl
/-- cells of a row are stored -/
theorem RtAt.puts {g L c i n j : Nat} {r r' : Er} (h : RtAt w R (.slice (some ⟨g, 0, none⟩) L c) K last) (ha : Ag rs K) (he : ∀ b, F b ↔ b = R ∨ (Value.slice (some ⟨g, 0, none⟩) L c).ownBlock = some b) (hi : K[i]? = some (n, r)) (hr : rs[n]? = some (some r)) (us : List Value) (hs : r'.se = r.se) (hu : setsL (encW1 (n, r)) j us = encW1 (n, r')) (hj : j + us.length ≤ 25) : RtA R (rs.set n (some r')) last (w.setCells g (i * 25 + j) us) F ∧ Ext F w F (w.setCells g (i * 25 + j) us) := by
  obtain ⟨a, c', hv⟩ := h.shape
  have hL : L = K.length := by cases hv; rfl
  subst hL
  have hne : g ≠ R := fun e => h.ne (by simp [Value.ownBlock, e])
  have ho := own_sets us (i * 25 + j) _ _ h.row
  rw [encW_sets hi hj hu] at ho
  refine ⟨⟨_, K.set i (n, r'), ⟨?_, by rw [List.length_set]; exact ho, h.ne⟩, ha.set hi hr hs, he⟩, mod_sets (.inl ((he g).2 (.inr (by simp [Value.ownBlock])))) us _ _ (Mod.refl _ _), fun _ h => .inl h⟩
  rw [heap_setCells_other _ _ (fun e => hne e.symm)]
  exact h.top
set_option maxHeartbeats 3200000 in
theorem setRegsD_none (h : RtA R rs last w F) (hl : rs.length = 16) (e : Int) (hn : look rs e = none) (g : Nat → Nat) (pc : Nat) : Calls Tryz.prog 24 #[tp R, .int .i64 e, .agg (regsL g pc).toArray] w fun x w' => x = .returned (.int .i64 90) ∧ Below w.heap.size w w' := by
  obtain ⟨v, K, h, ha, he⟩ := h
  have hb0 := (Below.refl w.heap.size w).alloc (Nat.le_refl _) (.cells (regsL g pc).toArray 35)
  have HAt := hide (atb_any (h.below hb0) ha hl e)
  have HN : Hid (∀ (n : Nat) (r : Er), e = (n : Int) → rs[n]? ≠ some (some r)) := hide (fun n r en hr => by
    rw [en, look_nat, hr] at hn; cases hn)
  have HB := hide hb0
  clear h ha he hl hn hb0
  go_enter Tryz.func24, Tryz.ntmps24
  go_upto_region 1 with fail
  show Code.wp _ _ _ _ (w.alloc (.cells (regsL g pc).toArray 35))
  generalize w.alloc (.cells (regsL g pc).toArray 35) = w1 at *
  go_wp2_with fail
  refine HAt.out.mono ?_
  rintro e1 w2 ⟨hw2, ⟨i, n, r, -, -, hen, hr⟩ | ⟨rfl, -⟩⟩
  · exact absurd hr (HN.out n r hen)
  · subst hw2
    clear HAt HN
    go_wp2
    go_ret
    exact ⟨rfl, HB.out⟩
set_option maxRecDepth 8000 in
set_option maxHeartbeats 3200000 in
theorem setRegsD_some (h : RtA R rs last w F) (hl : rs.length = 16) (n : Nat) (r : Er) (hr : rs[n]? = some (some r)) (rg : Nat → Nat) (pc : Nat) : Calls Tryz.prog 24 #[tp R, .int .i64 (n : Int), .agg (regsL rg pc).toArray] w fun x w' => x = .returned (.int .i64 0) ∧ RtA R (rs.set n (some { r with rg := rg, pc := pc })) last w' F ∧ Ext F w F w' := by
  obtain ⟨v, K, h, ha, he⟩ := h
  obtain ⟨i, hi⟩ := List.getElem?_of_mem ((ha.mem n r).2 hr)
  have hb0 := (Below.refl w.heap.size w).alloc (Nat.le_refl _) (.cells (regsL rg pc).toArray 35)
  have h0 := heap_alloc_new w (.cells (regsL rg pc).toArray 35)
  have hw0 := h
  have h := h.below hb0
  obtain ⟨g, c, hv, hrow⟩ := h.at hi
  have HAt := hide (atb_any h ha hl (n : Int))
  have HOn : Hid (∀ (i' n' : Nat) (r' : Er), K[i']? = some (n', r') → (n : Int) = (n' : Int) → i' = i) := hide (fun i' n' r' h1 h2 => ha.once h1 hi (by simp; omega))
  have HEx : Hid (∃ r', rs[n]? = some (some r')) := hide ⟨r, hr⟩
  have hil := (List.getElem?_eq_some_iff.1 hi).1
  obtain ⟨L, hL⟩ : ∃ L, K.length = L := ⟨_, rfl⟩
  rw [hL] at hv hil
  have hii : (i : Int) < (L : Int) := by omega
  subst hv
  have HP : Hid (∀ w3, w3 = (w.alloc (.cells (regsL rg pc).toArray 35)).drew → RtA R (rs.set n (some { r with rg := rg, pc := pc })) last (w3.setCells g (i * 25 + 7) (regsL rg pc)) F ∧ Ext F w F (w3.setCells g (i * 25 + 7) (regsL rg pc))) := hide (fun w3 e3 => by
    have hb3 : Below w.heap.size w w3 := by rw [e3]; exact hb0.trans ((below_drew _).mono hb0.size)
    obtain ⟨p1, p2⟩ := RtAt.puts (hw0.below hb3) ha he hi hr (regsL rg pc) (r' := { r with rg := rg, pc := pc }) (j := 7) rfl (by simp only [encW1, regsL, setsL, List.set]) (by rw [regs_len]; decide)
    exact ⟨p1, (ext_below hb3).trans p2⟩)
  have HIx := hide hi
  have HGB : Hid (g ≠ w.heap.size) := hide (fun e => by have := ownsRow_lt hw0.row (show Value.ownBlock _ = some g from rfl); omega)
  have HH := hide h
  have H0 := hide h0
  clear h ha he hl hi hr hrow hL hb0 h0 hw0
  go_enter Tryz.func24, Tryz.ntmps24
  go_upto_region 1 with fail
  show Code.wp _ _ _ _ (w.alloc (.cells (regsL rg pc).toArray 35))
  generalize w.alloc (.cells (regsL rg pc).toArray 35) = w1 at *
  go_wp2_with fail
  refine HAt.out.mono ?_
  rintro e1 w2 ⟨hw2, ⟨i', n', r', rfl, hi', hn', -⟩ | ⟨-, hno⟩⟩
  · have e2 := HOn.out i' n' r' hi' hn'
    subst e2
    subst hw2
    clear HAt HOn HEx hi' hn'
    have c0 := HH.out.rowc
    go_upto_region 4 with fail
    have HT := hide (HH.out.there HIx.out (k := 7) (n := 9) (by decide))
    have HS : Hid (w2.heap[R]? = some (.cells #[.slice (some ⟨g, 0, none⟩) L c, .int .i64 last] 83 (0, 0)) ∧ w2.heap[w.heap.size]? = some (.cells (regsL rg pc).toArray 35 (0, 0))) := hide ⟨HH.out.top, H0.out⟩
    have HNE : Hid (g ≠ R ∧ g ≠ w.heap.size) := hide ⟨fun e => HH.out.ne (by simp [Value.ownBlock, e]), HGB.out⟩
    generalize w.heap.size = B at *
    refine wp_region_held_drew (S := fun W : World => W.heap[R]? = some (.cells #[.slice (some ⟨g, 0, none⟩) L c, .int .i64 last] 83 (0, 0)) ∧ W.heap[B]? = some (.cells (regsL rg pc).toArray 35 (0, 0))) (by kernel_rfl) HS.out (fun _ => ?_)
    generalize hw3 : w2.drew = w3
    have HS3 : Hid (w3.heap[R]? = some (.cells #[.slice (some ⟨g, 0, none⟩) L c, .int .i64 last] 83 (0, 0)) ∧ w3.heap[B]? = some (.cells (regsL rg pc).toArray 35 (0, 0))) := hide (by rw [← hw3]; exact HS.out)
    have HT3 : Hid (w3.there g (i' * 25 + 7) 9) := hide (by rw [← hw3]; exact HT.out)
    have HP3 := hide (HP.out w3 hw3.symm)
    have HS4 : Hid ((w3.setCells g (i' * 25 + 7) (regsL rg pc)).heap[R]? = some (.cells #[.slice (some ⟨g, 0, none⟩) L c, .int .i64 last] 83 (0, 0)) ∧ (w3.setCells g (i' * 25 + 7) (regsL rg pc)).heap[B]? = some (.cells (regsL rg pc).toArray 35 (0, 0))) := hide ⟨by rw [heap_setCells_other _ _ (fun e => HNE.out.1 e.symm)]; exact HS3.out.1, by rw [heap_setCells_other _ _ (fun e => HNE.out.2 e.symm)]; exact HS3.out.2⟩
    clear hw3 HS HT HH HP H0 HNE HGB HIx c0
    refine hd_take 0 (o := ⟨some 13, _, _, _, _, _⟩) (.pointer (some ⟨R, 0, none⟩)) (by kernel_rfl) (by kernel_rfl) (by kernel_rfl) rfl (by rfl) (fun W hSw => by go_simp) (fun _ _ _ h => h) HS3.out ?_
    simp only [Act.put, List.setIfInBounds_toArray, List.set_cons_zero, List.set_cons_succ]
    refine hd_take 1 (o := ⟨some 14, _, _, _, _, _⟩) (.pointer (some ⟨R, 0, none⟩)) (by kernel_rfl) (by kernel_rfl) (by kernel_rfl) rfl (by rfl) (fun W hSw => by go_simp) (fun _ _ _ h => h) HS3.out ?_
    simp only [Act.put, List.setIfInBounds_toArray, List.set_cons_zero, List.set_cons_succ]
    refine hd_take 2 (o := ⟨some 15, _, _, _, _, _⟩) (.pointer (some ⟨R, 0, none⟩)) (by kernel_rfl) (by kernel_rfl) (by kernel_rfl) rfl (by rfl) (fun W hSw => by go_simp) (fun _ _ _ h => h) HS3.out ?_
    simp only [Act.put, List.setIfInBounds_toArray, List.set_cons_zero, List.set_cons_succ]
    refine hd_take 3 (o := ⟨some 16, _, _, _, _, _⟩) (.slice (some ⟨g, 0, none⟩) L c) (by kernel_rfl) (by kernel_rfl) (by kernel_rfl) rfl (by rfl) (fun W hSw => by have s1 := top_cell hSw.1; go_simp) (fun _ _ _ h => h) HS3.out ?_
    simp only [Act.put, List.setIfInBounds_toArray, List.set_cons_zero, List.set_cons_succ]
    refine hd_take 4 (o := ⟨some 17, _, _, _, _, _⟩) (.int .i64 (i' : Int)) (by kernel_rfl) (by kernel_rfl) (by kernel_rfl) rfl (by rfl) (fun W hSw => by go_simp) (fun _ _ _ h => h) HS3.out ?_
    simp only [Act.put, List.setIfInBounds_toArray, List.set_cons_zero, List.set_cons_succ]
    refine hd_take 5 (o := ⟨some 18, _, _, _, _, _⟩) (.agg (regsL rg pc).toArray) (by kernel_rfl) (by kernel_rfl) (by kernel_rfl) rfl (by rfl) (fun W hSw => by exact run_loadT Tryz.underlying35 rfl (regsL rg pc) (by rw [regs_len]; exact infoR) _ rfl ⟨B, 0, none⟩ rfl (row_cells hSw.2)) (fun _ _ _ h => h) HS3.out ?_
    simp only [Act.put, List.setIfInBounds_toArray, List.set_cons_zero, List.set_cons_succ]
    refine hd_take 6 (o := ⟨some 19, _, _, _, _, _⟩) (.pointer (some ⟨g, i' * 25, none⟩)) (by kernel_rfl) (by kernel_rfl) (by kernel_rfl) rfl (by rfl) (fun W hSw => by go_simp) (fun _ _ _ h => h) HS3.out ?_
    simp only [Act.put, List.setIfInBounds_toArray, List.set_cons_zero, List.set_cons_succ]
    refine hd_take 7 (o := ⟨some 20, _, _, _, _, _⟩) (.pointer (some ⟨g, i' * 25 + 1, none⟩)) (by kernel_rfl) (by kernel_rfl) (by kernel_rfl) rfl (by rfl) (fun W hSw => by go_simp) (fun _ _ _ h => h) HS3.out ?_
    simp only [Act.put, List.setIfInBounds_toArray, List.set_cons_zero, List.set_cons_succ]
    refine hd_take 8 (o := ⟨some 21, _, _, _, _, _⟩) (.pointer (some ⟨g, i' * 25 + 7, none⟩)) (by kernel_rfl) (by kernel_rfl) (by kernel_rfl) rfl (by rfl) (fun W hSw => by go_simp) (fun _ _ _ h => h) HS3.out ?_
    simp only [Act.put, List.setIfInBounds_toArray, List.set_cons_zero, List.set_cons_succ]
    refine hd_call 9 (o := ⟨none, _, _, _, _, _⟩) (by kernel_rfl) rfl (by rfl) (fun K' hK => ?_)
    refine wp_store_mid 35 _ _ rfl g (i' * 25 + 7) (regsL rg pc).toArray rfl rfl HT3.out (by rw [List.size_toArray, regs_len]; exact infoR) (all_oneCell_toArray (regs_one rg pc)) ?_
    refine hK _ _ HS4.out ?_
    clear hK K'
    try simp only [Act.put]
    refine wpAnyH_done (by kernel_rfl) ?_ _
    generalize w3.setCells g (i' * 25 + 7) (regsL rg pc) = w4 at *
    clear HS4 HS3 HT3
    go_wp2
    go_ret
    exact ⟨rfl, HP3.out.1, HP3.out.2⟩
  · obtain ⟨r', hr'⟩ := HEx.out
    exact absurd hr' (hno n r' rfl)
end
end Go.Proofs.YtbocpmcodlceoaaGreat

namespace Go.Proofs.YtbocpmcodlceoaaGreat
open Go.ChangeShapes Go.WideShapes Go.ChangeAt Go.RowKit Go.Deep

section
variable {w : World} {R : Nat} {v : Value} {K : List Rw} {last : Int} {rs : List (Option Er)} {F : Nat → Prop}
set_option maxHeartbeats 3200000 in
theorem notifyD_none (h : RtA R rs last w F) (hl : rs.length = 16) (e : Int) (hn : look rs e = none) (z : Int) : Calls Tryz.prog 30 #[tp R, .int .i64 e, .int .i64 z] w fun x w' => x = .returned (.int .i64 90) ∧ w' = w := by
  obtain ⟨v, K, h, ha, he⟩ := h
  have HAt := hide (atb_any h ha hl e)
  have HN : Hid (∀ (n : Nat) (r : Er), e = (n : Int) → rs[n]? ≠ some (some r)) := hide (fun n r en hr => by
    rw [en, look_nat, hr] at hn; cases hn)
  clear h ha he hl hn
  go_enter Tryz.func30, Tryz.ntmps30
  go_wp2_with fail
  refine HAt.out.mono ?_
  rintro e1 w2 ⟨hw2, ⟨i, n, r, -, -, hen, hr⟩ | ⟨rfl, -⟩⟩
  · exact absurd hr (HN.out n r hen)
  · subst hw2
    clear HAt HN
    go_wp2
    go_ret
    exact ⟨rfl, rfl⟩
set_option maxHeartbeats 3200000 in
theorem notifyD_bad1 (h : RtA R rs last w F) (hl : rs.length = 16) (n : Nat) (r : Er) (hr : rs[n]? = some (some r)) (z : Int) (hz : z < 0) : Calls Tryz.prog 30 #[tp R, .int .i64 (n : Int), .int .i64 z] w fun x w' => x = .returned (.int .i64 1) ∧ w' = w := by
  obtain ⟨v, K, h, ha, he⟩ := h
  have HAt := hide (atb_any h ha hl (n : Int))
  have HEx := hide hr
  clear h ha he hl hr
  have z1 : decide (z < 0) = true := by simp; exact hz
  clear hz
  go_enter Tryz.func30, Tryz.ntmps30
  go_wp2_with fail
  refine HAt.out.mono ?_
  rintro e1 w2 ⟨hw2, ⟨i', n', r', rfl, -, -, -⟩ | ⟨-, hno⟩⟩
  · subst hw2
    clear HAt HEx
    go_wp2
    go_ret
    exact ⟨rfl, rfl⟩
  · exact absurd HEx.out (hno n r rfl)
set_option maxHeartbeats 3200000 in
theorem notifyD_bad2 (h : RtA R rs last w F) (hl : rs.length = 16) (n : Nat) (r : Er) (hr : rs[n]? = some (some r)) (z : Int) (hz : 4294967295 < z) : Calls Tryz.prog 30 #[tp R, .int .i64 (n : Int), .int .i64 z] w fun x w' => x = .returned (.int .i64 1) ∧ w' = w := by
  obtain ⟨v, K, h, ha, he⟩ := h
  have HAt := hide (atb_any h ha hl (n : Int))
  have HEx := hide hr
  clear h ha he hl hr
  have z1 : decide (z < 0) = false := by simp; omega
  have z2 : decide (4294967295 < z) = true := by simp; exact hz
  clear hz
  go_enter Tryz.func30, Tryz.ntmps30
  go_wp2_with fail
  refine HAt.out.mono ?_
  rintro e1 w2 ⟨hw2, ⟨i', n', r', rfl, -, -, -⟩ | ⟨-, hno⟩⟩
  · subst hw2
    clear HAt HEx
    go_wp2
    go_ret
    exact ⟨rfl, rfl⟩
  · exact absurd HEx.out (hno n r rfl)
set_option maxRecDepth 8000 in
set_option maxHeartbeats 3200000 in
theorem notifyD_more (h : RtA R rs last w F) (hl : rs.length = 16) (n : Nat) (r : Er) (hr : rs[n]? = some (some r)) (z : Int) (hz : 0 ≤ z ∧ z ≤ 4294967295) (hc : ¬ (r.st = 2 ∧ ¬ bits .or .i64 r.bi z = 0)) : Calls Tryz.prog 30 #[tp R, .int .i64 (n : Int), .int .i64 z] w fun x w' => x = .returned (.int .i64 0) ∧ RtA R (rs.set n (some (noticed r z))) last w' F ∧ Ext F w F w' := by
  obtain ⟨v, K, h, ha, he⟩ := h
  obtain ⟨i, hi⟩ := List.getElem?_of_mem ((ha.mem n r).2 hr)
  obtain ⟨g, c, hv, hrow⟩ := h.at hi
  have HAt := hide (atb_any h ha hl (n : Int))
  have HOn : Hid (∀ (i' n' : Nat) (r' : Er), K[i']? = some (n', r') → (n : Int) = (n' : Int) → i' = i) := hide (fun i' n' r' h1 h2 => ha.once h1 hi (by simp; omega))
  have HEx : Hid (∃ r', rs[n]? = some (some r')) := hide ⟨r, hr⟩
  have hil := (List.getElem?_eq_some_iff.1 hi).1
  obtain ⟨L, hL⟩ : ∃ L, K.length = L := ⟨_, rfl⟩
  rw [hL] at hv hil
  have hii : (i : Int) < (L : Int) := by omega
  subst hv
  have z1 : decide (z < 0) = false := by simp; omega
  have z2 : decide (4294967295 < z) = false := by simp; omega
  have HFin : Hid (∀ w6, Below w.heap.size w w6 → ∀ us, us.length = 21 ∧ setsL (encW1 (n, r)) 1 us = encW1 (n, noticed r z) → RtA R (rs.set n (some (noticed r z))) last (w6.setCells g (i * 25 + 1) us) F ∧ Ext F w6 F (w6.setCells g (i * 25 + 1) us)) := hide (fun w6 hb us hu => RtAt.puts (h.below hb) ha he hi hr us (r' := noticed r z) (j := 1) (by unfold noticed; split <;> rfl) hu.2 (by rw [hu.1]; decide))
  have HIx := hide hi
  have HH := hide h
  have HRow := hide hrow
  have c0 := h.rowc
  obtain ⟨r0, hr0⟩ : ∃ r0 : Er, { r with lf := Qt.zero } = r0 := ⟨_, rfl⟩
  have HE0 := hide (freshE_eb w r0)
  have HB0 := hide (freshE_below w r0)
  have hz0 : Eb (w.alloc (.cells Er.nil.head.toArray 46)) w.heap.size Er.nil := Eb.new _ _
  have HL0 : Hid (∀ (j : Nat) (v : Value), r0.head[j]? = some v → w.cell? ((⟨g, i * 25 + 1, none⟩ : Addr).add j) = some v) := hide (fun j v hj => by
    rw [add_off, Nat.add_assoc]
    refine HRow.out (1 + j) v ?_
    have hj2 : j < 21 := by have := (List.getElem?_eq_some_iff.1 hj).1; rwa [head_len] at this
    have e1 : encW1 (n, r) = .int .i64 (n : Int) :: (r0.head ++ [.int .i64 r.pd.f, .int .i64 r.pd.e, .int .i64 r.pd.x]) := by rw [← hr0]; rfl
    rw [e1, Nat.add_comm, List.getElem?_cons_succ, List.getElem?_append_left (by rw [head_len]; exact hj2)]
    exact hj)
  have HR0 := hide hr0
  have HZ0 := hide hz0
  obtain ⟨zz, hzz⟩ : ∃ zz, bits .or .i64 r.bi z = zz := ⟨_, rfl⟩
  have HNt : Hid (noticed r z = { r with bi := zz }) := hide (by unfold noticed; rw [if_neg hc, hzz])
  rw [hzz] at hc
  have HC := hide hc
  clear hc
  clear h ha he hl hi hr hrow hL hz hr0 hz0
  go_enter Tryz.func30, Tryz.ntmps30
  go_wp2_with fail
  refine HAt.out.mono ?_
  rintro e1 w2 ⟨hw2, ⟨i', n', r', rfl, hi', hn', -⟩ | ⟨-, hno⟩⟩
  · have e2 := HOn.out i' n' r' hi' hn'
    subst e2
    subst hw2
    clear HAt HOn HEx hi' hn'
    go_upto_region 6 with fail
    go_upto_region 7 with (first | refine loadE r0 ?lw _ rfl ⟨g, i' * 25 + 1, none⟩ ?lx ?lc ?_ | refine storeE r0 ?sw _ _ rfl w2.heap.size Er.nil ?sx ?sy ?sz ?_)
    try (case lw => rfl)
    try (case lx => rfl)
    case lc => exact HL0.out
    try (case sw => rfl)
    try (case sx => rfl)
    try (case sy => rfl)
    case sz => exact HZ0.out
    show Code.wp _ _ _ _ (freshE w2 r0)
    generalize freshE w2 r0 = w3 at *
    have HNN : Hid (w2.heap.size ≤ w2.heap.size) := hide (Nat.le_refl _)
    obtain ⟨N, hN⟩ : ∃ N, w2.heap.size = N := ⟨_, rfl⟩
    rw [hN] at HE0 ⊢
    have HNN : Hid (w2.heap.size ≤ N) := hide (Nat.le_of_eq hN)
    clear HRow HL0 HZ0 c0
    have k4 := HE0.out.get (j := 4) rfl
    have f4 := HE0.out.frz 4
    rw [← HR0.out] at k4
    simp only at k4
    have HN1' : Hid (Eb (w3.setCell ⟨N, 4, none⟩ (.int .i64 zz)) N { r0 with bi := zz }) := hide (HE0.out.set rfl)
    have HB5 : Hid (Below w2.heap.size w2 (w3.setCell ⟨N, 4, none⟩ (.int .i64 zz))) := hide (HB0.out.setCell (p := ⟨N, 4, none⟩) HNN.out _)
    go_upto_region 8 with fail
    generalize w3.setCell ⟨N, 4, none⟩ (.int .i64 zz) = w5 at *
    clear k4 f4 HE0 HB0 hzz
    obtain ⟨r1, hr1⟩ : ∃ r1, { r0 with bi := zz } = r1 := ⟨_, rfl⟩
    have HU : Hid (r1.head.length = 21 ∧ setsL (encW1 (n, r)) 1 r1.head = encW1 (n, noticed r z)) := hide ⟨rfl, by rw [HNt.out, ← hr1, ← HR0.out]; simp only [encW1, Er.head, setsL, List.set, Qt.zero]⟩
    have HN1 : Hid (Eb w5 N r1) := hide (by rw [← hr1]; exact HN1'.out)
    have k2 := HN1'.out.get (j := 2) rfl
    have k4 := HN1'.out.get (j := 4) rfl
    rw [← HR0.out] at k2
    simp only at k2 k4
    clear HN1' hr1 HNt HR0
    clear hN
    by_cases hs : r.st = 2
    · have hs0 : zz = 0 := by
        by_cases e : zz = 0
        · exact e
        · exact absurd ⟨hs, e⟩ HC.out
      rw [hs] at k2
      rw [hs0] at k4
      clear hs hs0 HC
      go_upto_region 13 with fail
      clear k2 k4
      have HRt5 := hide (HH.out.below HB5.out)
      have HT := hide (HRt5.out.there HIx.out (k := 1) (n := 21) (by decide))
      have HS : Hid (w5.heap[R]? = some (.cells #[.slice (some ⟨g, 0, none⟩) L c, .int .i64 last] 83 (0, 0)) ∧ Eb w5 N r1) := hide ⟨HRt5.out.top, HN1.out⟩
      have HNE : Hid (g ≠ R ∧ g ≠ N) := hide ⟨fun e => HH.out.ne (by simp [Value.ownBlock, e]), fun e => by have := HNN.out; have := ownsRow_lt HH.out.row (show Value.ownBlock _ = some g from rfl); omega⟩
      refine wp_region_held_drew (S := fun W : World => W.heap[R]? = some (.cells #[.slice (some ⟨g, 0, none⟩) L c, .int .i64 last] 83 (0, 0)) ∧ Eb W N r1) (by kernel_rfl) ⟨HS.out.1, ⟨HS.out.2.out⟩⟩ (fun _ => ?_)
      generalize hw6 : w5.drew = w6
      have HS6 : Hid (w6.heap[R]? = some (.cells #[.slice (some ⟨g, 0, none⟩) L c, .int .i64 last] 83 (0, 0)) ∧ Eb w6 N r1) := hide (by rw [← hw6]; exact ⟨HS.out.1, ⟨HS.out.2.out⟩⟩)
      have HT6 : Hid (w6.there g (i' * 25 + 1) 21) := hide (by rw [← hw6]; exact HT.out)
      have HB6 : Hid (Below w2.heap.size w2 w6) := hide (by rw [← hw6]; exact HB5.out.trans ((below_drew _).mono HB5.out.size))
      have HP6 : Hid (RtA R (rs.set n (some (noticed r z))) last (w6.setCells g (i' * 25 + 1) r1.head) F ∧ Ext F w2 F (w6.setCells g (i' * 25 + 1) r1.head)) := hide (by
        obtain ⟨p1, p2⟩ := HFin.out w6 HB6.out r1.head HU.out
        exact ⟨p1, (ext_below HB6.out).trans p2⟩)
      have HS7 : Hid ((w6.setCells g (i' * 25 + 1) r1.head).heap[R]? = some (.cells #[.slice (some ⟨g, 0, none⟩) L c, .int .i64 last] 83 (0, 0)) ∧ Eb (w6.setCells g (i' * 25 + 1) r1.head) N r1) := hide ⟨by rw [heap_setCells_other _ _ (fun e => HNE.out.1 e.symm)]; exact HS6.out.1, HS6.out.2.keep (heap_setCells_other _ _ (fun e => HNE.out.2 e.symm) _ _ _)⟩
      clear hw6 HS HT HB5 HB6 HNE HRt5 HH HFin HU HIx HN1 HNN
      refine hd_take 0 (o := ⟨some 52, _, _, _, _, _⟩) (.pointer (some ⟨R, 0, none⟩)) (by kernel_rfl) (by kernel_rfl) (by kernel_rfl) rfl (by rfl) (fun W hSw => by go_simp) (fun _ _ _ h => h) HS6.out ?_
      simp only [Act.put, List.setIfInBounds_toArray, List.set_cons_zero, List.set_cons_succ]
      refine hd_take 1 (o := ⟨some 53, _, _, _, _, _⟩) (.pointer (some ⟨R, 0, none⟩)) (by kernel_rfl) (by kernel_rfl) (by kernel_rfl) rfl (by rfl) (fun W hSw => by go_simp) (fun _ _ _ h => h) HS6.out ?_
      simp only [Act.put, List.setIfInBounds_toArray, List.set_cons_zero, List.set_cons_succ]
      refine hd_take 2 (o := ⟨some 54, _, _, _, _, _⟩) (.pointer (some ⟨R, 0, none⟩)) (by kernel_rfl) (by kernel_rfl) (by kernel_rfl) rfl (by rfl) (fun W hSw => by go_simp) (fun _ _ _ h => h) HS6.out ?_
      simp only [Act.put, List.setIfInBounds_toArray, List.set_cons_zero, List.set_cons_succ]
      refine hd_take 3 (o := ⟨some 55, _, _, _, _, _⟩) (.slice (some ⟨g, 0, none⟩) L c) (by kernel_rfl) (by kernel_rfl) (by kernel_rfl) rfl (by rfl) (fun W hSw => by have s1 := top_cell hSw.1; go_simp) (fun _ _ _ h => h) HS6.out ?_
      simp only [Act.put, List.setIfInBounds_toArray, List.set_cons_zero, List.set_cons_succ]
      refine hd_take 4 (o := ⟨some 56, _, _, _, _, _⟩) (.int .i64 (i' : Int)) (by kernel_rfl) (by kernel_rfl) (by kernel_rfl) rfl (by rfl) (fun W hSw => by go_simp) (fun _ _ _ h => h) HS6.out ?_
      simp only [Act.put, List.setIfInBounds_toArray, List.set_cons_zero, List.set_cons_succ]
      refine hd_take 5 (o := ⟨some 57, _, _, _, _, _⟩) (.agg r1.head.toArray) (by kernel_rfl) (by kernel_rfl) (by kernel_rfl) rfl (by rfl) (fun W hSw => by exact run_loadT Tryz.underlying46 rfl r1.head (by rw [head_len]; exact infoE) _ rfl ⟨N, 0, none⟩ rfl hSw.2.hcell) (fun _ _ _ h => h) HS6.out ?_
      simp only [Act.put, List.setIfInBounds_toArray, List.set_cons_zero, List.set_cons_succ]
      refine hd_take 6 (o := ⟨some 58, _, _, _, _, _⟩) (.pointer (some ⟨g, i' * 25, none⟩)) (by kernel_rfl) (by kernel_rfl) (by kernel_rfl) rfl (by rfl) (fun W hSw => by go_simp) (fun _ _ _ h => h) HS6.out ?_
      simp only [Act.put, List.setIfInBounds_toArray, List.set_cons_zero, List.set_cons_succ]
      refine hd_take 7 (o := ⟨some 59, _, _, _, _, _⟩) (.pointer (some ⟨g, i' * 25 + 1, none⟩)) (by kernel_rfl) (by kernel_rfl) (by kernel_rfl) rfl (by rfl) (fun W hSw => by go_simp) (fun _ _ _ h => h) HS6.out ?_
      simp only [Act.put, List.setIfInBounds_toArray, List.set_cons_zero, List.set_cons_succ]
      refine hd_call 8 (o := ⟨none, _, _, _, _, _⟩) (by kernel_rfl) rfl (by rfl) (fun K' hK => ?_)
      refine wp_store_mid 46 _ _ rfl g (i' * 25 + 1) r1.head.toArray rfl rfl HT6.out (by rw [List.size_toArray, head_len]; exact infoE) (all_oneCell_toArray (head_one r1)) ?_
      refine hK _ _ HS7.out ?_
      clear hK K'
      try simp only [Act.put]
      refine wpAnyH_done (by kernel_rfl) ?_ _
      generalize w6.setCells g (i' * 25 + 1) r1.head = w7 at *
      clear HS6 HS7 HT6
      go_wp2
      go_ret
      exact ⟨rfl, HP6.out.1, HP6.out.2⟩
    · have hsb : (r.st == 2) = false := by simp [hs]
      clear hs HC
      go_upto_region 13 with fail
      clear k2 k4 hsb
      have HRt5 := hide (HH.out.below HB5.out)
      have HT := hide (HRt5.out.there HIx.out (k := 1) (n := 21) (by decide))
      have HS : Hid (w5.heap[R]? = some (.cells #[.slice (some ⟨g, 0, none⟩) L c, .int .i64 last] 83 (0, 0)) ∧ Eb w5 N r1) := hide ⟨HRt5.out.top, HN1.out⟩
      have HNE : Hid (g ≠ R ∧ g ≠ N) := hide ⟨fun e => HH.out.ne (by simp [Value.ownBlock, e]), fun e => by have := HNN.out; have := ownsRow_lt HH.out.row (show Value.ownBlock _ = some g from rfl); omega⟩
      refine wp_region_held_drew (S := fun W : World => W.heap[R]? = some (.cells #[.slice (some ⟨g, 0, none⟩) L c, .int .i64 last] 83 (0, 0)) ∧ Eb W N r1) (by kernel_rfl) ⟨HS.out.1, ⟨HS.out.2.out⟩⟩ (fun _ => ?_)
      generalize hw6 : w5.drew = w6
      have HS6 : Hid (w6.heap[R]? = some (.cells #[.slice (some ⟨g, 0, none⟩) L c, .int .i64 last] 83 (0, 0)) ∧ Eb w6 N r1) := hide (by rw [← hw6]; exact ⟨HS.out.1, ⟨HS.out.2.out⟩⟩)
      have HT6 : Hid (w6.there g (i' * 25 + 1) 21) := hide (by rw [← hw6]; exact HT.out)
      have HB6 : Hid (Below w2.heap.size w2 w6) := hide (by rw [← hw6]; exact HB5.out.trans ((below_drew _).mono HB5.out.size))
      have HP6 : Hid (RtA R (rs.set n (some (noticed r z))) last (w6.setCells g (i' * 25 + 1) r1.head) F ∧ Ext F w2 F (w6.setCells g (i' * 25 + 1) r1.head)) := hide (by
        obtain ⟨p1, p2⟩ := HFin.out w6 HB6.out r1.head HU.out
        exact ⟨p1, (ext_below HB6.out).trans p2⟩)
      have HS7 : Hid ((w6.setCells g (i' * 25 + 1) r1.head).heap[R]? = some (.cells #[.slice (some ⟨g, 0, none⟩) L c, .int .i64 last] 83 (0, 0)) ∧ Eb (w6.setCells g (i' * 25 + 1) r1.head) N r1) := hide ⟨by rw [heap_setCells_other _ _ (fun e => HNE.out.1 e.symm)]; exact HS6.out.1, HS6.out.2.keep (heap_setCells_other _ _ (fun e => HNE.out.2 e.symm) _ _ _)⟩
      clear hw6 HS HT HB5 HB6 HNE HRt5 HH HFin HU HIx HN1 HNN
      refine hd_take 0 (o := ⟨some 52, _, _, _, _, _⟩) (.pointer (some ⟨R, 0, none⟩)) (by kernel_rfl) (by kernel_rfl) (by kernel_rfl) rfl (by rfl) (fun W hSw => by go_simp) (fun _ _ _ h => h) HS6.out ?_
      simp only [Act.put, List.setIfInBounds_toArray, List.set_cons_zero, List.set_cons_succ]
      refine hd_take 1 (o := ⟨some 53, _, _, _, _, _⟩) (.pointer (some ⟨R, 0, none⟩)) (by kernel_rfl) (by kernel_rfl) (by kernel_rfl) rfl (by rfl) (fun W hSw => by go_simp) (fun _ _ _ h => h) HS6.out ?_
      simp only [Act.put, List.setIfInBounds_toArray, List.set_cons_zero, List.set_cons_succ]
      refine hd_take 2 (o := ⟨some 54, _, _, _, _, _⟩) (.pointer (some ⟨R, 0, none⟩)) (by kernel_rfl) (by kernel_rfl) (by kernel_rfl) rfl (by rfl) (fun W hSw => by go_simp) (fun _ _ _ h => h) HS6.out ?_
      simp only [Act.put, List.setIfInBounds_toArray, List.set_cons_zero, List.set_cons_succ]
      refine hd_take 3 (o := ⟨some 55, _, _, _, _, _⟩) (.slice (some ⟨g, 0, none⟩) L c) (by kernel_rfl) (by kernel_rfl) (by kernel_rfl) rfl (by rfl) (fun W hSw => by have s1 := top_cell hSw.1; go_simp) (fun _ _ _ h => h) HS6.out ?_
      simp only [Act.put, List.setIfInBounds_toArray, List.set_cons_zero, List.set_cons_succ]
      refine hd_take 4 (o := ⟨some 56, _, _, _, _, _⟩) (.int .i64 (i' : Int)) (by kernel_rfl) (by kernel_rfl) (by kernel_rfl) rfl (by rfl) (fun W hSw => by go_simp) (fun _ _ _ h => h) HS6.out ?_
      simp only [Act.put, List.setIfInBounds_toArray, List.set_cons_zero, List.set_cons_succ]
      refine hd_take 5 (o := ⟨some 57, _, _, _, _, _⟩) (.agg r1.head.toArray) (by kernel_rfl) (by kernel_rfl) (by kernel_rfl) rfl (by rfl) (fun W hSw => by exact run_loadT Tryz.underlying46 rfl r1.head (by rw [head_len]; exact infoE) _ rfl ⟨N, 0, none⟩ rfl hSw.2.hcell) (fun _ _ _ h => h) HS6.out ?_
      simp only [Act.put, List.setIfInBounds_toArray, List.set_cons_zero, List.set_cons_succ]
      refine hd_take 6 (o := ⟨some 58, _, _, _, _, _⟩) (.pointer (some ⟨g, i' * 25, none⟩)) (by kernel_rfl) (by kernel_rfl) (by kernel_rfl) rfl (by rfl) (fun W hSw => by go_simp) (fun _ _ _ h => h) HS6.out ?_
      simp only [Act.put, List.setIfInBounds_toArray, List.set_cons_zero, List.set_cons_succ]
      refine hd_take 7 (o := ⟨some 59, _, _, _, _, _⟩) (.pointer (some ⟨g, i' * 25 + 1, none⟩)) (by kernel_rfl) (by kernel_rfl) (by kernel_rfl) rfl (by rfl) (fun W hSw => by go_simp) (fun _ _ _ h => h) HS6.out ?_
      simp only [Act.put, List.setIfInBounds_toArray, List.set_cons_zero, List.set_cons_succ]
      refine hd_call 8 (o := ⟨none, _, _, _, _, _⟩) (by kernel_rfl) rfl (by rfl) (fun K' hK => ?_)
      refine wp_store_mid 46 _ _ rfl g (i' * 25 + 1) r1.head.toArray rfl rfl HT6.out (by rw [List.size_toArray, head_len]; exact infoE) (all_oneCell_toArray (head_one r1)) ?_
      refine hK _ _ HS7.out ?_
      clear hK K'
      try simp only [Act.put]
      refine wpAnyH_done (by kernel_rfl) ?_ _
      generalize w6.setCells g (i' * 25 + 1) r1.head = w7 at *
      clear HS6 HS7 HT6
      go_wp2
      go_ret
      exact ⟨rfl, HP6.out.1, HP6.out.2⟩

  · obtain ⟨r', hr'⟩ := HEx.out
    exact absurd hr' (hno n r' rfl)
set_option maxRecDepth 8000 in
set_option maxHeartbeats 3200000 in
theorem notifyD_woken (h : RtA R rs last w F) (hl : rs.length = 16) (n : Nat) (r : Er) (hr : rs[n]? = some (some r)) (z : Int) (hz : 0 ≤ z ∧ z ≤ 4294967295) (hc : r.st = 2 ∧ ¬ bits .or .i64 r.bi z = 0) (hw : 0 ≤ bits .or .i64 r.bi z ∧ bits .or .i64 r.bi z ≤ 4294967295) : Calls Tryz.prog 30 #[tp R, .int .i64 (n : Int), .int .i64 z] w fun x w' => x = .returned (.int .i64 0) ∧ RtA R (rs.set n (some (noticed r z))) last w' F ∧ Ext F w F w' := by
  obtain ⟨v, K, h, ha, he⟩ := h
  obtain ⟨i, hi⟩ := List.getElem?_of_mem ((ha.mem n r).2 hr)
  obtain ⟨g, c, hv, hrow⟩ := h.at hi
  have HAt := hide (atb_any h ha hl (n : Int))
  have HOn : Hid (∀ (i' n' : Nat) (r' : Er), K[i']? = some (n', r') → (n : Int) = (n' : Int) → i' = i) := hide (fun i' n' r' h1 h2 => ha.once h1 hi (by simp; omega))
  have HEx : Hid (∃ r', rs[n]? = some (some r')) := hide ⟨r, hr⟩
  have hil := (List.getElem?_eq_some_iff.1 hi).1
  obtain ⟨L, hL⟩ : ∃ L, K.length = L := ⟨_, rfl⟩
  rw [hL] at hv hil
  have hii : (i : Int) < (L : Int) := by omega
  subst hv
  have z1 : decide (z < 0) = false := by simp; omega
  have z2 : decide (4294967295 < z) = false := by simp; omega
  have HFin : Hid (∀ w6, Below w.heap.size w w6 → ∀ us, us.length = 21 ∧ setsL (encW1 (n, r)) 1 us = encW1 (n, noticed r z) → RtA R (rs.set n (some (noticed r z))) last (w6.setCells g (i * 25 + 1) us) F ∧ Ext F w6 F (w6.setCells g (i * 25 + 1) us)) := hide (fun w6 hb us hu => RtAt.puts (h.below hb) ha he hi hr us (r' := noticed r z) (j := 1) (by unfold noticed; split <;> rfl) hu.2 (by rw [hu.1]; decide))
  have HIx := hide hi
  have HH := hide h
  have HRow := hide hrow
  have c0 := h.rowc
  obtain ⟨r0, hr0⟩ : ∃ r0 : Er, { r with lf := Qt.zero } = r0 := ⟨_, rfl⟩
  have HE0 := hide (freshE_eb w r0)
  have HB0 := hide (freshE_below w r0)
  have hz0 : Eb (w.alloc (.cells Er.nil.head.toArray 46)) w.heap.size Er.nil := Eb.new _ _
  have HL0 : Hid (∀ (j : Nat) (v : Value), r0.head[j]? = some v → w.cell? ((⟨g, i * 25 + 1, none⟩ : Addr).add j) = some v) := hide (fun j v hj => by
    rw [add_off, Nat.add_assoc]
    refine HRow.out (1 + j) v ?_
    have hj2 : j < 21 := by have := (List.getElem?_eq_some_iff.1 hj).1; rwa [head_len] at this
    have e1 : encW1 (n, r) = .int .i64 (n : Int) :: (r0.head ++ [.int .i64 r.pd.f, .int .i64 r.pd.e, .int .i64 r.pd.x]) := by rw [← hr0]; rfl
    rw [e1, Nat.add_comm, List.getElem?_cons_succ, List.getElem?_append_left (by rw [head_len]; exact hj2)]
    exact hj)
  have HR0 := hide hr0
  have HZ0 := hide hz0
  obtain ⟨zn, hzz⟩ := Int.eq_ofNat_of_zero_le hw.1
  have HNt : Hid (noticed r z = { r with st := 1, bi := 0, rg := wokenR r zn }) := hide (by unfold noticed; rw [if_pos hc, hzz]; rfl)
  rw [hzz] at hc hw
  have h0b : ((zn : Int) == 0) = false := by
    have hzn : zn ≠ 0 := fun e => hc.2 (by rw [e]; rfl)
    simp [hzn]
  have hWz : IntKind.u32.wrap (zn : Int) = (zn : Int) := by simp [IntKind.wrap, IntKind.signed, IntKind.bits]; omega
  have hs := hc.1
  clear hc hw
  clear h ha he hl hi hr hrow hL hz hr0 hz0
  go_enter Tryz.func30, Tryz.ntmps30
  go_wp2_with fail
  refine HAt.out.mono ?_
  rintro e1 w2 ⟨hw2, ⟨i', n', r', rfl, hi', hn', -⟩ | ⟨-, hno⟩⟩
  · have e2 := HOn.out i' n' r' hi' hn'
    subst e2
    subst hw2
    clear HAt HOn HEx hi' hn'
    go_upto_region 6 with fail
    go_upto_region 7 with (first | refine loadE r0 ?lw _ rfl ⟨g, i' * 25 + 1, none⟩ ?lx ?lc ?_ | refine storeE r0 ?sw _ _ rfl w2.heap.size Er.nil ?sx ?sy ?sz ?_)
    try (case lw => rfl)
    try (case lx => rfl)
    case lc => exact HL0.out
    try (case sw => rfl)
    try (case sx => rfl)
    try (case sy => rfl)
    case sz => exact HZ0.out
    show Code.wp _ _ _ _ (freshE w2 r0)
    generalize freshE w2 r0 = w3 at *
    have HNN : Hid (w2.heap.size ≤ w2.heap.size) := hide (Nat.le_refl _)
    obtain ⟨N, hN⟩ : ∃ N, w2.heap.size = N := ⟨_, rfl⟩
    rw [hN] at HE0 ⊢
    have HNN : Hid (w2.heap.size ≤ N) := hide (Nat.le_of_eq hN)
    clear HRow HL0 HZ0 c0
    have k4 := HE0.out.get (j := 4) rfl
    have f4 := HE0.out.frz 4
    rw [← HR0.out] at k4
    simp only at k4
    have hE1 : Eb (w3.setCell ⟨N, 4, none⟩ (.int .i64 (zn : Int))) N { r0 with bi := (zn : Int) } := HE0.out.set rfl
    have hB1 : Below w2.heap.size w2 (w3.setCell ⟨N, 4, none⟩ (.int .i64 (zn : Int))) := HB0.out.setCell (p := ⟨N, 4, none⟩) HNN.out _
    have HE1 := hide hE1
    have HB1 := hide hB1
    clear hE1 hB1
    go_upto_region 8 with fail
    generalize w3.setCell ⟨N, 4, none⟩ (.int .i64 (zn : Int)) = w4 at *
    clear k4 f4 HE0 HB0 hzz
    have k2 := HE1.out.get (j := 2) rfl
    have k4 := HE1.out.get (j := 4) rfl
    have f2 := HE1.out.frz 2
    have f4 := HE1.out.frz 4
    have k6 := HE1.out.get (j := 6) rfl
    have k7 := HE1.out.get (j := 7) rfl
    have f6 := HE1.out.frz 6
    have f7 := HE1.out.frz 7
    rw [← HR0.out] at k2
    simp only at k2 k4
    rw [hs] at k2
    have HN1' : Hid (Eb ((((w4.setCell ⟨N, 2, none⟩ (.int .i64 1)).setCell ⟨N, 6, none⟩ (.int .u32 0)).setCell ⟨N, 7, none⟩ (.int .u32 (zn : Int))).setCell ⟨N, 4, none⟩ (.int .i64 0)) N { r0 with st := 1, bi := 0, rg := wokenR r0 zn }) := hide (Eb.set (e := { r0 with st := 1, bi := (zn : Int), rg := wokenR r0 zn }) (Eb.set (e := { r0 with st := 1, bi := (zn : Int), rg := fun i => if i = 0 then 0 else r0.rg i }) (Eb.set (e := { r0 with st := 1, bi := (zn : Int) }) (HE1.out.set rfl) rfl) rfl) rfl)
    have HB5 : Hid (Below w2.heap.size w2 ((((w4.setCell ⟨N, 2, none⟩ (.int .i64 1)).setCell ⟨N, 6, none⟩ (.int .u32 0)).setCell ⟨N, 7, none⟩ (.int .u32 (zn : Int))).setCell ⟨N, 4, none⟩ (.int .i64 0))) := hide ((((HB1.out.setCell (p := ⟨N, 2, none⟩) HNN.out _).setCell (p := ⟨N, 6, none⟩) HNN.out _).setCell (p := ⟨N, 7, none⟩) HNN.out _).setCell (p := ⟨N, 4, none⟩) HNN.out _)
    go_upto_region 13 with fail
    generalize (((w4.setCell ⟨N, 2, none⟩ (.int .i64 1)).setCell ⟨N, 6, none⟩ (.int .u32 0)).setCell ⟨N, 7, none⟩ (.int .u32 (zn : Int))).setCell ⟨N, 4, none⟩ (.int .i64 0) = w5 at *
    clear k2 k4 k6 k7 f2 f4 f6 f7 HE1 HB1 hs h0b hWz
    obtain ⟨r1, hr1⟩ : ∃ r1, { r0 with st := 1, bi := 0, rg := wokenR r0 zn } = r1 := ⟨_, rfl⟩
    have HU : Hid (r1.head.length = 21 ∧ setsL (encW1 (n, r)) 1 r1.head = encW1 (n, noticed r z)) := hide ⟨rfl, by rw [HNt.out, ← hr1, ← HR0.out]; simp only [encW1, Er.head, setsL, List.set, Qt.zero, wokenR]⟩
    have HN1 : Hid (Eb w5 N r1) := hide (by rw [← hr1]; exact HN1'.out)
    clear HN1' hr1 HNt HR0
    clear hN
    have HRt5 := hide (HH.out.below HB5.out)
    have HT := hide (HRt5.out.there HIx.out (k := 1) (n := 21) (by decide))
    have HS : Hid (w5.heap[R]? = some (.cells #[.slice (some ⟨g, 0, none⟩) L c, .int .i64 last] 83 (0, 0)) ∧ Eb w5 N r1) := hide ⟨HRt5.out.top, HN1.out⟩
    have HNE : Hid (g ≠ R ∧ g ≠ N) := hide ⟨fun e => HH.out.ne (by simp [Value.ownBlock, e]), fun e => by have := HNN.out; have := ownsRow_lt HH.out.row (show Value.ownBlock _ = some g from rfl); omega⟩
    refine wp_region_held_drew (S := fun W : World => W.heap[R]? = some (.cells #[.slice (some ⟨g, 0, none⟩) L c, .int .i64 last] 83 (0, 0)) ∧ Eb W N r1) (by kernel_rfl) ⟨HS.out.1, ⟨HS.out.2.out⟩⟩ (fun _ => ?_)
    generalize hw6 : w5.drew = w6
    have HS6 : Hid (w6.heap[R]? = some (.cells #[.slice (some ⟨g, 0, none⟩) L c, .int .i64 last] 83 (0, 0)) ∧ Eb w6 N r1) := hide (by rw [← hw6]; exact ⟨HS.out.1, ⟨HS.out.2.out⟩⟩)
    have HT6 : Hid (w6.there g (i' * 25 + 1) 21) := hide (by rw [← hw6]; exact HT.out)
    have HB6 : Hid (Below w2.heap.size w2 w6) := hide (by rw [← hw6]; exact HB5.out.trans ((below_drew _).mono HB5.out.size))
    have HP6 : Hid (RtA R (rs.set n (some (noticed r z))) last (w6.setCells g (i' * 25 + 1) r1.head) F ∧ Ext F w2 F (w6.setCells g (i' * 25 + 1) r1.head)) := hide (by
      obtain ⟨p1, p2⟩ := HFin.out w6 HB6.out r1.head HU.out
      exact ⟨p1, (ext_below HB6.out).trans p2⟩)
    have HS7 : Hid ((w6.setCells g (i' * 25 + 1) r1.head).heap[R]? = some (.cells #[.slice (some ⟨g, 0, none⟩) L c, .int .i64 last] 83 (0, 0)) ∧ Eb (w6.setCells g (i' * 25 + 1) r1.head) N r1) := hide ⟨by rw [heap_setCells_other _ _ (fun e => HNE.out.1 e.symm)]; exact HS6.out.1, HS6.out.2.keep (heap_setCells_other _ _ (fun e => HNE.out.2 e.symm) _ _ _)⟩
    clear hw6 HS HT HB5 HB6 HNE HRt5 HH HFin HU HIx HN1 HNN
    refine hd_take 0 (o := ⟨some 52, _, _, _, _, _⟩) (.pointer (some ⟨R, 0, none⟩)) (by kernel_rfl) (by kernel_rfl) (by kernel_rfl) rfl (by rfl) (fun W hSw => by go_simp) (fun _ _ _ h => h) HS6.out ?_
    simp only [Act.put, List.setIfInBounds_toArray, List.set_cons_zero, List.set_cons_succ]
    refine hd_take 1 (o := ⟨some 53, _, _, _, _, _⟩) (.pointer (some ⟨R, 0, none⟩)) (by kernel_rfl) (by kernel_rfl) (by kernel_rfl) rfl (by rfl) (fun W hSw => by go_simp) (fun _ _ _ h => h) HS6.out ?_
    simp only [Act.put, List.setIfInBounds_toArray, List.set_cons_zero, List.set_cons_succ]
    refine hd_take 2 (o := ⟨some 54, _, _, _, _, _⟩) (.pointer (some ⟨R, 0, none⟩)) (by kernel_rfl) (by kernel_rfl) (by kernel_rfl) rfl (by rfl) (fun W hSw => by go_simp) (fun _ _ _ h => h) HS6.out ?_
    simp only [Act.put, List.setIfInBounds_toArray, List.set_cons_zero, List.set_cons_succ]
    refine hd_take 3 (o := ⟨some 55, _, _, _, _, _⟩) (.slice (some ⟨g, 0, none⟩) L c) (by kernel_rfl) (by kernel_rfl) (by kernel_rfl) rfl (by rfl) (fun W hSw => by have s1 := top_cell hSw.1; go_simp) (fun _ _ _ h => h) HS6.out ?_
    simp only [Act.put, List.setIfInBounds_toArray, List.set_cons_zero, List.set_cons_succ]
    refine hd_take 4 (o := ⟨some 56, _, _, _, _, _⟩) (.int .i64 (i' : Int)) (by kernel_rfl) (by kernel_rfl) (by kernel_rfl) rfl (by rfl) (fun W hSw => by go_simp) (fun _ _ _ h => h) HS6.out ?_
    simp only [Act.put, List.setIfInBounds_toArray, List.set_cons_zero, List.set_cons_succ]
    refine hd_take 5 (o := ⟨some 57, _, _, _, _, _⟩) (.agg r1.head.toArray) (by kernel_rfl) (by kernel_rfl) (by kernel_rfl) rfl (by rfl) (fun W hSw => by exact run_loadT Tryz.underlying46 rfl r1.head (by rw [head_len]; exact infoE) _ rfl ⟨N, 0, none⟩ rfl hSw.2.hcell) (fun _ _ _ h => h) HS6.out ?_
    simp only [Act.put, List.setIfInBounds_toArray, List.set_cons_zero, List.set_cons_succ]
    refine hd_take 6 (o := ⟨some 58, _, _, _, _, _⟩) (.pointer (some ⟨g, i' * 25, none⟩)) (by kernel_rfl) (by kernel_rfl) (by kernel_rfl) rfl (by rfl) (fun W hSw => by go_simp) (fun _ _ _ h => h) HS6.out ?_
    simp only [Act.put, List.setIfInBounds_toArray, List.set_cons_zero, List.set_cons_succ]
    refine hd_take 7 (o := ⟨some 59, _, _, _, _, _⟩) (.pointer (some ⟨g, i' * 25 + 1, none⟩)) (by kernel_rfl) (by kernel_rfl) (by kernel_rfl) rfl (by rfl) (fun W hSw => by go_simp) (fun _ _ _ h => h) HS6.out ?_
    simp only [Act.put, List.setIfInBounds_toArray, List.set_cons_zero, List.set_cons_succ]
    refine hd_call 8 (o := ⟨none, _, _, _, _, _⟩) (by kernel_rfl) rfl (by rfl) (fun K' hK => ?_)
    refine wp_store_mid 46 _ _ rfl g (i' * 25 + 1) r1.head.toArray rfl rfl HT6.out (by rw [List.size_toArray, head_len]; exact infoE) (all_oneCell_toArray (head_one r1)) ?_
    refine hK _ _ HS7.out ?_
    clear hK K'
    try simp only [Act.put]
    refine wpAnyH_done (by kernel_rfl) ?_ _
    generalize w6.setCells g (i' * 25 + 1) r1.head = w7 at *
    clear HS6 HS7 HT6
    go_wp2
    go_ret
    exact ⟨rfl, HP6.out.1, HP6.out.2⟩

  · obtain ⟨r', hr'⟩ := HEx.out
    exact absurd hr' (hno n r' rfl)
end
end Go.Proofs.YtbocpmcodlceoaaGreat
