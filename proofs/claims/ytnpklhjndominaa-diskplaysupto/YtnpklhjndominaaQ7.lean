import Derived.Test.YtnpklhjndominaaQ6
namespace Go.Proofs.Ytnpklhjndominaa
open Go.RowKit

theorem encRs_app : ∀ (rl cl : List Rc) (ds es : List Value), ds.length = rl.length → encRs (rl ++ cl) (ds ++ es) = encRs rl ds ++ encRs cl es
  | [], cl, [], es, _ => rfl
  | y :: r, cl, e :: ds, es, h => by
    show encR y.1 y.2.1 e ++ encRs (r ++ cl) (ds ++ es) = (encR y.1 y.2.1 e ++ encRs r ds) ++ encRs cl es
    rw [encRs_app r cl ds es (by simpa using h), List.append_assoc]
theorem encRs_one : ∀ (rl : List Rc) (ds : List Value), (∀ d ∈ ds, d.oneCell' = true) → ∀ u ∈ encRs rl ds, u.oneCell' = true
  | [], _, _, u, hu => by simp [encRs] at hu
  | y :: r, [], _, u, hu => by simp [encRs] at hu
  | y :: r, e :: ds, h, u, hu => by
    rcases List.mem_append.1 (show u ∈ encR y.1 y.2.1 e ++ encRs r ds from hu) with h1 | h1
    · simp [encR] at h1
      rcases h1 with rfl | rfl | rfl
      · rfl
      · rfl
      · exact h _ (List.mem_cons_self ..)
    · exact encRs_one r ds (fun d hd => h d (List.mem_cons_of_mem _ hd)) u h1
theorem RecsAt.ones {w : World} {v : Value} {rl : List Rc} {ds : List Value} {G : Nat → Prop} (h : RecsAt w v rl ds G) : ∀ d ∈ ds, d.oneCell' = true := by
  intro d hd
  obtain ⟨i, hi⟩ := List.getElem?_of_mem hd
  have hil := (List.getElem?_eq_some_iff.1 hi).1
  obtain ⟨_, _, d', h1, h2, _⟩ := h.dat i _ (List.getElem?_eq_getElem (by rw [← h.len]; exact hil))
  rw [hi] at h1; cases h1
  rcases h2 with ⟨rfl, _⟩ | ⟨x, c, rfl, _⟩ <;> rfl
theorem oper_append_none {P : Program} {o : Oper} {a : Act} {w : World} {K : Act → World → Prop} {Q : Exit → Act → World → Prop}
    (s x : Operand) (t : TypeId) (hop : o.op = Op.call { callee := Callee.builtin Builtin.append, args := #[s, x], argTypes := #[t, t] })
    (base : Nat) (e : TypeId) (i : TypeInfo) (size : Nat) (h1 : P.underlying t = some (.slice e)) (h2 : P.info? e = some i)
    (v : Value) (n : Nat) (xs : List Value) (hs : a.eval s = v) (hown : w.ownsRow base e size v n xs) (hx : a.eval x = .slice none 0 0)
    (hK : K (a.put o.dst v) w) : Oper.wp P o a w K Q := by
  have hrun := run_append_owned_none (P := P) (w := w) base t o.type e i size h1 h2 v n xs hown
  unfold Oper.wp
  simp [execOp, hop, resolve, invoke, builtin, hs, hx, hrun, Result.andThen]
  exact hK
/-- what waits lands: the lists behind it -/
theorem lands {w w4 : World} {R N : Nat} {lv wv lv2 : Value} {rl : List Rc} {ds es : List Value} {G F : Nat → Prop} {D : Dsk} (hk : RkAt w R lv wv rl ds es G D) (hD : D.Ok) (hn : rl.length ≤ N) (he : ∀ b, F b ↔ b = R ∨ lv.ownBlock = some b ∨ wv.ownBlock = some b ∨ G b)
    (ho : w4.ownsRow 0 51 3 lv2 (rl.length + D.c.length) (encRs rl ds ++ encRs (lf D.c) es)) (hg : w.grownBy w4 lv.ownBlock) (hloc : lv2.ownBlock = lv.ownBlock ∨ lv2.ownBlock = some w.heap.size) :
    ∃ F', RkA R (D.settled yes) (N + D.c.length) ((w4.setCell ⟨R, 0, none⟩ lv2).setCell ⟨R, 1, none⟩ (.slice none 0 0)) F' ∧ Ext F w F' ((w4.setCell ⟨R, 0, none⟩ lv2).setCell ⟨R, 1, none⟩ (.slice none 0 0)) := by
  have hRl := hk.lt
  have hs4 := hg.size
  have hlvl : ∀ b, lv.ownBlock = some b → b < w.heap.size := fun b e => ownsRow_lt hk.lan.row e
  have old : ∀ b, b < w.heap.size → lv.ownBlock ≠ some b → w4.heap[b]? = w.heap[b]? := fun b hb hne => hg.block b hb (fun e => hne e.symm)
  have hR2 : lv2.ownBlock ≠ some R := fun e => by
    rcases hloc with h | h
    · exact hk.nR.1 (h ▸ e)
    · rw [h] at e; simp at e; omega
  have set : ∀ b, b ≠ R → ((w4.setCell ⟨R, 0, none⟩ lv2).setCell ⟨R, 1, none⟩ (.slice none 0 0)).heap[b]? = w4.heap[b]? := fun b hne => by rw [heap_setCell_other _ _ _ _ hne, heap_setCell_other _ _ _ _ hne]
  have gkeep : ∀ b, G b → ((w4.setCell ⟨R, 0, none⟩ lv2).setCell ⟨R, 1, none⟩ (.slice none 0 0)).heap[b]? = w.heap[b]? := fun b e => by
    rw [set b (fun e' => hk.nR.2.2 (e' ▸ e)), old b (hk.nG b e).2.2 (hk.nG b e).1]
  have hset : (D.settled yes).M = play D.M D.c := by
    show play D.M (keptTo yes D.c D.c.length) = _
    rw [keptTo_all (p := yes) D.c (fun _ => rfl) D.c.length (Nat.le_refl _), List.take_length]
  refine ⟨fun b => b = R ∨ lv2.ownBlock = some b ∨ (Value.slice none 0 0).ownBlock = some b ∨ G b, ⟨lv2, .slice none 0 0, rl ++ lf D.c, ds ++ es, [], G, ⟨?_, ⟨?_, ?_, ?_⟩, ⟨rfl, ⟨rfl, .inl ⟨rfl, rfl⟩⟩, fun i x hx => by have h9 : ([] : List Rc)[i]? = some x := hx; simp at h9⟩, ⟨hR2, by simp [Value.ownBlock], hk.nR.2.2⟩, ?_, by simp [Value.ownBlock], ?_, hk.lft⟩, by rw [List.length_append, lf_len]; omega, fun b => Iff.rfl⟩, ⟨⟨hg.os, hg.tape, hg.output, by simp [World.setCell]; omega, ?_⟩, ?_⟩⟩
  · have h1 := hk.top
    rw [← old R hRl hk.nR.1] at h1
    rw [heap_setCell_same _ R 1 _ _ _ (heap_setCell_same _ R 0 _ _ lv2 h1)]; rfl
  · rw [List.length_append, List.length_append, hk.lan.len, hk.wai.len]
  · rw [encRs_app _ _ _ _ hk.lan.len, List.length_append, lf_len]
    exact ownsRow_keep ho (fun b hb => set b (fun e => hR2 (e ▸ hb)))
  · intro i x hx
    by_cases hi : i < rl.length
    · rw [List.getElem?_append_left hi] at hx
      obtain ⟨q1, q2, d, q3, q4, q5⟩ := hk.lan.dat i x hx
      exact ⟨q1, q2, d, by rw [List.getElem?_append_left (by rw [hk.lan.len]; exact hi)]; exact q3, rd_keep q4 (fun b hb => gkeep b (q5 b hb)), q5⟩
    · rw [List.getElem?_append_right (by omega)] at hx
      obtain ⟨q1, q2, d, q3, q4, q5⟩ := hk.wai.dat _ x hx
      exact ⟨q1, q2, d, by rw [List.getElem?_append_right (by rw [hk.lan.len]; omega), hk.lan.len]; exact q3, rd_keep q4 (fun b hb => gkeep b (q5 b hb)), q5⟩
  · intro b e
    refine ⟨fun e2 => ?_, by simp [Value.ownBlock], by have := (hk.nG b e).2.2; simp [World.setCell]; omega⟩
    rcases hloc with h | h
    · exact (hk.nG b e).1 (h ▸ e2)
    · rw [h] at e2; simp at e2; have := (hk.nG b e).2.2; omega
  · intro s hs
    rw [hset, playR_append, playR_lf D.c (fun x hx => (hD.c x hx).2) s _ (by rw [← hk.med s hs]; exact (hD.m s hs).1)]
    exact play_at D.c s D.M (playR zro rl) (hk.med s hs)
  · intro b hb hf
    rw [set b (fun e => hf ((he b).2 (.inl e))), old b hb (fun e => hf ((he b).2 (.inr (.inl e))))]
  · rintro b (e | e | e | e)
    · exact .inl ((he b).2 (.inl e))
    · rcases hloc with h | h
      · exact .inl ((he b).2 (.inr (.inl (h ▸ e))))
      · rw [h] at e; simp at e; exact .inr (by omega)
    · simp [Value.ownBlock] at e
    · exact .inl ((he b).2 (.inr (.inr (.inr e))))
section
variable {w : World} {R N : Nat} {D : Dsk} {F : Nat → Prop}
theorem flushR_no (h : RkA R D N w F) (hn : D.down = true ∨ (D.armed = true ∧ D.left = 0)) : Calls Try.prog 18 #[tp R] w fun e w' => e = .returned (.int .i64 42) ∧ RkA R D.off N w' F ∧ Ext F w F w' := by
  have HA := hide (actR_no h hn)
  clear h hn
  go_enter Try.func18, Try.ntmps18
  go_wp2_with fail
  refine HA.out.mono ?_
  rintro e w2 ⟨rfl, h1, h2⟩
  have H1 := hide h1
  have H2 := hide h2
  clear h1 h2
  go_wp2
  go_ret
  exact ⟨rfl, H1.out, H2.out⟩
set_option maxRecDepth 100000 in
set_option maxHeartbeats 3200000 in
theorem flushR_ok (h : RkA R D N w F) (hD : D.Ok) (hN : N ≤ 2000000) (hc : D.c.length ≤ 2000000) (hw : D.down = false) (hl : D.armed = true → D.left ≠ 0) (ha : D.acts < 1152921504606846976) :
    Calls Try.prog 18 #[tp R] w fun e w' => e = .returned (.int .i64 0) ∧ ∃ F', RkA R (D.acted.settled yes) (N + D.c.length) w' F' ∧ Ext F w F' w' := by
  have HA := hide (actR_ok h hw hl ha)
  obtain ⟨i3, hi3, hz3, hs3, hb3'⟩ := infoRec
  clear h hw hl ha
  go_enter Try.func18, Try.ntmps18
  go_wp2_with fail
  refine HA.out.mono ?_
  rintro e w1 ⟨rfl, h1, hx1⟩
  obtain ⟨lv, wv, rl, ds, es, G, hk, hn, he⟩ := h1
  have hlc : D.acted.c.length ≤ 2000000 := hc
  go_upto_region 3 with fail
  obtain ⟨w2, hw2⟩ : ∃ w2, w2 = w1.drew := ⟨_, rfl⟩
  have hd2 : Below w1.heap.size w1 w2 := by rw [hw2]; exact ⟨rfl, rfl, rfl, Nat.le_refl _, fun _ _ => rfl⟩
  have HX2 := hide (hx1.trans (Ext.of_below (F := F) hd2))
  have hk2 : RkAt w2 R lv wv rl ds es G D.acted := hk.keep hd2.size (fun b _ => by rw [hw2]; rfl)
  have cl0 := hk2.cells.1
  have cw := hk2.cells.2.1
  have HApp : Hid (∀ (o : Oper) (a : Act) (K : Act → World → Prop) (Q : Exit → Act → World → Prop), o.op = Op.call { callee := Callee.builtin Builtin.append, args := #[Operand.tmp 10, Operand.tmp 14], argTypes := #[46, 46] } → a.eval (Operand.tmp 10) = lv → a.eval (Operand.tmp 14) = wv →
      (∀ lv2 w4, (w4.cell? ⟨R, 0, none⟩ = some lv ∧ w4.cell? ⟨R, 1, none⟩ = some wv ∧ (∀ j, w4.frozen? ⟨R, j, none⟩ = false) ∧ (∃ al nl cl, lv2 = .slice al nl cl) ∧ ((w4.setCell ⟨R, 0, none⟩ lv2).cell? ⟨R, 1, none⟩ = some wv ∧ (w4.setCell ⟨R, 0, none⟩ lv2).frozen? ⟨R, 1, none⟩ = false ∧ ∃ F', RkA R (D.acted.settled yes) (N + D.c.length) ((w4.setCell ⟨R, 0, none⟩ lv2).setCell ⟨R, 1, none⟩ (.slice none 0 0)) F' ∧ Ext F w2 F' ((w4.setCell ⟨R, 0, none⟩ lv2).setCell ⟨R, 1, none⟩ (.slice none 0 0)))) → K (a.put o.dst lv2) w4) → Oper.wp Try.prog o a w2 K Q) := by
    refine hide (fun o a K Q q1 q2 q3 hK => ?_)
    have fin : ∀ lv2 w4, w4.ownsRow 0 51 3 lv2 (rl.length + D.acted.c.length) (encRs rl ds ++ encRs (lf D.acted.c) es) → w2.grownBy w4 lv.ownBlock → (lv2.ownBlock = lv.ownBlock ∨ lv2.ownBlock = some w2.heap.size) → K (a.put o.dst lv2) w4 := by
      intro lv2 w4 ho hg hloc
      have hR4 : w4.heap[R]? = w2.heap[R]? := hg.block R hk2.lt (fun e => hk2.nR.1 e.symm)
      have ht := hk2.top
      rw [← hR4] at ht
      refine hK lv2 w4 ⟨by rw [World.cell?_of_block hR4]; exact cl0, by rw [World.cell?_of_block hR4]; exact cw, fun j => by rw [World.frozen?_of_block hR4]; exact hk2.cells.2.2.2.2.2 j, ?_, ?_, frozen_of_row _ _ _ _ _ (heap_setCell_same _ R 0 _ _ lv2 ht), lands hk2 hD.acted hn he ho hg hloc⟩
      · obtain ⟨a', c', h'⟩ := own_shape ho; exact ⟨_, _, _, h'⟩
      · rw [cell_of_row _ _ _ _ _ _ (heap_setCell_same _ R 0 _ _ lv2 ht)]; rfl
    have hrow := hk2.wai.row
    obtain ⟨_, ⟨hwn, hw0⟩ | ⟨gw, cw', cur, hwv, _⟩⟩ := hk2.wai.row
    · refine oper_append_none _ _ _ q1 0 51 i3 3 Try.underlying46 hi3 lv rl.length _ q2 hk2.lan.row (by rw [q3, hwn]) (fin lv w2 ?_ ⟨rfl, rfl, rfl, Nat.le_refl _, fun _ _ _ => rfl⟩ (.inl rfl))
      have hc0 : D.acted.c = [] := List.eq_nil_of_length_eq_zero (by rw [← lf_len]; exact hw0)
      have he0 : es = [] := List.eq_nil_of_length_eq_zero (by rw [hk2.wai.len, hw0])
      rw [hc0, he0]
      simpa [encRs, lf] using hk2.lan.row
    · refine oper_append _ _ _ q1 0 51 i3 (.agg #[.int .i64 0, .int .i64 0, .slice none 0 0]) 3 40 Try.underlying46 hi3 hz3 hs3 hb3' rfl (by decide) lv rl.length _ q2 hk2.lan.row ⟨gw, 0, none⟩ D.acted.c.length cw' (encRs (lf D.acted.c) es) (by rw [q3, hwv, lf_len]) (by rw [encRs_len _ _ hk2.wai.len, lf_len]) (by rw [hwv] at hrow; exact World.ownsRow.cells hrow rfl) (encRs_one _ _ hk2.wai.ones) (by unfold maxLen; omega) (by omega) (Nat.zero_le _) (fun v' w' p1 p2 p3 => fin v' w' p1 p2 p3)
  refine wp_region_held_drew (S := fun W => W.cell? ⟨R, 1, none⟩ = some wv) (by kernel_rfl) (by rw [← hw2]; exact cw) (fun _ => ?_)
  rw [← hw2]
  clear hw2 hd2 hk hk2 hn he hx1 HA
  refine hd_take 0 (o := ⟨some 6, _, _, _, _, _⟩) (tp R) (by kernel_rfl) (by kernel_rfl) (by kernel_rfl) rfl (by rfl) (fun W hSw => by go_simp) (fun _ _ _ h => h) cw ?_
  simp only [Act.put, List.setIfInBounds_toArray, List.set_cons_zero, List.set_cons_succ]
  refine hd_take 1 (o := ⟨some 7, _, _, _, _, _⟩) (tp R) (by kernel_rfl) (by kernel_rfl) (by kernel_rfl) rfl (by rfl) (fun W hSw => by go_simp) (fun _ _ _ h => h) cw ?_
  simp only [Act.put, List.setIfInBounds_toArray, List.set_cons_zero, List.set_cons_succ]
  refine hd_take 2 (o := ⟨some 8, _, _, _, _, _⟩) (.pointer (some ⟨R, 0, none⟩)) (by kernel_rfl) (by kernel_rfl) (by kernel_rfl) rfl (by rfl) (fun W hSw => by go_simp) (fun _ _ _ h => h) cw ?_
  simp only [Act.put, List.setIfInBounds_toArray, List.set_cons_zero, List.set_cons_succ]
  refine hd_take 3 (o := ⟨some 9, _, _, _, _, _⟩) (.pointer (some ⟨R, 0, none⟩)) (by kernel_rfl) (by kernel_rfl) (by kernel_rfl) rfl (by rfl) (fun W hSw => by go_simp) (fun _ _ _ h => h) cw ?_
  simp only [Act.put, List.setIfInBounds_toArray, List.set_cons_zero, List.set_cons_succ]
  refine hd_take 5 (o := ⟨some 11, _, _, _, _, _⟩) (tp R) (by kernel_rfl) (by kernel_rfl) (by kernel_rfl) rfl (by rfl) (fun W hSw => by go_simp) (fun _ _ _ h => h) cw ?_
  simp only [Act.put, List.setIfInBounds_toArray, List.set_cons_zero, List.set_cons_succ]
  refine hd_take 6 (o := ⟨some 12, _, _, _, _, _⟩) (.pointer (some ⟨R, 0, none⟩)) (by kernel_rfl) (by kernel_rfl) (by kernel_rfl) rfl (by rfl) (fun W hSw => by go_simp) (fun _ _ _ h => h) cw ?_
  simp only [Act.put, List.setIfInBounds_toArray, List.set_cons_zero, List.set_cons_succ]
  refine hd_take 7 (o := ⟨some 13, _, _, _, _, _⟩) (.pointer (some ⟨R, 1, none⟩)) (by kernel_rfl) (by kernel_rfl) (by kernel_rfl) rfl (by rfl) (fun W hSw => by go_simp) (fun _ _ _ h => h) cw ?_
  simp only [Act.put, List.setIfInBounds_toArray, List.set_cons_zero, List.set_cons_succ]
  refine hd_take 8 (o := ⟨some 14, _, _, _, _, _⟩) (wv) (by kernel_rfl) (by kernel_rfl) (by kernel_rfl) rfl (by rfl) (fun W hSw => by go_simp) (fun _ _ _ h => h) cw ?_
  simp only [Act.put, List.setIfInBounds_toArray, List.set_cons_zero, List.set_cons_succ]
  refine hd_call 4 (o := ⟨some 10, _, _, _, _, _⟩) (by kernel_rfl) rfl (by rfl) (fun K' hK => ?_)
  go_simp
  refine hK _ _ cw ?_
  clear hK K'
  try simp only [Act.put, List.setIfInBounds_toArray, List.set_cons_zero, List.set_cons_succ]
  refine hd_call 9 (o := ⟨some 15, _, _, _, _, _⟩) (by kernel_rfl) rfl (by rfl) (fun K' hK => ?_)
  refine HApp.out _ _ _ _ rfl rfl rfl (fun lv2 w4 hq => ?_)
  obtain ⟨k0, k1, k2, k3, hfin⟩ := hq
  have HE := hide hfin
  clear hfin
  refine hK _ _ k1 ?_
  clear hK K'
  try simp only [Act.put, List.setIfInBounds_toArray, List.set_cons_zero, List.set_cons_succ]
  refine hd_call 10 (o := ⟨some 16, _, _, _, _, _⟩) (by kernel_rfl) rfl (by rfl) (fun K' hK => ?_)
  go_simp
  refine hK _ _ k1 ?_
  clear hK K'
  try simp only [Act.put, List.setIfInBounds_toArray, List.set_cons_zero, List.set_cons_succ]
  refine hd_call 11 (o := ⟨some 17, _, _, _, _, _⟩) (by kernel_rfl) rfl (by rfl) (fun K' hK => ?_)
  go_simp
  refine hK _ _ k1 ?_
  clear hK K'
  try simp only [Act.put, List.setIfInBounds_toArray, List.set_cons_zero, List.set_cons_succ]
  obtain ⟨al, nl, cl, rfl⟩ := k3
  refine hd_call 12 (o := ⟨none, _, _, _, _, _⟩) (by kernel_rfl) rfl (by rfl) (fun K' hK => ?_)
  go_simp
  refine hK _ _ (HE.out.1) ?_
  clear hK K'
  try simp only [Act.put, List.setIfInBounds_toArray, List.set_cons_zero, List.set_cons_succ]
  refine wpAnyH_done (by kernel_rfl) ?_ _
  obtain ⟨hcell, hfz, hfin⟩ := HE.out
  have HF := hide hfin
  clear hfin HE k0 k1 k2 cw cl0 HApp
  generalize w4.setCell ⟨R, 0, none⟩ _ = w5 at *
  go_upto_region 5 with fail
  generalize w5.setCell ⟨R, 1, none⟩ _ = w6 at *
  clear hcell hfz
  go_wp2
  go_ret
  obtain ⟨F', q1, q2⟩ := HF.out
  exact ⟨rfl, F', q1, HX2.out.trans q2⟩
end
end Go.Proofs.Ytnpklhjndominaa
