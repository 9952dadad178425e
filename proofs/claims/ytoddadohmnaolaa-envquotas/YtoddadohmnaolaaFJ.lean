import Derived.Test.YtoddadohmnaolaaFI
namespace Go.Proofs.Ytoddadohmnaolaa
open Go.RowKit Go.Shelf

section
variable {w w' w1 : World} {F : Nat → Prop} {T B : Nat} {rs : List (Option Er)} {last : Int}
theorem crE_zero {e s : Int} {q : Qt} (h : crE rs last e s q = 0) : ∃ (k : Nat) (r : Er), e = (k : Int) ∧ rs[k]? = some (some r) ∧ last < s ∧ ff rs < 16 ∧ crN rs last e s q = ((ff rs : Nat) : Int) ∧ crL rs last e s q = s ∧ crS rs last e s q = (rs.set (ff rs) (some (Er.new s e q))).set k (some { r with le := r.le.less (q.plus Qt.one) }) := by
  have h0 := h
  unfold crE at h
  cases hl : look rs e with
  | none => rw [hl] at h; cases h
  | some r =>
    obtain ⟨k, rfl, hr⟩ := look_some hl
    rw [hl] at h
    simp only [] at h
    by_cases h1 : q.good ∧ last < s ∧ s ≤ 4611686018427387903
    · rw [if_pos h1] at h
      by_cases h2 : (q.plus Qt.one).le r.le ∧ ff rs < 16
      · refine ⟨k, r, rfl, hr, h1.2.1, h2.2, ?_, ?_, ?_⟩
        · unfold crN; rw [if_pos h0]
        · unfold crL; rw [if_pos h0]
        · unfold crS; rw [hl]; simp only []; rw [if_pos h0]; rfl
      · rw [if_neg h2] at h; cases h
    · rw [if_neg h1] at h; cases h
theorem crE_not {e s : Int} {q : Qt} (h : crE rs last e s q ≠ 0) : crN rs last e s q = -1 ∧ crL rs last e s q = last ∧ crS rs last e s q = rs := by
  refine ⟨by unfold crN; rw [if_neg h], by unfold crL; rw [if_neg h], ?_⟩
  unfold crS
  cases hl : look rs e with
  | none => rfl
  | some r => simp only []; rw [if_neg h]
theorem Wd.crS (h : Wd rs) (e s : Int) (q : Qt) : Wd (crS rs last e s q) := by
  by_cases hz : crE rs last e s q = 0
  · obtain ⟨k, r, rfl, hr, _, _, _, _, hS⟩ := crE_zero hz
    rw [hS]
    exact (h.set (show (0 : Int) ≤ 0 ∧ (0 : Int) ≤ 4294967295 from ⟨by decide, by decide⟩)).set (h k r hr)
  · rw [(crE_not hz).2.2]; exact h
theorem Ns.ext (h : Ns w1 F T B rs last) (hb : Below w.heap.size w w1) {rs' : List (Option Er)} {last' : Int} {F' : Nat → Prop} (h1 : Et w' F' T rs' last') (h2 : Ext F w1 F' w') (h3 : Iv rs' last') (h4 : Wd rs') (h5 : Bq w' B rs' last') : Np w F T B w' := by
  refine ⟨rs', last', F', ⟨h1, h3, h4, h5, fun e => ?_⟩, ⟨⟨h2.mod.os.trans hb.os, h2.mod.tape.trans hb.tape, h2.mod.output.trans hb.output, Nat.le_trans hb.size h2.mod.size, fun b hb' hf => ?_⟩, fun b hb' => ?_⟩⟩
  · rcases h2.new B e with h9 | h9
    · exact h.ne h9
    · have := h.bq.lt; omega
  · rw [h2.mod.block b (Nat.lt_of_lt_of_le hb' hb.size) (fun e => hf (.inr e)), hb.block b hb']
  · rcases hb' with e | e
    · exact .inl (.inl e)
    · rcases h2.new b e with h9 | h9
      · exact .inl (.inr h9)
      · exact .inr (Nat.le_trans hb.size h9)
/-- the same world but for the book -/
theorem Np.book {rs' : List (Option Er)} {last' : Int} {F' : Nat → Prop} (h1 : Et w1 F' T rs' last') (h0 : Ext (wi B F) w (wi B F') w1) (hn : ¬ F' B) (h3 : Iv rs' last') (h4 : Wd rs') (ha : At w1 B w') (h5 : Bq w' B rs' last') : Np w F T B w' := by
  refine ⟨rs', last', F', ⟨h1.keep ha.size (fun b hb => ha.block b (h1.lt b hb) (fun e => hn (e ▸ hb))), h3, h4, h5, hn⟩, h0.trans ⟨ha.mod (.inl rfl), fun _ e => .inl e⟩⟩
theorem lvb_no {i : Nat} (h : rs[i]? = some none) : lvb rs i = false := by
  unfold lvb core; rw [look_nat, h]; rfl
theorem Bq.make (h : Bq w B rs last) {i k : Nat} {r : Er} {s : Int} {q : Qt} (hi : rs[i]? = some none) (hi16 : i < 16) (hr : rs[k]? = some (some r)) (le' : Qt) :
    Bq (((((w.setCell ⟨B, i, none⟩ (.bool true)).setCell ⟨B, 16 + i * 3, none⟩ (.int .i64 0)).setCell ⟨B, 16 + i * 3 + 1, none⟩ (.int .i64 0)).setCell ⟨B, 16 + i * 3 + 2, none⟩ (.int .i64 0)).setCell ⟨B, 64, none⟩ (.int .i64 s)) B ((rs.set i (some (Er.new s k q))).set k (some { r with le := le' })) s := by
  obtain ⟨cs, h1, h2⟩ := h.out
  have hl := h2.len
  have hil := (List.getElem?_eq_some_iff.1 hi).1
  have hki : k ≠ i := fun e => by rw [e, hi] at hr; cases hr
  have hr1 : (rs.set i (some (Er.new s k q)))[k]? = some (some r) := by rw [List.getElem?_set_ne (fun e => hki e.symm)]; exact hr
  have hS : Same (rs.set i (some (Er.new s k q))) ((rs.set i (some (Er.new s k q))).set k (some { r with le := le' })) := Same.set hr1 rfl rfl rfl
  have hc : ∀ j, core ((rs.set i (some (Er.new s k q))).set k (some { r with le := le' })) j = if j = i then some (s, (k : Int), q) else core rs j := fun j => by
    rw [hS.2 j, core_set hil]; rfl
  refine ⟨((((cs.set i (.bool true)).set (16 + i * 3) (.int .i64 0)).set (16 + i * 3 + 1) (.int .i64 0)).set (16 + i * 3 + 2) (.int .i64 0)).set 64 (.int .i64 s), ?_, ⟨by simpa using hl, fun j hj => ?_, fun j hj => ?_, ?_⟩⟩
  · have e0 := heap_setCell_same _ B i _ _ (.bool true) h1
    have e1 := heap_setCell_same _ B (16 + i * 3) _ _ (.int .i64 0) e0
    have e2 := heap_setCell_same _ B (16 + i * 3 + 1) _ _ (.int .i64 0) e1
    have e3 := heap_setCell_same _ B (16 + i * 3 + 2) _ _ (.int .i64 0) e2
    rw [heap_setCell_same _ B 64 _ _ (.int .i64 s) e3]
    simp
  · rw [List.getElem?_set_ne (by omega), List.getElem?_set_ne (by omega), List.getElem?_set_ne (by omega), List.getElem?_set_ne (by omega)]
    unfold lvb
    rw [hc j]
    by_cases e : j = i
    · subst e; rw [List.getElem?_set_self (by omega), if_pos rfl]; rfl
    · rw [List.getElem?_set_ne (fun e' => e e'.symm), if_neg e]; exact h2.live j hj
  · by_cases e : j = i
    · subst e
      refine ⟨Qt.zero, ?_, ?_, ?_, fun r9 h9 => ?_⟩
      · rw [List.getElem?_set_ne (by omega), List.getElem?_set_ne (by omega), List.getElem?_set_ne (by omega), List.getElem?_set_self (by simp; omega)]; rfl
      · rw [List.getElem?_set_ne (by omega), List.getElem?_set_ne (by omega), List.getElem?_set_self (by simp; omega)]; rfl
      · rw [List.getElem?_set_ne (by omega), List.getElem?_set_self (by simp; omega)]; rfl
      · rw [List.getElem?_set_ne hki, List.getElem?_set_self hil] at h9; cases h9; rfl
    · obtain ⟨p, p1, p2, p3, p4⟩ := h2.paid j hj
      refine ⟨p, ?_, ?_, ?_, fun r9 h9 => ?_⟩
      · rw [List.getElem?_set_ne (by omega), List.getElem?_set_ne (by omega), List.getElem?_set_ne (by omega), List.getElem?_set_ne (by omega), List.getElem?_set_ne (by omega)]; exact p1
      · rw [List.getElem?_set_ne (by omega), List.getElem?_set_ne (by omega), List.getElem?_set_ne (by omega), List.getElem?_set_ne (by omega), List.getElem?_set_ne (by omega)]; exact p2
      · rw [List.getElem?_set_ne (by omega), List.getElem?_set_ne (by omega), List.getElem?_set_ne (by omega), List.getElem?_set_ne (by omega), List.getElem?_set_ne (by omega)]; exact p3
      · by_cases e2 : j = k
        · subst e2
          rw [List.getElem?_set_self (List.getElem?_eq_some_iff.1 hr1).1] at h9
          cases h9
          exact p4 r hr
        · rw [List.getElem?_set_ne (fun e' => e2 e'.symm), List.getElem?_set_ne (fun e' => e e'.symm)] at h9
          exact p4 r9 h9
  · rw [List.getElem?_set_self (by simp; omega)]
set_option maxRecDepth 100000 in
set_option maxHeartbeats 6400000 in
theorem noted_create (h : Ns w F T B rs last) (t e n m : Int) (q : Qt) (g : Nat → Nat) (pc : Nat) (on : Bool) : Calls Try.prog 16 #[.pointer (some ⟨B, 0, none⟩), .pointer (some ⟨T, 0, none⟩), .agg #[.int .i64 2, .int .i64 t, .int .i64 e, .int .i64 n, .int .i64 m, .int .i64 q.f, .int .i64 q.e, .int .i64 q.x, .int .u32 (g 0 : Nat), .int .u32 (g 1 : Nat), .int .u32 (g 2 : Nat), .int .u32 (g 3 : Nat), .int .u32 (g 4 : Nat), .int .u32 (g 5 : Nat), .int .u32 (g 6 : Nat), .int .u32 (g 7 : Nat), .int .u32 (pc : Nat), .bool on]] w fun x w' => x = .returned (.bool true) ∧ Np w F T B w' := by
  have hb := (Below.refl w.heap.size w).alloc (Nat.le_refl _) (.cells #[.int .i64 2, .int .i64 t, .int .i64 e, .int .i64 n, .int .i64 m, .int .i64 q.f, .int .i64 q.e, .int .i64 q.x, .int .u32 (g 0 : Nat), .int .u32 (g 1 : Nat), .int .u32 (g 2 : Nat), .int .u32 (g 3 : Nat), .int .u32 (g 4 : Nat), .int .u32 (g 5 : Nat), .int .u32 (g 6 : Nat), .int .u32 (g 7 : Nat), .int .u32 (pc : Nat), .bool on] 47)
  have a1 := heap_alloc_new w (.cells #[.int .i64 2, .int .i64 t, .int .i64 e, .int .i64 n, .int .i64 m, .int .i64 q.f, .int .i64 q.e, .int .i64 q.x, .int .u32 (g 0 : Nat), .int .u32 (g 1 : Nat), .int .u32 (g 2 : Nat), .int .u32 (g 3 : Nat), .int .u32 (g 4 : Nat), .int .u32 (g 5 : Nat), .int .u32 (g 6 : Nat), .int .u32 (g 7 : Nat), .int .u32 (pc : Nat), .bool on] 47)
  have HS := hide (h.below hb)
  have HB := hide hb
  have HA := hide a1
  have HNF : Hid (¬ F w.heap.size) := hide (fun e => by have := h.et.lt _ e; omega)
  have HNB : Hid (w.heap.size ≠ B) := hide (fun e => by have := h.bq.lt; omega)
  have HC := hide (create_any HS.out.et HS.out.iv e n q)
  unfold Qt.val at HC
  clear h hb a1
  go_enter Try.func16, Try.ntmps16
  go_wp2_with fail
  refine HC.out.mono ?_
  rintro x w1 ⟨rfl, F', hE, hX⟩
  have HQ := hide (HS.out.bq.keep (hX.mod.block B HS.out.bq.lt HS.out.ne))
  by_cases hz : crE rs last e n q = 0
  · have hIv := HS.out.iv.crS e n q
    have hWd := HS.out.wd.crS (last := last) e n q
    obtain ⟨k, r, rfl, hr, hls, hff, hN, hL, hS⟩ := crE_zero hz
    rw [hL] at hE hIv
    rw [hS] at hE hIv hWd
    have hfn := ff_none HS.out.iv.tr hff
    obtain ⟨i, hi⟩ : ∃ i, ff rs = i := ⟨_, rfl⟩
    rw [hi] at hff hN hE hIv hWd hfn
    have hnB : ¬ F' B := fun e => by
      rcases hX.new B e with h9 | h9
      · exact HS.out.ne h9
      · have := HS.out.bq.lt; omega
    have HX0 : Hid (Ext (wi B F) w (wi B F') w1) := hide ⟨⟨hX.mod.os.trans HB.out.os, hX.mod.tape.trans HB.out.tape, hX.mod.output.trans HB.out.output, Nat.le_trans HB.out.size hX.mod.size, fun b hb' hf => by
      rw [hX.mod.block b (Nat.lt_of_lt_of_le hb' HB.out.size) (fun e => hf (.inr e)), HB.out.block b hb']⟩, fun b hb' => by
      rcases hb' with e | e
      · exact .inl (.inl e)
      · rcases hX.new b e with h9 | h9
        · exact .inl (.inr h9)
        · exact .inr (Nat.le_trans HB.out.size h9)⟩
    have HMk : Hid (∀ W, Bq W B rs last → Bq (((((W.setCell ⟨B, i, none⟩ (.bool true)).setCell ⟨B, 16 + i * 3, none⟩ (.int .i64 0)).setCell ⟨B, 16 + i * 3 + 1, none⟩ (.int .i64 0)).setCell ⟨B, 16 + i * 3 + 2, none⟩ (.int .i64 0)).setCell ⟨B, 64, none⟩ (.int .i64 n)) B ((rs.set i (some (Er.new n k q))).set k (some { r with le := r.le.less (q.plus Qt.one) })) n) := hide (fun W hQ => hQ.make (s := n) (q := q) hfn hff hr (r.le.less (q.plus Qt.one)))
    have HEt := hide hE
    have HQ1 := HQ
    have HIv := hide hIv
    have HWd := hide hWd
    have HnB := hide hnB
    obtain ⟨ci, fi⟩ := HQ.out.cell hff
    rw [lvb_no hfn] at ci
    obtain ⟨c64, f64⟩ := HQ.out.lastc
    obtain ⟨v0, v1, v2, p0, p1, p2⟩ : ∃ a b c, w1.cell? ⟨B, 16 + i * 3, none⟩ = some a ∧ w1.cell? ⟨B, 16 + i * 3 + 1, none⟩ = some b ∧ w1.cell? ⟨B, 16 + i * 3 + 2, none⟩ = some c := by
      obtain ⟨cs, q1, q2⟩ := HQ.out.out
      obtain ⟨p, r1, r2, r3, _⟩ := q2.paid i hff
      refine ⟨.int .i64 p.f, .int .i64 p.e, .int .i64 p.x, ?_, ?_, ?_⟩ <;> rw [cell_of_row _ _ _ _ _ _ q1]
      · simpa using r1
      · simpa using r2
      · simpa using r3
    have g0 := HQ.out.frz (16 + i * 3)
    have g1 := HQ.out.frz (16 + i * 3 + 1)
    have g2 := HQ.out.frz (16 + i * 3 + 2)
    have a2 := (hX.mod.block _ (Array.getElem?_eq_some_iff.1 HA.out).1 HNF.out).trans HA.out
    have cN : w1.cell? ⟨w.heap.size, 3, none⟩ = some (.int .i64 n) := by rw [cell_of_row _ _ _ _ _ _ a2]; rfl
    have hi16 : (i : Int) < 16 := by omega
    have hnl : ¬ n ≤ last := by omega
    rw [hz, hN]
    clear hE hX hIv hWd hz hls hff hN hL hS hfn hi hnB hr HS HB HA HC HQ a2
    go_upto_region 6 with fail
    go_quiet (fail)
    have bN : Below w1.heap.size w1 (w1.drewN nq) := ⟨rfl, rfl, rfl, Nat.le_refl _, fun _ _ => rfl⟩
    have HE2 := hide (HEt.out.below bN)
    have HX2 : Hid (Ext (wi B F) w (wi B F') (w1.drewN nq)) := hide (HX0.out.trans ⟨Mod.of_below bN, fun _ h => .inl h⟩)
    have HQ2 := hide (HQ1.out.keep (bN.block B HQ1.out.lt))
    have cN2 : (w1.drewN nq).cell? ⟨w.heap.size, 3, none⟩ = some (.int .i64 n) := cN
    have ci2 : (w1.drewN nq).cell? ⟨B, i, none⟩ = some (.bool false) := ci
    have c642 : (w1.drewN nq).cell? ⟨B, 64, none⟩ = some (.int .i64 last) := c64
    have p02 : (w1.drewN nq).cell? ⟨B, 16 + i * 3, none⟩ = some v0 := p0
    have p12 : (w1.drewN nq).cell? ⟨B, 16 + i * 3 + 1, none⟩ = some v1 := p1
    have p22 : (w1.drewN nq).cell? ⟨B, 16 + i * 3 + 2, none⟩ = some v2 := p2
    have hfz := HQ2.out.frz
    clear HEt HX0 HQ1 ci fi c64 f64 p0 p1 p2 g0 g1 g2 cN bN
    generalize w1.drewN nq = w2 at *
    have cN3 : ((((w2.setCell ⟨B, i, none⟩ (.bool true)).setCell ⟨B, 16 + i * 3, none⟩ (.int .i64 0)).setCell ⟨B, 16 + i * 3 + 1, none⟩ (.int .i64 0)).setCell ⟨B, 16 + i * 3 + 2, none⟩ (.int .i64 0)).cell? ⟨w.heap.size, 3, none⟩ = some (.int .i64 n) := by
      rw [World.cell?_of_block (heap_setCell_other _ _ _ _ HNB.out), World.cell?_of_block (heap_setCell_other _ _ _ _ HNB.out), World.cell?_of_block (heap_setCell_other _ _ _ _ HNB.out), World.cell?_of_block (heap_setCell_other _ _ _ _ HNB.out)]
      exact cN2
    obtain ⟨c3, f3⟩ : ((((w2.setCell ⟨B, i, none⟩ (.bool true)).setCell ⟨B, 16 + i * 3, none⟩ (.int .i64 0)).setCell ⟨B, 16 + i * 3 + 1, none⟩ (.int .i64 0)).setCell ⟨B, 16 + i * 3 + 2, none⟩ (.int .i64 0)).cell? ⟨B, 64, none⟩ = some (.int .i64 last) ∧ ((((w2.setCell ⟨B, i, none⟩ (.bool true)).setCell ⟨B, 16 + i * 3, none⟩ (.int .i64 0)).setCell ⟨B, 16 + i * 3 + 1, none⟩ (.int .i64 0)).setCell ⟨B, 16 + i * 3 + 2, none⟩ (.int .i64 0)).frozen? ⟨B, 64, none⟩ = false := by
      obtain ⟨cs, h1, h2⟩ := HQ2.out.out
      have e0 := heap_setCell_same _ B i _ _ (.bool true) h1
      have e1 := heap_setCell_same _ B (16 + i * 3) _ _ (.int .i64 0) e0
      have e2 := heap_setCell_same _ B (16 + i * 3 + 1) _ _ (.int .i64 0) e1
      have e3 := heap_setCell_same _ B (16 + i * 3 + 2) _ _ (.int .i64 0) e2
      refine ⟨?_, frozen_of_row _ _ _ _ _ e3⟩
      rw [cell_of_row _ _ _ _ _ _ e3, Array.getElem?_setIfInBounds_ne (by omega), Array.getElem?_setIfInBounds_ne (by omega), Array.getElem?_setIfInBounds_ne (by omega), Array.getElem?_setIfInBounds_ne (by omega)]
      simpa using h2.lst
    have HAt : Hid (At w2 B (((((w2.setCell ⟨B, i, none⟩ (.bool true)).setCell ⟨B, 16 + i * 3, none⟩ (.int .i64 0)).setCell ⟨B, 16 + i * 3 + 1, none⟩ (.int .i64 0)).setCell ⟨B, 16 + i * 3 + 2, none⟩ (.int .i64 0)).setCell ⟨B, 64, none⟩ (.int .i64 n))) := hide ((((((At.refl w2 B).set i _).set (16 + i * 3) _).set (16 + i * 3 + 1) _).set (16 + i * 3 + 2) _).set 64 _)
    have HP := hide (Np.book HE2.out HX2.out HnB.out HIv.out HWd.out HAt.out (HMk.out w2 HQ2.out))
    clear HE2 HX2 HQ2 HIv HWd HMk HAt
    go_upto_region 10 with fail
    clear ci2 c642 p02 p12 p22 cN2 hfz
    generalize ((((w2.setCell ⟨B, i, none⟩ (.bool true)).setCell ⟨B, 16 + i * 3, none⟩ (.int .i64 0)).setCell ⟨B, 16 + i * 3 + 1, none⟩ (.int .i64 0)).setCell ⟨B, 16 + i * 3 + 2, none⟩ (.int .i64 0)) = w3 at *
    go_wp2
    go_ret
    exact ⟨rfl, HP.out⟩
  · obtain ⟨hN, hL, hS⟩ := crE_not hz
    rw [hL, hS] at hE
    have HP := hide (HS.out.ext HB.out hE hX HS.out.iv HS.out.wd HQ.out)
    have hzb : (crE rs last e n q == 0) = false := by simp [hz]
    have hzd : decide (crE rs last e n q = 0) = false := by simp [hz]
    rw [hN]
    clear hE hX HS HB HA HC HQ hN hL hS
    generalize crE rs last e n q = c at *
    go_wp2
    go_ret
    exact ⟨by simp, HP.out⟩
end
end Go.Proofs.Ytoddadohmnaolaa
