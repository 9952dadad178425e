import Derived.Test.YteacmcdmdeckmaaGreatX5
namespace Go.Proofs.YteacmcdmdeckmaaGreat
open Go.RowKit Go.Shelf

def chP (a b : Nat) : Rc → Bool := fun r => decide (r.e = (a : Int)) && decide (r.t = (b : Int))
/-- all below a place, each ahead of what is below it -/
def bel : Nat → List (Option Lst) → Nat × Nat → List (Nat × Nat)
  | 0, _, _ => []
  | n + 1, bk, p => (pls (chP p.1 p.2) bk).flatMap (fun c => c :: bel n bk c)
/-- how deep -/
def Dep : Nat → List (Option Lst) → Nat × Nat → Prop
  | 0, _, _ => False
  | n + 1, bk, p => ∀ c ∈ pls (chP p.1 p.2) bk, Dep n bk c
/-- a row of the call's own grew -/
structure Grew (w : World) (v : Value) (w' : World) (v' : Value) : Prop where
  by' : w.grownBy w' v.ownBlock
  at' : ∀ g, v'.ownBlock = some g → v.ownBlock = some g ∨ w.heap.size ≤ g
theorem Grew.refl (w : World) (v : Value) : Grew w v w v := ⟨⟨rfl, rfl, rfl, Nat.le_refl _, fun _ _ _ => rfl⟩, fun _ h => .inl h⟩
theorem Grew.trans {w w1 w2 : World} {v v1 v2 : Value} (h : Grew w v w1 v1) (k : Grew w1 v1 w2 v2) : Grew w v w2 v2 where
  by' := ⟨k.by'.os.trans h.by'.os, k.by'.tape.trans h.by'.tape, k.by'.output.trans h.by'.output, Nat.le_trans h.by'.size k.by'.size, fun b hb hne => (k.by'.block b (Nat.lt_of_lt_of_le hb h.by'.size) (fun e => (h.at' b e.symm).elim (fun e2 => hne e2.symm) (fun e2 => by omega))).trans (h.by'.block b hb hne)⟩
  at' := fun g hg => (k.at' g hg).elim (fun e => h.at' g e) (fun e => .inr (Nat.le_trans h.by'.size e))
theorem Grew.of_below {w w1 : World} (v : Value) (h : Below w.heap.size w w1) : Grew w v w1 v := ⟨⟨h.os, h.tape, h.output, h.size, fun b hb _ => h.block b hb⟩, fun _ h => .inl h⟩
theorem own_lt {w : World} {b : Nat} {e : TypeId} {s n : Nat} {v : Value} {xs : List Value} (h : w.ownsRow b e s v n xs) {g : Nat} (hg : v.ownBlock = some g) : b ≤ g ∧ g < w.heap.size := h.lt g hg
theorem Grew.book {w w1 : World} {F : Nat → Prop} {B n : Nat} {bk : List (Option Lst)} {v v1 : Value} (k : Grew w v w1 v1) (h : Book w F B bk) (hF : ∀ x, F x → x < n) {e : TypeId} {s m : Nat} {xs : List Value} (ho : w.ownsRow n e s v m xs) : Book w1 F B bk := book_own h hF ho k.by'
theorem Grew.row {w w1 : World} {v v1 : Value} (k : Grew w v w1 v1) {b : Nat} {e : TypeId} {s n : Nat} {u : Value} {xs : List Value} (h : w.ownsRow b e s u n xs) (hne : ∀ g, u.ownBlock = some g → v.ownBlock ≠ some g) : w1.ownsRow b e s u n xs := by
  obtain ⟨h1, h2 | ⟨g, cap, cur, h2, h3, h4, h5⟩⟩ := h
  · exact ⟨h1, .inl h2⟩
  · subst h2
    exact ⟨h1, .inr ⟨g, cap, cur, rfl, h3, (k.by'.block g (Array.getElem?_eq_some_iff.1 h4).1 (fun e => hne g rfl e.symm)).trans h4, h5⟩⟩
theorem flat_next {α β : Type} (f : α → List β) {cs : List α} {k : Nat} (h : k < cs.length) : (cs.take (k + 1)).flatMap f = (cs.take k).flatMap f ++ f cs[k] := by
  rw [List.take_add_one, List.getElem?_eq_getElem h, List.flatMap_append]; simp
theorem flat_le {α β : Type} (f : α → List β) (cs : List α) (k : Nat) : ((cs.take k).flatMap f).length ≤ (cs.flatMap f).length := by
  conv => rhs; rw [← List.take_append_drop k cs, List.flatMap_append, List.length_append]
  omega
set_option maxRecDepth 8000 in
set_option maxHeartbeats 8000000 in
theorem below_any (n : Nat) : ∀ (w : World) (F : Nat → Prop) (B : Nat) (bk : List (Option Lst)), Book w F B bk → ∀ (pa pb : Nat), Dep n bk (pa, pb) → ∀ (n0 : Nat) (v : Value) (ps : List (Nat × Nat)), n0 ≤ w.heap.size → w.ownsRow n0 48 2 v ps.length (encPs ps) → (∀ x, F x → x < n0) → (ps ++ bel n bk (pa, pb)).length ≤ 768 →
    Calls Tryz.prog 81 #[.pointer (some ⟨B, 0, none⟩), .agg #[.int .i64 (pa : Int), .int .i64 (pb : Int)], v] w fun x w' => ∃ v', x = .returned v' ∧ w'.ownsRow n0 48 2 v' (ps ++ bel n bk (pa, pb)).length (encPs (ps ++ bel n bk (pa, pb))) ∧ Grew w v w' v' := by
  induction n with
  | zero => intro w F B bk h pa pb hd; exact hd.elim
  | succ n ih =>
  intro w F B bk h pa pb hdep n0 v ps hn0 hrow hF hle
  obtain ⟨i28, hi, hz, hs, hb⟩ := info28'
  have hb0 := (Below.refl w.heap.size w).alloc (Nat.le_refl _) (.cells #[.int .i64 (pa : Int), .int .i64 (pb : Int)] 48)
  have hP := heap_alloc_new w (.cells #[.int .i64 (pa : Int), .int .i64 (pb : Int)] 48)
  have HIH := hide ih
  have HDep := hide hdep
  have HBk := hide (h.below hb0)
  have HRow0 := hide hrow
  have HB0 := hide hb0
  have HFl := hide hF
  have HLe := hide hle
  clear h hdep hrow hF hle ih hb0
  go_enter Tryz.func81, Tryz.ntmps81
  go_upto_region 1 with fail
  generalize w.alloc (.cells #[.int .i64 (pa : Int), .int .i64 (pb : Int)] 48) = w0 at *
  obtain ⟨p0, p1, _, _⟩ := blk2 hP
  go_wp2_with fail
  refine (same_parent w0 (pa : Int) (pb : Int)).mono ?_
  rintro e w4 ⟨rfl, hf4, hv4, hb4⟩
  have H4 := hide (HBk.out.below hb4)
  have HB4 := hide (HB0.out.trans (hb4.mono HB0.out.size))
  clear hb4 p0 p1 hP HB0
  go_wp2_with fail
  refine (places_any F B bk w4 H4.out 105 w0.heap.size (w0.heap.size + 1) _ _ _ (fits_parent _ _ (pa : Int) (pb : Int)) hf4 hv4).mono ?_
  rintro e w5 ⟨v5, rfl, hrow5, hb5⟩
  have H5 := hide (H4.out.below hb5)
  have HB5 := hide (HB4.out.trans (hb5.mono HB4.out.size))
  have HV := hide (own_below HRow0.out HB5.out)
  have HG5 := hide (Grew.of_below v HB5.out)
  have HNe : Hid (∀ g, v5.ownBlock = some g → v.ownBlock ≠ some g) := hide (fun g h1 h2 => by
    have e1 := (own_lt hrow5 h1).1
    have e2 := (own_lt HRow0.out h2).2
    have e3 := HB4.out.size
    omega)
  have HCs : Hid (∀ c ∈ pls (fun r => decide (r.e = (pa : Int)) && decide (r.t = (pb : Int))) bk, Dep n bk c) := hide (fun c hc => HDep.out c hc)
  have hbe : Hid (bel (n + 1) bk (pa, pb) = (pls (fun r => decide (r.e = (pa : Int)) && decide (r.t = (pb : Int))) bk).flatMap (fun c => c :: bel n bk c)) := hide rfl
  have hn5 : n0 ≤ w5.heap.size := Nat.le_trans hn0 HB5.out.size
  have hcl := pls_le H5.out (fun r => decide (r.e = (pa : Int)) && decide (r.t = (pb : Int)))
  rw [hbe.out] at HLe
  generalize pls (fun r => decide (r.e = (pa : Int)) && decide (r.t = (pb : Int))) bk = cs at *
  obtain ⟨a5, c5, rfl⟩ := own_shape hrow5
  have HRow := hide hrow5
  clear hrow5 hb5 H4 HB4 hf4 hv4 HDep HBk
  obtain ⟨f, hf⟩ : ∃ f, f = (fun c : Nat × Nat => c :: bel n bk c) := ⟨_, rfl⟩
  rw [← hf] at HLe hbe
  replace hf := hide hf
  go_wp2_with fail
  go_loopw [2, 14] (fun u x wr => ∃ (k : Nat), k ≤ cs.length ∧ x = .int .i64 (k : Int) ∧ Hid (Grew w5 v wr u) ∧ Hid (wr.ownsRow n0 48 2 u (ps ++ (cs.take k).flatMap f).length (encPs (ps ++ (cs.take k).flatMap f)))) (fun _ x _ => cs.length - (intOf x).toNat)
  case atStart => exact ⟨0, by omega, rfl, Grew.refl _ _, by rw [List.take_zero, List.flatMap_nil, List.append_nil]; exact HV⟩
  case round =>
  obtain ⟨k, hk, rfl, K1, K2⟩ := hrel
  have hqn : (ps ++ (cs.take k).flatMap f).length ≤ 768 := by have h1 := HLe.out; have h2 := flat_le f cs k; simp only [List.length_append] at h1 ⊢; omega
  have HQ : Hid (∀ hk : k < cs.length, ps ++ (cs.take (k + 1)).flatMap f = (ps ++ (cs.take k).flatMap f) ++ f cs[k]) := hide (fun hk => by rw [flat_next f hk, List.append_assoc])
  have HQ1 : Hid ((ps ++ (cs.take (k + 1)).flatMap f).length ≤ 768) := hide (by have h1 := HLe.out; have h2 := flat_le f cs (k + 1); simp only [List.length_append] at h1 ⊢; omega)
  have HEnd : Hid (k = cs.length → ps ++ (cs.take k).flatMap f = ps ++ bel (n + 1) bk (pa, pb)) := hide (fun e => by rw [e, List.take_length, hbe.out])
  generalize ps ++ (cs.take k).flatMap f = qs at *
  obtain ⟨L, hL⟩ : ∃ L, L = qs.length := ⟨_, rfl⟩
  rw [← hL] at K2 hqn
  replace hL := hide hL
  obtain ⟨au, cu, rfl⟩ := own_shape K2.out
  by_cases hlt : k < cs.length
  · obtain ⟨gq, rfl, hcq⟩ : ∃ gq, a5 = some ⟨gq, 0, none⟩ ∧ wr.cell? ⟨gq, k * 2, none⟩ = some (.int .i64 ((cs[k].1 : Nat) : Int)) ∧ wr.cell? ⟨gq, k * 2 + 1, none⟩ = some (.int .i64 ((cs[k].2 : Nat) : Int)) := by
      have hw := K1.out.row HRow.out HNe.out
      obtain ⟨_, ⟨h0, h00⟩ | ⟨g0, cap, cur, hv0, hgb, hg0, _⟩⟩ := HRow.out
      · omega
      · cases hv0
        refine ⟨g0, rfl, ?_, ?_⟩
        · rw [hw.cellAt (k * 2) (by omega)]; exact (encPs_at hlt).1
        · rw [hw.cellAt (k * 2 + 1) (by omega)]; exact (encPs_at hlt).2
    have HD := hide (HCs.out cs[k] (List.getElem_mem hlt))
    have HQ2 := hide (HQ.out hlt)
    have HBw := hide (K1.out.book H5.out HFl.out HV.out)
    have hf9 : f cs[k] = cs[k] :: bel n bk cs[k] := by rw [hf.out]
    rw [hf9] at HQ2
    clear hf9 HQ
    obtain ⟨c, hc⟩ : ∃ c, c = cs[k] := ⟨_, rfl⟩
    rw [← hc] at HD HQ2 hcq
    clear hc
    obtain ⟨ci, cj⟩ := c
    obtain ⟨cq0, cq1⟩ := hcq
    dsimp only at cq0 cq1
    have hkl : (k : Int) < (cs.length : Int) := by omega
    have hwk : k * 2 + 1 < cs.length * 2 := by omega
    have hnr : n0 ≤ wr.heap.size := Nat.le_trans hn5 K1.out.by'.size
    go_upto_region 4 with fail
    have hb6 := (Below.refl wr.heap.size wr).alloc (Nat.le_refl _) (.cells #[.int .i64 (ci : Int), .int .i64 (cj : Int)] 48)
    have hN6 := heap_alloc_new wr (.cells #[.int .i64 (ci : Int), .int .i64 (cj : Int)] 48)
    have hs6 : wr.heap.size < (wr.alloc (.cells #[.int .i64 (ci : Int), .int .i64 (cj : Int)] 48)).heap.size := by simp
    generalize wr.alloc (.cells #[.int .i64 (ci : Int), .int .i64 (cj : Int)] 48) = w6 at *
    have HBk6 := hide (HBw.out.below hb6.drew)
    have HK6 := hide (own_below K2.out hb6.drew)
    have HG6 := hide (K1.out.trans (Grew.of_below (.slice au L cu) hb6.drew))
    have HUl : Hid (∀ g, (Value.slice au L cu).ownBlock = some g → g < wr.heap.size) := hide (fun g hg => (own_lt K2.out hg).2)
    have HN6 : Hid (w6.drew.heap[wr.heap.size]? = some (.cells #[.int .i64 (ci : Int), .int .i64 (cj : Int)] 48 (0, 0))) := hN6
    have hs6' : wr.heap.size < w6.drew.heap.size := hs6
    clear hb6 hN6 cq0 cq1 K1 K2 HBw hs6
    generalize hnw : wr.heap.size = nw at *
    have HSof : Hid (∀ W : World, W.heap[nw]? = some (.cells #[.int .i64 (ci : Int), .int .i64 (cj : Int)] 48 (0, 0)) → W.cell? ⟨nw, 0, none⟩ = some (.int .i64 (ci : Int)) ∧ W.cell? ⟨nw, 1, none⟩ = some (.int .i64 (cj : Int))) := hide (fun W hW => ⟨(blk2 hW).1, (blk2 hW).2.1⟩)
    refine wp_region_held_drew (S := fun W => W.cell? ⟨nw, 0, none⟩ = some (.int .i64 (ci : Int)) ∧ W.cell? ⟨nw, 1, none⟩ = some (.int .i64 (cj : Int))) (by kernel_rfl) (HSof.out _ HN6.out) (fun hHeld => ?_)
    generalize w6.drew = w7 at *
    refine hd_take 0 (o := ⟨some 18, _, _, _, _, _⟩) (.pointer (some ⟨B, 0, none⟩)) (by kernel_rfl) (by kernel_rfl) (by kernel_rfl) rfl (by rfl) (fun W hSw => by go_simp) (fun _ _ _ h => h) hHeld ?_
    simp only [Act.put, List.setIfInBounds_toArray, List.set_cons_zero, List.set_cons_succ]
    refine hd_take 1 (o := ⟨some 19, _, _, _, _, _⟩) (.agg #[.int .i64 (ci : Int), .int .i64 (cj : Int)]) (by kernel_rfl) (by kernel_rfl) (by kernel_rfl) rfl (by rfl) (fun W hSw => by obtain ⟨s0, s1⟩ := hSw; go_simp) (fun _ _ _ h => h) hHeld ?_
    simp only [Act.put, List.setIfInBounds_toArray, List.set_cons_zero, List.set_cons_succ]
    refine hd_take 2 (o := ⟨some 20, _, _, _, _, _⟩) (.slice au L cu) (by kernel_rfl) (by kernel_rfl) (by kernel_rfl) rfl (by rfl) (fun W hSw => by go_simp) (fun _ _ _ h => h) hHeld ?_
    simp only [Act.put, List.setIfInBounds_toArray, List.set_cons_zero, List.set_cons_succ]
    refine hd_take 3 (o := ⟨some 21, _, _, _, _, _⟩) (.agg #[.int .i64 (ci : Int), .int .i64 (cj : Int)]) (by kernel_rfl) (by kernel_rfl) (by kernel_rfl) rfl (by rfl) (fun W hSw => by obtain ⟨s0, s1⟩ := hSw; go_simp) (fun _ _ _ h => h) hHeld ?_
    simp only [Act.put, List.setIfInBounds_toArray, List.set_cons_zero, List.set_cons_succ]
    refine hd_call 4 (o := ⟨some 22, _, _, _, _, _⟩) (by kernel_rfl) rfl (by rfl) (fun K hK => ?_)
    go_simp
    have hN7 := (Below.heap_alloc w7 (.cells #[.int .i64 (ci : Int), .int .i64 (cj : Int)] 48) nw hs6').trans HN6.out
    refine hK _ _ (HSof.out _ hN7) ?_
    clear hK K hHeld
    have hs8 : nw < (w7.alloc (.cells #[.int .i64 (ci : Int), .int .i64 (cj : Int)] 48)).heap.size := by simp; omega
    refine hd_call 5 (o := ⟨some 23, _, _, _, _, _⟩) (by kernel_rfl) rfl (by rfl) (fun K hK => ?_)
    refine wp_append_at (.tmp 20) (.tmp 22) 87 rfl n0 48 i28 (.agg #[.int .i64 0, .int .i64 0]) 2 16 Tryz.underlying87 hi hz hs hb rfl (by decide) (.slice au L cu) L (encPs qs) (by simp [Act.eval]) (HK6.out.alloc _) ⟨w7.heap.size, 0, none⟩ 1 1 [.int .i64 (ci : Int), .int .i64 (cj : Int)] (by simp [Act.eval]) rfl (cell_two_new _ _ _ _) (by simp [Value.oneCell']) (by unfold maxLen; omega) (by omega) (by simp; omega) ?_
    intro v8 w8 ho8 hg8 hl8
    have hN8 : w8.heap[nw]? = some (.cells #[.int .i64 (ci : Int), .int .i64 (cj : Int)] 48 (0, 0)) := (hg8.block nw hs8 (fun e => by have := HUl.out nw e.symm; omega)).trans hN7
    have HG8 : Hid (Grew (w7.alloc (.cells #[.int .i64 (ci : Int), .int .i64 (cj : Int)] 48)) (.slice au L cu) w8 v8) := hide ⟨hg8, fun g hg => by
      rcases hl8 with e | e
      · exact .inl (e.symm.trans hg)
      · rw [hg] at e; cases e; exact .inr (Nat.le_refl _)⟩
    have HB8 := hide (HG8.out.book (HBk6.out.below ((Below.refl _ _).alloc (Nat.le_refl _) _)) HFl.out (HK6.out.alloc _))
    have HGa : Hid (Grew w5 v w8 v8) := hide ((HG6.out.trans (Grew.of_below _ ((Below.refl w7.heap.size w7).alloc (Nat.le_refl _) (.cells #[.int .i64 (ci : Int), .int .i64 (cj : Int)] 48)))).trans HG8.out)
    have HO8 : Hid (w8.ownsRow n0 48 2 v8 (qs ++ [(ci, cj)]).length (encPs (qs ++ [(ci, cj)]))) := by
      refine hide ?_
      rw [List.length_append, ← hL.out, encPs_snoc]
      exact ho8
    have hV8 : ∀ g, v8.ownBlock = some g → g ≠ nw := fun g hg e => by
      rcases HG8.out.at' g hg with h1 | h1
      · have := HUl.out g h1; omega
      · omega
    have HIn := hide (HIH.out w8 F B bk HB8.out ci cj HD.out n0 v8 (qs ++ [(ci, cj)]) (Nat.le_trans hn5 HGa.out.by'.size) HO8.out HFl.out (by rw [List.append_assoc, List.singleton_append, ← HQ2.out]; exact HQ1.out))
    refine hK _ _ (HSof.out _ hN8) ?_
    clear hK K ho8 hg8 hl8
    simp only [Act.put, List.setIfInBounds_toArray, List.set_cons_zero, List.set_cons_succ]
    refine hd_call 6 (o := ⟨some 24, _, _, _, _, _⟩) (by kernel_rfl) rfl (by rfl) (fun K hK => ?_)
    go_simp
    go_wp2_with (go_at_call 81; refine HIn.out.mono ?_; rintro e1 w9 ⟨v9, rfl, ho9, hg9⟩)
    have hN9 : w9.heap[nw]? = some (.cells #[.int .i64 (ci : Int), .int .i64 (cj : Int)] 48 (0, 0)) := (hg9.by'.block nw (Array.getElem?_eq_some_iff.1 hN8).1 (fun e => hV8 nw e.symm rfl)).trans hN8
    have L1 := hide (HGa.out.trans hg9)
    have L2 : Hid (w9.ownsRow n0 48 2 v9 (ps ++ (cs.take (k + 1)).flatMap f).length (encPs (ps ++ (cs.take (k + 1)).flatMap f))) := by
      refine hide ?_
      rw [HQ2.out, ← List.singleton_append, ← List.append_assoc]
      exact ho9
    refine hK _ _ (HSof.out _ hN9) ?_
    clear hK K ho9 hg9
    refine hd_take 7 (o := ⟨some 2, _, _, _, _, _⟩) (v9) (by kernel_rfl) (by kernel_rfl) (by kernel_rfl) rfl (by rfl) (fun W hSw => by go_simp) (fun _ _ _ h => h) (HSof.out _ hN9) ?_
    simp only [Act.put, List.setIfInBounds_toArray, List.set_cons_zero, List.set_cons_succ]
    refine wpAnyH_done (by kernel_rfl) ?_ _
    clear hN7 hN8 hN9 HN6 HSof HIn HO8 HB8 HG8 HGa HK6 HG6 HBk6 HUl HQ2 HQ1 HEnd hV8
    go_wp2
    go_roundw
    case rel =>
      first
        | exact ⟨k + 1, by omega, by go_num, L1, L2⟩
        | ((repeat apply Exists.intro); refine ⟨?_, rfl⟩; exact ⟨k + 1, by omega, by go_num, L1, L2⟩)
    case measure => simp [intOf]; omega
  · have hd : decide ((k : Int) < (cs.length : Int)) = false := by simp; omega
    have hd2 : decide (k < cs.length) = false := by simp; omega
    have e : qs = ps ++ bel (n + 1) bk (pa, pb) := HEnd.out (by omega)
    have K4 : Hid (wr.ownsRow n0 48 2 (.slice au L cu) (ps ++ bel (n + 1) bk (pa, pb)).length (encPs (ps ++ bel (n + 1) bk (pa, pb)))) := by
      refine hide ?_
      rw [← e, ← hL.out]
      exact K2.out
    clear e
    go_wp2
    go_ret
    exact ⟨_, rfl, K4.out, HG5.out.trans K1.out⟩
end Go.Proofs.YteacmcdmdeckmaaGreat
