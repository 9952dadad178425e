import Derived.Test.YtimfgjndgfjjgaaMP
namespace Go.Proofs.Ytimfgjndgfjjgaa
open Go.RowKit Go.Shelf

section
variable {n0 : Nat} {w wx w8 : World} {F F' : Nat → Prop} {Mb B : Nat} {v v8 : Value} {M M' : List (Nat × Nat)} {bk' : List (Option Lst)} {ob : Obj}
theorem push_at (hS : Ms n0 wx F' Mb v M) (hgr : (wx.alloc ob).grownBy w8 v.ownBlock) : w8.heap[Mb]? = some (.cells #[v] 65 (0, 0)) :=
  (hgr.block Mb (by have := hS.lt; simp; omega) (fun e => (hS.vb Mb e.symm).2.2 rfl)).trans ((Below.heap_alloc _ _ _ hS.lt).trans hS.at_)
/-- a row that grew, laid into the marks -/
theorem fol_push (hB : Book wx F' B bk') (hS : Ms n0 wx F' Mb v M) (hn0 : n0 ≤ wx.heap.size) (hFr : Fr w F Mb v wx F') (ob : Obj) (hp8 : PR w8 v8 M') (hf8 : ∀ g, v8.ownBlock = some g → v.ownBlock = some g ∨ (wx.alloc ob).heap.size ≤ g) (hgr : (wx.alloc ob).grownBy w8 v.ownBlock) :
    Book (w8.setCell ⟨Mb, 0, none⟩ v8) F' B bk' ∧ Ms n0 (w8.setCell ⟨Mb, 0, none⟩ v8) F' Mb v8 M' ∧ Fr w F Mb v (w8.setCell ⟨Mb, 0, none⟩ v8) F' := by
  have hsz : wx.heap.size ≤ w8.heap.size := by have := hgr.size; simp at this; omega
  have hsz2 : (w8.setCell ⟨Mb, 0, none⟩ v8).heap.size = w8.heap.size := by simp [World.setCell]
  have hblk : ∀ b, b < wx.heap.size → b ≠ Mb → v.ownBlock ≠ some b → (w8.setCell ⟨Mb, 0, none⟩ v8).heap[b]? = wx.heap[b]? := fun b hb h1 h2 => by
    rw [heap_setCell_other _ _ _ _ h1, hgr.block b (by simp; omega) (fun e => h2 e.symm), Below.heap_alloc _ _ _ hb]
  have hnew : ∀ g, v8.ownBlock = some g → v.ownBlock = some g ∨ wx.heap.size ≤ g := fun g hg => by
    rcases hf8 g hg with h | h
    · exact .inl h
    · simp at h; exact .inr (by omega)
  have hvb : ∀ g, v8.ownBlock = some g → n0 ≤ g ∧ ¬ F' g ∧ g ≠ Mb := fun g hg => by
    rcases hnew g hg with h | h
    · exact hS.vb g h
    · exact ⟨Nat.le_trans hn0 h, fun hf => by have := hB.lt g hf; omega, fun e => by have := hS.lt; omega⟩
  refine ⟨hB.keep (by rw [hsz2]; exact hsz) (fun b hf => hblk b (hB.lt b hf) (fun e => hS.nf (by rw [← e]; exact hf)) (fun e => (hS.vb b e).2.1 hf)), ⟨heap_setCell_same w8 Mb 0 _ _ v8 (push_at hS hgr), hp8.keep (fun g hg => heap_setCell_other _ _ _ _ (hvb g hg).2.2), hS.lo, hS.nf, hvb⟩, ⟨⟨?_, ?_, ?_, ?_, fun b hb hf => ?_⟩, hFr.new⟩⟩
  · exact hgr.os.trans hFr.mod.os
  · exact hgr.tape.trans hFr.mod.tape
  · exact hgr.output.trans hFr.mod.output
  · rw [hsz2]; exact Nat.le_trans hFr.mod.size hsz
  · exact (hblk b (Nat.lt_of_lt_of_le hb hFr.mod.size) (fun e => hf (.inr (.inl e))) (fun e => hf (.inr (.inr e)))).trans (hFr.mod.block b hb hf)
end
theorem mk_at {M : List (Nat × Nat)} {e s : Int} {j : Nat} (h : M.findIdx? (isP e s) = some j) : Mk M e s := by
  obtain ⟨hi, hp, _⟩ := List.findIdx?_eq_some_iff_getElem.1 h
  exact .inr ⟨_, List.getElem_mem hi, hp⟩
theorem mk_no {M : List (Nat × Nat)} {e s : Int} (h : M.findIdx? (isP e s) = none) (hw : ¬ (e = 1 ∧ s = 40)) : ¬ Mk M e s := by
  rintro (h1 | ⟨q, h1, h2⟩)
  · exact hw h1
  · rw [List.findIdx?_eq_none_iff.1 h q h1] at h2; cases h2
set_option maxRecDepth 16000 in
set_option maxHeartbeats 16000000 in
theorem follow_derive (w : World) (F : Nat → Prop) (B : Nat) (bk : List (Option Lst)) (hB : Book w F B bk) (n0 Mb : Nat) (v : Value) (M : List (Nat × Nat)) (hs : Ms n0 w F Mb v M) (hn0 : n0 ≤ w.heap.size) (hn : M.length ≤ 1999) (o : Opr) (two : Bool) (ins : Value) (k4 : o.q = 4) :
    Calls Try.prog 25 #[.pointer (some ⟨Mb, 0, none⟩), .pointer (some ⟨B, 0, none⟩), o.val two ins, .agg #[.int .i64 1, .int .i64 40]] w fun x w' => x = .returned (.tuple #[]) ∧ ∃ F' bk' v' M', Book w' F' B bk' ∧ Ms n0 w' F' Mb v' M' ∧ Fol o bk M bk' M' ∧ Fr w F Mb v w' F' := by
  obtain ⟨L, hL⟩ : ∃ L, M.length = L := ⟨_, rfl⟩
  have K4 := hide k4
  clear k4
  obtain ⟨a, c0, rfl⟩ := hs.pr.len
  rw [hL] at hs hn ⊢
  have HL := hide hL
  clear hL
  have hb1 := (Below.refl w.heap.size w).alloc (Nat.le_refl _) (.cells #[.bool two, .int .i64 o.q, .int .i64 o.e, .int .i64 o.s, .int .i64 o.t, .int .i64 o.a, .int .i64 o.r, .int .i64 o.ck, .int .i64 o.co, .int .i64 o.cs, .int .i64 o.cr, ins] 49)
  have hN1 := heap_alloc_new w (.cells #[.bool two, .int .i64 o.q, .int .i64 o.e, .int .i64 o.s, .int .i64 o.t, .int .i64 o.a, .int .i64 o.r, .int .i64 o.ck, .int .i64 o.co, .int .i64 o.cs, .int .i64 o.cr, ins] 49)
  have hb2 := hb1.alloc hb1.size (.cells #[.int .i64 1, .int .i64 40] 28)
  have hN2 := (Below.heap_alloc _ (.cells #[.int .i64 1, .int .i64 40] 28) w.heap.size (Array.getElem?_eq_some_iff.1 hN1).1).trans hN1
  have hW2 := heap_alloc_new (w.alloc (.cells #[.bool two, .int .i64 o.q, .int .i64 o.e, .int .i64 o.s, .int .i64 o.t, .int .i64 o.a, .int .i64 o.r, .int .i64 o.ck, .int .i64 o.co, .int .i64 o.cs, .int .i64 o.cr, ins] 49)) (.cells #[.int .i64 1, .int .i64 40] 28)
  have hsz1 : (w.alloc (.cells #[.bool two, .int .i64 o.q, .int .i64 o.e, .int .i64 o.s, .int .i64 o.t, .int .i64 o.a, .int .i64 o.r, .int .i64 o.ck, .int .i64 o.co, .int .i64 o.cs, .int .i64 o.cr, ins] 49)).heap.size = w.heap.size + 1 := by simp
  rw [hsz1] at hW2
  have HB := hide (hB.below hb2)
  have HS0 := hide (hs.ext (Ext.of_below hb2))
  have HF0 : Hid (Fr w F Mb (.slice a L c0) _ F) := hide (Fr.of_ext (Ext.of_below hb2))
  have HNF : Hid (¬ F w.heap.size ∧ ¬ F (w.heap.size + 1) ∧ w.heap.size ≠ Mb ∧ w.heap.size + 1 ≠ Mb ∧ (Value.slice a L c0).ownBlock ≠ some w.heap.size ∧ (Value.slice a L c0).ownBlock ≠ some (w.heap.size + 1)) := by
    refine hide ⟨fun h => ?_, fun h => ?_, ?_, ?_, fun h => ?_, fun h => ?_⟩
    · have := hB.lt _ h; omega
    · have := hB.lt _ h; omega
    · have := hs.lt; omega
    · have := hs.lt; omega
    · have := hs.pr.lt _ h; omega
    · have := hs.pr.lt _ h; omega
  have HN0 := hide hn0
  clear hB hs hb1 hb2 hN1 hsz1 hn0
  unfold Opr.val
  go_enter Try.func25, Try.ntmps25
  go_upto_region 1 with fail
  generalize (w.alloc (.cells #[.bool two, .int .i64 o.q, .int .i64 o.e, .int .i64 o.s, .int .i64 o.t, .int .i64 o.a, .int .i64 o.r, .int .i64 o.ck, .int .i64 o.co, .int .i64 o.cs, .int .i64 o.cr, ins] 49)).alloc (.cells #[.int .i64 1, .int .i64 40] 28) = w0 at *
  obtain ⟨c1, c2, c3, c4, c5, c6, -, -, -, -⟩ := cells12 hN2
  rw [K4.out] at c1
  have HN2 := hide hN2
  have HW2 := hide hW2
  have hsz0 : w.heap.size + 1 < w0.heap.size := (Array.getElem?_eq_some_iff.1 hW2).1
  clear hN2 hW2
  go_wp2_with fail
  refine (derive_any w0 F B bk HB.out o.e o.s o.t o.a o.r).mono ?_
  rintro e1 w1 ⟨v1, c, bk', F', rfl, h1, h2, h3⟩
  have HDv := hide h3
  have H48 : Hid (∀ (i : Nat) (l : Lst), bk[i]? = some (some l) → l.length = 48) := hide (fun i l hl => HB.out.l48 hl)
  have hN3 := (h2.mod.block w.heap.size (by omega) HNF.out.1).trans HN2.out
  have hW3 := (h2.mod.block (w.heap.size + 1) hsz0 HNF.out.2.1).trans HW2.out
  have HS1 := hide (HS0.out.ext h2)
  have HB1 := hide h1
  have HF1 : Hid (Fr w F Mb (.slice a L c0) w1 F') := by
    refine hide ⟨⟨h2.mod.os.trans HF0.out.mod.os, h2.mod.tape.trans HF0.out.mod.tape, h2.mod.output.trans HF0.out.mod.output, Nat.le_trans HF0.out.mod.size h2.mod.size, fun b hb hf => (h2.mod.block b (Nat.lt_of_lt_of_le hb HF0.out.mod.size) (fun h => hf (.inl h))).trans (HF0.out.mod.block b hb hf)⟩, fun b hb => ?_⟩
    rcases h2.new b hb with h | h
    · exact .inl h
    · exact .inr (Nat.le_trans HF0.out.mod.size h)
  obtain ⟨c1, c2, c3, c4, c5, c6, -, -, -, -⟩ := cells12 hN3
  have hb4 := (Below.refl w1.heap.size w1).alloc (Nat.le_refl _) (.cells #[.int .i64 o.e, .int .i64 o.s] 28)
  have hP4 := heap_alloc_new w1 (.cells #[.int .i64 o.e, .int .i64 o.s] 28)
  have hN4 := (hb4.block w.heap.size (Array.getElem?_eq_some_iff.1 hN3).1).trans hN3
  have hW4 := (hb4.block (w.heap.size + 1) (Array.getElem?_eq_some_iff.1 hW3).1).trans hW3
  have HB4 := hide (HB1.out.below hb4)
  have HS4 := hide (HS1.out.ext (Ext.of_below hb4))
  have HF4 := hide (HF1.out.below hb4)
  have HNn : Hid (n0 ≤ (w1.alloc (.cells #[.int .i64 o.e, .int .i64 o.s] 28)).heap.size) := hide (Nat.le_trans HN0.out (Nat.le_trans HF1.out.mod.size (by simp)))
  clear h1 h2 h3 hN3 hW3 HS1 HB1 HF1 HS0 HB HF0 HN2 HW2 hb4
  go_upto_region 6 with fail
  generalize w1.alloc (.cells #[.int .i64 o.e, .int .i64 o.s] 28) = w4 at *
  generalize w1.heap.size = P at *
  clear c1 c2 c3 c4 c5 c6
  obtain ⟨p0, p1, -, -⟩ := blk2 hP4
  obtain ⟨x0, x1, -, -⟩ := blk2 hW4
  have HNb4 := hide hN4
  clear hP4 hW4 hN4
  by_cases hc : c = 0
  · subst hc
    obtain ⟨i, k, pr, hti, hvk, -⟩ := derive_lay H48.out HDv.out
    subst hvk
    have HTo := hide hti
    rw [hti] at HNb4
    have HD := HDv
    generalize hNw : w.heap.size = N at *
    have HNw := hide hNw
    have HNv : Hid ((Value.slice a L c0).ownBlock ≠ some N) := hide HNF.out.2.2.2.2.1
    have HNm : Hid (N ≠ Mb) := hide HNF.out.2.2.1
    clear hNw hti
    by_cases hw : o.e = 1 ∧ o.s = 40
    · have HMk : Hid (Mk M o.e o.s) := hide (.inl hw)
      obtain ⟨he, hs'⟩ := hw
      rw [he] at p0
      rw [hs'] at p1
      have HBy := HB4
      have HSy := HS4
      have HNy := HNn
      have HFy := HF4
      have HNb := HNb4
      clear HB4 HS4 HNn HF4 HNb4 he hs' HNF HN0 hsz0 H48 HDv
      obtain ⟨w3, hw3⟩ : ∃ w3, w3 = w4.drew := ⟨_, rfl⟩
      have HBx : Hid (Book w3 F' B bk') := by rw [hw3]; exact HBy.out.keep (Nat.le_refl _) (fun _ _ => rfl)
      have HSx : Hid (Ms n0 w3 F' Mb (.slice a L c0) M) := by rw [hw3]; exact ⟨HSy.out.at_, HSy.out.pr.keep (fun _ _ => rfl), HSy.out.lo, HSy.out.nf, HSy.out.vb⟩
      have HNx : Hid (n0 ≤ w3.heap.size) := by rw [hw3]; exact HNy.out
      have HFx : Hid (Fr w F Mb (.slice a L c0) w3 F') := by rw [hw3]; exact HFy.out.below (Below.refl _ _).drew
      have HN3 : Hid (w3.heap[N]? = some (.cells #[.bool two, .int .i64 o.q, .int .i64 o.e, .int .i64 o.s, .int .i64 (i : Int), .int .i64 o.a, .int .i64 o.r, .int .i64 o.ck, .int .i64 o.co, .int .i64 o.cs, .int .i64 o.cr, ins] 49 (0, 0))) := by rw [hw3]; exact HNb.out
      have hS : w3.cell? ⟨N, 4, none⟩ = some (.int .i64 (i : Int)) := by rw [cell_of_row _ _ _ _ _ _ HN3.out]; rfl
      have hmc : w3.cell? ⟨Mb, 0, none⟩ = some (.slice a L c0) := by rw [cell_of_row _ _ _ _ _ _ HSx.out.at_]; rfl
      have HPA : Hid (PR (w3.alloc (.cells #[.int .i64 (i : Int), .int .i64 (k : Int)] 28)) (.slice a L c0) M) := hide (HSx.out.pr.keep (fun g hg => Below.heap_alloc _ _ _ (HSx.out.pr.lt g hg)))
      have HNA : Hid ((w3.alloc (.cells #[.int .i64 (i : Int), .int .i64 (k : Int)] 28)).heap[N]? = some (.cells #[.bool two, .int .i64 o.q, .int .i64 o.e, .int .i64 o.s, .int .i64 (i : Int), .int .i64 o.a, .int .i64 o.r, .int .i64 o.ck, .int .i64 o.co, .int .i64 o.cs, .int .i64 o.cr, ins] 49 (0, 0))) := hide ((Below.heap_alloc _ _ _ (Array.getElem?_eq_some_iff.1 HN3.out).1).trans HN3.out)
      have HSA : Hid ((w3.alloc (.cells #[.int .i64 (i : Int), .int .i64 (k : Int)] 28)).cell? ⟨N, 4, none⟩ = some (.int .i64 (i : Int))) := hide (by rw [cell_of_row _ _ _ _ _ _ HNA.out]; rfl)
      have hmA : (w3.alloc (.cells #[.int .i64 (i : Int), .int .i64 (k : Int)] 28)).cell? ⟨Mb, 0, none⟩ = some (.slice a L c0) := by rw [cell_of_row _ _ _ _ _ _ ((Below.heap_alloc _ _ _ HSx.out.lt).trans HSx.out.at_)]; rfl
      have HOk : Hid (∀ w8, (w3.alloc (.cells #[.int .i64 (i : Int), .int .i64 (k : Int)] 28)).grownBy w8 (Value.slice a L c0).ownBlock → w8.cell? ⟨N, 4, none⟩ = some (.int .i64 (i : Int))) := by
        refine hide fun w8 hg => ?_
        have h1 := hg.block N (Array.getElem?_eq_some_iff.1 HNA.out).1 (fun e => HNv.out e.symm)
        rw [cell_of_row _ _ _ _ _ _ (h1.trans HNA.out)]; rfl
      have HOs : Hid (∀ w8 : World, w8.cell? ⟨N, 4, none⟩ = some (.int .i64 (i : Int)) → ∀ z, (w8.setCell ⟨Mb, 0, none⟩ z).cell? ⟨N, 4, none⟩ = some (.int .i64 (i : Int))) := by
        refine hide fun w8 h z => ?_
        rw [← h]
        unfold World.cell?
        rw [heap_setCell_other _ _ _ _ HNm.out]
      clear HBy HSy HNy HFy HNb
      go_upto_region 7 with fail
      refine wp_region_held_drew (S := fun W => W.cell? ⟨N, 4, none⟩ = some (.int .i64 (i : Int))) (by kernel_rfl) (by rw [← hw3]; exact hS) (fun _ => ?_)
      rw [← hw3]
      clear hw3
      refine hd_take 0 (o := ⟨some 57, _, _, _, _, _⟩) (.pointer (some ⟨Mb, 0, none⟩)) (by kernel_rfl) (by kernel_rfl) (by kernel_rfl) rfl (by rfl) (fun W hSw => by go_simp) (fun _ _ _ h => h) hS ?_
      simp only [Act.put, List.setIfInBounds_toArray, List.set_cons_zero, List.set_cons_succ]
      refine hd_take 1 (o := ⟨some 58, _, _, _, _, _⟩) (.pointer (some ⟨Mb, 0, none⟩)) (by kernel_rfl) (by kernel_rfl) (by kernel_rfl) rfl (by rfl) (fun W hSw => by go_simp) (fun _ _ _ h => h) hS ?_
      simp only [Act.put, List.setIfInBounds_toArray, List.set_cons_zero, List.set_cons_succ]
      refine hd_take 2 (o := ⟨some 59, _, _, _, _, _⟩) (.pointer (some ⟨Mb, 0, none⟩)) (by kernel_rfl) (by kernel_rfl) (by kernel_rfl) rfl (by rfl) (fun W hSw => by go_simp) (fun _ _ _ h => h) hS ?_
      simp only [Act.put, List.setIfInBounds_toArray, List.set_cons_zero, List.set_cons_succ]
      refine hd_take 3 (o := ⟨some 60, _, _, _, _, _⟩) (.pointer (some ⟨Mb, 0, none⟩)) (by kernel_rfl) (by kernel_rfl) (by kernel_rfl) rfl (by rfl) (fun W hSw => by go_simp) (fun _ _ _ h => h) hS ?_
      simp only [Act.put, List.setIfInBounds_toArray, List.set_cons_zero, List.set_cons_succ]
      refine hd_take 5 (o := ⟨some 62, _, _, _, _, _⟩) (.pointer (some ⟨N, 4, none⟩)) (by kernel_rfl) (by kernel_rfl) (by kernel_rfl) rfl (by rfl) (fun W hSw => by go_simp) (fun _ _ _ h => h) hS ?_
      simp only [Act.put, List.setIfInBounds_toArray, List.set_cons_zero, List.set_cons_succ]
      refine hd_take 6 (o := ⟨some 63, _, _, _, _, _⟩) (.int .i64 (i : Int)) (by kernel_rfl) (by kernel_rfl) (by kernel_rfl) rfl (by rfl) (fun W hSw => by go_simp) (fun _ _ _ h => h) hS ?_
      simp only [Act.put, List.setIfInBounds_toArray, List.set_cons_zero, List.set_cons_succ]
      refine hd_take 7 (o := ⟨some 64, _, _, _, _, _⟩) (.int .i64 (k : Int)) (by kernel_rfl) (by kernel_rfl) (by kernel_rfl) rfl (by rfl) (fun W hSw => by go_simp) (fun _ _ _ h => h) hS ?_
      simp only [Act.put, List.setIfInBounds_toArray, List.set_cons_zero, List.set_cons_succ]
      refine hd_take 8 (o := ⟨some 65, _, _, _, _, _⟩) (.agg #[.int .i64 (i : Int), .int .i64 (k : Int)]) (by kernel_rfl) (by kernel_rfl) (by kernel_rfl) rfl (by rfl) (fun W hSw => by go_simp) (fun _ _ _ h => h) hS ?_
      simp only [Act.put, List.setIfInBounds_toArray, List.set_cons_zero, List.set_cons_succ]
      refine hd_two 4 9 (o1 := ⟨some 61, _, _, _, _, _⟩) (o2 := ⟨some 66, _, _, _, _, _⟩) (by kernel_rfl) rfl rfl (by rfl) (by rfl) (fun K hK => ?_) (fun K hK => ?_)
      · go_simp
        refine hK _ _ hS ?_
        clear hK K
        try simp only [Act.put, List.setIfInBounds_toArray, List.set_cons_zero, List.set_cons_succ]
        refine hd_call 9 (o := ⟨some 66, _, _, _, _, _⟩) (by kernel_rfl) rfl (by rfl) (fun K hK => ?_)
        go_simp
        refine hK _ _ HSA.out ?_
        clear hK K
        try simp only [Act.put, List.setIfInBounds_toArray, List.set_cons_zero, List.set_cons_succ]
        refine hd_call 10 (o := ⟨some 67, _, _, _, _, _⟩) (by kernel_rfl) rfl (by rfl) (fun K hK => ?_)
        refine wp_append_one (.tmp 61) (.tmp 66) rfl (w3.alloc (.cells #[.int .i64 (i : Int), .int .i64 (k : Int)] 28)) _ M HPA.out (by simp [Act.eval]) w3.heap.size (i, k) (heap_alloc_new _ _) (by simp [Act.eval]) (by rw [HL.out]; omega) ?_
        intro v8 w8 hp8 hg8 hgr8
        obtain ⟨q1, q2, q3⟩ := fol_push HBx.out HSx.out HNx.out HFx.out _ hp8 hg8 hgr8
        have hm8 := push_at HSx.out hgr8
        have hS8 : w8.cell? ⟨N, 4, none⟩ = some (.int .i64 (i : Int)) := HOk.out _ hgr8
        have hS9 : ∀ z, (w8.setCell ⟨Mb, 0, none⟩ z).cell? ⟨N, 4, none⟩ = some (.int .i64 (i : Int)) := HOs.out _ hS8
        obtain ⟨a8, c8, rfl⟩ := hp8.len
        obtain ⟨L8, hL8⟩ : ∃ L, (M ++ [(i, k)]).length = L := ⟨_, rfl⟩
        rw [hL8] at q1 q2 q3 ⊢
        clear hL8
        have m0 : w8.cell? ⟨Mb, 0, none⟩ = some (.slice a L c0) := by rw [cell_of_row _ _ _ _ _ _ hm8]; rfl
        have mf : w8.frozen? ⟨Mb, 0, none⟩ = false := frozen_of_row _ _ _ _ _ hm8
        have Q1 := hide q1
        have Q2 := hide q2
        have Q3 := hide q3
        clear hp8 hg8 hgr8 hm8 q1 q2 q3
        refine hK _ _ hS8 ?_
        clear hK K
        try simp only [Act.put, List.setIfInBounds_toArray, List.set_cons_zero, List.set_cons_succ]
        refine hd_take 11 (o := ⟨some 68, _, _, _, _, _⟩) (.pointer (some ⟨Mb, 0, none⟩)) (by kernel_rfl) (by kernel_rfl) (by kernel_rfl) rfl (by rfl) (fun W hSw => by go_simp) (fun _ _ _ h => h) hS8 ?_
        simp only [Act.put, List.setIfInBounds_toArray, List.set_cons_zero, List.set_cons_succ]
        refine hd_take 12 (o := ⟨some 69, _, _, _, _, _⟩) (.pointer (some ⟨Mb, 0, none⟩)) (by kernel_rfl) (by kernel_rfl) (by kernel_rfl) rfl (by rfl) (fun W hSw => by go_simp) (fun _ _ _ h => h) hS8 ?_
        simp only [Act.put, List.setIfInBounds_toArray, List.set_cons_zero, List.set_cons_succ]
        refine hd_call 13 (o := ⟨none, _, _, _, _, _⟩) (by kernel_rfl) rfl (by rfl) (fun K hK => ?_)
        go_simp
        refine hK _ _ (hS9 _) ?_
        clear hK K
        refine wpAnyH_done (by kernel_rfl) ?_ _
        go_wp2
        go_end0
        exact ⟨rfl, _, _, _, _, Q1.out, Q2.out, .derive K4.out HD.out HTo.out rfl HMk.out, Q3.out⟩
      · go_simp
        refine hK _ _ HSA.out ?_
        clear hK K
        try simp only [Act.put, List.setIfInBounds_toArray, List.set_cons_zero, List.set_cons_succ]
        refine hd_call 4 (o := ⟨some 61, _, _, _, _, _⟩) (by kernel_rfl) rfl (by rfl) (fun K hK => ?_)
        go_simp
        refine hK _ _ HSA.out ?_
        clear hK K
        try simp only [Act.put, List.setIfInBounds_toArray, List.set_cons_zero, List.set_cons_succ]
        refine hd_call 10 (o := ⟨some 67, _, _, _, _, _⟩) (by kernel_rfl) rfl (by rfl) (fun K hK => ?_)
        refine wp_append_one (.tmp 61) (.tmp 66) rfl (w3.alloc (.cells #[.int .i64 (i : Int), .int .i64 (k : Int)] 28)) _ M HPA.out (by simp [Act.eval]) w3.heap.size (i, k) (heap_alloc_new _ _) (by simp [Act.eval]) (by rw [HL.out]; omega) ?_
        intro v8 w8 hp8 hg8 hgr8
        obtain ⟨q1, q2, q3⟩ := fol_push HBx.out HSx.out HNx.out HFx.out _ hp8 hg8 hgr8
        have hm8 := push_at HSx.out hgr8
        have hS8 : w8.cell? ⟨N, 4, none⟩ = some (.int .i64 (i : Int)) := HOk.out _ hgr8
        have hS9 : ∀ z, (w8.setCell ⟨Mb, 0, none⟩ z).cell? ⟨N, 4, none⟩ = some (.int .i64 (i : Int)) := HOs.out _ hS8
        obtain ⟨a8, c8, rfl⟩ := hp8.len
        obtain ⟨L8, hL8⟩ : ∃ L, (M ++ [(i, k)]).length = L := ⟨_, rfl⟩
        rw [hL8] at q1 q2 q3 ⊢
        clear hL8
        have m0 : w8.cell? ⟨Mb, 0, none⟩ = some (.slice a L c0) := by rw [cell_of_row _ _ _ _ _ _ hm8]; rfl
        have mf : w8.frozen? ⟨Mb, 0, none⟩ = false := frozen_of_row _ _ _ _ _ hm8
        have Q1 := hide q1
        have Q2 := hide q2
        have Q3 := hide q3
        clear hp8 hg8 hgr8 hm8 q1 q2 q3
        refine hK _ _ hS8 ?_
        clear hK K
        try simp only [Act.put, List.setIfInBounds_toArray, List.set_cons_zero, List.set_cons_succ]
        refine hd_take 11 (o := ⟨some 68, _, _, _, _, _⟩) (.pointer (some ⟨Mb, 0, none⟩)) (by kernel_rfl) (by kernel_rfl) (by kernel_rfl) rfl (by rfl) (fun W hSw => by go_simp) (fun _ _ _ h => h) hS8 ?_
        simp only [Act.put, List.setIfInBounds_toArray, List.set_cons_zero, List.set_cons_succ]
        refine hd_take 12 (o := ⟨some 69, _, _, _, _, _⟩) (.pointer (some ⟨Mb, 0, none⟩)) (by kernel_rfl) (by kernel_rfl) (by kernel_rfl) rfl (by rfl) (fun W hSw => by go_simp) (fun _ _ _ h => h) hS8 ?_
        simp only [Act.put, List.setIfInBounds_toArray, List.set_cons_zero, List.set_cons_succ]
        refine hd_call 13 (o := ⟨none, _, _, _, _, _⟩) (by kernel_rfl) rfl (by rfl) (fun K hK => ?_)
        go_simp
        refine hK _ _ (hS9 _) ?_
        clear hK K
        refine wpAnyH_done (by kernel_rfl) ?_ _
        go_wp2
        go_end0
        exact ⟨rfl, _, _, _, _, Q1.out, Q2.out, .derive K4.out HD.out HTo.out rfl HMk.out, Q3.out⟩
    · have HAt := hide (at_any w4 Mb _ M HS4.out.at_ HS4.out.pr (by rw [HL.out]; omega) o.e o.s)
      have HMkN := hide hw
      have hne : o.e = 1 → ¬ o.s = 40 := fun h1 h2 => hw ⟨h1, h2⟩
      clear hw
      by_cases he : o.e = 1
      · have hs' := hne he
        rw [he] at p0 HAt
        have HE := hide he
        have hd : decide (o.s = 40) = false := by simp [hs']
        clear hne he
        go_wp2_with fail
        refine HAt.out.mono ?_
        rintro e2 w5 ⟨rfl, hb5⟩
        have HBy := hide (HB4.out.below hb5)
        have HSy := hide (HS4.out.ext (Ext.of_below hb5))
        have HFy := hide (HF4.out.below hb5)
        have HNy : Hid (n0 ≤ w5.heap.size) := hide (Nat.le_trans HNn.out hb5.size)
        have HNb := hide ((hb5.block N (Array.getElem?_eq_some_iff.1 HNb4.out).1).trans HNb4.out)
        clear hb5 HB4 HS4 HF4 HNn HNb4 HAt p0 p1 x0 x1 HNF HN0 hsz0 H48 HDv
        cases hf : M.findIdx? (isP 1 o.s) with
        | none =>
          have hix : ixM M 1 o.s = -1 := by unfold ixM; rw [hf]
          rw [hix]
          have HFin := hide (show ∃ F' bk' v' M', Book w5 F' B bk' ∧ Ms n0 w5 F' Mb v' M' ∧ Fol o bk M bk' M' ∧ Fr w F Mb (.slice a L c0) w5 F' from ⟨F', bk', _, M, HBy.out, HSy.out, .derive0 K4.out HD.out (fun _ => by rw [← HE.out] at hf; exact mk_no hf HMkN.out), HFy.out⟩)
          clear HBy HSy HFy HNy HNb hf hix
          go_wp2
          go_end0
          exact ⟨rfl, HFin.out⟩
        | some j =>
          have hix : ixM M 1 o.s = (j : Int) := by unfold ixM; rw [hf]
          rw [hix]
          have HMk : Hid (Mk M o.e o.s) := hide (by rw [← HE.out] at hf; exact mk_at hf)
          have hj0 : decide ((0 : Int) ≤ (j : Int)) = true := by simp
          clear hf hix
          obtain ⟨w3, hw3⟩ : ∃ w3, w3 = w5.drew := ⟨_, rfl⟩
          have HBx : Hid (Book w3 F' B bk') := by rw [hw3]; exact HBy.out.keep (Nat.le_refl _) (fun _ _ => rfl)
          have HSx : Hid (Ms n0 w3 F' Mb (.slice a L c0) M) := by rw [hw3]; exact ⟨HSy.out.at_, HSy.out.pr.keep (fun _ _ => rfl), HSy.out.lo, HSy.out.nf, HSy.out.vb⟩
          have HNx : Hid (n0 ≤ w3.heap.size) := by rw [hw3]; exact HNy.out
          have HFx : Hid (Fr w F Mb (.slice a L c0) w3 F') := by rw [hw3]; exact HFy.out.below (Below.refl _ _).drew
          have HN3 : Hid (w3.heap[N]? = some (.cells #[.bool two, .int .i64 o.q, .int .i64 o.e, .int .i64 o.s, .int .i64 (i : Int), .int .i64 o.a, .int .i64 o.r, .int .i64 o.ck, .int .i64 o.co, .int .i64 o.cs, .int .i64 o.cr, ins] 49 (0, 0))) := by rw [hw3]; exact HNb.out
          have hS : w3.cell? ⟨N, 4, none⟩ = some (.int .i64 (i : Int)) := by rw [cell_of_row _ _ _ _ _ _ HN3.out]; rfl
          have hmc : w3.cell? ⟨Mb, 0, none⟩ = some (.slice a L c0) := by rw [cell_of_row _ _ _ _ _ _ HSx.out.at_]; rfl
          have HPA : Hid (PR (w3.alloc (.cells #[.int .i64 (i : Int), .int .i64 (k : Int)] 28)) (.slice a L c0) M) := hide (HSx.out.pr.keep (fun g hg => Below.heap_alloc _ _ _ (HSx.out.pr.lt g hg)))
          have HNA : Hid ((w3.alloc (.cells #[.int .i64 (i : Int), .int .i64 (k : Int)] 28)).heap[N]? = some (.cells #[.bool two, .int .i64 o.q, .int .i64 o.e, .int .i64 o.s, .int .i64 (i : Int), .int .i64 o.a, .int .i64 o.r, .int .i64 o.ck, .int .i64 o.co, .int .i64 o.cs, .int .i64 o.cr, ins] 49 (0, 0))) := hide ((Below.heap_alloc _ _ _ (Array.getElem?_eq_some_iff.1 HN3.out).1).trans HN3.out)
          have HSA : Hid ((w3.alloc (.cells #[.int .i64 (i : Int), .int .i64 (k : Int)] 28)).cell? ⟨N, 4, none⟩ = some (.int .i64 (i : Int))) := hide (by rw [cell_of_row _ _ _ _ _ _ HNA.out]; rfl)
          have hmA : (w3.alloc (.cells #[.int .i64 (i : Int), .int .i64 (k : Int)] 28)).cell? ⟨Mb, 0, none⟩ = some (.slice a L c0) := by rw [cell_of_row _ _ _ _ _ _ ((Below.heap_alloc _ _ _ HSx.out.lt).trans HSx.out.at_)]; rfl
          have HOk : Hid (∀ w8, (w3.alloc (.cells #[.int .i64 (i : Int), .int .i64 (k : Int)] 28)).grownBy w8 (Value.slice a L c0).ownBlock → w8.cell? ⟨N, 4, none⟩ = some (.int .i64 (i : Int))) := by
            refine hide fun w8 hg => ?_
            have h1 := hg.block N (Array.getElem?_eq_some_iff.1 HNA.out).1 (fun e => HNv.out e.symm)
            rw [cell_of_row _ _ _ _ _ _ (h1.trans HNA.out)]; rfl
          have HOs : Hid (∀ w8 : World, w8.cell? ⟨N, 4, none⟩ = some (.int .i64 (i : Int)) → ∀ z, (w8.setCell ⟨Mb, 0, none⟩ z).cell? ⟨N, 4, none⟩ = some (.int .i64 (i : Int))) := by
            refine hide fun w8 h z => ?_
            rw [← h]
            unfold World.cell?
            rw [heap_setCell_other _ _ _ _ HNm.out]
          clear HBy HSy HNy HFy HNb
          go_upto_region 7 with fail
          refine wp_region_held_drew (S := fun W => W.cell? ⟨N, 4, none⟩ = some (.int .i64 (i : Int))) (by kernel_rfl) (by rw [← hw3]; exact hS) (fun _ => ?_)
          rw [← hw3]
          clear hw3
          refine hd_take 0 (o := ⟨some 57, _, _, _, _, _⟩) (.pointer (some ⟨Mb, 0, none⟩)) (by kernel_rfl) (by kernel_rfl) (by kernel_rfl) rfl (by rfl) (fun W hSw => by go_simp) (fun _ _ _ h => h) hS ?_
          simp only [Act.put, List.setIfInBounds_toArray, List.set_cons_zero, List.set_cons_succ]
          refine hd_take 1 (o := ⟨some 58, _, _, _, _, _⟩) (.pointer (some ⟨Mb, 0, none⟩)) (by kernel_rfl) (by kernel_rfl) (by kernel_rfl) rfl (by rfl) (fun W hSw => by go_simp) (fun _ _ _ h => h) hS ?_
          simp only [Act.put, List.setIfInBounds_toArray, List.set_cons_zero, List.set_cons_succ]
          refine hd_take 2 (o := ⟨some 59, _, _, _, _, _⟩) (.pointer (some ⟨Mb, 0, none⟩)) (by kernel_rfl) (by kernel_rfl) (by kernel_rfl) rfl (by rfl) (fun W hSw => by go_simp) (fun _ _ _ h => h) hS ?_
          simp only [Act.put, List.setIfInBounds_toArray, List.set_cons_zero, List.set_cons_succ]
          refine hd_take 3 (o := ⟨some 60, _, _, _, _, _⟩) (.pointer (some ⟨Mb, 0, none⟩)) (by kernel_rfl) (by kernel_rfl) (by kernel_rfl) rfl (by rfl) (fun W hSw => by go_simp) (fun _ _ _ h => h) hS ?_
          simp only [Act.put, List.setIfInBounds_toArray, List.set_cons_zero, List.set_cons_succ]
          refine hd_take 5 (o := ⟨some 62, _, _, _, _, _⟩) (.pointer (some ⟨N, 4, none⟩)) (by kernel_rfl) (by kernel_rfl) (by kernel_rfl) rfl (by rfl) (fun W hSw => by go_simp) (fun _ _ _ h => h) hS ?_
          simp only [Act.put, List.setIfInBounds_toArray, List.set_cons_zero, List.set_cons_succ]
          refine hd_take 6 (o := ⟨some 63, _, _, _, _, _⟩) (.int .i64 (i : Int)) (by kernel_rfl) (by kernel_rfl) (by kernel_rfl) rfl (by rfl) (fun W hSw => by go_simp) (fun _ _ _ h => h) hS ?_
          simp only [Act.put, List.setIfInBounds_toArray, List.set_cons_zero, List.set_cons_succ]
          refine hd_take 7 (o := ⟨some 64, _, _, _, _, _⟩) (.int .i64 (k : Int)) (by kernel_rfl) (by kernel_rfl) (by kernel_rfl) rfl (by rfl) (fun W hSw => by go_simp) (fun _ _ _ h => h) hS ?_
          simp only [Act.put, List.setIfInBounds_toArray, List.set_cons_zero, List.set_cons_succ]
          refine hd_take 8 (o := ⟨some 65, _, _, _, _, _⟩) (.agg #[.int .i64 (i : Int), .int .i64 (k : Int)]) (by kernel_rfl) (by kernel_rfl) (by kernel_rfl) rfl (by rfl) (fun W hSw => by go_simp) (fun _ _ _ h => h) hS ?_
          simp only [Act.put, List.setIfInBounds_toArray, List.set_cons_zero, List.set_cons_succ]
          refine hd_two 4 9 (o1 := ⟨some 61, _, _, _, _, _⟩) (o2 := ⟨some 66, _, _, _, _, _⟩) (by kernel_rfl) rfl rfl (by rfl) (by rfl) (fun K hK => ?_) (fun K hK => ?_)
          · go_simp
            refine hK _ _ hS ?_
            clear hK K
            try simp only [Act.put, List.setIfInBounds_toArray, List.set_cons_zero, List.set_cons_succ]
            refine hd_call 9 (o := ⟨some 66, _, _, _, _, _⟩) (by kernel_rfl) rfl (by rfl) (fun K hK => ?_)
            go_simp
            refine hK _ _ HSA.out ?_
            clear hK K
            try simp only [Act.put, List.setIfInBounds_toArray, List.set_cons_zero, List.set_cons_succ]
            refine hd_call 10 (o := ⟨some 67, _, _, _, _, _⟩) (by kernel_rfl) rfl (by rfl) (fun K hK => ?_)
            refine wp_append_one (.tmp 61) (.tmp 66) rfl (w3.alloc (.cells #[.int .i64 (i : Int), .int .i64 (k : Int)] 28)) _ M HPA.out (by simp [Act.eval]) w3.heap.size (i, k) (heap_alloc_new _ _) (by simp [Act.eval]) (by rw [HL.out]; omega) ?_
            intro v8 w8 hp8 hg8 hgr8
            obtain ⟨q1, q2, q3⟩ := fol_push HBx.out HSx.out HNx.out HFx.out _ hp8 hg8 hgr8
            have hm8 := push_at HSx.out hgr8
            have hS8 : w8.cell? ⟨N, 4, none⟩ = some (.int .i64 (i : Int)) := HOk.out _ hgr8
            have hS9 : ∀ z, (w8.setCell ⟨Mb, 0, none⟩ z).cell? ⟨N, 4, none⟩ = some (.int .i64 (i : Int)) := HOs.out _ hS8
            obtain ⟨a8, c8, rfl⟩ := hp8.len
            obtain ⟨L8, hL8⟩ : ∃ L, (M ++ [(i, k)]).length = L := ⟨_, rfl⟩
            rw [hL8] at q1 q2 q3 ⊢
            clear hL8
            have m0 : w8.cell? ⟨Mb, 0, none⟩ = some (.slice a L c0) := by rw [cell_of_row _ _ _ _ _ _ hm8]; rfl
            have mf : w8.frozen? ⟨Mb, 0, none⟩ = false := frozen_of_row _ _ _ _ _ hm8
            have Q1 := hide q1
            have Q2 := hide q2
            have Q3 := hide q3
            clear hp8 hg8 hgr8 hm8 q1 q2 q3
            refine hK _ _ hS8 ?_
            clear hK K
            try simp only [Act.put, List.setIfInBounds_toArray, List.set_cons_zero, List.set_cons_succ]
            refine hd_take 11 (o := ⟨some 68, _, _, _, _, _⟩) (.pointer (some ⟨Mb, 0, none⟩)) (by kernel_rfl) (by kernel_rfl) (by kernel_rfl) rfl (by rfl) (fun W hSw => by go_simp) (fun _ _ _ h => h) hS8 ?_
            simp only [Act.put, List.setIfInBounds_toArray, List.set_cons_zero, List.set_cons_succ]
            refine hd_take 12 (o := ⟨some 69, _, _, _, _, _⟩) (.pointer (some ⟨Mb, 0, none⟩)) (by kernel_rfl) (by kernel_rfl) (by kernel_rfl) rfl (by rfl) (fun W hSw => by go_simp) (fun _ _ _ h => h) hS8 ?_
            simp only [Act.put, List.setIfInBounds_toArray, List.set_cons_zero, List.set_cons_succ]
            refine hd_call 13 (o := ⟨none, _, _, _, _, _⟩) (by kernel_rfl) rfl (by rfl) (fun K hK => ?_)
            go_simp
            refine hK _ _ (hS9 _) ?_
            clear hK K
            refine wpAnyH_done (by kernel_rfl) ?_ _
            go_wp2
            go_end0
            exact ⟨rfl, _, _, _, _, Q1.out, Q2.out, .derive K4.out HD.out HTo.out rfl HMk.out, Q3.out⟩
          · go_simp
            refine hK _ _ HSA.out ?_
            clear hK K
            try simp only [Act.put, List.setIfInBounds_toArray, List.set_cons_zero, List.set_cons_succ]
            refine hd_call 4 (o := ⟨some 61, _, _, _, _, _⟩) (by kernel_rfl) rfl (by rfl) (fun K hK => ?_)
            go_simp
            refine hK _ _ HSA.out ?_
            clear hK K
            try simp only [Act.put, List.setIfInBounds_toArray, List.set_cons_zero, List.set_cons_succ]
            refine hd_call 10 (o := ⟨some 67, _, _, _, _, _⟩) (by kernel_rfl) rfl (by rfl) (fun K hK => ?_)
            refine wp_append_one (.tmp 61) (.tmp 66) rfl (w3.alloc (.cells #[.int .i64 (i : Int), .int .i64 (k : Int)] 28)) _ M HPA.out (by simp [Act.eval]) w3.heap.size (i, k) (heap_alloc_new _ _) (by simp [Act.eval]) (by rw [HL.out]; omega) ?_
            intro v8 w8 hp8 hg8 hgr8
            obtain ⟨q1, q2, q3⟩ := fol_push HBx.out HSx.out HNx.out HFx.out _ hp8 hg8 hgr8
            have hm8 := push_at HSx.out hgr8
            have hS8 : w8.cell? ⟨N, 4, none⟩ = some (.int .i64 (i : Int)) := HOk.out _ hgr8
            have hS9 : ∀ z, (w8.setCell ⟨Mb, 0, none⟩ z).cell? ⟨N, 4, none⟩ = some (.int .i64 (i : Int)) := HOs.out _ hS8
            obtain ⟨a8, c8, rfl⟩ := hp8.len
            obtain ⟨L8, hL8⟩ : ∃ L, (M ++ [(i, k)]).length = L := ⟨_, rfl⟩
            rw [hL8] at q1 q2 q3 ⊢
            clear hL8
            have m0 : w8.cell? ⟨Mb, 0, none⟩ = some (.slice a L c0) := by rw [cell_of_row _ _ _ _ _ _ hm8]; rfl
            have mf : w8.frozen? ⟨Mb, 0, none⟩ = false := frozen_of_row _ _ _ _ _ hm8
            have Q1 := hide q1
            have Q2 := hide q2
            have Q3 := hide q3
            clear hp8 hg8 hgr8 hm8 q1 q2 q3
            refine hK _ _ hS8 ?_
            clear hK K
            try simp only [Act.put, List.setIfInBounds_toArray, List.set_cons_zero, List.set_cons_succ]
            refine hd_take 11 (o := ⟨some 68, _, _, _, _, _⟩) (.pointer (some ⟨Mb, 0, none⟩)) (by kernel_rfl) (by kernel_rfl) (by kernel_rfl) rfl (by rfl) (fun W hSw => by go_simp) (fun _ _ _ h => h) hS8 ?_
            simp only [Act.put, List.setIfInBounds_toArray, List.set_cons_zero, List.set_cons_succ]
            refine hd_take 12 (o := ⟨some 69, _, _, _, _, _⟩) (.pointer (some ⟨Mb, 0, none⟩)) (by kernel_rfl) (by kernel_rfl) (by kernel_rfl) rfl (by rfl) (fun W hSw => by go_simp) (fun _ _ _ h => h) hS8 ?_
            simp only [Act.put, List.setIfInBounds_toArray, List.set_cons_zero, List.set_cons_succ]
            refine hd_call 13 (o := ⟨none, _, _, _, _, _⟩) (by kernel_rfl) rfl (by rfl) (fun K hK => ?_)
            go_simp
            refine hK _ _ (hS9 _) ?_
            clear hK K
            refine wpAnyH_done (by kernel_rfl) ?_ _
            go_wp2
            go_end0
            exact ⟨rfl, _, _, _, _, Q1.out, Q2.out, .derive K4.out HD.out HTo.out rfl HMk.out, Q3.out⟩
      · have hd : decide (o.e = 1) = false := by simp [he]
        clear hne
        go_wp2_with fail
        refine HAt.out.mono ?_
        rintro e2 w5 ⟨rfl, hb5⟩
        have HBy := hide (HB4.out.below hb5)
        have HSy := hide (HS4.out.ext (Ext.of_below hb5))
        have HFy := hide (HF4.out.below hb5)
        have HNy : Hid (n0 ≤ w5.heap.size) := hide (Nat.le_trans HNn.out hb5.size)
        have HNb := hide ((hb5.block N (Array.getElem?_eq_some_iff.1 HNb4.out).1).trans HNb4.out)
        clear hb5 HB4 HS4 HF4 HNn HNb4 HAt p0 p1 x0 x1 HNF HN0 hsz0 H48 HDv
        cases hf : M.findIdx? (isP o.e o.s) with
        | none =>
          have hix : ixM M o.e o.s = -1 := by unfold ixM; rw [hf]
          rw [hix]
          have HFin := hide (show ∃ F' bk' v' M', Book w5 F' B bk' ∧ Ms n0 w5 F' Mb v' M' ∧ Fol o bk M bk' M' ∧ Fr w F Mb (.slice a L c0) w5 F' from ⟨F', bk', _, M, HBy.out, HSy.out, .derive0 K4.out HD.out (fun _ => mk_no hf HMkN.out), HFy.out⟩)
          clear HBy HSy HFy HNy HNb hf hix
          go_wp2
          go_end0
          exact ⟨rfl, HFin.out⟩
        | some j =>
          have hix : ixM M o.e o.s = (j : Int) := by unfold ixM; rw [hf]
          rw [hix]
          have HMk : Hid (Mk M o.e o.s) := hide (mk_at hf)
          have hj0 : decide ((0 : Int) ≤ (j : Int)) = true := by simp
          clear hf hix
          obtain ⟨w3, hw3⟩ : ∃ w3, w3 = w5.drew := ⟨_, rfl⟩
          have HBx : Hid (Book w3 F' B bk') := by rw [hw3]; exact HBy.out.keep (Nat.le_refl _) (fun _ _ => rfl)
          have HSx : Hid (Ms n0 w3 F' Mb (.slice a L c0) M) := by rw [hw3]; exact ⟨HSy.out.at_, HSy.out.pr.keep (fun _ _ => rfl), HSy.out.lo, HSy.out.nf, HSy.out.vb⟩
          have HNx : Hid (n0 ≤ w3.heap.size) := by rw [hw3]; exact HNy.out
          have HFx : Hid (Fr w F Mb (.slice a L c0) w3 F') := by rw [hw3]; exact HFy.out.below (Below.refl _ _).drew
          have HN3 : Hid (w3.heap[N]? = some (.cells #[.bool two, .int .i64 o.q, .int .i64 o.e, .int .i64 o.s, .int .i64 (i : Int), .int .i64 o.a, .int .i64 o.r, .int .i64 o.ck, .int .i64 o.co, .int .i64 o.cs, .int .i64 o.cr, ins] 49 (0, 0))) := by rw [hw3]; exact HNb.out
          have hS : w3.cell? ⟨N, 4, none⟩ = some (.int .i64 (i : Int)) := by rw [cell_of_row _ _ _ _ _ _ HN3.out]; rfl
          have hmc : w3.cell? ⟨Mb, 0, none⟩ = some (.slice a L c0) := by rw [cell_of_row _ _ _ _ _ _ HSx.out.at_]; rfl
          have HPA : Hid (PR (w3.alloc (.cells #[.int .i64 (i : Int), .int .i64 (k : Int)] 28)) (.slice a L c0) M) := hide (HSx.out.pr.keep (fun g hg => Below.heap_alloc _ _ _ (HSx.out.pr.lt g hg)))
          have HNA : Hid ((w3.alloc (.cells #[.int .i64 (i : Int), .int .i64 (k : Int)] 28)).heap[N]? = some (.cells #[.bool two, .int .i64 o.q, .int .i64 o.e, .int .i64 o.s, .int .i64 (i : Int), .int .i64 o.a, .int .i64 o.r, .int .i64 o.ck, .int .i64 o.co, .int .i64 o.cs, .int .i64 o.cr, ins] 49 (0, 0))) := hide ((Below.heap_alloc _ _ _ (Array.getElem?_eq_some_iff.1 HN3.out).1).trans HN3.out)
          have HSA : Hid ((w3.alloc (.cells #[.int .i64 (i : Int), .int .i64 (k : Int)] 28)).cell? ⟨N, 4, none⟩ = some (.int .i64 (i : Int))) := hide (by rw [cell_of_row _ _ _ _ _ _ HNA.out]; rfl)
          have hmA : (w3.alloc (.cells #[.int .i64 (i : Int), .int .i64 (k : Int)] 28)).cell? ⟨Mb, 0, none⟩ = some (.slice a L c0) := by rw [cell_of_row _ _ _ _ _ _ ((Below.heap_alloc _ _ _ HSx.out.lt).trans HSx.out.at_)]; rfl
          have HOk : Hid (∀ w8, (w3.alloc (.cells #[.int .i64 (i : Int), .int .i64 (k : Int)] 28)).grownBy w8 (Value.slice a L c0).ownBlock → w8.cell? ⟨N, 4, none⟩ = some (.int .i64 (i : Int))) := by
            refine hide fun w8 hg => ?_
            have h1 := hg.block N (Array.getElem?_eq_some_iff.1 HNA.out).1 (fun e => HNv.out e.symm)
            rw [cell_of_row _ _ _ _ _ _ (h1.trans HNA.out)]; rfl
          have HOs : Hid (∀ w8 : World, w8.cell? ⟨N, 4, none⟩ = some (.int .i64 (i : Int)) → ∀ z, (w8.setCell ⟨Mb, 0, none⟩ z).cell? ⟨N, 4, none⟩ = some (.int .i64 (i : Int))) := by
            refine hide fun w8 h z => ?_
            rw [← h]
            unfold World.cell?
            rw [heap_setCell_other _ _ _ _ HNm.out]
          clear HBy HSy HNy HFy HNb
          go_upto_region 7 with fail
          refine wp_region_held_drew (S := fun W => W.cell? ⟨N, 4, none⟩ = some (.int .i64 (i : Int))) (by kernel_rfl) (by rw [← hw3]; exact hS) (fun _ => ?_)
          rw [← hw3]
          clear hw3
          refine hd_take 0 (o := ⟨some 57, _, _, _, _, _⟩) (.pointer (some ⟨Mb, 0, none⟩)) (by kernel_rfl) (by kernel_rfl) (by kernel_rfl) rfl (by rfl) (fun W hSw => by go_simp) (fun _ _ _ h => h) hS ?_
          simp only [Act.put, List.setIfInBounds_toArray, List.set_cons_zero, List.set_cons_succ]
          refine hd_take 1 (o := ⟨some 58, _, _, _, _, _⟩) (.pointer (some ⟨Mb, 0, none⟩)) (by kernel_rfl) (by kernel_rfl) (by kernel_rfl) rfl (by rfl) (fun W hSw => by go_simp) (fun _ _ _ h => h) hS ?_
          simp only [Act.put, List.setIfInBounds_toArray, List.set_cons_zero, List.set_cons_succ]
          refine hd_take 2 (o := ⟨some 59, _, _, _, _, _⟩) (.pointer (some ⟨Mb, 0, none⟩)) (by kernel_rfl) (by kernel_rfl) (by kernel_rfl) rfl (by rfl) (fun W hSw => by go_simp) (fun _ _ _ h => h) hS ?_
          simp only [Act.put, List.setIfInBounds_toArray, List.set_cons_zero, List.set_cons_succ]
          refine hd_take 3 (o := ⟨some 60, _, _, _, _, _⟩) (.pointer (some ⟨Mb, 0, none⟩)) (by kernel_rfl) (by kernel_rfl) (by kernel_rfl) rfl (by rfl) (fun W hSw => by go_simp) (fun _ _ _ h => h) hS ?_
          simp only [Act.put, List.setIfInBounds_toArray, List.set_cons_zero, List.set_cons_succ]
          refine hd_take 5 (o := ⟨some 62, _, _, _, _, _⟩) (.pointer (some ⟨N, 4, none⟩)) (by kernel_rfl) (by kernel_rfl) (by kernel_rfl) rfl (by rfl) (fun W hSw => by go_simp) (fun _ _ _ h => h) hS ?_
          simp only [Act.put, List.setIfInBounds_toArray, List.set_cons_zero, List.set_cons_succ]
          refine hd_take 6 (o := ⟨some 63, _, _, _, _, _⟩) (.int .i64 (i : Int)) (by kernel_rfl) (by kernel_rfl) (by kernel_rfl) rfl (by rfl) (fun W hSw => by go_simp) (fun _ _ _ h => h) hS ?_
          simp only [Act.put, List.setIfInBounds_toArray, List.set_cons_zero, List.set_cons_succ]
          refine hd_take 7 (o := ⟨some 64, _, _, _, _, _⟩) (.int .i64 (k : Int)) (by kernel_rfl) (by kernel_rfl) (by kernel_rfl) rfl (by rfl) (fun W hSw => by go_simp) (fun _ _ _ h => h) hS ?_
          simp only [Act.put, List.setIfInBounds_toArray, List.set_cons_zero, List.set_cons_succ]
          refine hd_take 8 (o := ⟨some 65, _, _, _, _, _⟩) (.agg #[.int .i64 (i : Int), .int .i64 (k : Int)]) (by kernel_rfl) (by kernel_rfl) (by kernel_rfl) rfl (by rfl) (fun W hSw => by go_simp) (fun _ _ _ h => h) hS ?_
          simp only [Act.put, List.setIfInBounds_toArray, List.set_cons_zero, List.set_cons_succ]
          refine hd_two 4 9 (o1 := ⟨some 61, _, _, _, _, _⟩) (o2 := ⟨some 66, _, _, _, _, _⟩) (by kernel_rfl) rfl rfl (by rfl) (by rfl) (fun K hK => ?_) (fun K hK => ?_)
          · go_simp
            refine hK _ _ hS ?_
            clear hK K
            try simp only [Act.put, List.setIfInBounds_toArray, List.set_cons_zero, List.set_cons_succ]
            refine hd_call 9 (o := ⟨some 66, _, _, _, _, _⟩) (by kernel_rfl) rfl (by rfl) (fun K hK => ?_)
            go_simp
            refine hK _ _ HSA.out ?_
            clear hK K
            try simp only [Act.put, List.setIfInBounds_toArray, List.set_cons_zero, List.set_cons_succ]
            refine hd_call 10 (o := ⟨some 67, _, _, _, _, _⟩) (by kernel_rfl) rfl (by rfl) (fun K hK => ?_)
            refine wp_append_one (.tmp 61) (.tmp 66) rfl (w3.alloc (.cells #[.int .i64 (i : Int), .int .i64 (k : Int)] 28)) _ M HPA.out (by simp [Act.eval]) w3.heap.size (i, k) (heap_alloc_new _ _) (by simp [Act.eval]) (by rw [HL.out]; omega) ?_
            intro v8 w8 hp8 hg8 hgr8
            obtain ⟨q1, q2, q3⟩ := fol_push HBx.out HSx.out HNx.out HFx.out _ hp8 hg8 hgr8
            have hm8 := push_at HSx.out hgr8
            have hS8 : w8.cell? ⟨N, 4, none⟩ = some (.int .i64 (i : Int)) := HOk.out _ hgr8
            have hS9 : ∀ z, (w8.setCell ⟨Mb, 0, none⟩ z).cell? ⟨N, 4, none⟩ = some (.int .i64 (i : Int)) := HOs.out _ hS8
            obtain ⟨a8, c8, rfl⟩ := hp8.len
            obtain ⟨L8, hL8⟩ : ∃ L, (M ++ [(i, k)]).length = L := ⟨_, rfl⟩
            rw [hL8] at q1 q2 q3 ⊢
            clear hL8
            have m0 : w8.cell? ⟨Mb, 0, none⟩ = some (.slice a L c0) := by rw [cell_of_row _ _ _ _ _ _ hm8]; rfl
            have mf : w8.frozen? ⟨Mb, 0, none⟩ = false := frozen_of_row _ _ _ _ _ hm8
            have Q1 := hide q1
            have Q2 := hide q2
            have Q3 := hide q3
            clear hp8 hg8 hgr8 hm8 q1 q2 q3
            refine hK _ _ hS8 ?_
            clear hK K
            try simp only [Act.put, List.setIfInBounds_toArray, List.set_cons_zero, List.set_cons_succ]
            refine hd_take 11 (o := ⟨some 68, _, _, _, _, _⟩) (.pointer (some ⟨Mb, 0, none⟩)) (by kernel_rfl) (by kernel_rfl) (by kernel_rfl) rfl (by rfl) (fun W hSw => by go_simp) (fun _ _ _ h => h) hS8 ?_
            simp only [Act.put, List.setIfInBounds_toArray, List.set_cons_zero, List.set_cons_succ]
            refine hd_take 12 (o := ⟨some 69, _, _, _, _, _⟩) (.pointer (some ⟨Mb, 0, none⟩)) (by kernel_rfl) (by kernel_rfl) (by kernel_rfl) rfl (by rfl) (fun W hSw => by go_simp) (fun _ _ _ h => h) hS8 ?_
            simp only [Act.put, List.setIfInBounds_toArray, List.set_cons_zero, List.set_cons_succ]
            refine hd_call 13 (o := ⟨none, _, _, _, _, _⟩) (by kernel_rfl) rfl (by rfl) (fun K hK => ?_)
            go_simp
            refine hK _ _ (hS9 _) ?_
            clear hK K
            refine wpAnyH_done (by kernel_rfl) ?_ _
            go_wp2
            go_end0
            exact ⟨rfl, _, _, _, _, Q1.out, Q2.out, .derive K4.out HD.out HTo.out rfl HMk.out, Q3.out⟩
          · go_simp
            refine hK _ _ HSA.out ?_
            clear hK K
            try simp only [Act.put, List.setIfInBounds_toArray, List.set_cons_zero, List.set_cons_succ]
            refine hd_call 4 (o := ⟨some 61, _, _, _, _, _⟩) (by kernel_rfl) rfl (by rfl) (fun K hK => ?_)
            go_simp
            refine hK _ _ HSA.out ?_
            clear hK K
            try simp only [Act.put, List.setIfInBounds_toArray, List.set_cons_zero, List.set_cons_succ]
            refine hd_call 10 (o := ⟨some 67, _, _, _, _, _⟩) (by kernel_rfl) rfl (by rfl) (fun K hK => ?_)
            refine wp_append_one (.tmp 61) (.tmp 66) rfl (w3.alloc (.cells #[.int .i64 (i : Int), .int .i64 (k : Int)] 28)) _ M HPA.out (by simp [Act.eval]) w3.heap.size (i, k) (heap_alloc_new _ _) (by simp [Act.eval]) (by rw [HL.out]; omega) ?_
            intro v8 w8 hp8 hg8 hgr8
            obtain ⟨q1, q2, q3⟩ := fol_push HBx.out HSx.out HNx.out HFx.out _ hp8 hg8 hgr8
            have hm8 := push_at HSx.out hgr8
            have hS8 : w8.cell? ⟨N, 4, none⟩ = some (.int .i64 (i : Int)) := HOk.out _ hgr8
            have hS9 : ∀ z, (w8.setCell ⟨Mb, 0, none⟩ z).cell? ⟨N, 4, none⟩ = some (.int .i64 (i : Int)) := HOs.out _ hS8
            obtain ⟨a8, c8, rfl⟩ := hp8.len
            obtain ⟨L8, hL8⟩ : ∃ L, (M ++ [(i, k)]).length = L := ⟨_, rfl⟩
            rw [hL8] at q1 q2 q3 ⊢
            clear hL8
            have m0 : w8.cell? ⟨Mb, 0, none⟩ = some (.slice a L c0) := by rw [cell_of_row _ _ _ _ _ _ hm8]; rfl
            have mf : w8.frozen? ⟨Mb, 0, none⟩ = false := frozen_of_row _ _ _ _ _ hm8
            have Q1 := hide q1
            have Q2 := hide q2
            have Q3 := hide q3
            clear hp8 hg8 hgr8 hm8 q1 q2 q3
            refine hK _ _ hS8 ?_
            clear hK K
            try simp only [Act.put, List.setIfInBounds_toArray, List.set_cons_zero, List.set_cons_succ]
            refine hd_take 11 (o := ⟨some 68, _, _, _, _, _⟩) (.pointer (some ⟨Mb, 0, none⟩)) (by kernel_rfl) (by kernel_rfl) (by kernel_rfl) rfl (by rfl) (fun W hSw => by go_simp) (fun _ _ _ h => h) hS8 ?_
            simp only [Act.put, List.setIfInBounds_toArray, List.set_cons_zero, List.set_cons_succ]
            refine hd_take 12 (o := ⟨some 69, _, _, _, _, _⟩) (.pointer (some ⟨Mb, 0, none⟩)) (by kernel_rfl) (by kernel_rfl) (by kernel_rfl) rfl (by rfl) (fun W hSw => by go_simp) (fun _ _ _ h => h) hS8 ?_
            simp only [Act.put, List.setIfInBounds_toArray, List.set_cons_zero, List.set_cons_succ]
            refine hd_call 13 (o := ⟨none, _, _, _, _, _⟩) (by kernel_rfl) rfl (by rfl) (fun K hK => ?_)
            go_simp
            refine hK _ _ (hS9 _) ?_
            clear hK K
            refine wpAnyH_done (by kernel_rfl) ?_ _
            go_wp2
            go_end0
            exact ⟨rfl, _, _, _, _, Q1.out, Q2.out, .derive K4.out HD.out HTo.out rfl HMk.out, Q3.out⟩
  · have HFin := hide (show ∃ F' bk' v' M', Book w4 F' B bk' ∧ Ms n0 w4 F' Mb v' M' ∧ Fol o bk M bk' M' ∧ Fr w F Mb (.slice a L c0) w4 F' from ⟨F', bk', _, M, HB4.out, HS4.out, .derive0 K4.out HDv.out (fun e => (hc e).elim), HF4.out⟩)
    have hc' : decide (c = 0) = false := by simp [hc]
    clear HB4 HS4 HNn HF4 HNb4 HDv
    go_wp2
    go_end0
    exact ⟨rfl, HFin.out⟩
end Go.Proofs.Ytimfgjndgfjjgaa
