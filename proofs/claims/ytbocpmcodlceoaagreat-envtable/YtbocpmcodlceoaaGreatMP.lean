import Derived.Test.YtbocpmcodlceoaaGreatMO
namespace Go.Proofs.YtbocpmcodlceoaaGreat
open Go.ChangeShapes Go.WideShapes Go.ChangeAt Go.RowKit Go.Deep

theorem ag_first (s : Int) (q : Qt) : Ag ((List.replicate 16 none).set 0 (some (Er.new s (-1) q.bnd))) [(0, Er.new s (-1) q.bnd)] := by
  refine ⟨List.pairwise_singleton _ _, fun m e => ?_⟩
  rw [List.mem_singleton, List.getElem?_set]
  constructor
  · intro h; cases h; simp
  · intro h
    split at h
    · rename_i e1
      subst e1
      simp at h
      rw [h]
    · rw [List.getElem?_replicate] at h
      split at h <;> cases h
set_option maxRecDepth 8000 in
set_option maxHeartbeats 6400000 in
theorem newD_any (w : World) (s : Int) (q : Qt) : Calls Tryz.prog 14 #[.int .i64 s, q.val] w fun x w' => ∃ R F, x = .returned (tp R) ∧ RtA R ((List.replicate 16 none).set 0 (some (Er.new s (-1) q.bnd))) s w' F ∧ (∀ b, F b → w.heap.size ≤ b) ∧ Below w.heap.size w w' := by
  have hb1 := (Below.refl w.heap.size w).alloc (Nat.le_refl _) (.cells #[.int .i64 q.f, .int .i64 q.e, .int .i64 q.x] 30)
  have HX1 := hide (heap_alloc_new w (.cells #[.int .i64 q.f, .int .i64 q.e, .int .i64 q.x] 30))
  have HB1 := hide hb1
  clear hb1
  unfold Qt.val
  go_enter Tryz.func14, Tryz.ntmps14
  go_upto_region 1 with fail
  show Code.wp _ _ _ _ (w.alloc (.cells #[.int .i64 q.f, .int .i64 q.e, .int .i64 q.x] 30))
  generalize w.alloc (.cells #[.int .i64 q.f, .int .i64 q.e, .int .i64 q.x] 30) = w1 at *
  obtain ⟨B, hB⟩ : ∃ B, w.heap.size = B := ⟨_, rfl⟩
  rw [hB] at HX1 ⊢
  clear hB
  have hb2 := (Below.refl w1.heap.size w1).alloc (Nat.le_refl _) (.cells #[.slice none 0 0, .int .i64 s] 83)
  have HR2 := hide (heap_alloc_new w1 (.cells #[.slice none 0 0, .int .i64 s] 83))
  have HX2 := hide ((hb2.block B (Array.getElem?_eq_some_iff.1 HX1.out).1).trans HX1.out)
  have HB2 := hide (HB1.out.trans (hb2.mono HB1.out.size))
  have HRw : Hid (w.heap.size ≤ w1.heap.size) := hide HB1.out.size
  go_upto_region 2 with fail
  generalize w1.alloc (.cells #[.slice none 0 0, .int .i64 s] 83) = w2 at *
  generalize w1.heap.size = R at *
  clear hb2 HX1 HB1
  refine wp_region_held_drew (S := fun W : World => W.heap[B]? = some (.cells #[.int .i64 q.f, .int .i64 q.e, .int .i64 q.x] 30 (0, 0))) (by kernel_rfl) HX2.out (fun _ => ?_)
  generalize hw3 : w2.drew = w3
  have hb3 : Below w2.heap.size w2 w3 := by rw [← hw3]; exact below_drew _
  have HX3 : Hid (w3.heap[B]? = some (.cells #[.int .i64 q.f, .int .i64 q.e, .int .i64 q.x] 30 (0, 0))) := hide (by rw [← hw3]; exact HX2.out)
  have HB3 := hide (HB2.out.trans (hb3.mono HB2.out.size))
  have HR3 : Hid (w3.heap[R]? = some (.cells #[.slice none 0 0, .int .i64 s] 83 (0, 0))) := hide (by rw [← hw3]; exact HR2.out)
  clear hw3 hb3 HX2 HB2 HR2
  have hb4 := (Below.refl w3.heap.size w3).alloc (Nat.le_refl _) (.cells Er.nil.head.toArray 46)
  have HX4 := hide ((hb4.block B (Array.getElem?_eq_some_iff.1 HX3.out).1).trans HX3.out)
  have HN4 := hide (heap_alloc_new w3 (.cells Er.nil.head.toArray 46))
  have hb5 := below_setCells hb4 (Nat.le_refl w3.heap.size) 0 (Er.new s (-1) q.bnd).head
  have HX5 := hide ((hb5.block B (Array.getElem?_eq_some_iff.1 HX3.out).1).trans HX3.out)
  have HR6 := hide ((hb5.block R (Array.getElem?_eq_some_iff.1 HR3.out).1).trans HR3.out)
  have HB6 := hide (HB3.out.trans (hb5.mono HB3.out.size))
  have HE6 : Hid (Eb ((w3.alloc (.cells Er.nil.head.toArray 46)).setCells w3.heap.size 0 (Er.new s (-1) q.bnd).head) w3.heap.size (Er.new s (-1) q.bnd)) := hide ((Eb.new w3 Er.nil).lay (Er.new s (-1) q.bnd))
  have HNR : Hid (w3.heap.size ≠ R) := hide (fun e => by have := (Array.getElem?_eq_some_iff.1 HR3.out).1; omega)
  clear hb4 hb5 HR3 HB3
  refine hd_take 0 (o := ⟨some 10, _, _, _, _, _⟩) (.int .i64 s) (by kernel_rfl) (by kernel_rfl) (by kernel_rfl) rfl (by rfl) (fun W hSw => by go_simp) (fun _ _ _ h => h) HX3.out ?_
  simp only [Act.put, List.setIfInBounds_toArray, List.set_cons_zero, List.set_cons_succ]
  refine hd_take 1 (o := ⟨some 11, _, _, _, _, _⟩) (.pointer (some ⟨B, 0, none⟩)) (by kernel_rfl) (by kernel_rfl) (by kernel_rfl) rfl (by rfl) (fun W hSw => by go_simp) (fun _ _ _ h => h) HX3.out ?_
  simp only [Act.put, List.setIfInBounds_toArray, List.set_cons_zero, List.set_cons_succ]
  refine hd_take 2 (o := ⟨some 12, _, _, _, _, _⟩) (.int .i64 q.f) (by kernel_rfl) (by kernel_rfl) (by kernel_rfl) rfl (by rfl) (fun W hSw => by have s1 := (blk3 hSw).1; go_simp) (fun _ _ _ h => h) HX3.out ?_
  simp only [Act.put, List.setIfInBounds_toArray, List.set_cons_zero, List.set_cons_succ]
  refine hd_take 4 (o := ⟨some 14, _, _, _, _, _⟩) (.pointer (some ⟨B, 1, none⟩)) (by kernel_rfl) (by kernel_rfl) (by kernel_rfl) rfl (by rfl) (fun W hSw => by go_simp) (fun _ _ _ h => h) HX3.out ?_
  simp only [Act.put, List.setIfInBounds_toArray, List.set_cons_zero, List.set_cons_succ]
  refine hd_take 5 (o := ⟨some 15, _, _, _, _, _⟩) (.int .i64 q.e) (by kernel_rfl) (by kernel_rfl) (by kernel_rfl) rfl (by rfl) (fun W hSw => by have s1 := (blk3 hSw).2.1; go_simp) (fun _ _ _ h => h) HX3.out ?_
  simp only [Act.put, List.setIfInBounds_toArray, List.set_cons_zero, List.set_cons_succ]
  refine hd_take 7 (o := ⟨some 17, _, _, _, _, _⟩) (.pointer (some ⟨B, 2, none⟩)) (by kernel_rfl) (by kernel_rfl) (by kernel_rfl) rfl (by rfl) (fun W hSw => by go_simp) (fun _ _ _ h => h) HX3.out ?_
  simp only [Act.put, List.setIfInBounds_toArray, List.set_cons_zero, List.set_cons_succ]
  refine hd_take 8 (o := ⟨some 18, _, _, _, _, _⟩) (.int .i64 q.x) (by kernel_rfl) (by kernel_rfl) (by kernel_rfl) rfl (by rfl) (fun W hSw => by have s1 := (blk3 hSw).2.2.1; go_simp) (fun _ _ _ h => h) HX3.out ?_
  simp only [Act.put, List.setIfInBounds_toArray, List.set_cons_zero, List.set_cons_succ]
  refine hd_both 3 12 (o1 := ⟨some 13, _, _, _, _, _⟩) (o2 := ⟨some 6, _, _, _, _, _⟩) (by kernel_rfl) rfl rfl (by rfl) (by rfl) (fun K' hK => ?_) (fun K' hK => ?_)
  · skip
    go_simp
    go_wp2_with (go_at_call 58; refine (partD_any _ q.f).mono ?_; rintro e1 w9 ⟨rfl, hw9⟩; cases hw9)
    refine hK _ _ HX3.out ?_
    clear hK K'
    try simp only [Act.put, List.setIfInBounds_toArray, List.set_cons_zero, List.set_cons_succ]
    refine hd_both 6 12 (o1 := ⟨some 16, _, _, _, _, _⟩) (o2 := ⟨some 6, _, _, _, _, _⟩) (by kernel_rfl) rfl rfl (by rfl) (by rfl) (fun K' hK => ?_) (fun K' hK => ?_)
    · skip
      go_simp
      go_wp2_with (go_at_call 58; refine (partD_any _ q.e).mono ?_; rintro e1 w9 ⟨rfl, hw9⟩; cases hw9)
      refine hK _ _ HX3.out ?_
      clear hK K'
      try simp only [Act.put, List.setIfInBounds_toArray, List.set_cons_zero, List.set_cons_succ]
      refine hd_both 9 12 (o1 := ⟨some 19, _, _, _, _, _⟩) (o2 := ⟨some 6, _, _, _, _, _⟩) (by kernel_rfl) rfl rfl (by rfl) (by rfl) (fun K' hK => ?_) (fun K' hK => ?_)
      · skip
        go_simp
        go_wp2_with (go_at_call 58; refine (partD_any _ q.x).mono ?_; rintro e1 w9 ⟨rfl, hw9⟩; cases hw9)
        refine hK _ _ HX3.out ?_
        clear hK K'
        try simp only [Act.put, List.setIfInBounds_toArray, List.set_cons_zero, List.set_cons_succ]
        refine hd_take 10 (o := ⟨some 20, _, _, _, _, _⟩) (q.bnd.val) (by kernel_rfl) (by kernel_rfl) (by kernel_rfl) rfl (by rfl) (fun W hSw => by go_simp; rfl) (fun _ _ _ h => h) HX3.out ?_
        simp only [Act.put, List.setIfInBounds_toArray, List.set_cons_zero, List.set_cons_succ]
        refine hd_take 11 (o := ⟨some 21, _, _, _, _, _⟩) (.agg #[.int .i64 s, .int .i64 (-1), .int .i64 0, .int .i64 0, .int .i64 0, .bool false, .int .u32 0, .int .u32 0, .int .u32 0, .int .u32 0, .int .u32 0, .int .u32 0, .int .u32 0, .int .u32 0, .int .u32 0, .int .i64 (pt q.f), .int .i64 (pt q.e), .int .i64 (pt q.x), .int .i64 0, .int .i64 0, .int .i64 0]) (by kernel_rfl) (by kernel_rfl) (by kernel_rfl) rfl (by rfl) (fun W hSw => by unfold Qt.val Qt.bnd; go_simp) (fun _ _ _ h => h) HX3.out ?_
        simp only [Act.put, List.setIfInBounds_toArray, List.set_cons_zero, List.set_cons_succ]
        refine hd_call 12 (o := ⟨some 6, _, _, _, _, _⟩) (by kernel_rfl) rfl (by rfl) (fun K' hK => ?_)
        go_simp
        refine hK _ _ HX4.out ?_
        clear hK K'
        try simp only [Act.put, List.setIfInBounds_toArray, List.set_cons_zero, List.set_cons_succ]
        refine hd_call 13 (o := ⟨none, _, _, _, _, _⟩) (by kernel_rfl) rfl (by rfl) (fun K' hK => ?_)
        refine wp_storeT (t := 46) (Er.new s (-1) q.bnd).head (by rw [head_len]; exact infoE) (head_one _) _ _ rfl w3.heap.size 0 rfl rfl (there_row (cs := Er.nil.head) HN4.out (Nat.le_refl 21)) ?_
        refine hK _ _ HX5.out ?_
        clear hK K'
        try simp only [Act.put]
        refine wpAnyH_done (by kernel_rfl) ?_ _
        show Exit.then _ _ Exit.normal _ ((w3.alloc (.cells Er.nil.head.toArray 46)).setCells w3.heap.size 0 (Er.new s (-1) q.bnd).head)
        generalize hw6 : ((w3.alloc (.cells Er.nil.head.toArray 46)).setCells w3.heap.size 0 (Er.new s (-1) q.bnd).head) = w6 at *
        generalize hN : w3.heap.size = N at *
        clear hw6 hN
        go_upto_region 3 with fail
        refine wp_region_held_drew (S := fun W : World => (∃ u, W.heap[R]? = some (.cells #[u, .int .i64 s] 83 (0, 0))) ∧ Eb W N (Er.new s (-1) q.bnd)) (by kernel_rfl) ⟨⟨_, HR6.out⟩, ⟨HE6.out.out⟩⟩ (fun _ => ?_)
        generalize hw7 : w6.drew = w7
        have hb7 : Below w6.heap.size w6 w7 := by rw [← hw7]; exact below_drew _
        have HR7 : Hid (w7.heap[R]? = some (.cells #[.slice none 0 0, .int .i64 s] 83 (0, 0))) := hide (by rw [← hw7]; exact HR6.out)
        have HE7 : Hid (Eb w7 N (Er.new s (-1) q.bnd)) := hide (by rw [← hw7]; exact ⟨HE6.out.out⟩)
        have HB7 := hide (HB6.out.trans (hb7.mono HB6.out.size))
        have HS7 : Hid ((∃ u, w7.heap[R]? = some (.cells #[u, .int .i64 s] 83 (0, 0))) ∧ Eb w7 N (Er.new s (-1) q.bnd)) := hide ⟨⟨_, HR7.out⟩, HE7.out⟩
        have hRl : R < w7.heap.size := (Array.getElem?_eq_some_iff.1 HR7.out).1
        have hb8 := (Below.refl w7.heap.size w7).alloc (Nat.le_refl _) (.cells #[.int .i64 0, .int .i64 s, .int .i64 (-1), .int .i64 0, .int .i64 0, .int .i64 0, .bool false, .int .u32 0, .int .u32 0, .int .u32 0, .int .u32 0, .int .u32 0, .int .u32 0, .int .u32 0, .int .u32 0, .int .u32 0, .int .i64 (pt q.f), .int .i64 (pt q.e), .int .i64 (pt q.x), .int .i64 0, .int .i64 0, .int .i64 0, .int .i64 0, .int .i64 0, .int .i64 0] 85)
        have HR8 := hide ((hb8.block R hRl).trans HR7.out)
        have HE8 := hide (HE7.out.keep (hb8.block N HE7.out.lt))
        have HS8 : Hid ((∃ u, (w7.alloc (.cells #[.int .i64 0, .int .i64 s, .int .i64 (-1), .int .i64 0, .int .i64 0, .int .i64 0, .bool false, .int .u32 0, .int .u32 0, .int .u32 0, .int .u32 0, .int .u32 0, .int .u32 0, .int .u32 0, .int .u32 0, .int .u32 0, .int .i64 (pt q.f), .int .i64 (pt q.e), .int .i64 (pt q.x), .int .i64 0, .int .i64 0, .int .i64 0, .int .i64 0, .int .i64 0, .int .i64 0] 85)).heap[R]? = some (.cells #[u, .int .i64 s] 83 (0, 0))) ∧ Eb (w7.alloc (.cells #[.int .i64 0, .int .i64 s, .int .i64 (-1), .int .i64 0, .int .i64 0, .int .i64 0, .bool false, .int .u32 0, .int .u32 0, .int .u32 0, .int .u32 0, .int .u32 0, .int .u32 0, .int .u32 0, .int .u32 0, .int .u32 0, .int .i64 (pt q.f), .int .i64 (pt q.e), .int .i64 (pt q.x), .int .i64 0, .int .i64 0, .int .i64 0, .int .i64 0, .int .i64 0, .int .i64 0] 85)) N (Er.new s (-1) q.bnd)) := hide ⟨⟨_, HR8.out⟩, HE8.out⟩
        have hb8' := HB7.out.trans (hb8.mono HB7.out.size)
        have HN8 : Hid (∀ (j : Nat) (u : Value), (encW1 (0, (Er.new s (-1) q.bnd)))[j]? = some u → (w7.alloc (.cells #[.int .i64 0, .int .i64 s, .int .i64 (-1), .int .i64 0, .int .i64 0, .int .i64 0, .bool false, .int .u32 0, .int .u32 0, .int .u32 0, .int .u32 0, .int .u32 0, .int .u32 0, .int .u32 0, .int .u32 0, .int .u32 0, .int .i64 (pt q.f), .int .i64 (pt q.e), .int .i64 (pt q.x), .int .i64 0, .int .i64 0, .int .i64 0, .int .i64 0, .int .i64 0, .int .i64 0] 85)).cell? ((⟨w7.heap.size, 0, none⟩ : Addr).add j) = some u) := hide (row_cells (cs := encW1 (0, (Er.new s (-1) q.bnd))) (heap_alloc_new w7 (.cells #[.int .i64 0, .int .i64 s, .int .i64 (-1), .int .i64 0, .int .i64 0, .int .i64 0, .bool false, .int .u32 0, .int .u32 0, .int .u32 0, .int .u32 0, .int .u32 0, .int .u32 0, .int .u32 0, .int .u32 0, .int .u32 0, .int .i64 (pt q.f), .int .i64 (pt q.e), .int .i64 (pt q.x), .int .i64 0, .int .i64 0, .int .i64 0, .int .i64 0, .int .i64 0, .int .i64 0] 85)))
        have hsz8 : (w7.alloc (.cells #[.int .i64 0, .int .i64 s, .int .i64 (-1), .int .i64 0, .int .i64 0, .int .i64 0, .bool false, .int .u32 0, .int .u32 0, .int .u32 0, .int .u32 0, .int .u32 0, .int .u32 0, .int .u32 0, .int .u32 0, .int .u32 0, .int .i64 (pt q.f), .int .i64 (pt q.e), .int .i64 (pt q.x), .int .i64 0, .int .i64 0, .int .i64 0, .int .i64 0, .int .i64 0, .int .i64 0] 85)).heap.size = w7.heap.size + 1 := by simp
        have keepG : ∀ w9 b, (w7.alloc (.cells #[.int .i64 0, .int .i64 s, .int .i64 (-1), .int .i64 0, .int .i64 0, .int .i64 0, .bool false, .int .u32 0, .int .u32 0, .int .u32 0, .int .u32 0, .int .u32 0, .int .u32 0, .int .u32 0, .int .u32 0, .int .u32 0, .int .i64 (pt q.f), .int .i64 (pt q.e), .int .i64 (pt q.x), .int .i64 0, .int .i64 0, .int .i64 0, .int .i64 0, .int .i64 0, .int .i64 0] 85)).grownBy w9 (Value.ownBlock (.slice none 0 0)) → b < (w7.alloc (.cells #[.int .i64 0, .int .i64 s, .int .i64 (-1), .int .i64 0, .int .i64 0, .int .i64 0, .bool false, .int .u32 0, .int .u32 0, .int .u32 0, .int .u32 0, .int .u32 0, .int .u32 0, .int .u32 0, .int .u32 0, .int .u32 0, .int .i64 (pt q.f), .int .i64 (pt q.e), .int .i64 (pt q.x), .int .i64 0, .int .i64 0, .int .i64 0, .int .i64 0, .int .i64 0, .int .i64 0] 85)).heap.size → w9.heap[b]? = (w7.alloc (.cells #[.int .i64 0, .int .i64 s, .int .i64 (-1), .int .i64 0, .int .i64 0, .int .i64 0, .bool false, .int .u32 0, .int .u32 0, .int .u32 0, .int .u32 0, .int .u32 0, .int .u32 0, .int .u32 0, .int .u32 0, .int .u32 0, .int .i64 (pt q.f), .int .i64 (pt q.e), .int .i64 (pt q.x), .int .i64 0, .int .i64 0, .int .i64 0, .int .i64 0, .int .i64 0, .int .i64 0] 85)).heap[b]? := fun w9 b hg9 hb' => hg9.block b hb' (by simp [Value.ownBlock])
        have HC9 : Hid (∀ w9, (w7.alloc (.cells #[.int .i64 0, .int .i64 s, .int .i64 (-1), .int .i64 0, .int .i64 0, .int .i64 0, .bool false, .int .u32 0, .int .u32 0, .int .u32 0, .int .u32 0, .int .u32 0, .int .u32 0, .int .u32 0, .int .u32 0, .int .u32 0, .int .i64 (pt q.f), .int .i64 (pt q.e), .int .i64 (pt q.x), .int .i64 0, .int .i64 0, .int .i64 0, .int .i64 0, .int .i64 0, .int .i64 0] 85)).grownBy w9 (Value.ownBlock (.slice none 0 0)) → ((∃ u, w9.heap[R]? = some (.cells #[u, .int .i64 s] 83 (0, 0))) ∧ Eb w9 N (Er.new s (-1) q.bnd)) ∧ w9.cell? ⟨R, 0, none⟩ = some (.slice none 0 0) ∧ w9.frozen? ⟨R, 0, none⟩ = false) := hide (fun w9 hg9 => by
          have h1 := (keepG w9 R hg9 (by omega)).trans HR8.out
          exact ⟨⟨⟨_, h1⟩, HE8.out.keep (keepG w9 N hg9 HE8.out.lt)⟩, top_cell h1, frozen_of_row _ _ _ _ _ h1⟩)
        have HSs : Hid (∀ w9 v2, (w7.alloc (.cells #[.int .i64 0, .int .i64 s, .int .i64 (-1), .int .i64 0, .int .i64 0, .int .i64 0, .bool false, .int .u32 0, .int .u32 0, .int .u32 0, .int .u32 0, .int .u32 0, .int .u32 0, .int .u32 0, .int .u32 0, .int .u32 0, .int .i64 (pt q.f), .int .i64 (pt q.e), .int .i64 (pt q.x), .int .i64 0, .int .i64 0, .int .i64 0, .int .i64 0, .int .i64 0, .int .i64 0] 85)).grownBy w9 (Value.ownBlock (.slice none 0 0)) → (∃ u, (w9.setCell ⟨R, 0, none⟩ v2).heap[R]? = some (.cells #[u, .int .i64 s] 83 (0, 0))) ∧ Eb (w9.setCell ⟨R, 0, none⟩ v2) N (Er.new s (-1) q.bnd)) := hide (fun w9 v2 hg9 => ⟨⟨v2, by rw [heap_setCell_same _ R 0 _ _ v2 ((keepG w9 R hg9 (by omega)).trans HR8.out)]; rfl⟩, HE8.out.keep (by rw [heap_setCell_other _ _ _ _ HNR.out]; exact keepG w9 N hg9 HE8.out.lt)⟩)
        have HApp : Hid (∀ v2 w9, w9.ownsRow w.heap.size 85 25 v2 (0 + 1) ([] ++ encW1 (0, (Er.new s (-1) q.bnd))) → (w7.alloc (.cells #[.int .i64 0, .int .i64 s, .int .i64 (-1), .int .i64 0, .int .i64 0, .int .i64 0, .bool false, .int .u32 0, .int .u32 0, .int .u32 0, .int .u32 0, .int .u32 0, .int .u32 0, .int .u32 0, .int .u32 0, .int .u32 0, .int .i64 (pt q.f), .int .i64 (pt q.e), .int .i64 (pt q.x), .int .i64 0, .int .i64 0, .int .i64 0, .int .i64 0, .int .i64 0, .int .i64 0] 85)).grownBy w9 (Value.ownBlock (.slice none 0 0)) → (v2.ownBlock = (Value.slice none 0 0).ownBlock ∨ v2.ownBlock = some (w7.alloc (.cells #[.int .i64 0, .int .i64 s, .int .i64 (-1), .int .i64 0, .int .i64 0, .int .i64 0, .bool false, .int .u32 0, .int .u32 0, .int .u32 0, .int .u32 0, .int .u32 0, .int .u32 0, .int .u32 0, .int .u32 0, .int .u32 0, .int .i64 (pt q.f), .int .i64 (pt q.e), .int .i64 (pt q.x), .int .i64 0, .int .i64 0, .int .i64 0, .int .i64 0, .int .i64 0, .int .i64 0] 85)).heap.size) → ∃ F, RtA R ((List.replicate 16 none).set 0 (some (Er.new s (-1) q.bnd))) s (w9.setCell ⟨R, 0, none⟩ v2) F ∧ (∀ b, F b → w.heap.size ≤ b) ∧ Below w.heap.size w (w9.setCell ⟨R, 0, none⟩ v2)) := hide (fun v2 w9 ho9 hg9 hl9 => by
          have hR2 : v2.ownBlock ≠ some R := fun e => by
            rcases hl9 with h1 | h1
            · rw [h1] at e; simp [Value.ownBlock] at e
            · rw [h1] at e; simp only [Option.some.injEq] at e; omega
          refine ⟨fun b => b = R ∨ v2.ownBlock = some b, ⟨v2, [(0, (Er.new s (-1) q.bnd))], ⟨?_, ?_, hR2⟩, ag_first s q, fun b => Iff.rfl⟩, ?_, ?_⟩
          · rw [heap_setCell_same _ R 0 _ _ v2 ((keepG w9 R hg9 (by omega)).trans HR8.out)]; rfl
          · have h1 : encW [((0 : Nat), (Er.new s (-1) q.bnd))] = [] ++ encW1 (0, (Er.new s (-1) q.bnd)) := by simp [encW]
            rw [h1]
            exact ownsRow_keep (own_low ho9 (Nat.zero_le _)) (fun b hb' => heap_setCell_other _ _ _ _ (fun e => hR2 (by rw [← (show b = R from e)]; exact hb')))
          · rintro b (rfl | e)
            · exact HRw.out
            · exact (World.ownsRow.lt ho9 b e).1
          · exact (hb8'.grown hg9 hb8'.size (fun b hb' => by simp [Value.ownBlock] at hb')).setCell (p := ⟨R, 0, none⟩) HRw.out _)
        have c7 := top_cell HR7.out
        have c8 := top_cell HR8.out
        have HO8 : Hid ((w7.alloc (.cells #[.int .i64 0, .int .i64 s, .int .i64 (-1), .int .i64 0, .int .i64 0, .int .i64 0, .bool false, .int .u32 0, .int .u32 0, .int .u32 0, .int .u32 0, .int .u32 0, .int .u32 0, .int .u32 0, .int .u32 0, .int .u32 0, .int .i64 (pt q.f), .int .i64 (pt q.e), .int .i64 (pt q.x), .int .i64 0, .int .i64 0, .int .i64 0, .int .i64 0, .int .i64 0, .int .i64 0] 85)).ownsRow w.heap.size 85 25 (.slice none 0 0) 0 []) := hide (World.ownsRow_nil _ _ _ _)
        have HZ8 : Hid (w.heap.size ≤ (w7.alloc (.cells #[.int .i64 0, .int .i64 s, .int .i64 (-1), .int .i64 0, .int .i64 0, .int .i64 0, .bool false, .int .u32 0, .int .u32 0, .int .u32 0, .int .u32 0, .int .u32 0, .int .u32 0, .int .u32 0, .int .u32 0, .int .u32 0, .int .i64 (pt q.f), .int .i64 (pt q.e), .int .i64 (pt q.x), .int .i64 0, .int .i64 0, .int .i64 0, .int .i64 0, .int .i64 0, .int .i64 0] 85)).heap.size) := hide hb8'.size
        obtain ⟨iR, hiR, hzR, hsR, hbR⟩ := infoRow
        clear hw7 hb7 hRl hb8 hb8' keepG hsz8 HR6 HE6 HB6 HR7 HE7 HB7 HR8 HE8
        refine hd_take 0 (o := ⟨some 22, _, _, _, _, _⟩) (.pointer (some ⟨R, 0, none⟩)) (by kernel_rfl) (by kernel_rfl) (by kernel_rfl) rfl (by rfl) (fun W hSw => by go_simp) (fun _ _ _ h => h) HS7.out ?_
        simp only [Act.put, List.setIfInBounds_toArray, List.set_cons_zero, List.set_cons_succ]
        refine hd_take 1 (o := ⟨some 23, _, _, _, _, _⟩) (.pointer (some ⟨R, 0, none⟩)) (by kernel_rfl) (by kernel_rfl) (by kernel_rfl) rfl (by rfl) (fun W hSw => by go_simp) (fun _ _ _ h => h) HS7.out ?_
        simp only [Act.put, List.setIfInBounds_toArray, List.set_cons_zero, List.set_cons_succ]
        refine hd_take 2 (o := ⟨some 24, _, _, _, _, _⟩) (.pointer (some ⟨R, 0, none⟩)) (by kernel_rfl) (by kernel_rfl) (by kernel_rfl) rfl (by rfl) (fun W hSw => by go_simp) (fun _ _ _ h => h) HS7.out ?_
        simp only [Act.put, List.setIfInBounds_toArray, List.set_cons_zero, List.set_cons_succ]
        refine hd_take 3 (o := ⟨some 25, _, _, _, _, _⟩) (.pointer (some ⟨R, 0, none⟩)) (by kernel_rfl) (by kernel_rfl) (by kernel_rfl) rfl (by rfl) (fun W hSw => by go_simp) (fun _ _ _ h => h) HS7.out ?_
        simp only [Act.put, List.setIfInBounds_toArray, List.set_cons_zero, List.set_cons_succ]
        refine hd_take 5 (o := ⟨some 27, _, _, _, _, _⟩) (.agg #[.int .i64 s, .int .i64 (-1), .int .i64 0, .int .i64 0, .int .i64 0, .bool false, .int .u32 0, .int .u32 0, .int .u32 0, .int .u32 0, .int .u32 0, .int .u32 0, .int .u32 0, .int .u32 0, .int .u32 0, .int .i64 (pt q.f), .int .i64 (pt q.e), .int .i64 (pt q.x), .int .i64 0, .int .i64 0, .int .i64 0]) (by kernel_rfl) (by kernel_rfl) (by kernel_rfl) rfl (by rfl) (fun W hSw => by exact run_loadT Tryz.underlying46 rfl (Er.new s (-1) q.bnd).head (by rw [head_len]; exact infoE) _ rfl ⟨N, 0, none⟩ rfl hSw.2.hcell) (fun _ _ _ h => h) HS7.out ?_
        simp only [Act.put, List.setIfInBounds_toArray, List.set_cons_zero, List.set_cons_succ]
        refine hd_take 6 (o := ⟨some 28, _, _, _, _, _⟩) (.agg #[.int .i64 0, .int .i64 s, .int .i64 (-1), .int .i64 0, .int .i64 0, .int .i64 0, .bool false, .int .u32 0, .int .u32 0, .int .u32 0, .int .u32 0, .int .u32 0, .int .u32 0, .int .u32 0, .int .u32 0, .int .u32 0, .int .i64 (pt q.f), .int .i64 (pt q.e), .int .i64 (pt q.x), .int .i64 0, .int .i64 0, .int .i64 0, .int .i64 0, .int .i64 0, .int .i64 0]) (by kernel_rfl) (by kernel_rfl) (by kernel_rfl) rfl (by rfl) (fun W hSw => by go_simp) (fun _ _ _ h => h) HS7.out ?_
        simp only [Act.put, List.setIfInBounds_toArray, List.set_cons_zero, List.set_cons_succ]
        refine hd_both 4 7 (o1 := ⟨some 26, _, _, _, _, _⟩) (o2 := ⟨some 29, _, _, _, _, _⟩) (by kernel_rfl) rfl rfl (by rfl) (by rfl) (fun K' hK => ?_) (fun K' hK => ?_)
        · skip
          go_simp
          refine hK _ _ HS7.out ?_
          clear hK K'
          try simp only [Act.put, List.setIfInBounds_toArray, List.set_cons_zero, List.set_cons_succ]
          refine hd_call 7 (o := ⟨some 29, _, _, _, _, _⟩) (by kernel_rfl) rfl (by rfl) (fun K' hK => ?_)
          go_simp
          refine hK _ _ HS8.out ?_
          clear hK K'
          try simp only [Act.put, List.setIfInBounds_toArray, List.set_cons_zero, List.set_cons_succ]
          refine hd_call 8 (o := ⟨some 30, _, _, _, _, _⟩) (by kernel_rfl) rfl (by rfl) (fun K' hK => ?_)
          refine oper_append _ _ 81 rfl w.heap.size 85 iR (.agg (encW1 (0, Er.nil)).toArray) 25 160 Tryz.underlying81 hiR hzR hsR hbR rfl (by decide) (.slice none 0 0) 0 [] rfl HO8.out ⟨w7.heap.size, 0, none⟩ 1 1 (encW1 (0, (Er.new s (-1) q.bnd))) rfl rfl HN8.out (encW1_one _) (by unfold maxLen; omega) (by omega) HZ8.out (fun v2 w9 ho9 hg9 hl9 => ?_)
          have ho9' : w9.ownsRow w.heap.size 85 25 v2 1 ([] ++ encW1 (0, (Er.new s (-1) q.bnd))) := ho9
          obtain ⟨a2, c2, rfl⟩ := own_shape ho9'
          have HP := hide (HApp.out (.slice a2 1 c2) w9 ho9 hg9 hl9)
          obtain ⟨q1, q2, q3⟩ := HC9.out w9 hg9
          have HS9 := hide q1
          have HS10 := hide (HSs.out w9 (.slice a2 1 c2) hg9)
          clear ho9 ho9' hg9 hl9 q1
          refine hK _ _ HS9.out ?_
          clear hK K'
          try simp only [Act.put, List.setIfInBounds_toArray, List.set_cons_zero, List.set_cons_succ]
          refine hd_take 9 (o := ⟨some 31, _, _, _, _, _⟩) (.pointer (some ⟨R, 0, none⟩)) (by kernel_rfl) (by kernel_rfl) (by kernel_rfl) rfl (by rfl) (fun W hSw => by go_simp) (fun _ _ _ h => h) HS9.out ?_
          simp only [Act.put, List.setIfInBounds_toArray, List.set_cons_zero, List.set_cons_succ]
          refine hd_take 10 (o := ⟨some 32, _, _, _, _, _⟩) (.pointer (some ⟨R, 0, none⟩)) (by kernel_rfl) (by kernel_rfl) (by kernel_rfl) rfl (by rfl) (fun W hSw => by go_simp) (fun _ _ _ h => h) HS9.out ?_
          simp only [Act.put, List.setIfInBounds_toArray, List.set_cons_zero, List.set_cons_succ]
          refine hd_call 11 (o := ⟨none, _, _, _, _, _⟩) (by kernel_rfl) rfl (by rfl) (fun K' hK => ?_)
          go_simp
          refine hK _ _ HS10.out ?_
          clear hK K'
          try simp only [Act.put]
          refine wpAnyH_done (by kernel_rfl) ?_ _
          clear HS9 HS10 q2 q3
          generalize w9.setCell ⟨R, 0, none⟩ (.slice a2 1 c2) = w10 at *
          go_wp2
          go_ret
          obtain ⟨F, p1, p2, p3⟩ := HP.out
          exact ⟨R, F, rfl, p1, p2, p3⟩
        · skip
          go_simp
          refine hK _ _ HS8.out ?_
          clear hK K'
          try simp only [Act.put, List.setIfInBounds_toArray, List.set_cons_zero, List.set_cons_succ]
          refine hd_call 4 (o := ⟨some 26, _, _, _, _, _⟩) (by kernel_rfl) rfl (by rfl) (fun K' hK => ?_)
          go_simp
          refine hK _ _ HS8.out ?_
          clear hK K'
          try simp only [Act.put, List.setIfInBounds_toArray, List.set_cons_zero, List.set_cons_succ]
          refine hd_call 8 (o := ⟨some 30, _, _, _, _, _⟩) (by kernel_rfl) rfl (by rfl) (fun K' hK => ?_)
          refine oper_append _ _ 81 rfl w.heap.size 85 iR (.agg (encW1 (0, Er.nil)).toArray) 25 160 Tryz.underlying81 hiR hzR hsR hbR rfl (by decide) (.slice none 0 0) 0 [] rfl HO8.out ⟨w7.heap.size, 0, none⟩ 1 1 (encW1 (0, (Er.new s (-1) q.bnd))) rfl rfl HN8.out (encW1_one _) (by unfold maxLen; omega) (by omega) HZ8.out (fun v2 w9 ho9 hg9 hl9 => ?_)
          have ho9' : w9.ownsRow w.heap.size 85 25 v2 1 ([] ++ encW1 (0, (Er.new s (-1) q.bnd))) := ho9
          obtain ⟨a2, c2, rfl⟩ := own_shape ho9'
          have HP := hide (HApp.out (.slice a2 1 c2) w9 ho9 hg9 hl9)
          obtain ⟨q1, q2, q3⟩ := HC9.out w9 hg9
          have HS9 := hide q1
          have HS10 := hide (HSs.out w9 (.slice a2 1 c2) hg9)
          clear ho9 ho9' hg9 hl9 q1
          refine hK _ _ HS9.out ?_
          clear hK K'
          try simp only [Act.put, List.setIfInBounds_toArray, List.set_cons_zero, List.set_cons_succ]
          refine hd_take 9 (o := ⟨some 31, _, _, _, _, _⟩) (.pointer (some ⟨R, 0, none⟩)) (by kernel_rfl) (by kernel_rfl) (by kernel_rfl) rfl (by rfl) (fun W hSw => by go_simp) (fun _ _ _ h => h) HS9.out ?_
          simp only [Act.put, List.setIfInBounds_toArray, List.set_cons_zero, List.set_cons_succ]
          refine hd_take 10 (o := ⟨some 32, _, _, _, _, _⟩) (.pointer (some ⟨R, 0, none⟩)) (by kernel_rfl) (by kernel_rfl) (by kernel_rfl) rfl (by rfl) (fun W hSw => by go_simp) (fun _ _ _ h => h) HS9.out ?_
          simp only [Act.put, List.setIfInBounds_toArray, List.set_cons_zero, List.set_cons_succ]
          refine hd_call 11 (o := ⟨none, _, _, _, _, _⟩) (by kernel_rfl) rfl (by rfl) (fun K' hK => ?_)
          go_simp
          refine hK _ _ HS10.out ?_
          clear hK K'
          try simp only [Act.put]
          refine wpAnyH_done (by kernel_rfl) ?_ _
          clear HS9 HS10 q2 q3
          generalize w9.setCell ⟨R, 0, none⟩ (.slice a2 1 c2) = w10 at *
          go_wp2
          go_ret
          obtain ⟨F, p1, p2, p3⟩ := HP.out
          exact ⟨R, F, rfl, p1, p2, p3⟩
      · skip
        go_simp
        refine hK _ _ HX4.out ?_
        clear hK K'
        try simp only [Act.put, List.setIfInBounds_toArray, List.set_cons_zero, List.set_cons_succ]
        refine hd_call 9 (o := ⟨some 19, _, _, _, _, _⟩) (by kernel_rfl) rfl (by rfl) (fun K' hK => ?_)
        go_simp
        go_wp2_with (go_at_call 58; refine (partD_any _ q.x).mono ?_; rintro e1 w9 ⟨rfl, hw9⟩; cases hw9)
        refine hK _ _ HX4.out ?_
        clear hK K'
        try simp only [Act.put, List.setIfInBounds_toArray, List.set_cons_zero, List.set_cons_succ]
        refine hd_take 10 (o := ⟨some 20, _, _, _, _, _⟩) (q.bnd.val) (by kernel_rfl) (by kernel_rfl) (by kernel_rfl) rfl (by rfl) (fun W hSw => by go_simp; rfl) (fun _ _ _ h => h) HX4.out ?_
        simp only [Act.put, List.setIfInBounds_toArray, List.set_cons_zero, List.set_cons_succ]
        refine hd_take 11 (o := ⟨some 21, _, _, _, _, _⟩) (.agg #[.int .i64 s, .int .i64 (-1), .int .i64 0, .int .i64 0, .int .i64 0, .bool false, .int .u32 0, .int .u32 0, .int .u32 0, .int .u32 0, .int .u32 0, .int .u32 0, .int .u32 0, .int .u32 0, .int .u32 0, .int .i64 (pt q.f), .int .i64 (pt q.e), .int .i64 (pt q.x), .int .i64 0, .int .i64 0, .int .i64 0]) (by kernel_rfl) (by kernel_rfl) (by kernel_rfl) rfl (by rfl) (fun W hSw => by unfold Qt.val Qt.bnd; go_simp) (fun _ _ _ h => h) HX4.out ?_
        simp only [Act.put, List.setIfInBounds_toArray, List.set_cons_zero, List.set_cons_succ]
        refine hd_call 13 (o := ⟨none, _, _, _, _, _⟩) (by kernel_rfl) rfl (by rfl) (fun K' hK => ?_)
        refine wp_storeT (t := 46) (Er.new s (-1) q.bnd).head (by rw [head_len]; exact infoE) (head_one _) _ _ rfl w3.heap.size 0 rfl rfl (there_row (cs := Er.nil.head) HN4.out (Nat.le_refl 21)) ?_
        refine hK _ _ HX5.out ?_
        clear hK K'
        try simp only [Act.put]
        refine wpAnyH_done (by kernel_rfl) ?_ _
        show Exit.then _ _ Exit.normal _ ((w3.alloc (.cells Er.nil.head.toArray 46)).setCells w3.heap.size 0 (Er.new s (-1) q.bnd).head)
        generalize hw6 : ((w3.alloc (.cells Er.nil.head.toArray 46)).setCells w3.heap.size 0 (Er.new s (-1) q.bnd).head) = w6 at *
        generalize hN : w3.heap.size = N at *
        clear hw6 hN
        go_upto_region 3 with fail
        refine wp_region_held_drew (S := fun W : World => (∃ u, W.heap[R]? = some (.cells #[u, .int .i64 s] 83 (0, 0))) ∧ Eb W N (Er.new s (-1) q.bnd)) (by kernel_rfl) ⟨⟨_, HR6.out⟩, ⟨HE6.out.out⟩⟩ (fun _ => ?_)
        generalize hw7 : w6.drew = w7
        have hb7 : Below w6.heap.size w6 w7 := by rw [← hw7]; exact below_drew _
        have HR7 : Hid (w7.heap[R]? = some (.cells #[.slice none 0 0, .int .i64 s] 83 (0, 0))) := hide (by rw [← hw7]; exact HR6.out)
        have HE7 : Hid (Eb w7 N (Er.new s (-1) q.bnd)) := hide (by rw [← hw7]; exact ⟨HE6.out.out⟩)
        have HB7 := hide (HB6.out.trans (hb7.mono HB6.out.size))
        have HS7 : Hid ((∃ u, w7.heap[R]? = some (.cells #[u, .int .i64 s] 83 (0, 0))) ∧ Eb w7 N (Er.new s (-1) q.bnd)) := hide ⟨⟨_, HR7.out⟩, HE7.out⟩
        have hRl : R < w7.heap.size := (Array.getElem?_eq_some_iff.1 HR7.out).1
        have hb8 := (Below.refl w7.heap.size w7).alloc (Nat.le_refl _) (.cells #[.int .i64 0, .int .i64 s, .int .i64 (-1), .int .i64 0, .int .i64 0, .int .i64 0, .bool false, .int .u32 0, .int .u32 0, .int .u32 0, .int .u32 0, .int .u32 0, .int .u32 0, .int .u32 0, .int .u32 0, .int .u32 0, .int .i64 (pt q.f), .int .i64 (pt q.e), .int .i64 (pt q.x), .int .i64 0, .int .i64 0, .int .i64 0, .int .i64 0, .int .i64 0, .int .i64 0] 85)
        have HR8 := hide ((hb8.block R hRl).trans HR7.out)
        have HE8 := hide (HE7.out.keep (hb8.block N HE7.out.lt))
        have HS8 : Hid ((∃ u, (w7.alloc (.cells #[.int .i64 0, .int .i64 s, .int .i64 (-1), .int .i64 0, .int .i64 0, .int .i64 0, .bool false, .int .u32 0, .int .u32 0, .int .u32 0, .int .u32 0, .int .u32 0, .int .u32 0, .int .u32 0, .int .u32 0, .int .u32 0, .int .i64 (pt q.f), .int .i64 (pt q.e), .int .i64 (pt q.x), .int .i64 0, .int .i64 0, .int .i64 0, .int .i64 0, .int .i64 0, .int .i64 0] 85)).heap[R]? = some (.cells #[u, .int .i64 s] 83 (0, 0))) ∧ Eb (w7.alloc (.cells #[.int .i64 0, .int .i64 s, .int .i64 (-1), .int .i64 0, .int .i64 0, .int .i64 0, .bool false, .int .u32 0, .int .u32 0, .int .u32 0, .int .u32 0, .int .u32 0, .int .u32 0, .int .u32 0, .int .u32 0, .int .u32 0, .int .i64 (pt q.f), .int .i64 (pt q.e), .int .i64 (pt q.x), .int .i64 0, .int .i64 0, .int .i64 0, .int .i64 0, .int .i64 0, .int .i64 0] 85)) N (Er.new s (-1) q.bnd)) := hide ⟨⟨_, HR8.out⟩, HE8.out⟩
        have hb8' := HB7.out.trans (hb8.mono HB7.out.size)
        have HN8 : Hid (∀ (j : Nat) (u : Value), (encW1 (0, (Er.new s (-1) q.bnd)))[j]? = some u → (w7.alloc (.cells #[.int .i64 0, .int .i64 s, .int .i64 (-1), .int .i64 0, .int .i64 0, .int .i64 0, .bool false, .int .u32 0, .int .u32 0, .int .u32 0, .int .u32 0, .int .u32 0, .int .u32 0, .int .u32 0, .int .u32 0, .int .u32 0, .int .i64 (pt q.f), .int .i64 (pt q.e), .int .i64 (pt q.x), .int .i64 0, .int .i64 0, .int .i64 0, .int .i64 0, .int .i64 0, .int .i64 0] 85)).cell? ((⟨w7.heap.size, 0, none⟩ : Addr).add j) = some u) := hide (row_cells (cs := encW1 (0, (Er.new s (-1) q.bnd))) (heap_alloc_new w7 (.cells #[.int .i64 0, .int .i64 s, .int .i64 (-1), .int .i64 0, .int .i64 0, .int .i64 0, .bool false, .int .u32 0, .int .u32 0, .int .u32 0, .int .u32 0, .int .u32 0, .int .u32 0, .int .u32 0, .int .u32 0, .int .u32 0, .int .i64 (pt q.f), .int .i64 (pt q.e), .int .i64 (pt q.x), .int .i64 0, .int .i64 0, .int .i64 0, .int .i64 0, .int .i64 0, .int .i64 0] 85)))
        have hsz8 : (w7.alloc (.cells #[.int .i64 0, .int .i64 s, .int .i64 (-1), .int .i64 0, .int .i64 0, .int .i64 0, .bool false, .int .u32 0, .int .u32 0, .int .u32 0, .int .u32 0, .int .u32 0, .int .u32 0, .int .u32 0, .int .u32 0, .int .u32 0, .int .i64 (pt q.f), .int .i64 (pt q.e), .int .i64 (pt q.x), .int .i64 0, .int .i64 0, .int .i64 0, .int .i64 0, .int .i64 0, .int .i64 0] 85)).heap.size = w7.heap.size + 1 := by simp
        have keepG : ∀ w9 b, (w7.alloc (.cells #[.int .i64 0, .int .i64 s, .int .i64 (-1), .int .i64 0, .int .i64 0, .int .i64 0, .bool false, .int .u32 0, .int .u32 0, .int .u32 0, .int .u32 0, .int .u32 0, .int .u32 0, .int .u32 0, .int .u32 0, .int .u32 0, .int .i64 (pt q.f), .int .i64 (pt q.e), .int .i64 (pt q.x), .int .i64 0, .int .i64 0, .int .i64 0, .int .i64 0, .int .i64 0, .int .i64 0] 85)).grownBy w9 (Value.ownBlock (.slice none 0 0)) → b < (w7.alloc (.cells #[.int .i64 0, .int .i64 s, .int .i64 (-1), .int .i64 0, .int .i64 0, .int .i64 0, .bool false, .int .u32 0, .int .u32 0, .int .u32 0, .int .u32 0, .int .u32 0, .int .u32 0, .int .u32 0, .int .u32 0, .int .u32 0, .int .i64 (pt q.f), .int .i64 (pt q.e), .int .i64 (pt q.x), .int .i64 0, .int .i64 0, .int .i64 0, .int .i64 0, .int .i64 0, .int .i64 0] 85)).heap.size → w9.heap[b]? = (w7.alloc (.cells #[.int .i64 0, .int .i64 s, .int .i64 (-1), .int .i64 0, .int .i64 0, .int .i64 0, .bool false, .int .u32 0, .int .u32 0, .int .u32 0, .int .u32 0, .int .u32 0, .int .u32 0, .int .u32 0, .int .u32 0, .int .u32 0, .int .i64 (pt q.f), .int .i64 (pt q.e), .int .i64 (pt q.x), .int .i64 0, .int .i64 0, .int .i64 0, .int .i64 0, .int .i64 0, .int .i64 0] 85)).heap[b]? := fun w9 b hg9 hb' => hg9.block b hb' (by simp [Value.ownBlock])
        have HC9 : Hid (∀ w9, (w7.alloc (.cells #[.int .i64 0, .int .i64 s, .int .i64 (-1), .int .i64 0, .int .i64 0, .int .i64 0, .bool false, .int .u32 0, .int .u32 0, .int .u32 0, .int .u32 0, .int .u32 0, .int .u32 0, .int .u32 0, .int .u32 0, .int .u32 0, .int .i64 (pt q.f), .int .i64 (pt q.e), .int .i64 (pt q.x), .int .i64 0, .int .i64 0, .int .i64 0, .int .i64 0, .int .i64 0, .int .i64 0] 85)).grownBy w9 (Value.ownBlock (.slice none 0 0)) → ((∃ u, w9.heap[R]? = some (.cells #[u, .int .i64 s] 83 (0, 0))) ∧ Eb w9 N (Er.new s (-1) q.bnd)) ∧ w9.cell? ⟨R, 0, none⟩ = some (.slice none 0 0) ∧ w9.frozen? ⟨R, 0, none⟩ = false) := hide (fun w9 hg9 => by
          have h1 := (keepG w9 R hg9 (by omega)).trans HR8.out
          exact ⟨⟨⟨_, h1⟩, HE8.out.keep (keepG w9 N hg9 HE8.out.lt)⟩, top_cell h1, frozen_of_row _ _ _ _ _ h1⟩)
        have HSs : Hid (∀ w9 v2, (w7.alloc (.cells #[.int .i64 0, .int .i64 s, .int .i64 (-1), .int .i64 0, .int .i64 0, .int .i64 0, .bool false, .int .u32 0, .int .u32 0, .int .u32 0, .int .u32 0, .int .u32 0, .int .u32 0, .int .u32 0, .int .u32 0, .int .u32 0, .int .i64 (pt q.f), .int .i64 (pt q.e), .int .i64 (pt q.x), .int .i64 0, .int .i64 0, .int .i64 0, .int .i64 0, .int .i64 0, .int .i64 0] 85)).grownBy w9 (Value.ownBlock (.slice none 0 0)) → (∃ u, (w9.setCell ⟨R, 0, none⟩ v2).heap[R]? = some (.cells #[u, .int .i64 s] 83 (0, 0))) ∧ Eb (w9.setCell ⟨R, 0, none⟩ v2) N (Er.new s (-1) q.bnd)) := hide (fun w9 v2 hg9 => ⟨⟨v2, by rw [heap_setCell_same _ R 0 _ _ v2 ((keepG w9 R hg9 (by omega)).trans HR8.out)]; rfl⟩, HE8.out.keep (by rw [heap_setCell_other _ _ _ _ HNR.out]; exact keepG w9 N hg9 HE8.out.lt)⟩)
        have HApp : Hid (∀ v2 w9, w9.ownsRow w.heap.size 85 25 v2 (0 + 1) ([] ++ encW1 (0, (Er.new s (-1) q.bnd))) → (w7.alloc (.cells #[.int .i64 0, .int .i64 s, .int .i64 (-1), .int .i64 0, .int .i64 0, .int .i64 0, .bool false, .int .u32 0, .int .u32 0, .int .u32 0, .int .u32 0, .int .u32 0, .int .u32 0, .int .u32 0, .int .u32 0, .int .u32 0, .int .i64 (pt q.f), .int .i64 (pt q.e), .int .i64 (pt q.x), .int .i64 0, .int .i64 0, .int .i64 0, .int .i64 0, .int .i64 0, .int .i64 0] 85)).grownBy w9 (Value.ownBlock (.slice none 0 0)) → (v2.ownBlock = (Value.slice none 0 0).ownBlock ∨ v2.ownBlock = some (w7.alloc (.cells #[.int .i64 0, .int .i64 s, .int .i64 (-1), .int .i64 0, .int .i64 0, .int .i64 0, .bool false, .int .u32 0, .int .u32 0, .int .u32 0, .int .u32 0, .int .u32 0, .int .u32 0, .int .u32 0, .int .u32 0, .int .u32 0, .int .i64 (pt q.f), .int .i64 (pt q.e), .int .i64 (pt q.x), .int .i64 0, .int .i64 0, .int .i64 0, .int .i64 0, .int .i64 0, .int .i64 0] 85)).heap.size) → ∃ F, RtA R ((List.replicate 16 none).set 0 (some (Er.new s (-1) q.bnd))) s (w9.setCell ⟨R, 0, none⟩ v2) F ∧ (∀ b, F b → w.heap.size ≤ b) ∧ Below w.heap.size w (w9.setCell ⟨R, 0, none⟩ v2)) := hide (fun v2 w9 ho9 hg9 hl9 => by
          have hR2 : v2.ownBlock ≠ some R := fun e => by
            rcases hl9 with h1 | h1
            · rw [h1] at e; simp [Value.ownBlock] at e
            · rw [h1] at e; simp only [Option.some.injEq] at e; omega
          refine ⟨fun b => b = R ∨ v2.ownBlock = some b, ⟨v2, [(0, (Er.new s (-1) q.bnd))], ⟨?_, ?_, hR2⟩, ag_first s q, fun b => Iff.rfl⟩, ?_, ?_⟩
          · rw [heap_setCell_same _ R 0 _ _ v2 ((keepG w9 R hg9 (by omega)).trans HR8.out)]; rfl
          · have h1 : encW [((0 : Nat), (Er.new s (-1) q.bnd))] = [] ++ encW1 (0, (Er.new s (-1) q.bnd)) := by simp [encW]
            rw [h1]
            exact ownsRow_keep (own_low ho9 (Nat.zero_le _)) (fun b hb' => heap_setCell_other _ _ _ _ (fun e => hR2 (by rw [← (show b = R from e)]; exact hb')))
          · rintro b (rfl | e)
            · exact HRw.out
            · exact (World.ownsRow.lt ho9 b e).1
          · exact (hb8'.grown hg9 hb8'.size (fun b hb' => by simp [Value.ownBlock] at hb')).setCell (p := ⟨R, 0, none⟩) HRw.out _)
        have c7 := top_cell HR7.out
        have c8 := top_cell HR8.out
        have HO8 : Hid ((w7.alloc (.cells #[.int .i64 0, .int .i64 s, .int .i64 (-1), .int .i64 0, .int .i64 0, .int .i64 0, .bool false, .int .u32 0, .int .u32 0, .int .u32 0, .int .u32 0, .int .u32 0, .int .u32 0, .int .u32 0, .int .u32 0, .int .u32 0, .int .i64 (pt q.f), .int .i64 (pt q.e), .int .i64 (pt q.x), .int .i64 0, .int .i64 0, .int .i64 0, .int .i64 0, .int .i64 0, .int .i64 0] 85)).ownsRow w.heap.size 85 25 (.slice none 0 0) 0 []) := hide (World.ownsRow_nil _ _ _ _)
        have HZ8 : Hid (w.heap.size ≤ (w7.alloc (.cells #[.int .i64 0, .int .i64 s, .int .i64 (-1), .int .i64 0, .int .i64 0, .int .i64 0, .bool false, .int .u32 0, .int .u32 0, .int .u32 0, .int .u32 0, .int .u32 0, .int .u32 0, .int .u32 0, .int .u32 0, .int .u32 0, .int .i64 (pt q.f), .int .i64 (pt q.e), .int .i64 (pt q.x), .int .i64 0, .int .i64 0, .int .i64 0, .int .i64 0, .int .i64 0, .int .i64 0] 85)).heap.size) := hide hb8'.size
        obtain ⟨iR, hiR, hzR, hsR, hbR⟩ := infoRow
        clear hw7 hb7 hRl hb8 hb8' keepG hsz8 HR6 HE6 HB6 HR7 HE7 HB7 HR8 HE8
        refine hd_take 0 (o := ⟨some 22, _, _, _, _, _⟩) (.pointer (some ⟨R, 0, none⟩)) (by kernel_rfl) (by kernel_rfl) (by kernel_rfl) rfl (by rfl) (fun W hSw => by go_simp) (fun _ _ _ h => h) HS7.out ?_
        simp only [Act.put, List.setIfInBounds_toArray, List.set_cons_zero, List.set_cons_succ]
        refine hd_take 1 (o := ⟨some 23, _, _, _, _, _⟩) (.pointer (some ⟨R, 0, none⟩)) (by kernel_rfl) (by kernel_rfl) (by kernel_rfl) rfl (by rfl) (fun W hSw => by go_simp) (fun _ _ _ h => h) HS7.out ?_
        simp only [Act.put, List.setIfInBounds_toArray, List.set_cons_zero, List.set_cons_succ]
        refine hd_take 2 (o := ⟨some 24, _, _, _, _, _⟩) (.pointer (some ⟨R, 0, none⟩)) (by kernel_rfl) (by kernel_rfl) (by kernel_rfl) rfl (by rfl) (fun W hSw => by go_simp) (fun _ _ _ h => h) HS7.out ?_
        simp only [Act.put, List.setIfInBounds_toArray, List.set_cons_zero, List.set_cons_succ]
        refine hd_take 3 (o := ⟨some 25, _, _, _, _, _⟩) (.pointer (some ⟨R, 0, none⟩)) (by kernel_rfl) (by kernel_rfl) (by kernel_rfl) rfl (by rfl) (fun W hSw => by go_simp) (fun _ _ _ h => h) HS7.out ?_
        simp only [Act.put, List.setIfInBounds_toArray, List.set_cons_zero, List.set_cons_succ]
        refine hd_take 5 (o := ⟨some 27, _, _, _, _, _⟩) (.agg #[.int .i64 s, .int .i64 (-1), .int .i64 0, .int .i64 0, .int .i64 0, .bool false, .int .u32 0, .int .u32 0, .int .u32 0, .int .u32 0, .int .u32 0, .int .u32 0, .int .u32 0, .int .u32 0, .int .u32 0, .int .i64 (pt q.f), .int .i64 (pt q.e), .int .i64 (pt q.x), .int .i64 0, .int .i64 0, .int .i64 0]) (by kernel_rfl) (by kernel_rfl) (by kernel_rfl) rfl (by rfl) (fun W hSw => by exact run_loadT Tryz.underlying46 rfl (Er.new s (-1) q.bnd).head (by rw [head_len]; exact infoE) _ rfl ⟨N, 0, none⟩ rfl hSw.2.hcell) (fun _ _ _ h => h) HS7.out ?_
        simp only [Act.put, List.setIfInBounds_toArray, List.set_cons_zero, List.set_cons_succ]
        refine hd_take 6 (o := ⟨some 28, _, _, _, _, _⟩) (.agg #[.int .i64 0, .int .i64 s, .int .i64 (-1), .int .i64 0, .int .i64 0, .int .i64 0, .bool false, .int .u32 0, .int .u32 0, .int .u32 0, .int .u32 0, .int .u32 0, .int .u32 0, .int .u32 0, .int .u32 0, .int .u32 0, .int .i64 (pt q.f), .int .i64 (pt q.e), .int .i64 (pt q.x), .int .i64 0, .int .i64 0, .int .i64 0, .int .i64 0, .int .i64 0, .int .i64 0]) (by kernel_rfl) (by kernel_rfl) (by kernel_rfl) rfl (by rfl) (fun W hSw => by go_simp) (fun _ _ _ h => h) HS7.out ?_
        simp only [Act.put, List.setIfInBounds_toArray, List.set_cons_zero, List.set_cons_succ]
        refine hd_both 4 7 (o1 := ⟨some 26, _, _, _, _, _⟩) (o2 := ⟨some 29, _, _, _, _, _⟩) (by kernel_rfl) rfl rfl (by rfl) (by rfl) (fun K' hK => ?_) (fun K' hK => ?_)
        · skip
          go_simp
          refine hK _ _ HS7.out ?_
          clear hK K'
          try simp only [Act.put, List.setIfInBounds_toArray, List.set_cons_zero, List.set_cons_succ]
          refine hd_call 7 (o := ⟨some 29, _, _, _, _, _⟩) (by kernel_rfl) rfl (by rfl) (fun K' hK => ?_)
          go_simp
          refine hK _ _ HS8.out ?_
          clear hK K'
          try simp only [Act.put, List.setIfInBounds_toArray, List.set_cons_zero, List.set_cons_succ]
          refine hd_call 8 (o := ⟨some 30, _, _, _, _, _⟩) (by kernel_rfl) rfl (by rfl) (fun K' hK => ?_)
          refine oper_append _ _ 81 rfl w.heap.size 85 iR (.agg (encW1 (0, Er.nil)).toArray) 25 160 Tryz.underlying81 hiR hzR hsR hbR rfl (by decide) (.slice none 0 0) 0 [] rfl HO8.out ⟨w7.heap.size, 0, none⟩ 1 1 (encW1 (0, (Er.new s (-1) q.bnd))) rfl rfl HN8.out (encW1_one _) (by unfold maxLen; omega) (by omega) HZ8.out (fun v2 w9 ho9 hg9 hl9 => ?_)
          have ho9' : w9.ownsRow w.heap.size 85 25 v2 1 ([] ++ encW1 (0, (Er.new s (-1) q.bnd))) := ho9
          obtain ⟨a2, c2, rfl⟩ := own_shape ho9'
          have HP := hide (HApp.out (.slice a2 1 c2) w9 ho9 hg9 hl9)
          obtain ⟨q1, q2, q3⟩ := HC9.out w9 hg9
          have HS9 := hide q1
          have HS10 := hide (HSs.out w9 (.slice a2 1 c2) hg9)
          clear ho9 ho9' hg9 hl9 q1
          refine hK _ _ HS9.out ?_
          clear hK K'
          try simp only [Act.put, List.setIfInBounds_toArray, List.set_cons_zero, List.set_cons_succ]
          refine hd_take 9 (o := ⟨some 31, _, _, _, _, _⟩) (.pointer (some ⟨R, 0, none⟩)) (by kernel_rfl) (by kernel_rfl) (by kernel_rfl) rfl (by rfl) (fun W hSw => by go_simp) (fun _ _ _ h => h) HS9.out ?_
          simp only [Act.put, List.setIfInBounds_toArray, List.set_cons_zero, List.set_cons_succ]
          refine hd_take 10 (o := ⟨some 32, _, _, _, _, _⟩) (.pointer (some ⟨R, 0, none⟩)) (by kernel_rfl) (by kernel_rfl) (by kernel_rfl) rfl (by rfl) (fun W hSw => by go_simp) (fun _ _ _ h => h) HS9.out ?_
          simp only [Act.put, List.setIfInBounds_toArray, List.set_cons_zero, List.set_cons_succ]
          refine hd_call 11 (o := ⟨none, _, _, _, _, _⟩) (by kernel_rfl) rfl (by rfl) (fun K' hK => ?_)
          go_simp
          refine hK _ _ HS10.out ?_
          clear hK K'
          try simp only [Act.put]
          refine wpAnyH_done (by kernel_rfl) ?_ _
          clear HS9 HS10 q2 q3
          generalize w9.setCell ⟨R, 0, none⟩ (.slice a2 1 c2) = w10 at *
          go_wp2
          go_ret
          obtain ⟨F, p1, p2, p3⟩ := HP.out
          exact ⟨R, F, rfl, p1, p2, p3⟩
        · skip
          go_simp
          refine hK _ _ HS8.out ?_
          clear hK K'
          try simp only [Act.put, List.setIfInBounds_toArray, List.set_cons_zero, List.set_cons_succ]
          refine hd_call 4 (o := ⟨some 26, _, _, _, _, _⟩) (by kernel_rfl) rfl (by rfl) (fun K' hK => ?_)
          go_simp
          refine hK _ _ HS8.out ?_
          clear hK K'
          try simp only [Act.put, List.setIfInBounds_toArray, List.set_cons_zero, List.set_cons_succ]
          refine hd_call 8 (o := ⟨some 30, _, _, _, _, _⟩) (by kernel_rfl) rfl (by rfl) (fun K' hK => ?_)
          refine oper_append _ _ 81 rfl w.heap.size 85 iR (.agg (encW1 (0, Er.nil)).toArray) 25 160 Tryz.underlying81 hiR hzR hsR hbR rfl (by decide) (.slice none 0 0) 0 [] rfl HO8.out ⟨w7.heap.size, 0, none⟩ 1 1 (encW1 (0, (Er.new s (-1) q.bnd))) rfl rfl HN8.out (encW1_one _) (by unfold maxLen; omega) (by omega) HZ8.out (fun v2 w9 ho9 hg9 hl9 => ?_)
          have ho9' : w9.ownsRow w.heap.size 85 25 v2 1 ([] ++ encW1 (0, (Er.new s (-1) q.bnd))) := ho9
          obtain ⟨a2, c2, rfl⟩ := own_shape ho9'
          have HP := hide (HApp.out (.slice a2 1 c2) w9 ho9 hg9 hl9)
          obtain ⟨q1, q2, q3⟩ := HC9.out w9 hg9
          have HS9 := hide q1
          have HS10 := hide (HSs.out w9 (.slice a2 1 c2) hg9)
          clear ho9 ho9' hg9 hl9 q1
          refine hK _ _ HS9.out ?_
          clear hK K'
          try simp only [Act.put, List.setIfInBounds_toArray, List.set_cons_zero, List.set_cons_succ]
          refine hd_take 9 (o := ⟨some 31, _, _, _, _, _⟩) (.pointer (some ⟨R, 0, none⟩)) (by kernel_rfl) (by kernel_rfl) (by kernel_rfl) rfl (by rfl) (fun W hSw => by go_simp) (fun _ _ _ h => h) HS9.out ?_
          simp only [Act.put, List.setIfInBounds_toArray, List.set_cons_zero, List.set_cons_succ]
          refine hd_take 10 (o := ⟨some 32, _, _, _, _, _⟩) (.pointer (some ⟨R, 0, none⟩)) (by kernel_rfl) (by kernel_rfl) (by kernel_rfl) rfl (by rfl) (fun W hSw => by go_simp) (fun _ _ _ h => h) HS9.out ?_
          simp only [Act.put, List.setIfInBounds_toArray, List.set_cons_zero, List.set_cons_succ]
          refine hd_call 11 (o := ⟨none, _, _, _, _, _⟩) (by kernel_rfl) rfl (by rfl) (fun K' hK => ?_)
          go_simp
          refine hK _ _ HS10.out ?_
          clear hK K'
          try simp only [Act.put]
          refine wpAnyH_done (by kernel_rfl) ?_ _
          clear HS9 HS10 q2 q3
          generalize w9.setCell ⟨R, 0, none⟩ (.slice a2 1 c2) = w10 at *
          go_wp2
          go_ret
          obtain ⟨F, p1, p2, p3⟩ := HP.out
          exact ⟨R, F, rfl, p1, p2, p3⟩
    · skip
      go_simp
      refine hK _ _ HX4.out ?_
      clear hK K'
      try simp only [Act.put, List.setIfInBounds_toArray, List.set_cons_zero, List.set_cons_succ]
      refine hd_call 6 (o := ⟨some 16, _, _, _, _, _⟩) (by kernel_rfl) rfl (by rfl) (fun K' hK => ?_)
      go_simp
      go_wp2_with (go_at_call 58; refine (partD_any _ q.e).mono ?_; rintro e1 w9 ⟨rfl, hw9⟩; cases hw9)
      refine hK _ _ HX4.out ?_
      clear hK K'
      try simp only [Act.put, List.setIfInBounds_toArray, List.set_cons_zero, List.set_cons_succ]
      refine hd_call 9 (o := ⟨some 19, _, _, _, _, _⟩) (by kernel_rfl) rfl (by rfl) (fun K' hK => ?_)
      go_simp
      go_wp2_with (go_at_call 58; refine (partD_any _ q.x).mono ?_; rintro e1 w9 ⟨rfl, hw9⟩; cases hw9)
      refine hK _ _ HX4.out ?_
      clear hK K'
      try simp only [Act.put, List.setIfInBounds_toArray, List.set_cons_zero, List.set_cons_succ]
      refine hd_take 10 (o := ⟨some 20, _, _, _, _, _⟩) (q.bnd.val) (by kernel_rfl) (by kernel_rfl) (by kernel_rfl) rfl (by rfl) (fun W hSw => by go_simp; rfl) (fun _ _ _ h => h) HX4.out ?_
      simp only [Act.put, List.setIfInBounds_toArray, List.set_cons_zero, List.set_cons_succ]
      refine hd_take 11 (o := ⟨some 21, _, _, _, _, _⟩) (.agg #[.int .i64 s, .int .i64 (-1), .int .i64 0, .int .i64 0, .int .i64 0, .bool false, .int .u32 0, .int .u32 0, .int .u32 0, .int .u32 0, .int .u32 0, .int .u32 0, .int .u32 0, .int .u32 0, .int .u32 0, .int .i64 (pt q.f), .int .i64 (pt q.e), .int .i64 (pt q.x), .int .i64 0, .int .i64 0, .int .i64 0]) (by kernel_rfl) (by kernel_rfl) (by kernel_rfl) rfl (by rfl) (fun W hSw => by unfold Qt.val Qt.bnd; go_simp) (fun _ _ _ h => h) HX4.out ?_
      simp only [Act.put, List.setIfInBounds_toArray, List.set_cons_zero, List.set_cons_succ]
      refine hd_call 13 (o := ⟨none, _, _, _, _, _⟩) (by kernel_rfl) rfl (by rfl) (fun K' hK => ?_)
      refine wp_storeT (t := 46) (Er.new s (-1) q.bnd).head (by rw [head_len]; exact infoE) (head_one _) _ _ rfl w3.heap.size 0 rfl rfl (there_row (cs := Er.nil.head) HN4.out (Nat.le_refl 21)) ?_
      refine hK _ _ HX5.out ?_
      clear hK K'
      try simp only [Act.put]
      refine wpAnyH_done (by kernel_rfl) ?_ _
      show Exit.then _ _ Exit.normal _ ((w3.alloc (.cells Er.nil.head.toArray 46)).setCells w3.heap.size 0 (Er.new s (-1) q.bnd).head)
      generalize hw6 : ((w3.alloc (.cells Er.nil.head.toArray 46)).setCells w3.heap.size 0 (Er.new s (-1) q.bnd).head) = w6 at *
      generalize hN : w3.heap.size = N at *
      clear hw6 hN
      go_upto_region 3 with fail
      refine wp_region_held_drew (S := fun W : World => (∃ u, W.heap[R]? = some (.cells #[u, .int .i64 s] 83 (0, 0))) ∧ Eb W N (Er.new s (-1) q.bnd)) (by kernel_rfl) ⟨⟨_, HR6.out⟩, ⟨HE6.out.out⟩⟩ (fun _ => ?_)
      generalize hw7 : w6.drew = w7
      have hb7 : Below w6.heap.size w6 w7 := by rw [← hw7]; exact below_drew _
      have HR7 : Hid (w7.heap[R]? = some (.cells #[.slice none 0 0, .int .i64 s] 83 (0, 0))) := hide (by rw [← hw7]; exact HR6.out)
      have HE7 : Hid (Eb w7 N (Er.new s (-1) q.bnd)) := hide (by rw [← hw7]; exact ⟨HE6.out.out⟩)
      have HB7 := hide (HB6.out.trans (hb7.mono HB6.out.size))
      have HS7 : Hid ((∃ u, w7.heap[R]? = some (.cells #[u, .int .i64 s] 83 (0, 0))) ∧ Eb w7 N (Er.new s (-1) q.bnd)) := hide ⟨⟨_, HR7.out⟩, HE7.out⟩
      have hRl : R < w7.heap.size := (Array.getElem?_eq_some_iff.1 HR7.out).1
      have hb8 := (Below.refl w7.heap.size w7).alloc (Nat.le_refl _) (.cells #[.int .i64 0, .int .i64 s, .int .i64 (-1), .int .i64 0, .int .i64 0, .int .i64 0, .bool false, .int .u32 0, .int .u32 0, .int .u32 0, .int .u32 0, .int .u32 0, .int .u32 0, .int .u32 0, .int .u32 0, .int .u32 0, .int .i64 (pt q.f), .int .i64 (pt q.e), .int .i64 (pt q.x), .int .i64 0, .int .i64 0, .int .i64 0, .int .i64 0, .int .i64 0, .int .i64 0] 85)
      have HR8 := hide ((hb8.block R hRl).trans HR7.out)
      have HE8 := hide (HE7.out.keep (hb8.block N HE7.out.lt))
      have HS8 : Hid ((∃ u, (w7.alloc (.cells #[.int .i64 0, .int .i64 s, .int .i64 (-1), .int .i64 0, .int .i64 0, .int .i64 0, .bool false, .int .u32 0, .int .u32 0, .int .u32 0, .int .u32 0, .int .u32 0, .int .u32 0, .int .u32 0, .int .u32 0, .int .u32 0, .int .i64 (pt q.f), .int .i64 (pt q.e), .int .i64 (pt q.x), .int .i64 0, .int .i64 0, .int .i64 0, .int .i64 0, .int .i64 0, .int .i64 0] 85)).heap[R]? = some (.cells #[u, .int .i64 s] 83 (0, 0))) ∧ Eb (w7.alloc (.cells #[.int .i64 0, .int .i64 s, .int .i64 (-1), .int .i64 0, .int .i64 0, .int .i64 0, .bool false, .int .u32 0, .int .u32 0, .int .u32 0, .int .u32 0, .int .u32 0, .int .u32 0, .int .u32 0, .int .u32 0, .int .u32 0, .int .i64 (pt q.f), .int .i64 (pt q.e), .int .i64 (pt q.x), .int .i64 0, .int .i64 0, .int .i64 0, .int .i64 0, .int .i64 0, .int .i64 0] 85)) N (Er.new s (-1) q.bnd)) := hide ⟨⟨_, HR8.out⟩, HE8.out⟩
      have hb8' := HB7.out.trans (hb8.mono HB7.out.size)
      have HN8 : Hid (∀ (j : Nat) (u : Value), (encW1 (0, (Er.new s (-1) q.bnd)))[j]? = some u → (w7.alloc (.cells #[.int .i64 0, .int .i64 s, .int .i64 (-1), .int .i64 0, .int .i64 0, .int .i64 0, .bool false, .int .u32 0, .int .u32 0, .int .u32 0, .int .u32 0, .int .u32 0, .int .u32 0, .int .u32 0, .int .u32 0, .int .u32 0, .int .i64 (pt q.f), .int .i64 (pt q.e), .int .i64 (pt q.x), .int .i64 0, .int .i64 0, .int .i64 0, .int .i64 0, .int .i64 0, .int .i64 0] 85)).cell? ((⟨w7.heap.size, 0, none⟩ : Addr).add j) = some u) := hide (row_cells (cs := encW1 (0, (Er.new s (-1) q.bnd))) (heap_alloc_new w7 (.cells #[.int .i64 0, .int .i64 s, .int .i64 (-1), .int .i64 0, .int .i64 0, .int .i64 0, .bool false, .int .u32 0, .int .u32 0, .int .u32 0, .int .u32 0, .int .u32 0, .int .u32 0, .int .u32 0, .int .u32 0, .int .u32 0, .int .i64 (pt q.f), .int .i64 (pt q.e), .int .i64 (pt q.x), .int .i64 0, .int .i64 0, .int .i64 0, .int .i64 0, .int .i64 0, .int .i64 0] 85)))
      have hsz8 : (w7.alloc (.cells #[.int .i64 0, .int .i64 s, .int .i64 (-1), .int .i64 0, .int .i64 0, .int .i64 0, .bool false, .int .u32 0, .int .u32 0, .int .u32 0, .int .u32 0, .int .u32 0, .int .u32 0, .int .u32 0, .int .u32 0, .int .u32 0, .int .i64 (pt q.f), .int .i64 (pt q.e), .int .i64 (pt q.x), .int .i64 0, .int .i64 0, .int .i64 0, .int .i64 0, .int .i64 0, .int .i64 0] 85)).heap.size = w7.heap.size + 1 := by simp
      have keepG : ∀ w9 b, (w7.alloc (.cells #[.int .i64 0, .int .i64 s, .int .i64 (-1), .int .i64 0, .int .i64 0, .int .i64 0, .bool false, .int .u32 0, .int .u32 0, .int .u32 0, .int .u32 0, .int .u32 0, .int .u32 0, .int .u32 0, .int .u32 0, .int .u32 0, .int .i64 (pt q.f), .int .i64 (pt q.e), .int .i64 (pt q.x), .int .i64 0, .int .i64 0, .int .i64 0, .int .i64 0, .int .i64 0, .int .i64 0] 85)).grownBy w9 (Value.ownBlock (.slice none 0 0)) → b < (w7.alloc (.cells #[.int .i64 0, .int .i64 s, .int .i64 (-1), .int .i64 0, .int .i64 0, .int .i64 0, .bool false, .int .u32 0, .int .u32 0, .int .u32 0, .int .u32 0, .int .u32 0, .int .u32 0, .int .u32 0, .int .u32 0, .int .u32 0, .int .i64 (pt q.f), .int .i64 (pt q.e), .int .i64 (pt q.x), .int .i64 0, .int .i64 0, .int .i64 0, .int .i64 0, .int .i64 0, .int .i64 0] 85)).heap.size → w9.heap[b]? = (w7.alloc (.cells #[.int .i64 0, .int .i64 s, .int .i64 (-1), .int .i64 0, .int .i64 0, .int .i64 0, .bool false, .int .u32 0, .int .u32 0, .int .u32 0, .int .u32 0, .int .u32 0, .int .u32 0, .int .u32 0, .int .u32 0, .int .u32 0, .int .i64 (pt q.f), .int .i64 (pt q.e), .int .i64 (pt q.x), .int .i64 0, .int .i64 0, .int .i64 0, .int .i64 0, .int .i64 0, .int .i64 0] 85)).heap[b]? := fun w9 b hg9 hb' => hg9.block b hb' (by simp [Value.ownBlock])
      have HC9 : Hid (∀ w9, (w7.alloc (.cells #[.int .i64 0, .int .i64 s, .int .i64 (-1), .int .i64 0, .int .i64 0, .int .i64 0, .bool false, .int .u32 0, .int .u32 0, .int .u32 0, .int .u32 0, .int .u32 0, .int .u32 0, .int .u32 0, .int .u32 0, .int .u32 0, .int .i64 (pt q.f), .int .i64 (pt q.e), .int .i64 (pt q.x), .int .i64 0, .int .i64 0, .int .i64 0, .int .i64 0, .int .i64 0, .int .i64 0] 85)).grownBy w9 (Value.ownBlock (.slice none 0 0)) → ((∃ u, w9.heap[R]? = some (.cells #[u, .int .i64 s] 83 (0, 0))) ∧ Eb w9 N (Er.new s (-1) q.bnd)) ∧ w9.cell? ⟨R, 0, none⟩ = some (.slice none 0 0) ∧ w9.frozen? ⟨R, 0, none⟩ = false) := hide (fun w9 hg9 => by
        have h1 := (keepG w9 R hg9 (by omega)).trans HR8.out
        exact ⟨⟨⟨_, h1⟩, HE8.out.keep (keepG w9 N hg9 HE8.out.lt)⟩, top_cell h1, frozen_of_row _ _ _ _ _ h1⟩)
      have HSs : Hid (∀ w9 v2, (w7.alloc (.cells #[.int .i64 0, .int .i64 s, .int .i64 (-1), .int .i64 0, .int .i64 0, .int .i64 0, .bool false, .int .u32 0, .int .u32 0, .int .u32 0, .int .u32 0, .int .u32 0, .int .u32 0, .int .u32 0, .int .u32 0, .int .u32 0, .int .i64 (pt q.f), .int .i64 (pt q.e), .int .i64 (pt q.x), .int .i64 0, .int .i64 0, .int .i64 0, .int .i64 0, .int .i64 0, .int .i64 0] 85)).grownBy w9 (Value.ownBlock (.slice none 0 0)) → (∃ u, (w9.setCell ⟨R, 0, none⟩ v2).heap[R]? = some (.cells #[u, .int .i64 s] 83 (0, 0))) ∧ Eb (w9.setCell ⟨R, 0, none⟩ v2) N (Er.new s (-1) q.bnd)) := hide (fun w9 v2 hg9 => ⟨⟨v2, by rw [heap_setCell_same _ R 0 _ _ v2 ((keepG w9 R hg9 (by omega)).trans HR8.out)]; rfl⟩, HE8.out.keep (by rw [heap_setCell_other _ _ _ _ HNR.out]; exact keepG w9 N hg9 HE8.out.lt)⟩)
      have HApp : Hid (∀ v2 w9, w9.ownsRow w.heap.size 85 25 v2 (0 + 1) ([] ++ encW1 (0, (Er.new s (-1) q.bnd))) → (w7.alloc (.cells #[.int .i64 0, .int .i64 s, .int .i64 (-1), .int .i64 0, .int .i64 0, .int .i64 0, .bool false, .int .u32 0, .int .u32 0, .int .u32 0, .int .u32 0, .int .u32 0, .int .u32 0, .int .u32 0, .int .u32 0, .int .u32 0, .int .i64 (pt q.f), .int .i64 (pt q.e), .int .i64 (pt q.x), .int .i64 0, .int .i64 0, .int .i64 0, .int .i64 0, .int .i64 0, .int .i64 0] 85)).grownBy w9 (Value.ownBlock (.slice none 0 0)) → (v2.ownBlock = (Value.slice none 0 0).ownBlock ∨ v2.ownBlock = some (w7.alloc (.cells #[.int .i64 0, .int .i64 s, .int .i64 (-1), .int .i64 0, .int .i64 0, .int .i64 0, .bool false, .int .u32 0, .int .u32 0, .int .u32 0, .int .u32 0, .int .u32 0, .int .u32 0, .int .u32 0, .int .u32 0, .int .u32 0, .int .i64 (pt q.f), .int .i64 (pt q.e), .int .i64 (pt q.x), .int .i64 0, .int .i64 0, .int .i64 0, .int .i64 0, .int .i64 0, .int .i64 0] 85)).heap.size) → ∃ F, RtA R ((List.replicate 16 none).set 0 (some (Er.new s (-1) q.bnd))) s (w9.setCell ⟨R, 0, none⟩ v2) F ∧ (∀ b, F b → w.heap.size ≤ b) ∧ Below w.heap.size w (w9.setCell ⟨R, 0, none⟩ v2)) := hide (fun v2 w9 ho9 hg9 hl9 => by
        have hR2 : v2.ownBlock ≠ some R := fun e => by
          rcases hl9 with h1 | h1
          · rw [h1] at e; simp [Value.ownBlock] at e
          · rw [h1] at e; simp only [Option.some.injEq] at e; omega
        refine ⟨fun b => b = R ∨ v2.ownBlock = some b, ⟨v2, [(0, (Er.new s (-1) q.bnd))], ⟨?_, ?_, hR2⟩, ag_first s q, fun b => Iff.rfl⟩, ?_, ?_⟩
        · rw [heap_setCell_same _ R 0 _ _ v2 ((keepG w9 R hg9 (by omega)).trans HR8.out)]; rfl
        · have h1 : encW [((0 : Nat), (Er.new s (-1) q.bnd))] = [] ++ encW1 (0, (Er.new s (-1) q.bnd)) := by simp [encW]
          rw [h1]
          exact ownsRow_keep (own_low ho9 (Nat.zero_le _)) (fun b hb' => heap_setCell_other _ _ _ _ (fun e => hR2 (by rw [← (show b = R from e)]; exact hb')))
        · rintro b (rfl | e)
          · exact HRw.out
          · exact (World.ownsRow.lt ho9 b e).1
        · exact (hb8'.grown hg9 hb8'.size (fun b hb' => by simp [Value.ownBlock] at hb')).setCell (p := ⟨R, 0, none⟩) HRw.out _)
      have c7 := top_cell HR7.out
      have c8 := top_cell HR8.out
      have HO8 : Hid ((w7.alloc (.cells #[.int .i64 0, .int .i64 s, .int .i64 (-1), .int .i64 0, .int .i64 0, .int .i64 0, .bool false, .int .u32 0, .int .u32 0, .int .u32 0, .int .u32 0, .int .u32 0, .int .u32 0, .int .u32 0, .int .u32 0, .int .u32 0, .int .i64 (pt q.f), .int .i64 (pt q.e), .int .i64 (pt q.x), .int .i64 0, .int .i64 0, .int .i64 0, .int .i64 0, .int .i64 0, .int .i64 0] 85)).ownsRow w.heap.size 85 25 (.slice none 0 0) 0 []) := hide (World.ownsRow_nil _ _ _ _)
      have HZ8 : Hid (w.heap.size ≤ (w7.alloc (.cells #[.int .i64 0, .int .i64 s, .int .i64 (-1), .int .i64 0, .int .i64 0, .int .i64 0, .bool false, .int .u32 0, .int .u32 0, .int .u32 0, .int .u32 0, .int .u32 0, .int .u32 0, .int .u32 0, .int .u32 0, .int .u32 0, .int .i64 (pt q.f), .int .i64 (pt q.e), .int .i64 (pt q.x), .int .i64 0, .int .i64 0, .int .i64 0, .int .i64 0, .int .i64 0, .int .i64 0] 85)).heap.size) := hide hb8'.size
      obtain ⟨iR, hiR, hzR, hsR, hbR⟩ := infoRow
      clear hw7 hb7 hRl hb8 hb8' keepG hsz8 HR6 HE6 HB6 HR7 HE7 HB7 HR8 HE8
      refine hd_take 0 (o := ⟨some 22, _, _, _, _, _⟩) (.pointer (some ⟨R, 0, none⟩)) (by kernel_rfl) (by kernel_rfl) (by kernel_rfl) rfl (by rfl) (fun W hSw => by go_simp) (fun _ _ _ h => h) HS7.out ?_
      simp only [Act.put, List.setIfInBounds_toArray, List.set_cons_zero, List.set_cons_succ]
      refine hd_take 1 (o := ⟨some 23, _, _, _, _, _⟩) (.pointer (some ⟨R, 0, none⟩)) (by kernel_rfl) (by kernel_rfl) (by kernel_rfl) rfl (by rfl) (fun W hSw => by go_simp) (fun _ _ _ h => h) HS7.out ?_
      simp only [Act.put, List.setIfInBounds_toArray, List.set_cons_zero, List.set_cons_succ]
      refine hd_take 2 (o := ⟨some 24, _, _, _, _, _⟩) (.pointer (some ⟨R, 0, none⟩)) (by kernel_rfl) (by kernel_rfl) (by kernel_rfl) rfl (by rfl) (fun W hSw => by go_simp) (fun _ _ _ h => h) HS7.out ?_
      simp only [Act.put, List.setIfInBounds_toArray, List.set_cons_zero, List.set_cons_succ]
      refine hd_take 3 (o := ⟨some 25, _, _, _, _, _⟩) (.pointer (some ⟨R, 0, none⟩)) (by kernel_rfl) (by kernel_rfl) (by kernel_rfl) rfl (by rfl) (fun W hSw => by go_simp) (fun _ _ _ h => h) HS7.out ?_
      simp only [Act.put, List.setIfInBounds_toArray, List.set_cons_zero, List.set_cons_succ]
      refine hd_take 5 (o := ⟨some 27, _, _, _, _, _⟩) (.agg #[.int .i64 s, .int .i64 (-1), .int .i64 0, .int .i64 0, .int .i64 0, .bool false, .int .u32 0, .int .u32 0, .int .u32 0, .int .u32 0, .int .u32 0, .int .u32 0, .int .u32 0, .int .u32 0, .int .u32 0, .int .i64 (pt q.f), .int .i64 (pt q.e), .int .i64 (pt q.x), .int .i64 0, .int .i64 0, .int .i64 0]) (by kernel_rfl) (by kernel_rfl) (by kernel_rfl) rfl (by rfl) (fun W hSw => by exact run_loadT Tryz.underlying46 rfl (Er.new s (-1) q.bnd).head (by rw [head_len]; exact infoE) _ rfl ⟨N, 0, none⟩ rfl hSw.2.hcell) (fun _ _ _ h => h) HS7.out ?_
      simp only [Act.put, List.setIfInBounds_toArray, List.set_cons_zero, List.set_cons_succ]
      refine hd_take 6 (o := ⟨some 28, _, _, _, _, _⟩) (.agg #[.int .i64 0, .int .i64 s, .int .i64 (-1), .int .i64 0, .int .i64 0, .int .i64 0, .bool false, .int .u32 0, .int .u32 0, .int .u32 0, .int .u32 0, .int .u32 0, .int .u32 0, .int .u32 0, .int .u32 0, .int .u32 0, .int .i64 (pt q.f), .int .i64 (pt q.e), .int .i64 (pt q.x), .int .i64 0, .int .i64 0, .int .i64 0, .int .i64 0, .int .i64 0, .int .i64 0]) (by kernel_rfl) (by kernel_rfl) (by kernel_rfl) rfl (by rfl) (fun W hSw => by go_simp) (fun _ _ _ h => h) HS7.out ?_
      simp only [Act.put, List.setIfInBounds_toArray, List.set_cons_zero, List.set_cons_succ]
      refine hd_both 4 7 (o1 := ⟨some 26, _, _, _, _, _⟩) (o2 := ⟨some 29, _, _, _, _, _⟩) (by kernel_rfl) rfl rfl (by rfl) (by rfl) (fun K' hK => ?_) (fun K' hK => ?_)
      · skip
        go_simp
        refine hK _ _ HS7.out ?_
        clear hK K'
        try simp only [Act.put, List.setIfInBounds_toArray, List.set_cons_zero, List.set_cons_succ]
        refine hd_call 7 (o := ⟨some 29, _, _, _, _, _⟩) (by kernel_rfl) rfl (by rfl) (fun K' hK => ?_)
        go_simp
        refine hK _ _ HS8.out ?_
        clear hK K'
        try simp only [Act.put, List.setIfInBounds_toArray, List.set_cons_zero, List.set_cons_succ]
        refine hd_call 8 (o := ⟨some 30, _, _, _, _, _⟩) (by kernel_rfl) rfl (by rfl) (fun K' hK => ?_)
        refine oper_append _ _ 81 rfl w.heap.size 85 iR (.agg (encW1 (0, Er.nil)).toArray) 25 160 Tryz.underlying81 hiR hzR hsR hbR rfl (by decide) (.slice none 0 0) 0 [] rfl HO8.out ⟨w7.heap.size, 0, none⟩ 1 1 (encW1 (0, (Er.new s (-1) q.bnd))) rfl rfl HN8.out (encW1_one _) (by unfold maxLen; omega) (by omega) HZ8.out (fun v2 w9 ho9 hg9 hl9 => ?_)
        have ho9' : w9.ownsRow w.heap.size 85 25 v2 1 ([] ++ encW1 (0, (Er.new s (-1) q.bnd))) := ho9
        obtain ⟨a2, c2, rfl⟩ := own_shape ho9'
        have HP := hide (HApp.out (.slice a2 1 c2) w9 ho9 hg9 hl9)
        obtain ⟨q1, q2, q3⟩ := HC9.out w9 hg9
        have HS9 := hide q1
        have HS10 := hide (HSs.out w9 (.slice a2 1 c2) hg9)
        clear ho9 ho9' hg9 hl9 q1
        refine hK _ _ HS9.out ?_
        clear hK K'
        try simp only [Act.put, List.setIfInBounds_toArray, List.set_cons_zero, List.set_cons_succ]
        refine hd_take 9 (o := ⟨some 31, _, _, _, _, _⟩) (.pointer (some ⟨R, 0, none⟩)) (by kernel_rfl) (by kernel_rfl) (by kernel_rfl) rfl (by rfl) (fun W hSw => by go_simp) (fun _ _ _ h => h) HS9.out ?_
        simp only [Act.put, List.setIfInBounds_toArray, List.set_cons_zero, List.set_cons_succ]
        refine hd_take 10 (o := ⟨some 32, _, _, _, _, _⟩) (.pointer (some ⟨R, 0, none⟩)) (by kernel_rfl) (by kernel_rfl) (by kernel_rfl) rfl (by rfl) (fun W hSw => by go_simp) (fun _ _ _ h => h) HS9.out ?_
        simp only [Act.put, List.setIfInBounds_toArray, List.set_cons_zero, List.set_cons_succ]
        refine hd_call 11 (o := ⟨none, _, _, _, _, _⟩) (by kernel_rfl) rfl (by rfl) (fun K' hK => ?_)
        go_simp
        refine hK _ _ HS10.out ?_
        clear hK K'
        try simp only [Act.put]
        refine wpAnyH_done (by kernel_rfl) ?_ _
        clear HS9 HS10 q2 q3
        generalize w9.setCell ⟨R, 0, none⟩ (.slice a2 1 c2) = w10 at *
        go_wp2
        go_ret
        obtain ⟨F, p1, p2, p3⟩ := HP.out
        exact ⟨R, F, rfl, p1, p2, p3⟩
      · skip
        go_simp
        refine hK _ _ HS8.out ?_
        clear hK K'
        try simp only [Act.put, List.setIfInBounds_toArray, List.set_cons_zero, List.set_cons_succ]
        refine hd_call 4 (o := ⟨some 26, _, _, _, _, _⟩) (by kernel_rfl) rfl (by rfl) (fun K' hK => ?_)
        go_simp
        refine hK _ _ HS8.out ?_
        clear hK K'
        try simp only [Act.put, List.setIfInBounds_toArray, List.set_cons_zero, List.set_cons_succ]
        refine hd_call 8 (o := ⟨some 30, _, _, _, _, _⟩) (by kernel_rfl) rfl (by rfl) (fun K' hK => ?_)
        refine oper_append _ _ 81 rfl w.heap.size 85 iR (.agg (encW1 (0, Er.nil)).toArray) 25 160 Tryz.underlying81 hiR hzR hsR hbR rfl (by decide) (.slice none 0 0) 0 [] rfl HO8.out ⟨w7.heap.size, 0, none⟩ 1 1 (encW1 (0, (Er.new s (-1) q.bnd))) rfl rfl HN8.out (encW1_one _) (by unfold maxLen; omega) (by omega) HZ8.out (fun v2 w9 ho9 hg9 hl9 => ?_)
        have ho9' : w9.ownsRow w.heap.size 85 25 v2 1 ([] ++ encW1 (0, (Er.new s (-1) q.bnd))) := ho9
        obtain ⟨a2, c2, rfl⟩ := own_shape ho9'
        have HP := hide (HApp.out (.slice a2 1 c2) w9 ho9 hg9 hl9)
        obtain ⟨q1, q2, q3⟩ := HC9.out w9 hg9
        have HS9 := hide q1
        have HS10 := hide (HSs.out w9 (.slice a2 1 c2) hg9)
        clear ho9 ho9' hg9 hl9 q1
        refine hK _ _ HS9.out ?_
        clear hK K'
        try simp only [Act.put, List.setIfInBounds_toArray, List.set_cons_zero, List.set_cons_succ]
        refine hd_take 9 (o := ⟨some 31, _, _, _, _, _⟩) (.pointer (some ⟨R, 0, none⟩)) (by kernel_rfl) (by kernel_rfl) (by kernel_rfl) rfl (by rfl) (fun W hSw => by go_simp) (fun _ _ _ h => h) HS9.out ?_
        simp only [Act.put, List.setIfInBounds_toArray, List.set_cons_zero, List.set_cons_succ]
        refine hd_take 10 (o := ⟨some 32, _, _, _, _, _⟩) (.pointer (some ⟨R, 0, none⟩)) (by kernel_rfl) (by kernel_rfl) (by kernel_rfl) rfl (by rfl) (fun W hSw => by go_simp) (fun _ _ _ h => h) HS9.out ?_
        simp only [Act.put, List.setIfInBounds_toArray, List.set_cons_zero, List.set_cons_succ]
        refine hd_call 11 (o := ⟨none, _, _, _, _, _⟩) (by kernel_rfl) rfl (by rfl) (fun K' hK => ?_)
        go_simp
        refine hK _ _ HS10.out ?_
        clear hK K'
        try simp only [Act.put]
        refine wpAnyH_done (by kernel_rfl) ?_ _
        clear HS9 HS10 q2 q3
        generalize w9.setCell ⟨R, 0, none⟩ (.slice a2 1 c2) = w10 at *
        go_wp2
        go_ret
        obtain ⟨F, p1, p2, p3⟩ := HP.out
        exact ⟨R, F, rfl, p1, p2, p3⟩
  · skip
    go_simp
    refine hK _ _ HX4.out ?_
    clear hK K'
    try simp only [Act.put, List.setIfInBounds_toArray, List.set_cons_zero, List.set_cons_succ]
    refine hd_call 3 (o := ⟨some 13, _, _, _, _, _⟩) (by kernel_rfl) rfl (by rfl) (fun K' hK => ?_)
    go_simp
    go_wp2_with (go_at_call 58; refine (partD_any _ q.f).mono ?_; rintro e1 w9 ⟨rfl, hw9⟩; cases hw9)
    refine hK _ _ HX4.out ?_
    clear hK K'
    try simp only [Act.put, List.setIfInBounds_toArray, List.set_cons_zero, List.set_cons_succ]
    refine hd_call 6 (o := ⟨some 16, _, _, _, _, _⟩) (by kernel_rfl) rfl (by rfl) (fun K' hK => ?_)
    go_simp
    go_wp2_with (go_at_call 58; refine (partD_any _ q.e).mono ?_; rintro e1 w9 ⟨rfl, hw9⟩; cases hw9)
    refine hK _ _ HX4.out ?_
    clear hK K'
    try simp only [Act.put, List.setIfInBounds_toArray, List.set_cons_zero, List.set_cons_succ]
    refine hd_call 9 (o := ⟨some 19, _, _, _, _, _⟩) (by kernel_rfl) rfl (by rfl) (fun K' hK => ?_)
    go_simp
    go_wp2_with (go_at_call 58; refine (partD_any _ q.x).mono ?_; rintro e1 w9 ⟨rfl, hw9⟩; cases hw9)
    refine hK _ _ HX4.out ?_
    clear hK K'
    try simp only [Act.put, List.setIfInBounds_toArray, List.set_cons_zero, List.set_cons_succ]
    refine hd_take 10 (o := ⟨some 20, _, _, _, _, _⟩) (q.bnd.val) (by kernel_rfl) (by kernel_rfl) (by kernel_rfl) rfl (by rfl) (fun W hSw => by go_simp; rfl) (fun _ _ _ h => h) HX4.out ?_
    simp only [Act.put, List.setIfInBounds_toArray, List.set_cons_zero, List.set_cons_succ]
    refine hd_take 11 (o := ⟨some 21, _, _, _, _, _⟩) (.agg #[.int .i64 s, .int .i64 (-1), .int .i64 0, .int .i64 0, .int .i64 0, .bool false, .int .u32 0, .int .u32 0, .int .u32 0, .int .u32 0, .int .u32 0, .int .u32 0, .int .u32 0, .int .u32 0, .int .u32 0, .int .i64 (pt q.f), .int .i64 (pt q.e), .int .i64 (pt q.x), .int .i64 0, .int .i64 0, .int .i64 0]) (by kernel_rfl) (by kernel_rfl) (by kernel_rfl) rfl (by rfl) (fun W hSw => by unfold Qt.val Qt.bnd; go_simp) (fun _ _ _ h => h) HX4.out ?_
    simp only [Act.put, List.setIfInBounds_toArray, List.set_cons_zero, List.set_cons_succ]
    refine hd_call 13 (o := ⟨none, _, _, _, _, _⟩) (by kernel_rfl) rfl (by rfl) (fun K' hK => ?_)
    refine wp_storeT (t := 46) (Er.new s (-1) q.bnd).head (by rw [head_len]; exact infoE) (head_one _) _ _ rfl w3.heap.size 0 rfl rfl (there_row (cs := Er.nil.head) HN4.out (Nat.le_refl 21)) ?_
    refine hK _ _ HX5.out ?_
    clear hK K'
    try simp only [Act.put]
    refine wpAnyH_done (by kernel_rfl) ?_ _
    show Exit.then _ _ Exit.normal _ ((w3.alloc (.cells Er.nil.head.toArray 46)).setCells w3.heap.size 0 (Er.new s (-1) q.bnd).head)
    generalize hw6 : ((w3.alloc (.cells Er.nil.head.toArray 46)).setCells w3.heap.size 0 (Er.new s (-1) q.bnd).head) = w6 at *
    generalize hN : w3.heap.size = N at *
    clear hw6 hN
    go_upto_region 3 with fail
    refine wp_region_held_drew (S := fun W : World => (∃ u, W.heap[R]? = some (.cells #[u, .int .i64 s] 83 (0, 0))) ∧ Eb W N (Er.new s (-1) q.bnd)) (by kernel_rfl) ⟨⟨_, HR6.out⟩, ⟨HE6.out.out⟩⟩ (fun _ => ?_)
    generalize hw7 : w6.drew = w7
    have hb7 : Below w6.heap.size w6 w7 := by rw [← hw7]; exact below_drew _
    have HR7 : Hid (w7.heap[R]? = some (.cells #[.slice none 0 0, .int .i64 s] 83 (0, 0))) := hide (by rw [← hw7]; exact HR6.out)
    have HE7 : Hid (Eb w7 N (Er.new s (-1) q.bnd)) := hide (by rw [← hw7]; exact ⟨HE6.out.out⟩)
    have HB7 := hide (HB6.out.trans (hb7.mono HB6.out.size))
    have HS7 : Hid ((∃ u, w7.heap[R]? = some (.cells #[u, .int .i64 s] 83 (0, 0))) ∧ Eb w7 N (Er.new s (-1) q.bnd)) := hide ⟨⟨_, HR7.out⟩, HE7.out⟩
    have hRl : R < w7.heap.size := (Array.getElem?_eq_some_iff.1 HR7.out).1
    have hb8 := (Below.refl w7.heap.size w7).alloc (Nat.le_refl _) (.cells #[.int .i64 0, .int .i64 s, .int .i64 (-1), .int .i64 0, .int .i64 0, .int .i64 0, .bool false, .int .u32 0, .int .u32 0, .int .u32 0, .int .u32 0, .int .u32 0, .int .u32 0, .int .u32 0, .int .u32 0, .int .u32 0, .int .i64 (pt q.f), .int .i64 (pt q.e), .int .i64 (pt q.x), .int .i64 0, .int .i64 0, .int .i64 0, .int .i64 0, .int .i64 0, .int .i64 0] 85)
    have HR8 := hide ((hb8.block R hRl).trans HR7.out)
    have HE8 := hide (HE7.out.keep (hb8.block N HE7.out.lt))
    have HS8 : Hid ((∃ u, (w7.alloc (.cells #[.int .i64 0, .int .i64 s, .int .i64 (-1), .int .i64 0, .int .i64 0, .int .i64 0, .bool false, .int .u32 0, .int .u32 0, .int .u32 0, .int .u32 0, .int .u32 0, .int .u32 0, .int .u32 0, .int .u32 0, .int .u32 0, .int .i64 (pt q.f), .int .i64 (pt q.e), .int .i64 (pt q.x), .int .i64 0, .int .i64 0, .int .i64 0, .int .i64 0, .int .i64 0, .int .i64 0] 85)).heap[R]? = some (.cells #[u, .int .i64 s] 83 (0, 0))) ∧ Eb (w7.alloc (.cells #[.int .i64 0, .int .i64 s, .int .i64 (-1), .int .i64 0, .int .i64 0, .int .i64 0, .bool false, .int .u32 0, .int .u32 0, .int .u32 0, .int .u32 0, .int .u32 0, .int .u32 0, .int .u32 0, .int .u32 0, .int .u32 0, .int .i64 (pt q.f), .int .i64 (pt q.e), .int .i64 (pt q.x), .int .i64 0, .int .i64 0, .int .i64 0, .int .i64 0, .int .i64 0, .int .i64 0] 85)) N (Er.new s (-1) q.bnd)) := hide ⟨⟨_, HR8.out⟩, HE8.out⟩
    have hb8' := HB7.out.trans (hb8.mono HB7.out.size)
    have HN8 : Hid (∀ (j : Nat) (u : Value), (encW1 (0, (Er.new s (-1) q.bnd)))[j]? = some u → (w7.alloc (.cells #[.int .i64 0, .int .i64 s, .int .i64 (-1), .int .i64 0, .int .i64 0, .int .i64 0, .bool false, .int .u32 0, .int .u32 0, .int .u32 0, .int .u32 0, .int .u32 0, .int .u32 0, .int .u32 0, .int .u32 0, .int .u32 0, .int .i64 (pt q.f), .int .i64 (pt q.e), .int .i64 (pt q.x), .int .i64 0, .int .i64 0, .int .i64 0, .int .i64 0, .int .i64 0, .int .i64 0] 85)).cell? ((⟨w7.heap.size, 0, none⟩ : Addr).add j) = some u) := hide (row_cells (cs := encW1 (0, (Er.new s (-1) q.bnd))) (heap_alloc_new w7 (.cells #[.int .i64 0, .int .i64 s, .int .i64 (-1), .int .i64 0, .int .i64 0, .int .i64 0, .bool false, .int .u32 0, .int .u32 0, .int .u32 0, .int .u32 0, .int .u32 0, .int .u32 0, .int .u32 0, .int .u32 0, .int .u32 0, .int .i64 (pt q.f), .int .i64 (pt q.e), .int .i64 (pt q.x), .int .i64 0, .int .i64 0, .int .i64 0, .int .i64 0, .int .i64 0, .int .i64 0] 85)))
    have hsz8 : (w7.alloc (.cells #[.int .i64 0, .int .i64 s, .int .i64 (-1), .int .i64 0, .int .i64 0, .int .i64 0, .bool false, .int .u32 0, .int .u32 0, .int .u32 0, .int .u32 0, .int .u32 0, .int .u32 0, .int .u32 0, .int .u32 0, .int .u32 0, .int .i64 (pt q.f), .int .i64 (pt q.e), .int .i64 (pt q.x), .int .i64 0, .int .i64 0, .int .i64 0, .int .i64 0, .int .i64 0, .int .i64 0] 85)).heap.size = w7.heap.size + 1 := by simp
    have keepG : ∀ w9 b, (w7.alloc (.cells #[.int .i64 0, .int .i64 s, .int .i64 (-1), .int .i64 0, .int .i64 0, .int .i64 0, .bool false, .int .u32 0, .int .u32 0, .int .u32 0, .int .u32 0, .int .u32 0, .int .u32 0, .int .u32 0, .int .u32 0, .int .u32 0, .int .i64 (pt q.f), .int .i64 (pt q.e), .int .i64 (pt q.x), .int .i64 0, .int .i64 0, .int .i64 0, .int .i64 0, .int .i64 0, .int .i64 0] 85)).grownBy w9 (Value.ownBlock (.slice none 0 0)) → b < (w7.alloc (.cells #[.int .i64 0, .int .i64 s, .int .i64 (-1), .int .i64 0, .int .i64 0, .int .i64 0, .bool false, .int .u32 0, .int .u32 0, .int .u32 0, .int .u32 0, .int .u32 0, .int .u32 0, .int .u32 0, .int .u32 0, .int .u32 0, .int .i64 (pt q.f), .int .i64 (pt q.e), .int .i64 (pt q.x), .int .i64 0, .int .i64 0, .int .i64 0, .int .i64 0, .int .i64 0, .int .i64 0] 85)).heap.size → w9.heap[b]? = (w7.alloc (.cells #[.int .i64 0, .int .i64 s, .int .i64 (-1), .int .i64 0, .int .i64 0, .int .i64 0, .bool false, .int .u32 0, .int .u32 0, .int .u32 0, .int .u32 0, .int .u32 0, .int .u32 0, .int .u32 0, .int .u32 0, .int .u32 0, .int .i64 (pt q.f), .int .i64 (pt q.e), .int .i64 (pt q.x), .int .i64 0, .int .i64 0, .int .i64 0, .int .i64 0, .int .i64 0, .int .i64 0] 85)).heap[b]? := fun w9 b hg9 hb' => hg9.block b hb' (by simp [Value.ownBlock])
    have HC9 : Hid (∀ w9, (w7.alloc (.cells #[.int .i64 0, .int .i64 s, .int .i64 (-1), .int .i64 0, .int .i64 0, .int .i64 0, .bool false, .int .u32 0, .int .u32 0, .int .u32 0, .int .u32 0, .int .u32 0, .int .u32 0, .int .u32 0, .int .u32 0, .int .u32 0, .int .i64 (pt q.f), .int .i64 (pt q.e), .int .i64 (pt q.x), .int .i64 0, .int .i64 0, .int .i64 0, .int .i64 0, .int .i64 0, .int .i64 0] 85)).grownBy w9 (Value.ownBlock (.slice none 0 0)) → ((∃ u, w9.heap[R]? = some (.cells #[u, .int .i64 s] 83 (0, 0))) ∧ Eb w9 N (Er.new s (-1) q.bnd)) ∧ w9.cell? ⟨R, 0, none⟩ = some (.slice none 0 0) ∧ w9.frozen? ⟨R, 0, none⟩ = false) := hide (fun w9 hg9 => by
      have h1 := (keepG w9 R hg9 (by omega)).trans HR8.out
      exact ⟨⟨⟨_, h1⟩, HE8.out.keep (keepG w9 N hg9 HE8.out.lt)⟩, top_cell h1, frozen_of_row _ _ _ _ _ h1⟩)
    have HSs : Hid (∀ w9 v2, (w7.alloc (.cells #[.int .i64 0, .int .i64 s, .int .i64 (-1), .int .i64 0, .int .i64 0, .int .i64 0, .bool false, .int .u32 0, .int .u32 0, .int .u32 0, .int .u32 0, .int .u32 0, .int .u32 0, .int .u32 0, .int .u32 0, .int .u32 0, .int .i64 (pt q.f), .int .i64 (pt q.e), .int .i64 (pt q.x), .int .i64 0, .int .i64 0, .int .i64 0, .int .i64 0, .int .i64 0, .int .i64 0] 85)).grownBy w9 (Value.ownBlock (.slice none 0 0)) → (∃ u, (w9.setCell ⟨R, 0, none⟩ v2).heap[R]? = some (.cells #[u, .int .i64 s] 83 (0, 0))) ∧ Eb (w9.setCell ⟨R, 0, none⟩ v2) N (Er.new s (-1) q.bnd)) := hide (fun w9 v2 hg9 => ⟨⟨v2, by rw [heap_setCell_same _ R 0 _ _ v2 ((keepG w9 R hg9 (by omega)).trans HR8.out)]; rfl⟩, HE8.out.keep (by rw [heap_setCell_other _ _ _ _ HNR.out]; exact keepG w9 N hg9 HE8.out.lt)⟩)
    have HApp : Hid (∀ v2 w9, w9.ownsRow w.heap.size 85 25 v2 (0 + 1) ([] ++ encW1 (0, (Er.new s (-1) q.bnd))) → (w7.alloc (.cells #[.int .i64 0, .int .i64 s, .int .i64 (-1), .int .i64 0, .int .i64 0, .int .i64 0, .bool false, .int .u32 0, .int .u32 0, .int .u32 0, .int .u32 0, .int .u32 0, .int .u32 0, .int .u32 0, .int .u32 0, .int .u32 0, .int .i64 (pt q.f), .int .i64 (pt q.e), .int .i64 (pt q.x), .int .i64 0, .int .i64 0, .int .i64 0, .int .i64 0, .int .i64 0, .int .i64 0] 85)).grownBy w9 (Value.ownBlock (.slice none 0 0)) → (v2.ownBlock = (Value.slice none 0 0).ownBlock ∨ v2.ownBlock = some (w7.alloc (.cells #[.int .i64 0, .int .i64 s, .int .i64 (-1), .int .i64 0, .int .i64 0, .int .i64 0, .bool false, .int .u32 0, .int .u32 0, .int .u32 0, .int .u32 0, .int .u32 0, .int .u32 0, .int .u32 0, .int .u32 0, .int .u32 0, .int .i64 (pt q.f), .int .i64 (pt q.e), .int .i64 (pt q.x), .int .i64 0, .int .i64 0, .int .i64 0, .int .i64 0, .int .i64 0, .int .i64 0] 85)).heap.size) → ∃ F, RtA R ((List.replicate 16 none).set 0 (some (Er.new s (-1) q.bnd))) s (w9.setCell ⟨R, 0, none⟩ v2) F ∧ (∀ b, F b → w.heap.size ≤ b) ∧ Below w.heap.size w (w9.setCell ⟨R, 0, none⟩ v2)) := hide (fun v2 w9 ho9 hg9 hl9 => by
      have hR2 : v2.ownBlock ≠ some R := fun e => by
        rcases hl9 with h1 | h1
        · rw [h1] at e; simp [Value.ownBlock] at e
        · rw [h1] at e; simp only [Option.some.injEq] at e; omega
      refine ⟨fun b => b = R ∨ v2.ownBlock = some b, ⟨v2, [(0, (Er.new s (-1) q.bnd))], ⟨?_, ?_, hR2⟩, ag_first s q, fun b => Iff.rfl⟩, ?_, ?_⟩
      · rw [heap_setCell_same _ R 0 _ _ v2 ((keepG w9 R hg9 (by omega)).trans HR8.out)]; rfl
      · have h1 : encW [((0 : Nat), (Er.new s (-1) q.bnd))] = [] ++ encW1 (0, (Er.new s (-1) q.bnd)) := by simp [encW]
        rw [h1]
        exact ownsRow_keep (own_low ho9 (Nat.zero_le _)) (fun b hb' => heap_setCell_other _ _ _ _ (fun e => hR2 (by rw [← (show b = R from e)]; exact hb')))
      · rintro b (rfl | e)
        · exact HRw.out
        · exact (World.ownsRow.lt ho9 b e).1
      · exact (hb8'.grown hg9 hb8'.size (fun b hb' => by simp [Value.ownBlock] at hb')).setCell (p := ⟨R, 0, none⟩) HRw.out _)
    have c7 := top_cell HR7.out
    have c8 := top_cell HR8.out
    have HO8 : Hid ((w7.alloc (.cells #[.int .i64 0, .int .i64 s, .int .i64 (-1), .int .i64 0, .int .i64 0, .int .i64 0, .bool false, .int .u32 0, .int .u32 0, .int .u32 0, .int .u32 0, .int .u32 0, .int .u32 0, .int .u32 0, .int .u32 0, .int .u32 0, .int .i64 (pt q.f), .int .i64 (pt q.e), .int .i64 (pt q.x), .int .i64 0, .int .i64 0, .int .i64 0, .int .i64 0, .int .i64 0, .int .i64 0] 85)).ownsRow w.heap.size 85 25 (.slice none 0 0) 0 []) := hide (World.ownsRow_nil _ _ _ _)
    have HZ8 : Hid (w.heap.size ≤ (w7.alloc (.cells #[.int .i64 0, .int .i64 s, .int .i64 (-1), .int .i64 0, .int .i64 0, .int .i64 0, .bool false, .int .u32 0, .int .u32 0, .int .u32 0, .int .u32 0, .int .u32 0, .int .u32 0, .int .u32 0, .int .u32 0, .int .u32 0, .int .i64 (pt q.f), .int .i64 (pt q.e), .int .i64 (pt q.x), .int .i64 0, .int .i64 0, .int .i64 0, .int .i64 0, .int .i64 0, .int .i64 0] 85)).heap.size) := hide hb8'.size
    obtain ⟨iR, hiR, hzR, hsR, hbR⟩ := infoRow
    clear hw7 hb7 hRl hb8 hb8' keepG hsz8 HR6 HE6 HB6 HR7 HE7 HB7 HR8 HE8
    refine hd_take 0 (o := ⟨some 22, _, _, _, _, _⟩) (.pointer (some ⟨R, 0, none⟩)) (by kernel_rfl) (by kernel_rfl) (by kernel_rfl) rfl (by rfl) (fun W hSw => by go_simp) (fun _ _ _ h => h) HS7.out ?_
    simp only [Act.put, List.setIfInBounds_toArray, List.set_cons_zero, List.set_cons_succ]
    refine hd_take 1 (o := ⟨some 23, _, _, _, _, _⟩) (.pointer (some ⟨R, 0, none⟩)) (by kernel_rfl) (by kernel_rfl) (by kernel_rfl) rfl (by rfl) (fun W hSw => by go_simp) (fun _ _ _ h => h) HS7.out ?_
    simp only [Act.put, List.setIfInBounds_toArray, List.set_cons_zero, List.set_cons_succ]
    refine hd_take 2 (o := ⟨some 24, _, _, _, _, _⟩) (.pointer (some ⟨R, 0, none⟩)) (by kernel_rfl) (by kernel_rfl) (by kernel_rfl) rfl (by rfl) (fun W hSw => by go_simp) (fun _ _ _ h => h) HS7.out ?_
    simp only [Act.put, List.setIfInBounds_toArray, List.set_cons_zero, List.set_cons_succ]
    refine hd_take 3 (o := ⟨some 25, _, _, _, _, _⟩) (.pointer (some ⟨R, 0, none⟩)) (by kernel_rfl) (by kernel_rfl) (by kernel_rfl) rfl (by rfl) (fun W hSw => by go_simp) (fun _ _ _ h => h) HS7.out ?_
    simp only [Act.put, List.setIfInBounds_toArray, List.set_cons_zero, List.set_cons_succ]
    refine hd_take 5 (o := ⟨some 27, _, _, _, _, _⟩) (.agg #[.int .i64 s, .int .i64 (-1), .int .i64 0, .int .i64 0, .int .i64 0, .bool false, .int .u32 0, .int .u32 0, .int .u32 0, .int .u32 0, .int .u32 0, .int .u32 0, .int .u32 0, .int .u32 0, .int .u32 0, .int .i64 (pt q.f), .int .i64 (pt q.e), .int .i64 (pt q.x), .int .i64 0, .int .i64 0, .int .i64 0]) (by kernel_rfl) (by kernel_rfl) (by kernel_rfl) rfl (by rfl) (fun W hSw => by exact run_loadT Tryz.underlying46 rfl (Er.new s (-1) q.bnd).head (by rw [head_len]; exact infoE) _ rfl ⟨N, 0, none⟩ rfl hSw.2.hcell) (fun _ _ _ h => h) HS7.out ?_
    simp only [Act.put, List.setIfInBounds_toArray, List.set_cons_zero, List.set_cons_succ]
    refine hd_take 6 (o := ⟨some 28, _, _, _, _, _⟩) (.agg #[.int .i64 0, .int .i64 s, .int .i64 (-1), .int .i64 0, .int .i64 0, .int .i64 0, .bool false, .int .u32 0, .int .u32 0, .int .u32 0, .int .u32 0, .int .u32 0, .int .u32 0, .int .u32 0, .int .u32 0, .int .u32 0, .int .i64 (pt q.f), .int .i64 (pt q.e), .int .i64 (pt q.x), .int .i64 0, .int .i64 0, .int .i64 0, .int .i64 0, .int .i64 0, .int .i64 0]) (by kernel_rfl) (by kernel_rfl) (by kernel_rfl) rfl (by rfl) (fun W hSw => by go_simp) (fun _ _ _ h => h) HS7.out ?_
    simp only [Act.put, List.setIfInBounds_toArray, List.set_cons_zero, List.set_cons_succ]
    refine hd_both 4 7 (o1 := ⟨some 26, _, _, _, _, _⟩) (o2 := ⟨some 29, _, _, _, _, _⟩) (by kernel_rfl) rfl rfl (by rfl) (by rfl) (fun K' hK => ?_) (fun K' hK => ?_)
    · skip
      go_simp
      refine hK _ _ HS7.out ?_
      clear hK K'
      try simp only [Act.put, List.setIfInBounds_toArray, List.set_cons_zero, List.set_cons_succ]
      refine hd_call 7 (o := ⟨some 29, _, _, _, _, _⟩) (by kernel_rfl) rfl (by rfl) (fun K' hK => ?_)
      go_simp
      refine hK _ _ HS8.out ?_
      clear hK K'
      try simp only [Act.put, List.setIfInBounds_toArray, List.set_cons_zero, List.set_cons_succ]
      refine hd_call 8 (o := ⟨some 30, _, _, _, _, _⟩) (by kernel_rfl) rfl (by rfl) (fun K' hK => ?_)
      refine oper_append _ _ 81 rfl w.heap.size 85 iR (.agg (encW1 (0, Er.nil)).toArray) 25 160 Tryz.underlying81 hiR hzR hsR hbR rfl (by decide) (.slice none 0 0) 0 [] rfl HO8.out ⟨w7.heap.size, 0, none⟩ 1 1 (encW1 (0, (Er.new s (-1) q.bnd))) rfl rfl HN8.out (encW1_one _) (by unfold maxLen; omega) (by omega) HZ8.out (fun v2 w9 ho9 hg9 hl9 => ?_)
      have ho9' : w9.ownsRow w.heap.size 85 25 v2 1 ([] ++ encW1 (0, (Er.new s (-1) q.bnd))) := ho9
      obtain ⟨a2, c2, rfl⟩ := own_shape ho9'
      have HP := hide (HApp.out (.slice a2 1 c2) w9 ho9 hg9 hl9)
      obtain ⟨q1, q2, q3⟩ := HC9.out w9 hg9
      have HS9 := hide q1
      have HS10 := hide (HSs.out w9 (.slice a2 1 c2) hg9)
      clear ho9 ho9' hg9 hl9 q1
      refine hK _ _ HS9.out ?_
      clear hK K'
      try simp only [Act.put, List.setIfInBounds_toArray, List.set_cons_zero, List.set_cons_succ]
      refine hd_take 9 (o := ⟨some 31, _, _, _, _, _⟩) (.pointer (some ⟨R, 0, none⟩)) (by kernel_rfl) (by kernel_rfl) (by kernel_rfl) rfl (by rfl) (fun W hSw => by go_simp) (fun _ _ _ h => h) HS9.out ?_
      simp only [Act.put, List.setIfInBounds_toArray, List.set_cons_zero, List.set_cons_succ]
      refine hd_take 10 (o := ⟨some 32, _, _, _, _, _⟩) (.pointer (some ⟨R, 0, none⟩)) (by kernel_rfl) (by kernel_rfl) (by kernel_rfl) rfl (by rfl) (fun W hSw => by go_simp) (fun _ _ _ h => h) HS9.out ?_
      simp only [Act.put, List.setIfInBounds_toArray, List.set_cons_zero, List.set_cons_succ]
      refine hd_call 11 (o := ⟨none, _, _, _, _, _⟩) (by kernel_rfl) rfl (by rfl) (fun K' hK => ?_)
      go_simp
      refine hK _ _ HS10.out ?_
      clear hK K'
      try simp only [Act.put]
      refine wpAnyH_done (by kernel_rfl) ?_ _
      clear HS9 HS10 q2 q3
      generalize w9.setCell ⟨R, 0, none⟩ (.slice a2 1 c2) = w10 at *
      go_wp2
      go_ret
      obtain ⟨F, p1, p2, p3⟩ := HP.out
      exact ⟨R, F, rfl, p1, p2, p3⟩
    · skip
      go_simp
      refine hK _ _ HS8.out ?_
      clear hK K'
      try simp only [Act.put, List.setIfInBounds_toArray, List.set_cons_zero, List.set_cons_succ]
      refine hd_call 4 (o := ⟨some 26, _, _, _, _, _⟩) (by kernel_rfl) rfl (by rfl) (fun K' hK => ?_)
      go_simp
      refine hK _ _ HS8.out ?_
      clear hK K'
      try simp only [Act.put, List.setIfInBounds_toArray, List.set_cons_zero, List.set_cons_succ]
      refine hd_call 8 (o := ⟨some 30, _, _, _, _, _⟩) (by kernel_rfl) rfl (by rfl) (fun K' hK => ?_)
      refine oper_append _ _ 81 rfl w.heap.size 85 iR (.agg (encW1 (0, Er.nil)).toArray) 25 160 Tryz.underlying81 hiR hzR hsR hbR rfl (by decide) (.slice none 0 0) 0 [] rfl HO8.out ⟨w7.heap.size, 0, none⟩ 1 1 (encW1 (0, (Er.new s (-1) q.bnd))) rfl rfl HN8.out (encW1_one _) (by unfold maxLen; omega) (by omega) HZ8.out (fun v2 w9 ho9 hg9 hl9 => ?_)
      have ho9' : w9.ownsRow w.heap.size 85 25 v2 1 ([] ++ encW1 (0, (Er.new s (-1) q.bnd))) := ho9
      obtain ⟨a2, c2, rfl⟩ := own_shape ho9'
      have HP := hide (HApp.out (.slice a2 1 c2) w9 ho9 hg9 hl9)
      obtain ⟨q1, q2, q3⟩ := HC9.out w9 hg9
      have HS9 := hide q1
      have HS10 := hide (HSs.out w9 (.slice a2 1 c2) hg9)
      clear ho9 ho9' hg9 hl9 q1
      refine hK _ _ HS9.out ?_
      clear hK K'
      try simp only [Act.put, List.setIfInBounds_toArray, List.set_cons_zero, List.set_cons_succ]
      refine hd_take 9 (o := ⟨some 31, _, _, _, _, _⟩) (.pointer (some ⟨R, 0, none⟩)) (by kernel_rfl) (by kernel_rfl) (by kernel_rfl) rfl (by rfl) (fun W hSw => by go_simp) (fun _ _ _ h => h) HS9.out ?_
      simp only [Act.put, List.setIfInBounds_toArray, List.set_cons_zero, List.set_cons_succ]
      refine hd_take 10 (o := ⟨some 32, _, _, _, _, _⟩) (.pointer (some ⟨R, 0, none⟩)) (by kernel_rfl) (by kernel_rfl) (by kernel_rfl) rfl (by rfl) (fun W hSw => by go_simp) (fun _ _ _ h => h) HS9.out ?_
      simp only [Act.put, List.setIfInBounds_toArray, List.set_cons_zero, List.set_cons_succ]
      refine hd_call 11 (o := ⟨none, _, _, _, _, _⟩) (by kernel_rfl) rfl (by rfl) (fun K' hK => ?_)
      go_simp
      refine hK _ _ HS10.out ?_
      clear hK K'
      try simp only [Act.put]
      refine wpAnyH_done (by kernel_rfl) ?_ _
      clear HS9 HS10 q2 q3
      generalize w9.setCell ⟨R, 0, none⟩ (.slice a2 1 c2) = w10 at *
      go_wp2
      go_ret
      obtain ⟨F, p1, p2, p3⟩ := HP.out
      exact ⟨R, F, rfl, p1, p2, p3⟩
end Go.Proofs.YtbocpmcodlceoaaGreat
