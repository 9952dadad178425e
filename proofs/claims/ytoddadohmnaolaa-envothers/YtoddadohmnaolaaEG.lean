import Derived.Test.YtoddadohmnaolaaEF
namespace Go.Proofs.Ytoddadohmnaolaa
open Go.RowKit

set_option maxRecDepth 8000 in
set_option maxHeartbeats 3200000 in
theorem carve_any (w : World) (b : Nat) (r : Er) (h : Rb w b r) (q : Qt) (hq : q.ok) (hr : r.le.ok) : Calls Try.prog 47 #[.pointer (some ⟨b, 21, none⟩), q.val] w fun e w' => e = .returned (.tuple #[]) ∧ Rb w' b { r with le := r.le.less q } ∧ At w b w' := by
  have hb1 := (Below.refl w.heap.size w).alloc (Nat.le_refl _) (.cells #[.int .i64 q.f, .int .i64 q.e, .int .i64 q.x] 39)
  have a1 := heap_alloc_new w (.cells #[.int .i64 q.f, .int .i64 q.e, .int .i64 q.x] 39)
  have hR := h.keep (hb1.block b h.lt)
  have HA1 := hide (At.of_below (b := b) hb1)
  have HNE : Hid (w.heap.size ≠ b) := hide (fun e => by have := h.lt; omega)
  have HC := hide (fun W => less_any W r.le q hr hq)
  clear h hb1 hq hr
  unfold Qt.val at *
  simp only [Qt.less] at HC
  go_enter Try.func47, Try.ntmps47
  go_upto_region 1 with fail
  generalize w.alloc (.cells #[.int .i64 q.f, .int .i64 q.e, .int .i64 q.x] 39) = w1 at *
  obtain ⟨N, hN⟩ : ∃ N, w.heap.size = N := ⟨_, rfl⟩
  rw [hN] at a1 HNE ⊢
  clear hN
  obtain ⟨w3, hw3⟩ : ∃ w3, w3 = w1.drew := ⟨_, rfl⟩
  have hR3 : Rb w3 b r := by rw [hw3]; exact ⟨hR.out⟩
  have a3 : w3.heap[N]? = some (.cells #[.int .i64 q.f, .int .i64 q.e, .int .i64 q.x] 39 (0, 0)) := by rw [hw3]; exact a1
  have HA3 : Hid (At w b w3) := by rw [hw3]; exact ⟨HA1.out.os, HA1.out.tape, HA1.out.output, HA1.out.size, HA1.out.block⟩
  have d0 := hR3.get (j := 24) rfl
  have d1 := hR3.get (j := 25) rfl
  have d2 := hR3.get (j := 26) rfl
  have HR3 := hide hR3
  have HA := hide a3
  clear hR hR3 a1 HA1
  refine wp_region_held_drew (S := fun W => W.heap[N]? = some (.cells #[.int .i64 q.f, .int .i64 q.e, .int .i64 q.x] 39 (0, 0))) (by kernel_rfl) (by rw [← hw3]; exact a3) (fun _ => ?_)
  rw [← hw3]
  clear hw3 a3
  refine hd_take 0 (o := ⟨some 4, _, _, _, _, _⟩) (.pointer (some ⟨b, 21, none⟩)) (by kernel_rfl) (by kernel_rfl) (by kernel_rfl) rfl (by rfl) (fun W hSw => by go_simp) (fun _ _ _ h => h) HA.out ?_
  simp only [Act.put, List.setIfInBounds_toArray, List.set_cons_zero, List.set_cons_succ]
  refine hd_take 1 (o := ⟨some 5, _, _, _, _, _⟩) (.pointer (some ⟨b, 21, none⟩)) (by kernel_rfl) (by kernel_rfl) (by kernel_rfl) rfl (by rfl) (fun W hSw => by go_simp) (fun _ _ _ h => h) HA.out ?_
  simp only [Act.put, List.setIfInBounds_toArray, List.set_cons_zero, List.set_cons_succ]
  refine hd_take 2 (o := ⟨some 6, _, _, _, _, _⟩) (.pointer (some ⟨b, 21, none⟩)) (by kernel_rfl) (by kernel_rfl) (by kernel_rfl) rfl (by rfl) (fun W hSw => by go_simp) (fun _ _ _ h => h) HA.out ?_
  simp only [Act.put, List.setIfInBounds_toArray, List.set_cons_zero, List.set_cons_succ]
  refine hd_take 3 (o := ⟨some 7, _, _, _, _, _⟩) (.pointer (some ⟨b, 24, none⟩)) (by kernel_rfl) (by kernel_rfl) (by kernel_rfl) rfl (by rfl) (fun W hSw => by go_simp) (fun _ _ _ h => h) HA.out ?_
  simp only [Act.put, List.setIfInBounds_toArray, List.set_cons_zero, List.set_cons_succ]
  refine hd_take 5 (o := ⟨some 9, _, _, _, _, _⟩) (.agg #[.int .i64 q.f, .int .i64 q.e, .int .i64 q.x]) (by kernel_rfl) (by kernel_rfl) (by kernel_rfl) rfl (by rfl) (fun W hSw => by obtain ⟨c0, c1, c2, -, -, -⟩ := blk3 hSw; go_simp) (fun _ _ _ h => h) HA.out ?_
  simp only [Act.put, List.setIfInBounds_toArray, List.set_cons_zero, List.set_cons_succ]
  refine hd_call 4 (o := ⟨some 8, _, _, _, _, _⟩) (by kernel_rfl) rfl (by rfl) (fun K hK => ?_)
  go_simp
  refine hK _ _ HA.out ?_
  clear hK K
  try simp only [Act.put, List.setIfInBounds_toArray, List.set_cons_zero, List.set_cons_succ]
  refine hd_call 6 (o := ⟨some 10, _, _, _, _, _⟩) (by kernel_rfl) rfl (by rfl) (fun K hK => ?_)
  go_simp
  go_wp2_with (go_at_call 63; refine (HC.out _).mono ?_; rintro e1 w9 ⟨rfl, hb9⟩)
  have HA9 : Hid (w9.heap[N]? = some (.cells #[.int .i64 q.f, .int .i64 q.e, .int .i64 q.x] 39 (0, 0))) := hide ((hb9.block N (Array.getElem?_eq_some_iff.1 HA.out).1).trans HA.out)
  have hR9 : Rb w9 b r := HR3.out.keep (hb9.block b HR3.out.lt)
  have HAt9 := hide (HA3.out.below hb9)
  clear hb9 d0 d1 d2
  refine hK _ _ HA9.out ?_
  clear hK K
  try simp only [Act.put, List.setIfInBounds_toArray, List.set_cons_zero, List.set_cons_succ]
  refine hd_take 7 (o := ⟨some 11, _, _, _, _, _⟩) (.pointer (some ⟨b, 21, none⟩)) (by kernel_rfl) (by kernel_rfl) (by kernel_rfl) rfl (by rfl) (fun W hSw => by go_simp) (fun _ _ _ h => h) HA9.out ?_
  simp only [Act.put, List.setIfInBounds_toArray, List.set_cons_zero, List.set_cons_succ]
  refine hd_take 8 (o := ⟨some 12, _, _, _, _, _⟩) (.pointer (some ⟨b, 24, none⟩)) (by kernel_rfl) (by kernel_rfl) (by kernel_rfl) rfl (by rfl) (fun W hSw => by go_simp) (fun _ _ _ h => h) HA9.out ?_
  simp only [Act.put, List.setIfInBounds_toArray, List.set_cons_zero, List.set_cons_succ]
  have d0 := hR9.get (j := 24) rfl
  have d1 := hR9.get (j := 25) rfl
  have d2 := hR9.get (j := 26) rfl
  have f0 := hR9.frz 24
  have f1 := hR9.frz 25
  have f2 := hR9.frz 26
  have HR9 := hide hR9
  clear hR9
  refine hd_call 9 (o := ⟨none, _, _, _, _, _⟩) (by kernel_rfl) rfl (by rfl) (fun K hK => ?_)
  go_simp
  refine hK _ _ (by rw [heap_setCell_other _ _ _ _ HNE.out, heap_setCell_other _ _ _ _ HNE.out, heap_setCell_other _ _ _ _ HNE.out]; exact HA9.out) ?_
  clear hK K
  refine wpAnyH_done (by kernel_rfl) ?_ _
  have HF : Hid (Rb (((w9.setCell ⟨b, 24, none⟩ (.int .i64 (r.le.f - q.f))).setCell ⟨b, 25, none⟩ (.int .i64 (r.le.e - q.e))).setCell ⟨b, 26, none⟩ (.int .i64 (r.le.x - q.x))) b { r with le := r.le.less q }) :=
    hide (Rb.set (e := { r with le := ⟨r.le.f - q.f, r.le.e - q.e, r.le.x⟩ }) (Rb.set (e := { r with le := ⟨r.le.f - q.f, r.le.e, r.le.x⟩ }) (HR9.out.set rfl) rfl) rfl)
  have HG := hide (((HAt9.out.set 24 (.int .i64 (r.le.f - q.f))).set 25 (.int .i64 (r.le.e - q.e))).set 26 (.int .i64 (r.le.x - q.x)))
  go_wp2
  go_end0
  exact ⟨rfl, HF.out, HG.out⟩
end Go.Proofs.Ytoddadohmnaolaa
