import Derived.Test.YtoddadohmnaolaaEG
namespace Go.Proofs.Ytoddadohmnaolaa
open Go.RowKit

/-- a table with nothing in it -/
theorem et_bare (serial : Int) {w2 : World} (S : Nat) (G : Nat → Prop) (hT : Tab KL w2 G S (List.replicate 16 none)) :
    EtAt (w2.alloc (.cells #[.pointer (some ⟨S, 0, none⟩), .int .i64 serial] 77)) (fun b => G b ∨ b = w2.heap.size) w2.heap.size S G (List.replicate 16 none) (List.replicate 16 none) serial where
  top := heap_alloc_new _ _
  tab := hT.keep (by simp) (fun b hb => by
    have hlt := hT.lt b hb
    exact ((Below.refl w2.heap.size w2).alloc (Nat.le_refl _) _).block b hlt)
  len := by simp
  rlen := by simp
  free := fun i hi => by
    have hl : i < 16 := by have := (List.getElem?_eq_some_iff.1 hi).1; simpa using this
    rw [List.getElem?_replicate, if_pos hl]
  held := fun i b hi => by
    rw [List.getElem?_replicate] at hi
    split at hi <;> cases hi
  fT := .inr rfl
  fG := fun b hb => ⟨.inl hb, fun e => by have := hT.lt b hb; omega⟩
  own := fun i b hi => by
    rw [List.getElem?_replicate] at hi
    split at hi <;> cases hi
  dis := fun i j b hi _ => by
    rw [List.getElem?_replicate] at hi
    split at hi <;> cases hi
  lt := fun b hb => by
    rcases hb with hb | rfl
    · have := hT.lt b hb; simp; omega
    · simp
set_option maxRecDepth 8000 in
set_option maxHeartbeats 3200000 in
theorem new_any (w : World) (serial : Int) (q : Qt) : Calls Try.prog 31 #[.int .i64 serial, q.val] w fun e w' => ∃ T, e = .returned (.pointer (some ⟨T, 0, none⟩)) ∧ ∃ F, Et w' F T ((List.replicate 16 none).set 0 (some (Er.new serial (-1) q.bnd))) serial ∧ (∀ b, F b → w.heap.size ≤ b) ∧ Below w.heap.size w w' := by
  have hb1 := (Below.refl w.heap.size w).alloc (Nat.le_refl _) (.cells #[.int .i64 q.f, .int .i64 q.e, .int .i64 q.x] 39)
  have a1 := heap_alloc_new w (.cells #[.int .i64 q.f, .int .i64 q.e, .int .i64 q.x] 39)
  have HB1 := hide hb1
  have HA1 := hide a1
  clear hb1 a1
  have HC6 := hide (fun W => bounded_any W q)
  have HC7 := hide (fun W => newRecord_any W serial (-1) q.bnd)
  generalize q.bnd = qb at *
  unfold Qt.val at *
  go_enter Try.func31, Try.ntmps31
  go_upto_region 1 with fail
  generalize w.alloc (.cells #[.int .i64 q.f, .int .i64 q.e, .int .i64 q.x] 39) = w1 at *
  go_wp2_with fail
  refine (newL_any w1).mono ?_
  rintro e1 w2 ⟨rfl, hT, hb2⟩
  obtain ⟨G, hG⟩ : ∃ G : Nat → Prop, (fun b => b = w1.heap.size ∨ b = w1.heap.size + 1) = G := ⟨_, rfl⟩
  have hlow : ∀ b, G b → w1.heap.size ≤ b := fun b hb => by rw [← hG] at hb; rcases hb with rfl | rfl <;> omega
  rw [hG] at hT
  clear hG
  generalize w1.heap.size + 1 = S at *
  have he := et_bare serial _ _ hT
  have hb3 := ((HB1.out.trans (hb2.mono HB1.out.size)).alloc (Nat.le_trans HB1.out.size hb2.size) (.cells #[.pointer (some ⟨S, 0, none⟩), .int .i64 serial] 77))
  have hl1 := (Array.getElem?_eq_some_iff.1 HA1.out).1
  have a3 : (w2.alloc (.cells #[.pointer (some ⟨S, 0, none⟩), .int .i64 serial] 77)).heap[w.heap.size]? = some (.cells #[.int .i64 q.f, .int .i64 q.e, .int .i64 q.x] 39 (0, 0)) := by
    rw [((Below.refl w2.heap.size w2).alloc (Nat.le_refl _) _).block _ (Nat.lt_of_lt_of_le hl1 hb2.size), hb2.block _ hl1]
    exact HA1.out
  have HF : Hid (∀ b, (G b ∨ b = w2.heap.size) → w.heap.size ≤ b) := hide (fun b hb => by
    have h1 := HB1.out.size
    have h2 := hb2.size
    rcases hb with hb | rfl
    · have := hlow b hb; omega
    · omega)
  have HNG : Hid (¬ G w.heap.size) := hide (fun e => by have := hlow _ e; omega)
  have HE := hide he
  have HB3 := hide hb3
  have HA3 := hide a3
  clear he hT hb2 hb3 a3 HB1 HA1 hlow hl1
  go_upto_region 2 with fail
  generalize w2.alloc (.cells #[.pointer (some ⟨S, 0, none⟩), .int .i64 serial] 77) = w3 at *
  generalize w2.heap.size = T at *
  obtain ⟨N, hN⟩ : ∃ N, w.heap.size = N := ⟨_, rfl⟩
  have HN := hide hN
  rw [hN] at HB3 HA3 HF HNG ⊢
  clear hN
  obtain ⟨w4, hw4⟩ : ∃ w4, w4 = w3.drew := ⟨_, rfl⟩
  have HE4 : Hid (EtAt w4 (fun b => G b ∨ b = T) T S G (List.replicate 16 none) (List.replicate 16 none) serial) := by rw [hw4]; exact hide (HE.out.keep (Nat.le_refl _) (fun _ _ => rfl))
  have HB4 : Hid (Below N w w4) := by rw [hw4]; exact hide HB3.out.drew
  have HA4 : Hid (w4.heap[N]? = some (.cells #[.int .i64 q.f, .int .i64 q.e, .int .i64 q.x] 39 (0, 0))) := by rw [hw4]; exact HA3
  have HS4 : Hid (w4.cell? ⟨T, 0, none⟩ = some (.pointer (some ⟨S, 0, none⟩)) ∧ w4.heap[N]? = some (.cells #[.int .i64 q.f, .int .i64 q.e, .int .i64 q.x] 39 (0, 0))) := hide ⟨HE4.out.cell.1, HA4.out⟩
  clear HE HB3 HA3
  refine wp_region_held_drew (S := fun W => W.cell? ⟨T, 0, none⟩ = some (.pointer (some ⟨S, 0, none⟩)) ∧ W.heap[N]? = some (.cells #[.int .i64 q.f, .int .i64 q.e, .int .i64 q.x] 39 (0, 0))) (by kernel_rfl) (by rw [← hw4]; exact HS4.out) (fun _ => ?_)
  rw [← hw4]
  clear hw4
  refine hd_take 0 (o := ⟨some 10, _, _, _, _, _⟩) (.pointer (some ⟨T, 0, none⟩)) (by kernel_rfl) (by kernel_rfl) (by kernel_rfl) rfl (by rfl) (fun W hSw => by go_simp) (fun _ _ _ h => h) HS4.out ?_
  simp only [Act.put, List.setIfInBounds_toArray, List.set_cons_zero, List.set_cons_succ]
  refine hd_take 1 (o := ⟨some 11, _, _, _, _, _⟩) (.pointer (some ⟨T, 0, none⟩)) (by kernel_rfl) (by kernel_rfl) (by kernel_rfl) rfl (by rfl) (fun W hSw => by go_simp) (fun _ _ _ h => h) HS4.out ?_
  simp only [Act.put, List.setIfInBounds_toArray, List.set_cons_zero, List.set_cons_succ]
  refine hd_take 2 (o := ⟨some 12, _, _, _, _, _⟩) (.pointer (some ⟨T, 0, none⟩)) (by kernel_rfl) (by kernel_rfl) (by kernel_rfl) rfl (by rfl) (fun W hSw => by go_simp) (fun _ _ _ h => h) HS4.out ?_
  simp only [Act.put, List.setIfInBounds_toArray, List.set_cons_zero, List.set_cons_succ]
  refine hd_take 3 (o := ⟨some 13, _, _, _, _, _⟩) (.pointer (some ⟨S, 0, none⟩)) (by kernel_rfl) (by kernel_rfl) (by kernel_rfl) rfl (by rfl) (fun W hSw => by have c0 := hSw.1; go_simp) (fun _ _ _ h => h) HS4.out ?_
  simp only [Act.put, List.setIfInBounds_toArray, List.set_cons_zero, List.set_cons_succ]
  refine hd_take 4 (o := ⟨some 14, _, _, _, _, _⟩) (.int .i64 serial) (by kernel_rfl) (by kernel_rfl) (by kernel_rfl) rfl (by rfl) (fun W hSw => by go_simp) (fun _ _ _ h => h) HS4.out ?_
  simp only [Act.put, List.setIfInBounds_toArray, List.set_cons_zero, List.set_cons_succ]
  refine hd_take 5 (o := ⟨some 15, _, _, _, _, _⟩) (.agg #[.int .i64 q.f, .int .i64 q.e, .int .i64 q.x]) (by kernel_rfl) (by kernel_rfl) (by kernel_rfl) rfl (by rfl) (fun W hSw => by obtain ⟨c0, c1, c2, -, -, -⟩ := blk3 hSw.2; go_simp) (fun _ _ _ h => h) HS4.out ?_
  simp only [Act.put, List.setIfInBounds_toArray, List.set_cons_zero, List.set_cons_succ]
  have sk : ∀ (W : World), Below w4.heap.size w4 W → W.cell? ⟨T, 0, none⟩ = some (.pointer (some ⟨S, 0, none⟩)) ∧ W.heap[N]? = some (.cells #[.int .i64 q.f, .int .i64 q.e, .int .i64 q.x] 39 (0, 0)) := fun _ hb => ⟨(HE4.out.below hb).cell.1, (hb.block N (Array.getElem?_eq_some_iff.1 HA4.out).1).trans HA4.out⟩
  have HSK := hide sk
  clear sk
  refine hd_call 6 (o := ⟨some 16, _, _, _, _, _⟩) (by kernel_rfl) rfl (by rfl) (fun K hK => ?_)
  go_simp
  go_wp2_with (go_at_call 56; refine (HC6.out _).mono ?_; rintro e1 w5 ⟨rfl, hb5⟩)
  refine hK _ _ (HSK.out _ hb5) ?_
  have HB5 := hide hb5
  clear hK K hb5
  try simp only [Act.put, List.setIfInBounds_toArray, List.set_cons_zero, List.set_cons_succ]
  refine hd_call 7 (o := ⟨some 17, _, _, _, _, _⟩) (by kernel_rfl) rfl (by rfl) (fun K hK => ?_)
  go_simp
  go_wp2_with (go_at_call 46; refine (HC7.out _).mono ?_; rintro e1 w6 ⟨b, rfl, hR6, hlb, hb6⟩)
  have hb46 := HB5.out.trans (hb6.mono HB5.out.size)
  refine hK _ _ (HSK.out _ hb46) ?_
  have HB6 := hide hb46
  have HR6 := hide hR6
  have HLB := hide (Nat.le_trans HB5.out.size hlb)
  have hff : ff (List.replicate 16 (none : Option Nat)) = 0 := by decide
  have HP := hide ((putL_any w6 G S (List.replicate 16 none) (HE4.out.below hb46).tab b).mono (fun _ _ h => h.1 (by decide)))
  rw [hff] at HP
  clear hK K hb6 hb46 hR6 hlb hff
  try simp only [Act.put, List.setIfInBounds_toArray, List.set_cons_zero, List.set_cons_succ]
  refine hd_call 8 (o := ⟨some 18, _, _, _, _, _⟩) (by kernel_rfl) rfl (by rfl) (fun K hK => ?_)
  go_simp
  go_wp2_with (go_at_call 45; refine HP.out.mono ?_; rintro e1 w7 ⟨rfl, G', hT7, hx7⟩)
  obtain ⟨hE7, hX7⟩ := HE4.out.opn (i := 0) (by rfl) HB6.out HLB.out HR6.out hT7 hx7
  have HF7 : Hid (∀ c, (fun x => (G x ∨ x = T) ∨ x = b ∨ G' x) c → N ≤ c) := hide (hX7.low HF.out (by rw [← HN.out]; exact HB4.out.size))
  have HE7 := hide hE7
  have HB7 : Hid (Below N w w7) := hide (HB4.out.trans (hX7.mod.below HF.out (by rw [← HN.out]; exact HB4.out.size)))
  have HS7 : Hid (w7.cell? ⟨T, 0, none⟩ = some (.pointer (some ⟨S, 0, none⟩)) ∧ w7.heap[N]? = some (.cells #[.int .i64 q.f, .int .i64 q.e, .int .i64 q.x] 39 (0, 0))) := hide ⟨hE7.cell.1, by
    have hl4 := (Array.getElem?_eq_some_iff.1 HA4.out).1
    rw [hx7.mod.block N (Nat.lt_of_lt_of_le hl4 HB6.out.size) HNG.out, HB6.out.block N hl4]; exact HA4.out⟩
  clear hE7 hX7 hT7 hx7
  refine hK _ _ HS7.out ?_
  clear hK K
  refine wpAnyH_done (by kernel_rfl) ?_ _
  go_wp2
  go_ret
  exact ⟨T, rfl, _, ⟨S, G', _, HE7.out⟩, by rw [HN.out]; exact HF7.out, by rw [HN.out]; exact HB7.out⟩
end Go.Proofs.Ytoddadohmnaolaa
