import Derived.Test.YtngmnlmagbfijabCQ
namespace Go.Proofs.Ytngmnlmagbfijab
open Go.RowKit
section
variable (w : World)
set_option maxRecDepth 100000 in
set_option maxHeartbeats 32000000 in
theorem plays_any (p r n : Nat) (H S : Nat → Prop) (hP : PrA p r n w H) (k t nn mm : Int) (u0 : Value) (R : List Int) (hR : Rd S w u0 R) (hS : ∀ b, S b → ¬ H b ∧ b < w.heap.size) (hI : I64 nn ∧ ∀ z ∈ R, I64 z) (hl : R.length ≤ 1048575) (hn : n ≤ 1048600) :
    Calls Try.prog 7 #[.agg #[.pointer (some ⟨p, 0, none⟩), .pointer (some ⟨r, 0, none⟩)], .agg #[.int .i64 k, .int .i64 t, .int .i64 nn, .int .i64 mm, u0]] w fun e w' => e = .returned (.bool true) ∧ ∃ H', PrA p r (n + (R.length + 1)) w' H' ∧ Ext H w H' w' := by
  obtain ⟨X, Y, s, f, last, hPl, hRf, hAg, hXY, hH⟩ := hP
  obtain ⟨A, hA⟩ : ∃ A, w.heap.size = A := ⟨_, rfl⟩
  have hBl0 : Below w.heap.size w ((w.alloc (.cells #[.pointer (some ⟨p, 0, none⟩), .pointer (some ⟨r, 0, none⟩)] 27)).alloc (.cells #[.int .i64 k, .int .i64 t, .int .i64 nn, .int .i64 mm, u0] 33)) := ((Below.refl _ _).alloc (Nat.le_refl _) _).alloc (by simp) _
  have hS0 : Hid (BxS A (A + 1) p r k t nn mm u0 ((w.alloc (.cells #[.pointer (some ⟨p, 0, none⟩), .pointer (some ⟨r, 0, none⟩)] 27)).alloc (.cells #[.int .i64 k, .int .i64 t, .int .i64 nn, .int .i64 mm, u0] 33))) := hide (by
    have ha : ((w.alloc (.cells #[.pointer (some ⟨p, 0, none⟩), .pointer (some ⟨r, 0, none⟩)] 27)).alloc (.cells #[.int .i64 k, .int .i64 t, .int .i64 nn, .int .i64 mm, u0] 33)).heap[A]? = some (.cells #[.pointer (some ⟨p, 0, none⟩), .pointer (some ⟨r, 0, none⟩)] 27 (0, 0)) := by rw [Below.heap_alloc _ _ _ (by simp; omega), ← hA]; exact heap_alloc_last _ _
    have hb : ((w.alloc (.cells #[.pointer (some ⟨p, 0, none⟩), .pointer (some ⟨r, 0, none⟩)] 27)).alloc (.cells #[.int .i64 k, .int .i64 t, .int .i64 nn, .int .i64 mm, u0] 33)).heap[A + 1]? = some (.cells #[.int .i64 k, .int .i64 t, .int .i64 nn, .int .i64 mm, u0] 33 (0, 0)) := by have := heap_alloc_last (w.alloc (.cells #[.pointer (some ⟨p, 0, none⟩), .pointer (some ⟨r, 0, none⟩)] 27)) (.cells #[.int .i64 k, .int .i64 t, .int .i64 nn, .int .i64 mm, u0] 33); rw [← hA]; simpa using this
    refine ⟨?_, ?_, ⟨?_, ?_⟩, ?_, ?_, ?_⟩
    · rw [cell_of_row _ _ _ _ _ _ ha]; rfl
    · rw [cell_of_row _ _ _ _ _ _ ha]; rfl
    · rw [cell_of_row _ _ _ _ _ _ hb]; rfl
    · rw [cell_of_row _ _ _ _ _ _ hb]; rfl
    · rw [cell_of_row _ _ _ _ _ _ hb]; rfl
    · rw [cell_of_row _ _ _ _ _ _ hb]; rfl
    · rw [cell_of_row _ _ _ _ _ _ hb]; rfl)
  have HS := hS0
  have HExt := hide hBl0
  have HPl := hide (hPl.below hBl0)
  have HRf := hide (hRf.below hBl0)
  have HAg := hide hAg
  have HXY := hide hXY
  have HH := hide hH
  have HXA : Hid (∀ b, A ≤ b → ¬ (X b ∨ Y b)) := hide (fun b hb h9 => by
    rcases h9 with h9 | h9
    · have := hPl.lt b h9; omega
    · have := hRf.lt b h9; omega)
  have HRd := hide (hR.keep (w' := ((w.alloc (.cells #[.pointer (some ⟨p, 0, none⟩), .pointer (some ⟨r, 0, none⟩)] 27)).alloc (.cells #[.int .i64 k, .int .i64 t, .int .i64 nn, .int .i64 mm, u0] 33))) (fun b hb => hBl0.block b (hS b hb).2))
  have HSb : Hid (∀ b, S b → ¬ (X b ∨ Y b) ∧ b < w.heap.size) := hide (fun b hb => ⟨fun h => (hS b hb).1 ((hH b).2 h), (hS b hb).2⟩)
  have HK0 : Hid (s.kind = 2 → ∀ x, s.ps x = none ↔ f x = none) := hide (fun e x => by
    have h1 := hPl.ok.known e x
    rw [hAg.kn x] at h1
    cases hp : s.ps x <;> cases hf : f x <;> simp [hp, hf] at h1 ⊢)
  have HOk := hide hPl.ok
  have hla : s.kind = 2 → 0 ≤ last ∧ last ≤ 1152921504606846976 := fun e => by
    have h1 := hPl.ok.last e
    have h2 := (hAg.fs e).1
    omega
  have hw1s : ((w.alloc (.cells #[.pointer (some ⟨p, 0, none⟩), .pointer (some ⟨r, 0, none⟩)] 27)).alloc (.cells #[.int .i64 k, .int .i64 t, .int .i64 nn, .int .i64 mm, u0] 33)).heap.size = A + 2 := by simp; omega
  have HFin : Hid (∀ W, Below ((w.alloc (.cells #[.pointer (some ⟨p, 0, none⟩), .pointer (some ⟨r, 0, none⟩)] 27)).alloc (.cells #[.int .i64 k, .int .i64 t, .int .i64 nn, .int .i64 mm, u0] 33)).heap.size ((w.alloc (.cells #[.pointer (some ⟨p, 0, none⟩), .pointer (some ⟨r, 0, none⟩)] 27)).alloc (.cells #[.int .i64 k, .int .i64 t, .int .i64 nn, .int .i64 mm, u0] 33)) W → ∃ H', PrA p r (n + (R.length + 1)) W H' ∧ Ext H w H' W) := hide (fun W hW => by
    have hb2 := hBl0.trans (hW.mono hBl0.size)
    exact ⟨H, ⟨X, Y, s, f, last, (hPl.below hb2).mono' (by omega), (hRf.below hb2).mono (by omega), hAg, hXY, hH⟩, Mod.of_below hb2, fun b hb => .inl hb⟩)
  clear hPl hRf hAg hXY hH hBl0 hR hS hS0
  go_enter Try.func7, Try.ntmps7
  go_upto_region 1 with fail
  generalize ((w.alloc (.cells #[.pointer (some ⟨p, 0, none⟩), .pointer (some ⟨r, 0, none⟩)] 27)).alloc (.cells #[.int .i64 k, .int .i64 t, .int .i64 nn, .int .i64 mm, u0] 33)) = w1 at *
  have hAw : A < w1.heap.size := by omega
  have hBw : A + 1 < w1.heap.size := by omega
  obtain ⟨b0, b1, ⟨b2, b3⟩, b4, b5, b6⟩ := HS.out
  by_cases hk2 : k = 2
  · subst hk2
    go_upto_region 3 with fail
    clear b0 b1 b2 b3 b4 b5 b6
    by_cases hg : 1 ≤ nn ∧ 1 ≤ mm ∧ mm ≤ 8
    · obtain ⟨g1, g2, g3⟩ := hg
      have HS0 : Hid (BxS A (A + 1) p r 2 t nn mm u0 w1.drew) := hide (HS.out.keep rfl rfl)
      refine wp_region_held_drew (S := BxS A (A + 1) p r 2 t nn mm u0) (by kernel_rfl) HS0.out (fun hHeld => ?_)
      clear hHeld
      refine hd_take 0 (o := ⟨some 14, _, _, _, _, _⟩) (.pointer (some ⟨A, 0, none⟩)) (by kernel_rfl) (by kernel_rfl) (by kernel_rfl) rfl (by rfl) (fun W hSw => by obtain ⟨k0, k1, k2, k3, k4, k5⟩ := hSw; go_simp) (fun _ _ _ h => h) HS0.out ?_
      simp only [Act.put, List.setIfInBounds_toArray, List.set_cons_zero, List.set_cons_succ]
      refine hd_take 1 (o := ⟨some 15, _, _, _, _, _⟩) (.pointer (some ⟨p, 0, none⟩)) (by kernel_rfl) (by kernel_rfl) (by kernel_rfl) rfl (by rfl) (fun W hSw => by obtain ⟨k0, k1, k2, k3, k4, k5⟩ := hSw; go_simp) (fun _ _ _ h => h) HS0.out ?_
      simp only [Act.put, List.setIfInBounds_toArray, List.set_cons_zero, List.set_cons_succ]
      refine hd_take 2 (o := ⟨some 16, _, _, _, _, _⟩) (.pointer (some ⟨A + 1, 2, none⟩)) (by kernel_rfl) (by kernel_rfl) (by kernel_rfl) rfl (by rfl) (fun W hSw => by obtain ⟨k0, k1, k2, k3, k4, k5⟩ := hSw; go_simp) (fun _ _ _ h => h) HS0.out ?_
      simp only [Act.put, List.setIfInBounds_toArray, List.set_cons_zero, List.set_cons_succ]
      refine hd_take 3 (o := ⟨some 17, _, _, _, _, _⟩) (.int .i64 nn) (by kernel_rfl) (by kernel_rfl) (by kernel_rfl) rfl (by rfl) (fun W hSw => by obtain ⟨k0, k1, k2, k3, k4, k5⟩ := hSw; go_simp) (fun _ _ _ h => h) HS0.out ?_
      simp only [Act.put, List.setIfInBounds_toArray, List.set_cons_zero, List.set_cons_succ]
      refine hd_take 4 (o := ⟨some 18, _, _, _, _, _⟩) (.pointer (some ⟨A + 1, 3, none⟩)) (by kernel_rfl) (by kernel_rfl) (by kernel_rfl) rfl (by rfl) (fun W hSw => by obtain ⟨k0, k1, k2, k3, k4, k5⟩ := hSw; go_simp) (fun _ _ _ h => h) HS0.out ?_
      simp only [Act.put, List.setIfInBounds_toArray, List.set_cons_zero, List.set_cons_succ]
      refine hd_take 5 (o := ⟨some 19, _, _, _, _, _⟩) (.int .i64 mm) (by kernel_rfl) (by kernel_rfl) (by kernel_rfl) rfl (by rfl) (fun W hSw => by obtain ⟨k0, k1, k2, k3, k4, k5⟩ := hSw; go_simp) (fun _ _ _ h => h) HS0.out ?_
      simp only [Act.put, List.setIfInBounds_toArray, List.set_cons_zero, List.set_cons_succ]
      refine hd_take 7 (o := ⟨some 21, _, _, _, _, _⟩) (.pointer (some ⟨A, 1, none⟩)) (by kernel_rfl) (by kernel_rfl) (by kernel_rfl) rfl (by rfl) (fun W hSw => by obtain ⟨k0, k1, k2, k3, k4, k5⟩ := hSw; go_simp) (fun _ _ _ h => h) HS0.out ?_
      simp only [Act.put, List.setIfInBounds_toArray, List.set_cons_zero, List.set_cons_succ]
      refine hd_take 8 (o := ⟨some 22, _, _, _, _, _⟩) (.pointer (some ⟨r, 0, none⟩)) (by kernel_rfl) (by kernel_rfl) (by kernel_rfl) rfl (by rfl) (fun W hSw => by obtain ⟨k0, k1, k2, k3, k4, k5⟩ := hSw; go_simp) (fun _ _ _ h => h) HS0.out ?_
      simp only [Act.put, List.setIfInBounds_toArray, List.set_cons_zero, List.set_cons_succ]
      refine hd_take 9 (o := ⟨some 23, _, _, _, _, _⟩) (.pointer (some ⟨A + 1, 2, none⟩)) (by kernel_rfl) (by kernel_rfl) (by kernel_rfl) rfl (by rfl) (fun W hSw => by obtain ⟨k0, k1, k2, k3, k4, k5⟩ := hSw; go_simp) (fun _ _ _ h => h) HS0.out ?_
      simp only [Act.put, List.setIfInBounds_toArray, List.set_cons_zero, List.set_cons_succ]
      refine hd_take 10 (o := ⟨some 24, _, _, _, _, _⟩) (.int .i64 nn) (by kernel_rfl) (by kernel_rfl) (by kernel_rfl) rfl (by rfl) (fun W hSw => by obtain ⟨k0, k1, k2, k3, k4, k5⟩ := hSw; go_simp) (fun _ _ _ h => h) HS0.out ?_
      simp only [Act.put, List.setIfInBounds_toArray, List.set_cons_zero, List.set_cons_succ]
      refine hd_take 11 (o := ⟨some 25, _, _, _, _, _⟩) (.pointer (some ⟨A + 1, 3, none⟩)) (by kernel_rfl) (by kernel_rfl) (by kernel_rfl) rfl (by rfl) (fun W hSw => by obtain ⟨k0, k1, k2, k3, k4, k5⟩ := hSw; go_simp) (fun _ _ _ h => h) HS0.out ?_
      simp only [Act.put, List.setIfInBounds_toArray, List.set_cons_zero, List.set_cons_succ]
      refine hd_take 12 (o := ⟨some 26, _, _, _, _, _⟩) (.int .i64 mm) (by kernel_rfl) (by kernel_rfl) (by kernel_rfl) rfl (by rfl) (fun W hSw => by obtain ⟨k0, k1, k2, k3, k4, k5⟩ := hSw; go_simp) (fun _ _ _ h => h) HS0.out ?_
      simp only [Act.put, List.setIfInBounds_toArray, List.set_cons_zero, List.set_cons_succ]
      refine hd_call 6 (o := ⟨some 20, _, _, _, _, _⟩) (by kernel_rfl) rfl (by rfl) (fun K' hK => ?_)
      go_wp2_with fail
      refine (Set_any w1.drew p n X s (HPl.out.below (Below.refl _ _).drew) nn mm g1 g2 g3 hI.1.2 (by omega)).mono ?_
      rintro e w2 ⟨rfl, h1, h2⟩
      have HPl2 := hide h1
      have HRf2 := hide ((HRf.out.below (Below.refl _ _).drew).keep h2.size (fun b hb => h2.block b (by have := HRf.out.lt b hb; simpa using this) (fun hx => HXY.out b hx hb)))
      have HS2 : Hid (BxS A (A + 1) p r 2 t nn mm u0 w2) := hide (HS0.out.keep (h2.block A (by simpa using hAw) (fun hx => HXA.out A (Nat.le_refl _) (.inl hx))) (h2.block (A + 1) (by simpa using hBw) (fun hx => HXA.out (A + 1) (by omega) (.inl hx))))
      have HM2 := hide ((Mod.of_below ((Below.refl w1.heap.size w1).drew)).trans h2)
      clear h1 h2
      refine hK _ _ HS2.out ?_
      clear hK K'
      try simp only [Act.put, List.setIfInBounds_toArray, List.set_cons_zero, List.set_cons_succ]
      refine hd_call 13 (o := ⟨some 27, _, _, _, _, _⟩) (by kernel_rfl) rfl (by rfl) (fun K' hK => ?_)
      go_wp2_with fail
      refine (rset_ok w2 r s.kind n Y f last HRf2.out nn mm g1 g2 g3 (by omega) (fun e => ⟨(hla e).1, by have := (hla e).2; omega⟩)).mono ?_
      rintro e w3 ⟨rfl, Y3, h1, h2⟩
      have HRf3 := hide h1
      have HE3 := hide h2
      have hAw2 : A < w2.heap.size := by have := HM2.out.size; omega
      have hBw2 : A + 1 < w2.heap.size := by have := HM2.out.size; omega
      have HPl3 := hide (HPl2.out.keep h2.mod.size (fun b hb => h2.mod.block b (HPl2.out.lt b hb) (HXY.out b hb)))
      have HS3 : Hid (BxS A (A + 1) p r 2 t nn mm u0 w3) := hide (HS2.out.keep (h2.mod.block A hAw2 (fun hx => HXA.out A (Nat.le_refl _) (.inr hx))) (h2.mod.block (A + 1) hBw2 (fun hx => HXA.out (A + 1) (by omega) (.inr hx))))
      clear h1 h2
      refine hK _ _ HS3.out ?_
      clear hK K'
      try simp only [Act.put, List.setIfInBounds_toArray, List.set_cons_zero, List.set_cons_succ]
      refine hd_take 14 (o := ⟨some 28, _, _, _, _, _⟩) (.bool true) (by kernel_rfl) (by kernel_rfl) (by kernel_rfl) rfl (by rfl) (fun W hSw => by obtain ⟨k0, k1, k2, k3, k4, k5⟩ := hSw; go_simp) (fun _ _ _ h => h) HS3.out ?_
      simp only [Act.put, List.setIfInBounds_toArray, List.set_cons_zero, List.set_cons_succ]
      refine hd_take 15 (o := ⟨some 4, _, _, _, _, _⟩) (.bool true) (by kernel_rfl) (by kernel_rfl) (by kernel_rfl) rfl (by rfl) (fun W hSw => by obtain ⟨k0, k1, k2, k3, k4, k5⟩ := hSw; go_simp) (fun _ _ _ h => h) HS3.out ?_
      simp only [Act.put, List.setIfInBounds_toArray, List.set_cons_zero, List.set_cons_succ]
      refine wpAnyH_done (by kernel_rfl) ?_ _
      have HAg3 := hide (HAg.out.set (k := nn) ⟨g2, g3⟩ HK0.out (fun e => (hla e).1))
      go_wp2
      go_ret
      exact ⟨rfl, _, ⟨X, Y3, _, _, last, PlAt.mono' HPl3.out (by omega), RfF.mono HRf3.out (by omega), HAg3.out, fun b hx hy => by
        rcases HE3.out.new b hy with h9 | h9
        · exact HXY.out b hx h9
        · have := HPl2.out.lt b hx; omega, fun b => Iff.rfl⟩, Ext2 HExt.out HM2.out HE3.out HH.out⟩
    · skip
      have HS0 : Hid (BxS A (A + 1) p r 2 t nn mm u0 w1.drew) := hide (HS.out.keep rfl rfl)
      refine wp_region_held_drew (S := BxS A (A + 1) p r 2 t nn mm u0) (by kernel_rfl) HS0.out (fun hHeld => ?_)
      clear hHeld
      refine hd_take 0 (o := ⟨some 14, _, _, _, _, _⟩) (.pointer (some ⟨A, 0, none⟩)) (by kernel_rfl) (by kernel_rfl) (by kernel_rfl) rfl (by rfl) (fun W hSw => by obtain ⟨k0, k1, k2, k3, k4, k5⟩ := hSw; go_simp) (fun _ _ _ h => h) HS0.out ?_
      simp only [Act.put, List.setIfInBounds_toArray, List.set_cons_zero, List.set_cons_succ]
      refine hd_take 1 (o := ⟨some 15, _, _, _, _, _⟩) (.pointer (some ⟨p, 0, none⟩)) (by kernel_rfl) (by kernel_rfl) (by kernel_rfl) rfl (by rfl) (fun W hSw => by obtain ⟨k0, k1, k2, k3, k4, k5⟩ := hSw; go_simp) (fun _ _ _ h => h) HS0.out ?_
      simp only [Act.put, List.setIfInBounds_toArray, List.set_cons_zero, List.set_cons_succ]
      refine hd_take 2 (o := ⟨some 16, _, _, _, _, _⟩) (.pointer (some ⟨A + 1, 2, none⟩)) (by kernel_rfl) (by kernel_rfl) (by kernel_rfl) rfl (by rfl) (fun W hSw => by obtain ⟨k0, k1, k2, k3, k4, k5⟩ := hSw; go_simp) (fun _ _ _ h => h) HS0.out ?_
      simp only [Act.put, List.setIfInBounds_toArray, List.set_cons_zero, List.set_cons_succ]
      refine hd_take 3 (o := ⟨some 17, _, _, _, _, _⟩) (.int .i64 nn) (by kernel_rfl) (by kernel_rfl) (by kernel_rfl) rfl (by rfl) (fun W hSw => by obtain ⟨k0, k1, k2, k3, k4, k5⟩ := hSw; go_simp) (fun _ _ _ h => h) HS0.out ?_
      simp only [Act.put, List.setIfInBounds_toArray, List.set_cons_zero, List.set_cons_succ]
      refine hd_take 4 (o := ⟨some 18, _, _, _, _, _⟩) (.pointer (some ⟨A + 1, 3, none⟩)) (by kernel_rfl) (by kernel_rfl) (by kernel_rfl) rfl (by rfl) (fun W hSw => by obtain ⟨k0, k1, k2, k3, k4, k5⟩ := hSw; go_simp) (fun _ _ _ h => h) HS0.out ?_
      simp only [Act.put, List.setIfInBounds_toArray, List.set_cons_zero, List.set_cons_succ]
      refine hd_take 5 (o := ⟨some 19, _, _, _, _, _⟩) (.int .i64 mm) (by kernel_rfl) (by kernel_rfl) (by kernel_rfl) rfl (by rfl) (fun W hSw => by obtain ⟨k0, k1, k2, k3, k4, k5⟩ := hSw; go_simp) (fun _ _ _ h => h) HS0.out ?_
      simp only [Act.put, List.setIfInBounds_toArray, List.set_cons_zero, List.set_cons_succ]
      refine hd_take 7 (o := ⟨some 21, _, _, _, _, _⟩) (.pointer (some ⟨A, 1, none⟩)) (by kernel_rfl) (by kernel_rfl) (by kernel_rfl) rfl (by rfl) (fun W hSw => by obtain ⟨k0, k1, k2, k3, k4, k5⟩ := hSw; go_simp) (fun _ _ _ h => h) HS0.out ?_
      simp only [Act.put, List.setIfInBounds_toArray, List.set_cons_zero, List.set_cons_succ]
      refine hd_take 8 (o := ⟨some 22, _, _, _, _, _⟩) (.pointer (some ⟨r, 0, none⟩)) (by kernel_rfl) (by kernel_rfl) (by kernel_rfl) rfl (by rfl) (fun W hSw => by obtain ⟨k0, k1, k2, k3, k4, k5⟩ := hSw; go_simp) (fun _ _ _ h => h) HS0.out ?_
      simp only [Act.put, List.setIfInBounds_toArray, List.set_cons_zero, List.set_cons_succ]
      refine hd_take 9 (o := ⟨some 23, _, _, _, _, _⟩) (.pointer (some ⟨A + 1, 2, none⟩)) (by kernel_rfl) (by kernel_rfl) (by kernel_rfl) rfl (by rfl) (fun W hSw => by obtain ⟨k0, k1, k2, k3, k4, k5⟩ := hSw; go_simp) (fun _ _ _ h => h) HS0.out ?_
      simp only [Act.put, List.setIfInBounds_toArray, List.set_cons_zero, List.set_cons_succ]
      refine hd_take 10 (o := ⟨some 24, _, _, _, _, _⟩) (.int .i64 nn) (by kernel_rfl) (by kernel_rfl) (by kernel_rfl) rfl (by rfl) (fun W hSw => by obtain ⟨k0, k1, k2, k3, k4, k5⟩ := hSw; go_simp) (fun _ _ _ h => h) HS0.out ?_
      simp only [Act.put, List.setIfInBounds_toArray, List.set_cons_zero, List.set_cons_succ]
      refine hd_take 11 (o := ⟨some 25, _, _, _, _, _⟩) (.pointer (some ⟨A + 1, 3, none⟩)) (by kernel_rfl) (by kernel_rfl) (by kernel_rfl) rfl (by rfl) (fun W hSw => by obtain ⟨k0, k1, k2, k3, k4, k5⟩ := hSw; go_simp) (fun _ _ _ h => h) HS0.out ?_
      simp only [Act.put, List.setIfInBounds_toArray, List.set_cons_zero, List.set_cons_succ]
      refine hd_take 12 (o := ⟨some 26, _, _, _, _, _⟩) (.int .i64 mm) (by kernel_rfl) (by kernel_rfl) (by kernel_rfl) rfl (by rfl) (fun W hSw => by obtain ⟨k0, k1, k2, k3, k4, k5⟩ := hSw; go_simp) (fun _ _ _ h => h) HS0.out ?_
      simp only [Act.put, List.setIfInBounds_toArray, List.set_cons_zero, List.set_cons_succ]
      refine hd_call 6 (o := ⟨some 20, _, _, _, _, _⟩) (by kernel_rfl) rfl (by rfl) (fun K' hK => ?_)
      go_wp2_with fail
      refine (Set_bad w1.drew p nn mm hg).mono ?_
      rintro e w2 ⟨rfl, rfl⟩
      refine hK _ _ HS0.out ?_
      clear hK K'
      try simp only [Act.put, List.setIfInBounds_toArray, List.set_cons_zero, List.set_cons_succ]
      refine hd_call 13 (o := ⟨some 27, _, _, _, _, _⟩) (by kernel_rfl) rfl (by rfl) (fun K' hK => ?_)
      go_wp2_with fail
      refine (rset_bad w1.drew r nn mm hg).mono ?_
      rintro e w3 ⟨rfl, rfl⟩
      refine hK _ _ HS0.out ?_
      clear hK K'
      try simp only [Act.put, List.setIfInBounds_toArray, List.set_cons_zero, List.set_cons_succ]
      refine hd_take 14 (o := ⟨some 28, _, _, _, _, _⟩) (.bool true) (by kernel_rfl) (by kernel_rfl) (by kernel_rfl) rfl (by rfl) (fun W hSw => by obtain ⟨k0, k1, k2, k3, k4, k5⟩ := hSw; go_simp) (fun _ _ _ h => h) HS0.out ?_
      simp only [Act.put, List.setIfInBounds_toArray, List.set_cons_zero, List.set_cons_succ]
      refine hd_take 15 (o := ⟨some 4, _, _, _, _, _⟩) (.bool true) (by kernel_rfl) (by kernel_rfl) (by kernel_rfl) rfl (by rfl) (fun W hSw => by obtain ⟨k0, k1, k2, k3, k4, k5⟩ := hSw; go_simp) (fun _ _ _ h => h) HS0.out ?_
      simp only [Act.put, List.setIfInBounds_toArray, List.set_cons_zero, List.set_cons_succ]
      refine wpAnyH_done (by kernel_rfl) ?_ _
      go_wp2
      go_ret
      exact ⟨rfl, HFin.out _ (Below.refl _ _).drew⟩
  · have hk2b : (k == 2) = false := by simpa using hk2
    by_cases hk3 : k = 3
    · subst hk3
      have hsl : ∀ b, S b → b < w1.heap.size := fun b hb => by have := (HSb.out b hb).2; have := HExt.out.size; omega
      go_wp2_with fail
      refine (roomy_any w1 S u0 R HRd.out hsl (by omega)).mono ?_
      rintro e w2 ⟨rf, rfl, ho, hb2⟩
      have hlen9 : (R ++ List.replicate 9 (-7171)).length = R.length + 9 := by simp
      obtain ⟨xf, cf, rfl, hcf, hfull⟩ : ∃ xf cf, rf = .slice (some xf) (R.length + 9) cf ∧ R.length + 9 ≤ cf ∧ Rd (fun b => w1.heap.size ≤ b ∧ b < w2.heap.size) w2 (.slice (some xf) (R.length + 9) cf) (R ++ List.replicate 9 (-7171)) := by
        have h9 := ho.rd
        obtain ⟨a, c, he, hc⟩ := h9.len
        rw [hlen9] at he hc
        subst he
        obtain ⟨x, hx, _, _⟩ := h9.some_of (by rw [hlen9]; omega)
        subst hx
        exact ⟨x, c, rfl, hc, h9.mono (fun b hb => ⟨hb.1, hb.2.1⟩)⟩
      have HFull := hide hfull
      have HPart : Hid (Rd (fun b => w1.heap.size ≤ b ∧ b < w2.heap.size) w2 (.slice (some xf) R.length cf) R) := hide (by
        have h9 := hfull.takeN (k := R.length) (by simp)
        rw [List.take_left'] at h9
        · exact h9
        · rfl)
      have HB2 := hide hb2
      have hz2 := hb2.size
      have HS2 : Hid (BxS A (A + 1) p r 3 t nn mm u0 w2) := hide (HS.out.keep (hb2.block A hAw) (hb2.block (A + 1) hBw))
      have HPl2 := hide (HPl.out.below hb2)
      have HRf2 := hide (HRf.out.below hb2)
      obtain ⟨au, cu, rfl, hcu⟩ := HRd.out.len
      obtain ⟨L, hL⟩ : ∃ L, R.length = L := ⟨_, rfl⟩
      have HL := hide hL
      rw [hL] at HFull HPart HS2 HRd hcu hcf ⊢
      have hLc : (L : Int) ≤ cf := by omega
      have hL9 : (L : Int) ≤ (L : Int) + 9 := by omega
      have hL0 : (0 : Int) ≤ L := by omega
      have hXl : ∀ b, X b ∨ Y b → b < A := fun b hb => Nat.lt_of_not_le (fun h9 => HXA.out b h9 hb)
      have hAe : w.heap.size = A := hA
      clear ho hfull hb2 hlen9 hL hA b0 b1 b2 b3 b4 b5 b6
      go_upto_region 6 with fail
      have HSd : Hid (BxS A (A + 1) p r 3 t nn mm (.slice au L cu) w2.drew) := hide (HS2.out.keep rfl rfl)
      refine wp_region_held_drew (S := BxS A (A + 1) p r 3 t nn mm (.slice au L cu)) (by kernel_rfl) HSd.out (fun hHeld => ?_)
      clear hHeld
      refine hd_take 0 (o := ⟨some 35, _, _, _, _, _⟩) (.pointer (some ⟨A, 0, none⟩)) (by kernel_rfl) (by kernel_rfl) (by kernel_rfl) rfl (by rfl) (fun W hSw => by obtain ⟨k0, k1, k2, k3, k4, k5⟩ := hSw; go_simp) (fun _ _ _ h => h) HSd.out ?_
      simp only [Act.put, List.setIfInBounds_toArray, List.set_cons_zero, List.set_cons_succ]
      refine hd_take 1 (o := ⟨some 36, _, _, _, _, _⟩) (.pointer (some ⟨p, 0, none⟩)) (by kernel_rfl) (by kernel_rfl) (by kernel_rfl) rfl (by rfl) (fun W hSw => by obtain ⟨k0, k1, k2, k3, k4, k5⟩ := hSw; go_simp) (fun _ _ _ h => h) HSd.out ?_
      simp only [Act.put, List.setIfInBounds_toArray, List.set_cons_zero, List.set_cons_succ]
      refine hd_take 2 (o := ⟨some 37, _, _, _, _, _⟩) (.slice (some xf) (L + 9) cf) (by kernel_rfl) (by kernel_rfl) (by kernel_rfl) rfl (by rfl) (fun W hSw => by obtain ⟨k0, k1, k2, k3, k4, k5⟩ := hSw; go_simp) (fun _ _ _ h => h) HSd.out ?_
      simp only [Act.put, List.setIfInBounds_toArray, List.set_cons_zero, List.set_cons_succ]
      refine hd_take 3 (o := ⟨some 38, _, _, _, _, _⟩) (.pointer (some ⟨A + 1, 4, none⟩)) (by kernel_rfl) (by kernel_rfl) (by kernel_rfl) rfl (by rfl) (fun W hSw => by obtain ⟨k0, k1, k2, k3, k4, k5⟩ := hSw; go_simp) (fun _ _ _ h => h) HSd.out ?_
      simp only [Act.put, List.setIfInBounds_toArray, List.set_cons_zero, List.set_cons_succ]
      refine hd_take 4 (o := ⟨some 39, _, _, _, _, _⟩) (.slice au L cu) (by kernel_rfl) (by kernel_rfl) (by kernel_rfl) rfl (by rfl) (fun W hSw => by obtain ⟨k0, k1, k2, k3, k4, k5⟩ := hSw; go_simp) (fun _ _ _ h => h) HSd.out ?_
      simp only [Act.put, List.setIfInBounds_toArray, List.set_cons_zero, List.set_cons_succ]
      refine hd_take 5 (o := ⟨some 40, _, _, _, _, _⟩) (.int .i64 (L : Nat)) (by kernel_rfl) (by kernel_rfl) (by kernel_rfl) rfl (by rfl) (fun W hSw => by obtain ⟨k0, k1, k2, k3, k4, k5⟩ := hSw; go_simp) (fun _ _ _ h => h) HSd.out ?_
      simp only [Act.put, List.setIfInBounds_toArray, List.set_cons_zero, List.set_cons_succ]
      refine hd_take 6 (o := ⟨some 41, _, _, _, _, _⟩) (.slice (some xf) L cf) (by kernel_rfl) (by kernel_rfl) (by kernel_rfl) rfl (by rfl) (fun W hSw => by obtain ⟨k0, k1, k2, k3, k4, k5⟩ := hSw; go_simp) (fun _ _ _ h => h) HSd.out ?_
      simp only [Act.put, List.setIfInBounds_toArray, List.set_cons_zero, List.set_cons_succ]
      refine hd_call 7 (o := ⟨some 42, _, _, _, _, _⟩) (by kernel_rfl) rfl (by rfl) (fun K' hK => ?_)
      go_wp2_with fail
      refine (nextU w2.drew p n X _ s (HPl2.out.below (Below.refl _ _).drew) _ R (HPart.out.keep (fun _ _ => rfl)) (fun b hb => hb.2) (by omega) hI.2 (by omega)).mono ?_
      rintro e w3 ⟨rfl, X3, h1, h2⟩
      rw [HL.out] at h1
      have HPl3 := hide h1
      have HE3 := hide h2
      have hz3 : w2.heap.size ≤ w3.heap.size := h2.mod.size
      have hk3 : ∀ b, b < w2.heap.size → ¬ X b → w3.heap[b]? = w2.heap[b]? := fun b hb hx => h2.mod.block b hb hx
      have HRf3 := hide (HRf2.out.keep (w' := w3) hz3 (fun b hb => hk3 b (HRf2.out.lt b hb) (fun hx => HXY.out b hx hb)))
      have HS3 : Hid (BxS A (A + 1) p r 3 t nn mm (.slice au L cu) w3) := hide (HS2.out.keep (hk3 A (by omega) (fun hx => HXA.out A (Nat.le_refl _) (.inl hx))) (hk3 (A + 1) (by omega) (fun hx => HXA.out (A + 1) (by omega) (.inl hx))))
      have HFull3 := hide (HFull.out.keep (w' := w3) (fun b hb => hk3 b hb.2 (fun hx => by have := hXl b (.inl hx); omega)))
      have HRd3 := hide ((HRd.out.keep (w' := w2) (fun b hb => HB2.out.block b (hsl b hb))).keep (w' := w3) (fun b hb => hk3 b (by have := hsl b hb; omega) (fun hx => (HSb.out b hb).1 (.inl hx))))
      clear h1 h2 hk3
      refine hK _ _ HS3.out ?_
      clear hK K'
      try simp only [Act.put, List.setIfInBounds_toArray, List.set_cons_zero, List.set_cons_succ]
      refine hd_take 8 (o := ⟨some 34, _, _, _, _, _⟩) (.tuple #[.int .i64 (zq s R), .int .i64 (mayF (srt R))]) (by kernel_rfl) (by kernel_rfl) (by kernel_rfl) rfl (by rfl) (fun W hSw => by obtain ⟨k0, k1, k2, k3, k4, k5⟩ := hSw; go_simp) (fun _ _ _ h => h) HS3.out ?_
      simp only [Act.put, List.setIfInBounds_toArray, List.set_cons_zero, List.set_cons_succ]
      refine hd_take 9 (o := ⟨some 43, _, _, _, _, _⟩) (.int .i64 (zq s R)) (by kernel_rfl) (by kernel_rfl) (by kernel_rfl) rfl (by rfl) (fun W hSw => by obtain ⟨k0, k1, k2, k3, k4, k5⟩ := hSw; go_simp) (fun _ _ _ h => h) HS3.out ?_
      simp only [Act.put, List.setIfInBounds_toArray, List.set_cons_zero, List.set_cons_succ]
      refine hd_take 10 (o := ⟨some 44, _, _, _, _, _⟩) (.int .i64 (mayF (srt R))) (by kernel_rfl) (by kernel_rfl) (by kernel_rfl) rfl (by rfl) (fun W hSw => by obtain ⟨k0, k1, k2, k3, k4, k5⟩ := hSw; go_simp) (fun _ _ _ h => h) HS3.out ?_
      simp only [Act.put, List.setIfInBounds_toArray, List.set_cons_zero, List.set_cons_succ]
      refine hd_take 11 (o := ⟨some 6, _, _, _, _, _⟩) (.int .i64 (zq s R)) (by kernel_rfl) (by kernel_rfl) (by kernel_rfl) rfl (by rfl) (fun W hSw => by obtain ⟨k0, k1, k2, k3, k4, k5⟩ := hSw; go_simp) (fun _ _ _ h => h) HS3.out ?_
      simp only [Act.put, List.setIfInBounds_toArray, List.set_cons_zero, List.set_cons_succ]
      refine hd_take 12 (o := ⟨some 7, _, _, _, _, _⟩) (.int .i64 (mayF (srt R))) (by kernel_rfl) (by kernel_rfl) (by kernel_rfl) rfl (by rfl) (fun W hSw => by obtain ⟨k0, k1, k2, k3, k4, k5⟩ := hSw; go_simp) (fun _ _ _ h => h) HS3.out ?_
      simp only [Act.put, List.setIfInBounds_toArray, List.set_cons_zero, List.set_cons_succ]
      refine wpAnyH_done (by kernel_rfl) ?_ _
      go_upto_region 7 with fail
      have HSe : Hid (BxS A (A + 1) p r 3 t nn mm (.slice au L cu) w3.drew) := hide (HS3.out.keep rfl rfl)
      refine wp_region_held_drew (S := BxS A (A + 1) p r 3 t nn mm (.slice au L cu)) (by kernel_rfl) HSe.out (fun hHeld => ?_)
      clear hHeld
      refine hd_take 0 (o := ⟨some 46, _, _, _, _, _⟩) (.pointer (some ⟨A, 1, none⟩)) (by kernel_rfl) (by kernel_rfl) (by kernel_rfl) rfl (by rfl) (fun W hSw => by obtain ⟨k0, k1, k2, k3, k4, k5⟩ := hSw; go_simp) (fun _ _ _ h => h) HSe.out ?_
      simp only [Act.put, List.setIfInBounds_toArray, List.set_cons_zero, List.set_cons_succ]
      refine hd_take 1 (o := ⟨some 47, _, _, _, _, _⟩) (.pointer (some ⟨r, 0, none⟩)) (by kernel_rfl) (by kernel_rfl) (by kernel_rfl) rfl (by rfl) (fun W hSw => by obtain ⟨k0, k1, k2, k3, k4, k5⟩ := hSw; go_simp) (fun _ _ _ h => h) HSe.out ?_
      simp only [Act.put, List.setIfInBounds_toArray, List.set_cons_zero, List.set_cons_succ]
      refine hd_take 2 (o := ⟨some 48, _, _, _, _, _⟩) (.pointer (some ⟨A + 1, 4, none⟩)) (by kernel_rfl) (by kernel_rfl) (by kernel_rfl) rfl (by rfl) (fun W hSw => by obtain ⟨k0, k1, k2, k3, k4, k5⟩ := hSw; go_simp) (fun _ _ _ h => h) HSe.out ?_
      simp only [Act.put, List.setIfInBounds_toArray, List.set_cons_zero, List.set_cons_succ]
      refine hd_take 3 (o := ⟨some 49, _, _, _, _, _⟩) (.slice au L cu) (by kernel_rfl) (by kernel_rfl) (by kernel_rfl) rfl (by rfl) (fun W hSw => by obtain ⟨k0, k1, k2, k3, k4, k5⟩ := hSw; go_simp) (fun _ _ _ h => h) HSe.out ?_
      simp only [Act.put, List.setIfInBounds_toArray, List.set_cons_zero, List.set_cons_succ]
      refine hd_call 4 (o := ⟨some 50, _, _, _, _, _⟩) (by kernel_rfl) rfl (by rfl) (fun K' hK => ?_)
      go_wp2_with fail
      refine (ownInts_any w3.drew S _ R (HRd3.out.keep (fun _ _ => rfl)) (fun b hb => by have := hsl b hb; show b < w3.heap.size; omega) (by omega)).mono ?_
      rintro e w4 ⟨ro, rfl, h1, h2⟩
      have HRo := hide h1
      have HB4 : Hid (Below w3.heap.size w3 w4) := hide (((Below.refl _ _).drew).trans h2)
      have hz4 : w3.heap.size ≤ w4.heap.size := h2.size
      have HS4 : Hid (BxS A (A + 1) p r 3 t nn mm (.slice au L cu) w4) := hide (HS3.out.keep (HB4.out.block A (by omega)) (HB4.out.block (A + 1) (by omega)))
      have HPl4 := hide (HPl3.out.below HB4.out)
      have HRf4 := hide (HRf3.out.below HB4.out)
      clear h1 h2
      refine hK _ _ HS4.out ?_
      clear hK K'
      try simp only [Act.put, List.setIfInBounds_toArray, List.set_cons_zero, List.set_cons_succ]
      refine hd_call 5 (o := ⟨some 51, _, _, _, _, _⟩) (by kernel_rfl) rfl (by rfl) (fun K' hK => ?_)
      go_wp2_with fail
      refine (rnextU w4 r n Y (fun b => w3.heap.size ≤ b ∧ b < w4.heap.size) s f last HRf4.out HAg.out HOk.out _ R (HRo.out.rd.mono (fun b hb => ⟨hb.1, hb.2.1⟩)) (fun b hb => ⟨fun hy => by have := hXl b (.inr hy); omega, hb.2⟩) (by omega) (by omega) hla).mono ?_
      rintro e w5 ⟨rfl, Y5, f5, l5, h1, h2, h3⟩
      rw [HL.out] at h1
      have HRf5 := hide h1
      have HAg5 := hide h2
      have HE5 := hide h3
      have hz5 : w4.heap.size ≤ w5.heap.size := h3.mod.size
      have hk5 : ∀ b, b < w3.heap.size → ¬ Y b → w5.heap[b]? = w3.heap[b]? := fun b hb hy => (h3.mod.block b (by omega) hy).trans (HB4.out.block b hb)
      have HS5 : Hid (BxS A (A + 1) p r 3 t nn mm (.slice au L cu) w5) := hide (HS4.out.keep (h3.mod.block A (by omega) (fun hy => HXA.out A (Nat.le_refl _) (.inr hy))) (h3.mod.block (A + 1) (by omega) (fun hy => HXA.out (A + 1) (by omega) (.inr hy))))
      have HPl5 := hide (HPl4.out.keep (w' := w5) hz5 (fun b hb => h3.mod.block b (HPl4.out.lt b hb) (fun hy => by
        rcases HE3.out.new b hb with h9 | h9
        · exact HXY.out b h9 hy
        · have h8 := hXl b (.inr hy); have h7 : w2.heap.size ≤ b := h9; omega)))
      have HFull5 := hide (HFull3.out.keep (w' := w5) (fun b hb => hk5 b (by omega) (fun hy => by have := hXl b (.inr hy); omega)))
      have HRd5 := hide (HRd3.out.keep (w' := w5) (fun b hb => hk5 b (by have := hsl b hb; omega) (fun hy => (HSb.out b hb).1 (.inr hy))))
      clear h1 h2 h3 hk5
      refine hK _ _ HS5.out ?_
      clear hK K'
      try simp only [Act.put, List.setIfInBounds_toArray, List.set_cons_zero, List.set_cons_succ]
      refine hd_take 6 (o := ⟨some 45, _, _, _, _, _⟩) (.tuple #[.int .i64 (zq s R), .int .i64 (mayF (srt R))]) (by kernel_rfl) (by kernel_rfl) (by kernel_rfl) rfl (by rfl) (fun W hSw => by obtain ⟨k0, k1, k2, k3, k4, k5⟩ := hSw; go_simp) (fun _ _ _ h => h) HS5.out ?_
      simp only [Act.put, List.setIfInBounds_toArray, List.set_cons_zero, List.set_cons_succ]
      refine hd_take 7 (o := ⟨some 52, _, _, _, _, _⟩) (.int .i64 (zq s R)) (by kernel_rfl) (by kernel_rfl) (by kernel_rfl) rfl (by rfl) (fun W hSw => by obtain ⟨k0, k1, k2, k3, k4, k5⟩ := hSw; go_simp) (fun _ _ _ h => h) HS5.out ?_
      simp only [Act.put, List.setIfInBounds_toArray, List.set_cons_zero, List.set_cons_succ]
      refine hd_take 8 (o := ⟨some 53, _, _, _, _, _⟩) (.int .i64 (mayF (srt R))) (by kernel_rfl) (by kernel_rfl) (by kernel_rfl) rfl (by rfl) (fun W hSw => by obtain ⟨k0, k1, k2, k3, k4, k5⟩ := hSw; go_simp) (fun _ _ _ h => h) HS5.out ?_
      simp only [Act.put, List.setIfInBounds_toArray, List.set_cons_zero, List.set_cons_succ]
      refine hd_take 9 (o := ⟨some 8, _, _, _, _, _⟩) (.int .i64 (zq s R)) (by kernel_rfl) (by kernel_rfl) (by kernel_rfl) rfl (by rfl) (fun W hSw => by obtain ⟨k0, k1, k2, k3, k4, k5⟩ := hSw; go_simp) (fun _ _ _ h => h) HS5.out ?_
      simp only [Act.put, List.setIfInBounds_toArray, List.set_cons_zero, List.set_cons_succ]
      refine hd_take 10 (o := ⟨some 9, _, _, _, _, _⟩) (.int .i64 (mayF (srt R))) (by kernel_rfl) (by kernel_rfl) (by kernel_rfl) rfl (by rfl) (fun W hSw => by obtain ⟨k0, k1, k2, k3, k4, k5⟩ := hSw; go_simp) (fun _ _ _ h => h) HS5.out ?_
      simp only [Act.put, List.setIfInBounds_toArray, List.set_cons_zero, List.set_cons_succ]
      refine wpAnyH_done (by kernel_rfl) ?_ _
      have HFin3 : Hid (∀ W, Below w5.heap.size w5 W → ∃ H', PrA p r (n + (L + 1)) W H' ∧ Ext H w H' W) := hide (fun W hW => by
        have hb0 := HExt.out.size
        refine ⟨fun b => X3 b ∨ Y5 b, ⟨X3, Y5, sq s R, f5, l5, (HPl5.out.below hW).mono' (by omega), (HRf5.out.below hW).mono (by omega), HAg5.out, fun b hx hy => ?_, fun b => Iff.rfl⟩, ⟨?_, fun b hb => ?_⟩⟩
        · have hx' := HE3.out.new b hx
          have hy' := HE5.out.new b hy
          have hl3 := HPl3.out.lt b hx
          rcases hx' with h9 | h9
          · rcases hy' with h8 | h8
            · exact HXY.out b h9 h8
            · omega
          · have h9' : w2.heap.size ≤ b := h9
            rcases hy' with h8 | h8
            · have := hXl b (.inr h8); omega
            · omega
        · refine ((((Mod.of_below HExt.out).trans (Mod.of_below HB2.out)).trans (F := H) ⟨HE3.out.mod.os, HE3.out.mod.tape, HE3.out.mod.output, HE3.out.mod.size, fun b hb hh => HE3.out.mod.block b hb (fun hx => hh ((HH.out b).2 (.inl hx)))⟩).trans (Mod.of_below HB4.out)).trans ((⟨HE5.out.mod.os, HE5.out.mod.tape, HE5.out.mod.output, HE5.out.mod.size, fun b hb hh => HE5.out.mod.block b hb (fun hx => hh ((HH.out b).2 (.inr hx)))⟩ : Mod H w4 w5).trans (Mod.of_below hW))
        · rcases hb with hb | hb
          · rcases HE3.out.new b hb with h9 | h9
            · exact .inl ((HH.out b).2 (.inl h9))
            · have h9' : w2.heap.size ≤ b := h9; exact .inr (by omega)
          · rcases HE5.out.new b hb with h9 | h9
            · exact .inl ((HH.out b).2 (.inr h9))
            · exact .inr (by omega))
      obtain ⟨q0, q1, ⟨q2, q3⟩, q4, q5, q6⟩ := HS5.out
      go_wp2_with fail
      refine (intact_any w5 (fun b => b < w5.heap.size) _ _ R (HFull5.out.mono (fun b hb => by omega)) (HRd5.out.mono (fun b hb => by have := hsl b hb; omega)) (fun b hb => hb) (by omega)).mono ?_
      rintro e w6 ⟨rfl, hb6⟩
      have HB6 := hide hb6
      clear hb6
      go_wp2
      go_ret
      exact ⟨rfl, by rw [HL.out]; exact HFin3.out _ HB6.out⟩
    · have hk3b : (k == 3) = false := by simpa using hk3
      clear hk2 hk3
      go_upto_region 9 with fail
      clear b0 b1 b2 b3 b4 b5 b6
      have HSd : Hid (BxS A (A + 1) p r k t nn mm u0 w1.drew) := hide (HS.out.keep rfl rfl)
      refine wp_region_held_drew (S := BxS A (A + 1) p r k t nn mm u0) (by kernel_rfl) HSd.out (fun hHeld => ?_)
      clear hHeld
      refine hd_take 0 (o := ⟨some 68, _, _, _, _, _⟩) (.pointer (some ⟨A, 0, none⟩)) (by kernel_rfl) (by kernel_rfl) (by kernel_rfl) rfl (by rfl) (fun W hSw => by obtain ⟨k0, k1, k2, k3, k4, k5⟩ := hSw; go_simp) (fun _ _ _ h => h) HSd.out ?_
      simp only [Act.put, List.setIfInBounds_toArray, List.set_cons_zero, List.set_cons_succ]
      refine hd_take 1 (o := ⟨some 69, _, _, _, _, _⟩) (.pointer (some ⟨p, 0, none⟩)) (by kernel_rfl) (by kernel_rfl) (by kernel_rfl) rfl (by rfl) (fun W hSw => by obtain ⟨k0, k1, k2, k3, k4, k5⟩ := hSw; go_simp) (fun _ _ _ h => h) HSd.out ?_
      simp only [Act.put, List.setIfInBounds_toArray, List.set_cons_zero, List.set_cons_succ]
      refine hd_take 3 (o := ⟨some 71, _, _, _, _, _⟩) (.pointer (some ⟨A, 1, none⟩)) (by kernel_rfl) (by kernel_rfl) (by kernel_rfl) rfl (by rfl) (fun W hSw => by obtain ⟨k0, k1, k2, k3, k4, k5⟩ := hSw; go_simp) (fun _ _ _ h => h) HSd.out ?_
      simp only [Act.put, List.setIfInBounds_toArray, List.set_cons_zero, List.set_cons_succ]
      refine hd_take 4 (o := ⟨some 72, _, _, _, _, _⟩) (.pointer (some ⟨r, 0, none⟩)) (by kernel_rfl) (by kernel_rfl) (by kernel_rfl) rfl (by rfl) (fun W hSw => by obtain ⟨k0, k1, k2, k3, k4, k5⟩ := hSw; go_simp) (fun _ _ _ h => h) HSd.out ?_
      simp only [Act.put, List.setIfInBounds_toArray, List.set_cons_zero, List.set_cons_succ]
      refine hd_call 2 (o := ⟨some 70, _, _, _, _, _⟩) (by kernel_rfl) rfl (by rfl) (fun K' hK => ?_)
      go_wp2_with fail
      refine (Told_any w1.drew p n X s (HPl.out.below (Below.refl _ _).drew) (by omega)).mono ?_
      rintro e w2 ⟨v2, ks, rfl, h1, h2, h3, h4, h5⟩
      have HT2 := hide h1
      have HKs := hide (And.intro h2 (And.intro h3 h4))
      have HB2 : Hid (Below w1.heap.size w1 w2) := hide (((Below.refl _ _).drew).trans h5)
      have HS2 : Hid (BxS A (A + 1) p r k t nn mm u0 w2) := hide (HS.out.keep (HB2.out.block A hAw) (HB2.out.block (A + 1) hBw))
      clear h1 h2 h3 h4 h5
      refine hK _ _ HS2.out ?_
      clear hK K'
      try simp only [Act.put, List.setIfInBounds_toArray, List.set_cons_zero, List.set_cons_succ]
      refine hd_call 5 (o := ⟨some 73, _, _, _, _, _⟩) (by kernel_rfl) rfl (by rfl) (fun K' hK => ?_)
      go_wp2_with fail
      have HRf2 := hide (HRf.out.below HB2.out)
      obtain ⟨L2, hl1, hl2, hl3⟩ := HRf2.out
      refine (rtold_any w2 r s.kind Y L2 last hl1 (by omega)).mono ?_
      rintro e w3 ⟨v3, rfl, h1, h2⟩
      rw [← agf_told HAg.out HOk.out hl2 HKs.out.1 HKs.out.2.1] at h1
      have HT3 := hide h1
      have HB3 := hide h2
      have hz2 := HB2.out.size
      have hz3 := h2.size
      have HS3 : Hid (BxS A (A + 1) p r k t nn mm u0 w3) := hide (HS2.out.keep (h2.block A (by omega)) (h2.block (A + 1) (by omega)))
      clear h1 h2 hl1 hl2 hl3
      refine hK _ _ HS3.out ?_
      clear hK K'
      try simp only [Act.put, List.setIfInBounds_toArray, List.set_cons_zero, List.set_cons_succ]
      refine hd_call 6 (o := ⟨some 74, _, _, _, _, _⟩) (by kernel_rfl) rfl (by rfl) (fun K' hK => ?_)
      go_wp2_with fail
      refine (sameShares_any w3 (fun b => b < w3.heap.size) _ _ (told s ks) ((HT2.out.shr.keep (w' := w3) (fun b hb => HB3.out.block b hb.2)).mono (fun b hb => by have := HB3.out.size; omega)) (HT3.out.shr.mono (fun b hb => hb.2)) (by unfold told; rw [List.length_map]; have := HKs.out.2.2; omega)).mono ?_
      rintro e w4 ⟨rfl, hd⟩
      have HD4 := hide hd
      have HS4 : Hid (BxS A (A + 1) p r k t nn mm u0 w4) := hide (HS3.out.keep (by rw [hd.heap]) (by rw [hd.heap]))
      clear hd
      refine hK _ _ HS4.out ?_
      clear hK K'
      try simp only [Act.put, List.setIfInBounds_toArray, List.set_cons_zero, List.set_cons_succ]
      refine hd_take 7 (o := ⟨some 4, _, _, _, _, _⟩) (.bool true) (by kernel_rfl) (by kernel_rfl) (by kernel_rfl) rfl (by rfl) (fun W hSw => by obtain ⟨k0, k1, k2, k3, k4, k5⟩ := hSw; go_simp) (fun _ _ _ h => h) HS4.out ?_
      simp only [Act.put, List.setIfInBounds_toArray, List.set_cons_zero, List.set_cons_succ]
      refine wpAnyH_done (by kernel_rfl) ?_ _
      go_wp2
      go_ret
      exact ⟨rfl, HFin.out _ ((HB2.out.trans (HB3.out.mono HB2.out.size)).trans (HD4.out.below _))⟩
end
end Go.Proofs.Ytngmnlmagbfijab
