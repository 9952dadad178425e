import Derived.Test.YtclbgmkodjiapaaAE
namespace Go.Proofs.Ytclbgmkodjiapaa
open Go.RowKit Go.Shelf

attribute [local go_sem] Oper.semAt_some
attribute [local go_sem] eqF
set_option maxRecDepth 100000 in
set_option maxHeartbeats 6400000 in
theorem all_walk (bound : Int) (a1 : Option Addr) (len1 cap1 : Nat) (Z1 : Nat → Int × Int × Int × Int) (a2 : Option Addr) (len2 cap2 : Nat) (Z2 : Nat → Int × Int × Int × Int) (w : World) (hl1 : len1 ≤ maxLen) (h1 : IsQuads w a1 len1 Z1) (hl2 : len2 ≤ maxLen) (h2 : IsQuads w a2 len2 Z2) :
    Calls Try.prog 3 #[.int .i64 bound, .slice a1 len1 cap1, .slice a2 len2 cap2] w fun e w' => e = .returned (.bool true) ∧ Below w.heap.size w w' := by
  have HZ1 := hide h1
  have HZ2 := hide h2
  clear h1 h2
  refine (callsIn_wide (n := 9)).1 (callsIn_of_wp_marks Try.func3 rfl trivial (wpIn_mono (Q := noP _) (wpIn_wide.2 ?_) (fun _ _ _ h => h.2)) rfl)
  simp only [Try.ntmps3, List.size_toArray, List.length_cons, List.length_nil, Nat.reduceAdd, Nat.reduceSub, Array.replicate_succ, Array.replicate_zero, List.push_toArray, List.append_toArray, List.nil_append, List.cons_append]
  have HB0 := hide ((Below.refl w.heap.size w).alloc (Nat.le_refl _) (.cells #[.slice a2 len2 cap2] 23))
  have b5 := heap_alloc_new w (.cells #[.slice a2 len2 cap2] 23)
  have l5 : w.heap.size < (w.alloc (.cells #[.slice a2 len2 cap2] 23)).heap.size := by simp
  go_wp2_with fail
  generalize w.alloc (.cells #[.slice a2 len2 cap2] 23) = w1 at *
  refine (fixed_any w1).mono ?_
  rintro e w2 ⟨rfl, hb2⟩
  have HB2 := hide (HB0.out.trans (hb2.mono HB0.out.size))
  have HB5 := hide ((hb2.block _ l5).trans b5)
  have l52 : w.heap.size < w2.heap.size := by have := hb2.size; omega
  clear hb2 b5 l5 HB0
  go_wp2_with fail
  refine (filled_any w2 bound a1 len1 cap1 Z1 hl1 (HZ1.out.below HB2.out)).mono ?_
  rintro e w3 ⟨B, R, F, G, m, rfl, hD⟩
  have HS0 : Hid (St w w3 F B m G R m [(w.heap.size, .cells #[.slice a2 len2 cap2] 23 (0, 0))]) := hide ⟨hD.base HB2.out, fun p hp => by
    rw [List.mem_singleton.1 hp]
    exact ⟨(hD.bel.block _ l52).trans HB5.out, fun h => by have := hD.loF _ h; omega, fun h => by have := hD.loG _ h; omega, Nat.le_refl _⟩⟩
  clear hD HB5 l52 HB2
  have HS1 := hide ((((HS0.out.push (.cells #[.pointer (some ⟨B, 0, none⟩)] 25)).push (.cells #[.pointer (some ⟨R, 0, none⟩)] 26)).push (.cells #[.pointer (some ⟨B, 0, none⟩)] 25)).push (.cells #[.func (.func 23) #[] #[.pointer (some ⟨w3.heap.size + 1 + 1, 0, none⟩)]] 30))
  simp only [World.size_alloc] at HS1
  clear HS0
  go_wp2_with fail
  refine ((callsIn_wide (n := 0)).1 (all_in B 0 _)).mono ?_
  rintro e w4 ⟨rfl, rfl⟩
  simp only [World.size_alloc]
  go_wp2_with fail
  generalize (((w3.alloc (.cells #[.pointer (some ⟨B, 0, none⟩)] 25)).alloc (.cells #[.pointer (some ⟨R, 0, none⟩)] 26)).alloc (.cells #[.pointer (some ⟨B, 0, none⟩)] 25)).alloc (.cells #[.func (.func 23) #[] #[.pointer (some ⟨w3.heap.size + 1 + 1, 0, none⟩)]] 30) = W0 at *
  generalize w3.heap.size = c7 at *
  have HS2 : Hid (St w W0 F B m G R m (([] : List Nat).map (fun D => (D, Obj.deferred (some []))) ++ st0 (.slice a2 len2 cap2) w.heap.size c7 B R)) := hide (HS1.out.sub (by intro p hp; simp only [st0, List.map_nil, List.nil_append, List.mem_cons, List.not_mem_nil, or_false] at hp ⊢; rcases hp with h | h | h | h | h <;> simp [h]))
  clear HS1
  refine wp_loop (AllI w bound (.slice a1 len1 cap1) (.slice a2 len2 cap2) c7 B R G) (fun a _ => 2 - (intOf (a.tmps.getD 10 undef)).toNat) ?start ?round
  case start => exact AllI.mk1 0 [] F m (by omega) rfl (hide List.nodup_nil) HS2
  case round =>
    rintro a W ⟨k, ds, F, m, us, hk, rfl, HN, HS⟩
    clear HS2
    by_cases hlt : k < 2
    · have cb := fun p hp => (HS.out.bx p hp).1
      have b5 := cb (w.heap.size, .cells #[.slice a2 len2 cap2] 23 (0, 0)) (by simp [st0])
      have b8 := cb (c7 + 1, .cells #[.pointer (some ⟨R, 0, none⟩)] 26 (0, 0)) (by simp [st0])
      clear cb
      go_upto_region 12 with fail
      refine cut_region (AllJ w bound (.slice a1 len1 cap1) (.slice a2 len2 cap2) c7 B R G k ds F m Z2 len2) (fun K hK => ?_) ?_
      · have HK := hide hK
        clear hK
        have HX : Hid (∀ W5 (bs : List (Nat × Obj)), St w W5 F B m G R m bs → (∀ p ∈ (ds.map (fun D => (D, Obj.deferred (some []))) ++ st0 (.slice a2 len2 cap2) w.heap.size c7 B R), p ∈ bs) → W5.heap[w.heap.size]? = some (.cells #[.slice a2 len2 cap2] 23 (0, 0)) ∧ W5.heap[c7 + 1]? = some (.cells #[.pointer (some ⟨R, 0, none⟩)] 26 (0, 0))) := hide (fun W5 bs h hs =>
          ⟨(h.bx (w.heap.size, .cells #[.slice a2 len2 cap2] 23 (0, 0)) (hs _ (by simp [st0]))).1, (h.bx (c7 + 1, .cells #[.pointer (some ⟨R, 0, none⟩)] 26 (0, 0)) (hs _ (by simp [st0]))).1⟩)
        obtain ⟨wD, hwD⟩ : ∃ wD, wD = W.drew := ⟨_, rfl⟩
        have HP0 : Hid (St w wD F B m G R m (ds.map (fun D => (D, Obj.deferred (some []))) ++ st0 (.slice a2 len2 cap2) w.heap.size c7 B R)) := by rw [hwD]; exact hide (HS.out.below (Below.refl _ _).drew)
        refine wp_region_held_drew (S := fun W5 => W5.heap[w.heap.size]? = some (.cells #[.slice a2 len2 cap2] 23 (0, 0)) ∧ W5.heap[c7 + 1]? = some (.cells #[.pointer (some ⟨R, 0, none⟩)] 26 (0, 0))) (by kernel_rfl) (by rw [← hwD]; exact HX.out _ _ HP0.out (fun _ h => h)) (fun _ => ?_)
        rw [← hwD]
        clear hwD b5 b8
        refine hd_take 0 (o := ⟨some 41, _, _, _, _, _⟩) (.pointer (some ⟨R, 0, none⟩)) (by kernel_rfl) (by kernel_rfl) (by kernel_rfl) rfl (by rfl) (fun W5 hSw => by have e5 := (cell_of_box hSw.1).1; have e8 := (cell_of_box hSw.2).1; go_simp) (fun _ _ _ h => absurd rfl (h.1 _)) (HX.out _ _ HP0.out (fun _ h => h)) ?_
        try simp only [Act.put, List.setIfInBounds_toArray, List.set_cons_zero, List.set_cons_succ]
        refine hd_take 2 (o := ⟨some 43, _, _, _, _, _⟩) (.slice a2 len2 cap2) (by kernel_rfl) (by kernel_rfl) (by kernel_rfl) rfl (by rfl) (fun W5 hSw => by have e5 := (cell_of_box hSw.1).1; have e8 := (cell_of_box hSw.2).1; go_simp) (fun _ _ _ h => absurd rfl (h.1 _)) (HX.out _ _ HP0.out (fun _ h => h)) ?_
        try simp only [Act.put, List.setIfInBounds_toArray, List.set_cons_zero, List.set_cons_succ]
        refine hd_two 1 4 (o1 := ⟨some 42, _, _, _, _, _⟩) (o2 := ⟨some 11, _, _, _, _, _⟩) (by kernel_rfl) rfl rfl (by rfl) (by rfl) (fun K hK => ?_) (fun K hK => ?_)
        · go_simp
          go_wp2_with (go_at_call 8; refine (copy_st HP0.out).mono ?_; rintro e1 w6 ⟨C, Fc, rfl, hS6, hC6, hb6⟩)
          have HP6 := hide hS6
          have HC6 := hide hC6
          have hsz6 := hb6.size
          clear hS6 hC6 hb6
          refine hK _ _ (HX.out _ _ HP6.out (fun p hp => by first | exact hp | exact List.mem_cons_of_mem _ hp | exact List.mem_append_right _ hp | exact List.mem_cons_of_mem _ (List.mem_append_right _ hp) | exact List.mem_append_right _ (List.mem_cons_of_mem _ hp))) ?_
          clear hK K
          try simp only [Act.put, List.setIfInBounds_toArray, List.set_cons_zero, List.set_cons_succ]
          refine hd_two 3 4 (o1 := ⟨some 44, _, _, _, _, _⟩) (o2 := ⟨some 11, _, _, _, _, _⟩) (by kernel_rfl) rfl rfl (by rfl) (by rfl) (fun K hK => ?_) (fun K hK => ?_)
          · go_simp
            go_wp2_with (go_at_call 7; refine (ranged_st HP6.out HC6.out a2 len2 cap2 Z2 hl2 HZ2.out).mono ?_; rintro e1 w8 ⟨v, L, bw, rfl, hW8, hS8, hlo8, hsz8, _⟩)
            have HP8 := hide hS8
            have HW8 := hide hW8
            clear hS8 hW8
            obtain ⟨va, vc, hv⟩ := HW8.out.2.2.2.1
            refine hK _ _ (HX.out _ _ HP8.out (fun p hp => by first | exact hp | exact List.mem_cons_of_mem _ hp | exact List.mem_append_right _ hp | exact List.mem_cons_of_mem _ (List.mem_append_right _ hp) | exact List.mem_append_right _ (List.mem_cons_of_mem _ hp))) ?_
            clear hK K
            try simp only [Act.put, List.setIfInBounds_toArray, List.set_cons_zero, List.set_cons_succ]
            refine hd_call 4 (o := ⟨some 11, _, _, _, _, _⟩) (by kernel_rfl) rfl (by rfl) (fun K hK => ?_)
            go_simp
            have HP9 := hide (HP8.out.push (.cells #[.slice none 0 0] 32))
            have lt9 : (w8).heap.size < ((w8).alloc (.cells #[.slice none 0 0] 32)).heap.size := by simp
            have ls9 : ∀ p ∈ (bw ++ (ds.map (fun D => (D, Obj.deferred (some []))) ++ st0 (.slice a2 len2 cap2) w.heap.size c7 B R)), p.1 < (w8).heap.size := fun p hp => HP8.out.lt hp
            refine hK _ _ (HX.out _ _ HP9.out (fun p hp => by first | exact hp | exact List.mem_cons_of_mem _ hp | exact List.mem_append_right _ hp | exact List.mem_cons_of_mem _ (List.mem_append_right _ hp) | exact List.mem_append_right _ (List.mem_cons_of_mem _ hp))) ?_
            clear hK K
            obtain ⟨c, hc⟩ : ∃ c, c = (w8).heap.size := ⟨_, rfl⟩
            simp only [← hc] at HP9 lt9 ls9 ⊢
            clear hc
            generalize (w8).alloc (.cells #[.slice none 0 0] 32) = wA at *
            try simp only [Act.put, List.setIfInBounds_toArray, List.set_cons_zero, List.set_cons_succ]
            refine hd_call 5 (o := ⟨none, _, _, _, _, _⟩) (by kernel_rfl) rfl (by rfl) (fun K hK => ?_)
            subst hv
            obtain ⟨x0, f0⟩ := cell_of_box (HP9.out.bx _ (List.mem_cons_self ..)).1
            have HF := hide (HP9.out.set (fun p hp e => by have := ls9 p hp; omega) (.slice va L.length vc))
            go_simp
            refine hK _ _ (HX.out _ _ HF.out (fun p hp => by first | exact hp | exact List.mem_cons_of_mem _ hp | exact List.mem_append_right _ hp | exact List.mem_cons_of_mem _ (List.mem_append_right _ hp) | exact List.mem_append_right _ (List.mem_cons_of_mem _ hp))) ?_
            refine wpAnyH_done (by kernel_rfl) ?_ _
            exact HK.out _ _ (AllJ.mk1 c _ L bw rfl HW8 HF)
          · go_simp
            have HP7 := hide (HP6.out.push (.cells #[.slice none 0 0] 32))
            have HC7 := hide (HC6.out.push (.cells #[.slice none 0 0] 32))
            have lt7 : (w6).heap.size < ((w6).alloc (.cells #[.slice none 0 0] 32)).heap.size := by simp
            have ls7 : ∀ p ∈ (ds.map (fun D => (D, Obj.deferred (some []))) ++ st0 (.slice a2 len2 cap2) w.heap.size c7 B R), p.1 < (w6).heap.size := fun p hp => HP6.out.lt hp
            refine hK _ _ (HX.out _ _ HP7.out (fun p hp => by first | exact hp | exact List.mem_cons_of_mem _ hp | exact List.mem_append_right _ hp | exact List.mem_cons_of_mem _ (List.mem_append_right _ hp) | exact List.mem_append_right _ (List.mem_cons_of_mem _ hp))) ?_
            clear hK K
            obtain ⟨c, hc⟩ : ∃ c, c = (w6).heap.size := ⟨_, rfl⟩
            simp only [← hc] at HP7 lt7 ls7 HC7 ⊢
            clear hc
            generalize (w6).alloc (.cells #[.slice none 0 0] 32) = wA at *
            try simp only [Act.put, List.setIfInBounds_toArray, List.set_cons_zero, List.set_cons_succ]
            refine hd_call 3 (o := ⟨some 44, _, _, _, _, _⟩) (by kernel_rfl) rfl (by rfl) (fun K hK => ?_)
            go_simp
            go_wp2_with (go_at_call 7; refine (ranged_st HP7.out HC7.out a2 len2 cap2 Z2 hl2 HZ2.out).mono ?_; rintro e1 w8 ⟨v, L, bw, rfl, hW8, hS8, hlo8, hsz8, _⟩)
            have HP8 := hide hS8
            have HW8 := hide hW8
            clear hS8 hW8
            obtain ⟨va, vc, hv⟩ := HW8.out.2.2.2.1
            refine hK _ _ (HX.out _ _ HP8.out (fun p hp => by first | exact hp | exact List.mem_cons_of_mem _ hp | exact List.mem_append_right _ hp | exact List.mem_cons_of_mem _ (List.mem_append_right _ hp) | exact List.mem_append_right _ (List.mem_cons_of_mem _ hp))) ?_
            clear hK K
            try simp only [Act.put, List.setIfInBounds_toArray, List.set_cons_zero, List.set_cons_succ]
            have HPr := hide (HP8.out.sub (bs' := (c, .cells #[.slice none 0 0] 32) :: (bw ++ (ds.map (fun D => (D, Obj.deferred (some []))) ++ st0 (.slice a2 len2 cap2) w.heap.size c7 B R))) (fun p hp => by simp only [List.mem_cons, List.mem_append] at hp ⊢; rcases hp with h | h | h | h <;> simp [h]))
            refine hd_call 5 (o := ⟨none, _, _, _, _, _⟩) (by kernel_rfl) rfl (by rfl) (fun K hK => ?_)
            subst hv
            obtain ⟨x0, f0⟩ := cell_of_box (HPr.out.bx _ (List.mem_cons_self ..)).1
            have HF := hide (HPr.out.set (fun p hp e => (List.mem_append.1 hp).elim (fun h => by have := hlo8 p h; omega) (fun h => by have := ls7 p h; omega)) (.slice va L.length vc))
            go_simp
            refine hK _ _ (HX.out _ _ HF.out (fun p hp => by first | exact hp | exact List.mem_cons_of_mem _ hp | exact List.mem_append_right _ hp | exact List.mem_cons_of_mem _ (List.mem_append_right _ hp) | exact List.mem_append_right _ (List.mem_cons_of_mem _ hp))) ?_
            refine wpAnyH_done (by kernel_rfl) ?_ _
            exact HK.out _ _ (AllJ.mk1 c _ L bw rfl HW8 HF)
        · go_simp
          have HPa := hide (HP0.out.push (.cells #[.slice none 0 0] 32))
          have lta : (wD).heap.size < ((wD).alloc (.cells #[.slice none 0 0] 32)).heap.size := by simp
          have lsa : ∀ p ∈ (ds.map (fun D => (D, Obj.deferred (some []))) ++ st0 (.slice a2 len2 cap2) w.heap.size c7 B R), p.1 < (wD).heap.size := fun p hp => HP0.out.lt hp
          refine hK _ _ (HX.out _ _ HPa.out (fun p hp => by first | exact hp | exact List.mem_cons_of_mem _ hp | exact List.mem_append_right _ hp | exact List.mem_cons_of_mem _ (List.mem_append_right _ hp) | exact List.mem_append_right _ (List.mem_cons_of_mem _ hp))) ?_
          clear hK K
          obtain ⟨c, hc⟩ : ∃ c, c = (wD).heap.size := ⟨_, rfl⟩
          simp only [← hc] at HPa lta lsa ⊢
          clear hc
          generalize (wD).alloc (.cells #[.slice none 0 0] 32) = wA at *
          try simp only [Act.put, List.setIfInBounds_toArray, List.set_cons_zero, List.set_cons_succ]
          refine hd_call 1 (o := ⟨some 42, _, _, _, _, _⟩) (by kernel_rfl) rfl (by rfl) (fun K hK => ?_)
          go_simp
          go_wp2_with (go_at_call 8; refine (copy_st HPa.out).mono ?_; rintro e1 w6 ⟨C, Fc, rfl, hS6, hC6, hb6⟩)
          have HP6 := hide hS6
          have HC6 := hide hC6
          have hsz6 := hb6.size
          clear hS6 hC6 hb6
          refine hK _ _ (HX.out _ _ HP6.out (fun p hp => by first | exact hp | exact List.mem_cons_of_mem _ hp | exact List.mem_append_right _ hp | exact List.mem_cons_of_mem _ (List.mem_append_right _ hp) | exact List.mem_append_right _ (List.mem_cons_of_mem _ hp))) ?_
          clear hK K
          try simp only [Act.put, List.setIfInBounds_toArray, List.set_cons_zero, List.set_cons_succ]
          refine hd_call 3 (o := ⟨some 44, _, _, _, _, _⟩) (by kernel_rfl) rfl (by rfl) (fun K hK => ?_)
          go_simp
          go_wp2_with (go_at_call 7; refine (ranged_st HP6.out HC6.out a2 len2 cap2 Z2 hl2 HZ2.out).mono ?_; rintro e1 w8 ⟨v, L, bw, rfl, hW8, hS8, hlo8, hsz8, _⟩)
          have HP8 := hide hS8
          have HW8 := hide hW8
          clear hS8 hW8
          obtain ⟨va, vc, hv⟩ := HW8.out.2.2.2.1
          refine hK _ _ (HX.out _ _ HP8.out (fun p hp => by first | exact hp | exact List.mem_cons_of_mem _ hp | exact List.mem_append_right _ hp | exact List.mem_cons_of_mem _ (List.mem_append_right _ hp) | exact List.mem_append_right _ (List.mem_cons_of_mem _ hp))) ?_
          clear hK K
          try simp only [Act.put, List.setIfInBounds_toArray, List.set_cons_zero, List.set_cons_succ]
          have HPr := hide (HP8.out.sub (bs' := (c, .cells #[.slice none 0 0] 32) :: (bw ++ (ds.map (fun D => (D, Obj.deferred (some []))) ++ st0 (.slice a2 len2 cap2) w.heap.size c7 B R))) (fun p hp => by simp only [List.mem_cons, List.mem_append] at hp ⊢; rcases hp with h | h | h | h <;> simp [h]))
          refine hd_call 5 (o := ⟨none, _, _, _, _, _⟩) (by kernel_rfl) rfl (by rfl) (fun K hK => ?_)
          subst hv
          obtain ⟨x0, f0⟩ := cell_of_box (HPr.out.bx _ (List.mem_cons_self ..)).1
          have HF := hide (HPr.out.set (fun p hp e => (List.mem_append.1 hp).elim (fun h => by have := hlo8 p h; omega) (fun h => by have := lsa p h; omega)) (.slice va L.length vc))
          go_simp
          refine hK _ _ (HX.out _ _ HF.out (fun p hp => by first | exact hp | exact List.mem_cons_of_mem _ hp | exact List.mem_append_right _ hp | exact List.mem_cons_of_mem _ (List.mem_append_right _ hp) | exact List.mem_append_right _ (List.mem_cons_of_mem _ hp))) ?_
          refine wpAnyH_done (by kernel_rfl) ?_ _
          exact HK.out _ _ (AllJ.mk1 c _ L bw rfl HW8 HF)
      · rintro a Wz ⟨c, v, L, bw, us2, rfl, HW, HSz⟩
        clear HS
        have HS3 := hide ((HSz.out.push (.cells #[.int .i64 0] 3)).push (.cells #[.bool true] 4))
        simp only [World.size_alloc] at HS3
        have b9 := (HS3.out.bx (c7 + 1 + 1 + 1, .cells #[.func (.func 23) #[] #[.pointer (some ⟨c7 + 1 + 1, 0, none⟩)]] 30 (0, 0)) (by simp [st0])).1
        have e9 := (cell_of_box b9).1
        have HLt : Hid (∀ p ∈ (c, Obj.cells #[v] 32 (0, 0)) :: (bw ++ (ds.map (fun D => (D, Obj.deferred (some []))) ++ st0 (.slice a2 len2 cap2) w.heap.size c7 B R)), p.1 < Wz.heap.size) := hide (fun p hp => HSz.out.lt hp)
        clear HSz b5 b8
        go_wp2_with fail
        have HW1 : Hid (((Wz.alloc (.cells #[.int .i64 0] 3)).alloc (.cells #[.bool true] 4)).heap.size = Wz.heap.size + 1 + 1) := hide (by simp)
        generalize (Wz.alloc (.cells #[.int .i64 0] 3)).alloc (.cells #[.bool true] 4) = W1 at *
        generalize Wz.heap.size = c12 at *
        have HBd : Hid (∀ p ∈ (c, Obj.cells #[v] 32 (0, 0)) :: (bw ++ (ds.map (fun D => (D, Obj.deferred (some []))) ++ st0 (.slice a2 len2 cap2) w.heap.size c7 B R)), p.1 < W1.heap.size) := hide (fun p hp => by have := HLt.out p hp; have := HW1.out; omega)
        have H12 : Hid (c12 < W1.heap.size) := hide (by have := HW1.out; omega)
        have H13 : Hid (c12 + 1 < W1.heap.size) := hide (by have := HW1.out; omega)
        have Hwb : Hid (w.heap.size ≤ W1.heap.size) := hide HS3.out.duo.bel.size
        have Hcap : Hid (m.length ≤ 4096) := hide HS3.out.duo.tab.cap
        have HI0 : Hid (RI w B R G (rnd Z2 len2 m) L W1.heap.size c12 (c12 + 1) ((c, Obj.cells #[v] 32 (0, 0)) :: (bw ++ (ds.map (fun D => (D, Obj.deferred (some []))) ++ st0 (.slice a2 len2 cap2) w.heap.size c7 B R))) [] W1) := hide ⟨F, HS3.out.sub (fun p hp => by simp only [List.mem_cons] at hp ⊢; rcases hp with h | h | h | h <;> simp [h]), fun b hb => hb.elim (fun h => by have := HS3.out.duo.tab.lt b h; omega) (fun h => by have := HS3.out.duo.ref.lt b h; omega), rfl, Nat.zero_le _⟩
        clear HS3 b9 e9
        refine wpIn_wide.1 (range_turn (n := 9) (F := Fence.wide) rfl (by omega) (gf := 23) (lb := #[.pointer (some ⟨c7 + 1 + 1, 0, none⟩)]) rfl trivial (enters_of Try.func23 (by kernel_rfl) rfl) (encs := fun x : Nat × Int => #[.int .i64 (x.1 : Nat), .int .i64 x.2]) (fun _ => rfl) (fun pre x => Nx (rnd Z2 len2 m pre.length) (lp pre) x) (fun xs => NoNext (rnd Z2 len2 m xs.length) (lp xs))
          (fun pre W5 => RI w B R G (rnd Z2 len2 m) L W1.heap.size c12 (c12 + 1) ((c, Obj.cells #[v] 32 (0, 0)) :: (bw ++ (ds.map (fun D => (D, Obj.deferred (some []))) ++ st0 (.slice a2 len2 cap2) w.heap.size c7 B R))) pre W5 ∧ ∀ j, j < pre.length → leaveTo Z2 (j : Nat) len2 = false)
          (fun cd pre W5 => cd = .exit 2 ∧ RI w B R G (rnd Z2 len2 m) L W1.heap.size c12 (c12 + 1) ((c, Obj.cells #[v] 32 (0, 0)) :: (bw ++ (ds.map (fun D => (D, Obj.deferred (some []))) ++ st0 (.slice a2 len2 cap2) w.heap.size c7 B R))) pre W5 ∧ pre.length = L.length)
          (fun l J Jx hJI hY W5 h5 => all1_turn 8 (by omega) l (c7 + 1 + 1) B m.length Hcap.out (rnd Z2 len2 m) (rnd_len Z2 len2 m) J Jx (fun pre W6 h6 => (hJI pre W6 h6).1.iter (by simp [st0])) hY W5 h5)
          (fun pre W5 W6 row h hg hr => ⟨h.1.own Hwb.out H12.out H13.out HBd.out hg hr, h.2⟩)
          (fun cd pre W5 W6 row h hg hr => ⟨h.1, h.2.1.own Hwb.out H12.out H13.out HBd.out hg hr, h.2.2⟩)
          ⟨HI0.out, fun j hj => absurd hj (Nat.not_lt_zero j)⟩
          (fun x => { tmps := #[.int .i64 bound, .slice a1 len1 cap1, .slice a2 len2 cap2, undef, undef, .pointer (some ⟨w.heap.size, 0, none⟩), .bool false, .pointer (some ⟨c7, 0, none⟩), .pointer (some ⟨c7 + 1, 0, none⟩), .pointer (some ⟨c7 + 1 + 1 + 1, 0, none⟩), .int .i64 (k : Nat), .pointer (some ⟨c, 0, none⟩), .pointer (some ⟨c12, 0, none⟩), .pointer (some ⟨c12 + 1, 0, none⟩), .int .i64 (x.1 : Nat), .int .i64 x.2, us2 16, us2 17, us2 18, us2 19, us2 20, us2 21, us2 22, us2 23, us2 24, us2 25, us2 26, us2 27, us2 28, us2 29, us2 30, us2 31, us2 32, us2 33, us2 34, us2 35, us2 36, us2 37, us2 38, us2 39, us2 40, us2 41, us2 42, us2 43, us2 44, .func (.func 23) #[] #[.pointer (some ⟨c7 + 1 + 1, 0, none⟩)], .int .i64 (x.1 : Nat), .int .i64 x.2, us2 48, us2 49, us2 50, us2 51, us2 52, us2 53, us2 54, us2 55, us2 56, us2 57, us2 58, us2 59, us2 60, us2 61, us2 62, us2 63, us2 64, us2 65, us2 66, us2 67, us2 68, us2 69, us2 70, us2 71, us2 72, us2 73, us2 74, us2 75, us2 76, us2 77, us2 78, us2 79, us2 80, us2 81, us2 82, us2 83, us2 84, us2 85, us2 86, us2 87, us2 88, us2 89, us2 90, us2 91, us2 92, us2 93, us2 94, us2 95, us2 96, us2 97, us2 98, us2 99, us2 100, us2 101, us2 102, us2 103, us2 104, us2 105, us2 106, us2 107, us2 108, us2 109, us2 110, us2 111, us2 112, us2 113, us2 114, us2 115, us2 116, us2 117, us2 118, us2 119, us2 120, us2 121, us2 122, us2 123, us2 124, us2 125, us2 126, us2 127, us2 128, us2 129, us2 130, us2 131, us2 132, us2 133, us2 134, us2 135, us2 136, us2 137, us2 138, us2 139, us2 140], defers := [] }) ?assign ?body ?done ?stop)
        case assign =>
          intro l x W5 K hK
          gi_wp2
          exact hK
        case body =>
          rintro pre ⟨xi, xv⟩ W5 r hrl hrd ⟨hRI, hst⟩ hNx
          have hgot := hRI.got HW.out.1 hst hNx
          have hp := (List.getElem?_eq_some_iff.1 hgot).1
          obtain ⟨F5, hS5, hnb5, hpre5, hle5⟩ := hRI
          obtain ⟨g, vc, hv, q1, q2⟩ := HW.out.cell (W := W5) (fun q hq => (hS5.bx q (by simp [hq])).1) hgot
          subst hv
          have HS5 : Hid (St w W5 F5 B (rnd Z2 len2 m pre.length) G R (rnd Z2 len2 m pre.length) ([(W1.heap.size + 1, Obj.loop r), (W1.heap.size, Obj.deferred (some []))] ++ ((c12, .cells #[.int .i64 (pre.length : Nat)] 3 (0, 0)) :: (c12 + 1, .cells #[.bool true] 4 (0, 0)) :: ((c, Obj.cells #[.slice (some ⟨g, 0, none⟩) L.length vc] 32 (0, 0)) :: (bw ++ (ds.map (fun D => (D, Obj.deferred (some []))) ++ st0 (.slice a2 len2 cap2) w.heap.size c7 B R)))))) := hide (hS5.join (fun p hp => by
            simp only [List.mem_cons, List.not_mem_nil, or_false] at hp
            rcases hp with rfl | rfl
            · exact ⟨hrl, fun h => (hnb5 _ (.inl h)).2 rfl, fun h => (hnb5 _ (.inr h)).2 rfl, Nat.le_succ_of_le Hwb.out⟩
            · exact ⟨hrd, fun h => (hnb5 _ (.inl h)).1 rfl, fun h => (hnb5 _ (.inr h)).1 rfl, Hwb.out⟩))
          have HPre : Hid (pre ++ [(xi, xv)] = L.take (pre ++ [(xi, xv)]).length) := hide (take_snoc hpre5 hgot)
          have HSt := hide hst
          have HNb := hide hnb5
          have HWl : Hid (W1.heap.size + 1 < W5.heap.size) := hide (Array.getElem?_eq_some_iff.1 hrl).1
          have HRr := hide hrl
          have HRd := hide hrd
          have HL1 : Hid ((pre ++ [(xi, xv)]).length = pre.length + 1) := hide (by simp)
          have bx := fun p hp => (HS5.out.bx p hp).1
          have x12 := (cell_of_box (bx (c12, .cells #[.int .i64 (pre.length : Nat)] 3 (0, 0)) (by simp))).1
          have x11 := (cell_of_box (bx (c, Obj.cells #[.slice (some ⟨g, 0, none⟩) L.length vc] 32 (0, 0)) (by simp))).1
          have x7 := (cell_of_box (bx (c7, .cells #[.pointer (some ⟨B, 0, none⟩)] 25 (0, 0)) (by simp [st0]))).1
          have x5 := (cell_of_box (bx (w.heap.size, .cells #[.slice a2 len2 cap2] 23 (0, 0)) (by simp [st0]))).1
          have HLL : Hid (L.length ≤ 4096) := hide HW.out.2.1
          have hL96 := HW.out.2.1
          clear bx hS5 hnb5 hpre5 hle5 hst hrl hrd hNx hgot HI0
          obtain ⟨nL, hnL⟩ : ∃ nL, L.length = nL := ⟨_, rfl⟩
          obtain ⟨np, hnp⟩ : ∃ np, pre.length = np := ⟨_, rfl⟩
          have HnL := hide hnL
          have Hnp := hide hnp
          rw [hnL] at x11 hp hL96
          rw [hnp] at x12 hp q1 q2 HS5
          clear hnL hnp
          gi_wp2_with fail
          refine ⟨trivial, (callsIn_wide.2 (told_any w W5 F5 B _ HS5.out.duo.tab a2 len2 cap2 Z2 hl2 HZ2.out HS5.out.duo.bel HS5.out.duo.loF (np : Nat))).mono ?_⟩
          rintro e W6 ⟨rfl, F6, hT6, hx6⟩
          have HS6 := hide (HS5.out.left hT6 hx6)
          have HNb6 : Hid (∀ b, F6 b ∨ G b → b ≠ W1.heap.size ∧ b ≠ W1.heap.size + 1) := hide (fun b hb => hb.elim (fun h => (hx6.new b h).elim (fun h5 => HNb.out b (.inl h5)) (fun h5 => by have := HWl.out; omega)) (fun h => HNb.out b (.inr h)))
          clear hT6 hx6 HS5 HNb x12 x11 x7 x5 q1 q2
          have bx := fun p hp => (HS6.out.bx p hp).1
          have x12 := (cell_of_box (bx (c12, .cells #[.int .i64 (np : Nat)] 3 (0, 0)) (by simp))).1
          have x8 := (cell_of_box (bx (c7 + 1, .cells #[.pointer (some ⟨R, 0, none⟩)] 26 (0, 0)) (by simp [st0]))).1
          have x5 := (cell_of_box (bx (w.heap.size, .cells #[.slice a2 len2 cap2] 23 (0, 0)) (by simp [st0]))).1
          clear bx
          gi_wp2_with fail
          refine ⟨trivial, (callsIn_wide.2 (acted_any w W6 G R _ HS6.out.duo.ref a2 len2 cap2 Z2 hl2 HZ2.out HS6.out.duo.bel HS6.out.duo.loG (np : Nat))).mono ?_⟩
          rintro e W7 ⟨rfl, hT7, hx7⟩
          have HS7 : Hid (St w W7 F6 B (rnd Z2 len2 m (np + 1)) G R (rnd Z2 len2 m (np + 1)) _) := hide (HS6.out.right hT7 hx7)
          clear hT7 hx7 HS6 x12 x8 x5
          have HS7r := hide (HS7.out.sub (bs' := (c12, .cells #[.int .i64 (np : Nat)] 3 (0, 0)) :: ([(W1.heap.size + 1, Obj.loop r), (W1.heap.size, Obj.deferred (some []))] ++ ((c12 + 1, .cells #[.bool true] 4 (0, 0)) :: ((c, Obj.cells #[.slice (some ⟨g, 0, none⟩) L.length vc] 32 (0, 0)) :: (bw ++ (ds.map (fun D => (D, Obj.deferred (some []))) ++ st0 (.slice a2 len2 cap2) w.heap.size c7 B R)))))) (fun p hp => by simp only [List.mem_cons, List.mem_append, List.cons_append, List.nil_append] at hp ⊢; rcases hp with h | h | h | h | h | h <;> first | exact .inl h | exact .inr (.inl h) | exact .inr (.inr (.inl h)) | exact .inr (.inr (.inr (.inl h))) | exact .inr (.inr (.inr (.inr (.inl h)))) | exact .inr (.inr (.inr (.inr (.inr h))))))
          have HS8 := hide (HS7r.out.set (fun p hp => by
            have h12 := H12.out
            simp only [List.mem_cons, List.cons_append, List.nil_append] at hp
            rcases hp with rfl | rfl | rfl | hp
            · show W1.heap.size + 1 ≠ c12; omega
            · show W1.heap.size ≠ c12; omega
            · show c12 + 1 ≠ c12; omega
            · have := HLt.out p (by rw [HnL.out] at *; simpa using hp); omega) (.int .i64 ((np : Int) + 1)))
          obtain ⟨x12, f12⟩ := cell_of_box (HS7r.out.bx _ (List.mem_cons_self ..)).1
          clear HS7 HS7r
          have HRI : Hid (∀ W', St w W' F6 B (rnd Z2 len2 m (np + 1)) G R (rnd Z2 len2 m (np + 1)) ((c12, .cells #[.int .i64 ((np : Int) + 1)] 3 (0, 0)) :: ([(W1.heap.size + 1, Obj.loop r), (W1.heap.size, Obj.deferred (some []))] ++ ((c12 + 1, .cells #[.bool true] 4 (0, 0)) :: ((c, Obj.cells #[.slice (some ⟨g, 0, none⟩) L.length vc] 32 (0, 0)) :: (bw ++ (ds.map (fun D => (D, Obj.deferred (some []))) ++ st0 (.slice a2 len2 cap2) w.heap.size c7 B R)))))) → RI w B R G (rnd Z2 len2 m) L W1.heap.size c12 (c12 + 1) ((c, Obj.cells #[.slice (some ⟨g, 0, none⟩) L.length vc] 32 (0, 0)) :: (bw ++ (ds.map (fun D => (D, Obj.deferred (some []))) ++ st0 (.slice a2 len2 cap2) w.heap.size c7 B R))) (pre ++ [(xi, xv)]) W' ∧ W'.heap[W1.heap.size + 1]? = W5.heap[W1.heap.size + 1]? ∧ W'.heap[W1.heap.size]? = W5.heap[W1.heap.size]?) := hide (fun W' h => by
            have e : (pre ++ [(xi, xv)]).length = np + 1 := by rw [HL1.out, Hnp.out]
            refine ⟨⟨F6, ?_, HNb6.out, HPre.out, ?_⟩, (h.bx (W1.heap.size + 1, Obj.loop r) (by simp)).1.trans HRr.out.symm, (h.bx (W1.heap.size, Obj.deferred (some [])) (by simp)).1.trans HRd.out.symm⟩
            · rw [e]
              exact h.sub (fun p hp => by simp only [List.mem_cons, List.mem_append, List.cons_append, List.nil_append] at hp ⊢; rcases hp with h | h | h | h <;> first | exact .inl h | exact .inr (.inr (.inr (.inl h))) | exact .inr (.inr (.inr (.inr (.inl h)))) | exact .inr (.inr (.inr (.inr (.inr h)))))
            · rw [e, HnL.out]; omega)
          have x13 := (cell_of_box (HS8.out.bx (c12 + 1, .cells #[.bool true] 4 (0, 0)) (by simp)).1).1
          have HEx : Hid (leaveTo Z2 (np : Nat) len2 = true → (pre ++ [(xi, xv)]).length = L.length) := hide (fun h => by rw [HL1.out, Hnp.out]; exact HW.out.1.left (by rw [HnL.out]; omega) h)
          have HNo : Hid (leaveTo Z2 (np : Nat) len2 = false → ∀ j, j < (pre ++ [(xi, xv)]).length → leaveTo Z2 (j : Nat) len2 = false) := hide (fun h j hj => by
            rw [HL1.out] at hj
            rcases Nat.lt_or_ge j pre.length with h1 | h1
            · exact HSt.out j h1
            · obtain rfl : j = np := by have := Hnp.out; omega
              exact h)
          have hnn := nestsTo_le Z2 (np : Nat) len2
          have hl22 : len2 ≤ 9223372036854775807 := hl2
          generalize leaveTo Z2 (np : Nat) len2 = lb at *
          generalize nestsTo Z2 (np : Nat) len2 = nn at *
          by_cases hns : nn = 0
          · subst hns
            cases lb
            · gi_wp2
              obtain ⟨r1, r2, r3⟩ := HRI.out _ HS8.out
              exact ⟨r2, r3, r1, HNo.out (by first | rfl | trivial)⟩
            · gi_wp2
              obtain ⟨r1, r2, r3⟩ := HRI.out _ HS8.out
              exact ⟨r2, r3, rfl, r1, HEx.out (by first | rfl | trivial)⟩
          · have hn1 : (0 : Int) < (nn : Int) := by omega
            have x8 := (cell_of_box (HS8.out.bx (c7 + 1, .cells #[.pointer (some ⟨R, 0, none⟩)] 26 (0, 0)) (by simp [st0])).1).1
            gi_wp2_with fail
            refine ⟨trivial, (callsIn_wide.2 (copy_st HS8.out)).mono ?_⟩
            rintro e W9 ⟨C, Fc, rfl, hS9, hC9, hb9⟩
            have HS9 := hide hS9
            have HC9 := hide hC9
            clear hS9 hC9 hb9 x8 HS8 x12 f12 x13
            generalize hm1 : rnd Z2 len2 m (np + 1) = m1 at *
            gi_wp2_with fail
            refine ⟨trivial, (callsIn_wide.2 (ranged_st HS9.out HC9.out none 0 0 Z2 (Nat.zero_le _) (fun k hk => absurd hk (Nat.not_lt_zero k)))).mono ?_⟩
            rintro e Wa ⟨v', L', bw', rfl, hWa, hSa, hloa, hsza, _⟩
            have HWa := hide hWa
            have HSa := hide hSa
            obtain ⟨ua, uc, hv'⟩ := hWa.2.2.2.1
            subst hv'
            have HSb := hide ((HSa.out.push (.cells #[.slice ua L'.length uc] 32)).push (.cells #[.int .i64 0] 3))
            simp only [World.size_alloc] at HSb
            have HLa : Hid (∀ p ∈ bw' ++ ((c12, .cells #[.int .i64 ((np : Int) + 1)] 3 (0, 0)) :: ([(W1.heap.size + 1, Obj.loop r), (W1.heap.size, Obj.deferred (some []))] ++ ((c12 + 1, .cells #[.bool true] 4 (0, 0)) :: ((c, Obj.cells #[.slice (some ⟨g, 0, none⟩) L.length vc] 32 (0, 0)) :: (bw ++ (ds.map (fun D => (D, Obj.deferred (some []))) ++ st0 (.slice a2 len2 cap2) w.heap.size c7 B R)))))), p.1 < Wa.heap.size) := hide (fun p hp => HSa.out.lt hp)
            clear hWa hSa hloa hsza HS9 HC9 HSa
            have x9 := (cell_of_box (HSb.out.bx (c7 + 1 + 1 + 1, .cells #[.func (.func 23) #[] #[.pointer (some ⟨c7 + 1 + 1, 0, none⟩)]] 30 (0, 0)) (by simp [st0])).1).1
            gi_wp2_with fail
            have HWb : Hid (((Wa.alloc (.cells #[.slice ua L'.length uc] 32)).alloc (.cells #[.int .i64 0] 3)).heap.size = Wa.heap.size + 1 + 1) := hide (by simp)
            generalize (Wa.alloc (.cells #[.slice ua L'.length uc] 32)).alloc (.cells #[.int .i64 0] 3) = Wb at *
            generalize Wa.heap.size = c18 at *
            have HL0 : Hid (Wb.heap[W1.heap.size + 1]? = some (.loop r)) := hide (HSb.out.bx (W1.heap.size + 1, .loop r) (by simp)).1
            have HRu : Hid (Runs (fun _ => m1) (fun _ => false) L') := hide (by
              have h := HWa.out.1
              rw [funext (rnd_none Z2 m1)] at h
              exact h)
            have HB2 : Hid (∀ p ∈ ((c18, .cells #[.slice ua L'.length uc] 32 (0, 0)) :: (bw' ++ ((c12, .cells #[.int .i64 ((np : Int) + 1)] 3 (0, 0)) :: ([(W1.heap.size + 1, Obj.loop r), (W1.heap.size, Obj.deferred (some []))] ++ ((c12 + 1, .cells #[.bool true] 4 (0, 0)) :: ((c, Obj.cells #[.slice (some ⟨g, 0, none⟩) L.length vc] 32 (0, 0)) :: (bw ++ (ds.map (fun D => (D, Obj.deferred (some []))) ++ st0 (.slice a2 len2 cap2) w.heap.size c7 B R)))))))), p.1 < c18 + 1) := hide (fun p hp => by
              rcases List.mem_cons.1 hp with rfl | hp
              · exact Nat.lt_succ_self _
              · exact Nat.lt_succ_of_lt (HLa.out p hp))
            have Hwb2 : Hid (w.heap.size ≤ Wb.heap.size) := hide HSb.out.duo.bel.size
            have HL96 : Hid (L'.length ≤ 4096) := hide HWa.out.2.1
            have Hm1 : Hid (m1.length = m.length) := hide (by rw [← hm1]; exact rnd_len Z2 len2 m (np + 1))
            apply range_turnN (F := Fence.wide.inRound (W1.heap.size + 1)) (n := 9 - 1 - 1) (l₀ := W1.heap.size + 1) (r₀ := r) rfl HL0.out (by omega) (gf := 23) (lb := #[.pointer (some ⟨c7 + 1 + 1, 0, none⟩)]) rfl trivial (enters_of Try.func23 (by kernel_rfl) rfl) (encs := fun x : Nat × Int => #[.int .i64 (x.1 : Nat), .int .i64 x.2]) (fun _ => rfl) (fun pre2 x => Nx m1 (lp pre2) x) (fun xs => NoNext m1 (lp xs))
              (fun pre2 W5 => St w W5 F6 B m1 G R m1 ((c18 + 1, .cells #[.int .i64 (pre2.length : Nat)] 3 (0, 0)) :: ((c18, .cells #[.slice ua L'.length uc] 32 (0, 0)) :: (bw' ++ ((c12, .cells #[.int .i64 ((np : Int) + 1)] 3 (0, 0)) :: ([(W1.heap.size + 1, Obj.loop r), (W1.heap.size, Obj.deferred (some []))] ++ ((c12 + 1, .cells #[.bool true] 4 (0, 0)) :: ((c, Obj.cells #[.slice (some ⟨g, 0, none⟩) L.length vc] 32 (0, 0)) :: (bw ++ (ds.map (fun D => (D, Obj.deferred (some []))) ++ st0 (.slice a2 len2 cap2) w.heap.size c7 B R))))))))) ∧ pre2 = L'.take pre2.length ∧ pre2.length ≤ L'.length) (fun _ _ _ => False)
              (fun l J Jx hJI hY W5 h5 => all1_turn 6 (by omega) l (c7 + 1 + 1) B m.length Hcap.out (fun _ => m1) (fun _ => Hm1.out) J Jx (fun pre2 W6 h6 => ⟨⟨F6, (hJI pre2 W6 h6).1.duo.tab⟩, ((hJI pre2 W6 h6).1.bx (c7 + 1 + 1, .cells #[.pointer (some ⟨B, 0, none⟩)] 25 (0, 0)) (by simp [st0])).1⟩) hY W5 h5)
              (fun pre2 W5 W6 row h hg hr => ⟨h.1.own Hwb2.out (fun p hp => .inr (by
                have h9 := HWb.out
                rcases List.mem_cons.1 hp with rfl | hp
                · show c18 + 1 < Wb.heap.size; omega
                · have := HB2.out p hp; omega)) hg hr, h.2⟩)
              (fun _ _ _ _ _ h _ _ => h.elim) ⟨HSb.out.sub (fun p hp => by simpa using hp), rfl, Nat.zero_le _⟩
            case hassign =>
              intro l x W5 K hK
              gi_wp2
              exact hK
            case hbody =>
              rintro pre2 ⟨yi, yv⟩ W2 r2 hr2 ⟨hS2, hpre2, hle2⟩ hNx2
              have hgot := HRu.out.next hle2 (fun _ _ => rfl) (by rw [← hpre2]; exact hNx2)
              have hp2 := (List.getElem?_eq_some_iff.1 hgot).1
              obtain ⟨g2, uc2, hv2, q1, q2⟩ := HWa.out.cell (W := W2) (fun q hq => (hS2.bx q (by simp [hq])).1) hgot
              simp only [Value.slice.injEq, true_and] at hv2
              obtain ⟨rfl, rfl⟩ := hv2
              have x18 := (cell_of_box (hS2.bx (c18, .cells #[.slice (some ⟨g2, 0, none⟩) L'.length uc] 32 (0, 0)) (by simp)).1).1
              obtain ⟨x19, f19⟩ := cell_of_box (hS2.bx _ (List.mem_cons_self ..)).1
              have e : (((pre2 ++ [(yi, yv)]).length : Nat) : Int) = (pre2.length : Int) + 1 := by simp
              have HFin : Hid (St w (W2.setCell ⟨c18 + 1, 0, none⟩ (.int .i64 ((pre2.length : Int) + 1))) F6 B m1 G R m1 ((c18 + 1, .cells #[.int .i64 (((pre2 ++ [(yi, yv)]).length : Nat) : Int)] 3 (0, 0)) :: ((c18, .cells #[.slice (some ⟨g2, 0, none⟩) L'.length uc] 32 (0, 0)) :: (bw' ++ ((c12, .cells #[.int .i64 ((np : Int) + 1)] 3 (0, 0)) :: ([(W1.heap.size + 1, Obj.loop r), (W1.heap.size, Obj.deferred (some []))] ++ ((c12 + 1, .cells #[.bool true] 4 (0, 0)) :: ((c, Obj.cells #[.slice (some ⟨g, 0, none⟩) L.length vc] 32 (0, 0)) :: (bw ++ (ds.map (fun D => (D, Obj.deferred (some []))) ++ st0 (.slice a2 len2 cap2) w.heap.size c7 B R))))))))) ∧ (pre2 ++ [(yi, yv)]) = L'.take (pre2 ++ [(yi, yv)]).length ∧ (pre2 ++ [(yi, yv)]).length ≤ L'.length) := hide ⟨by
                rw [e]; exact hS2.set (fun p hp => by have := HB2.out p hp; omega) _, take_snoc hpre2 hgot, by simp; omega⟩
              have HKp : Hid ((W2.setCell ⟨c18 + 1, 0, none⟩ (.int .i64 ((pre2.length : Int) + 1))).heap[Wb.heap.size]? = W2.heap[Wb.heap.size]?) := hide ((grownBy_setCell' W2 (c18 + 1) _).block _ (Array.getElem?_eq_some_iff.1 hr2).1 (fun h => by have h9 := HWb.out; simp at h; omega))
              have hl96 := HL96.out
              clear hS2 hpre2 hle2 hgot hNx2 hr2
              obtain ⟨nq, hnq⟩ : ∃ nq, pre2.length = nq := ⟨_, rfl⟩
              obtain ⟨nM, hnM⟩ : ∃ nM, L'.length = nM := ⟨_, rfl⟩
              have HnM := hide hnM
              rw [hnq] at x19 hp2 q1 q2 HKp
              have HFin2 : Hid (St w (W2.setCell ⟨c18 + 1, 0, none⟩ (.int .i64 ((nq : Int) + 1))) F6 B m1 G R m1 ((c18 + 1, .cells #[.int .i64 (((pre2 ++ [(yi, yv)]).length : Nat) : Int)] 3 (0, 0)) :: ((c18, .cells #[.slice (some ⟨g2, 0, none⟩) L'.length uc] 32 (0, 0)) :: (bw' ++ ((c12, .cells #[.int .i64 ((np : Int) + 1)] 3 (0, 0)) :: ([(W1.heap.size + 1, Obj.loop r), (W1.heap.size, Obj.deferred (some []))] ++ ((c12 + 1, .cells #[.bool true] 4 (0, 0)) :: ((c, Obj.cells #[.slice (some ⟨g, 0, none⟩) L.length vc] 32 (0, 0)) :: (bw ++ (ds.map (fun D => (D, Obj.deferred (some []))) ++ st0 (.slice a2 len2 cap2) w.heap.size c7 B R))))))))) ∧ (pre2 ++ [(yi, yv)]) = L'.take (pre2 ++ [(yi, yv)]).length ∧ (pre2 ++ [(yi, yv)]).length ≤ L'.length) := by rw [← hnq]; exact HFin
              rw [hnM] at x18 hp2 hl96
              clear hnq hnM HFin e
              gi_wp2
              exact ⟨HKp.out, HKp.out, HFin2.out⟩
            case hdone =>
              rintro xs W2 hE2 ⟨hS2, hpre2, hle2⟩
              have hlen2 : xs.length = L'.length := HRu.out.ends hle2 (by rw [← hpre2]; exact hE2)
              have x18 := (cell_of_box (hS2.bx (c18, .cells #[.slice ua L'.length uc] 32 (0, 0)) (by simp)).1).1
              have x19 := (cell_of_box (hS2.bx _ (List.mem_cons_self ..)).1).1
              have HSr := hide (hS2.sub (bs' := ((c12 + 1, .cells #[.bool true] 4 (0, 0)) :: ((c12, .cells #[.int .i64 ((np : Int) + 1)] 3 (0, 0)) :: ([(W1.heap.size + 1, Obj.loop r), (W1.heap.size, Obj.deferred (some []))] ++ ((c, Obj.cells #[.slice (some ⟨g, 0, none⟩) L.length vc] 32 (0, 0)) :: (bw ++ (ds.map (fun D => (D, Obj.deferred (some []))) ++ st0 (.slice a2 len2 cap2) w.heap.size c7 B R))))))) (fun p hp => by
                simp only [List.mem_cons, List.mem_append, List.cons_append, List.nil_append] at hp ⊢
                rcases hp with h | h | h | h | h | h <;> simp only [h, true_or, or_true]))
              obtain ⟨x13, f13⟩ := cell_of_box (HSr.out.bx _ (List.mem_cons_self ..)).1
              have HSe := hide ((HSr.out.set (fun p hp => by
                have h12 := H13.out
                simp only [List.mem_cons, List.cons_append, List.nil_append] at hp
                rcases hp with rfl | rfl | rfl | hp
                · show c12 ≠ c12 + 1; omega
                · show W1.heap.size + 1 ≠ c12 + 1; omega
                · show W1.heap.size ≠ c12 + 1; omega
                · have := HLt.out p (by rw [HnL.out] at *; simpa using hp); omega) (.bool true)).sub (bs' := ((c12, .cells #[.int .i64 ((np : Int) + 1)] 3 (0, 0)) :: ([(W1.heap.size + 1, Obj.loop r), (W1.heap.size, Obj.deferred (some []))] ++ ((c12 + 1, .cells #[.bool true] 4 (0, 0)) :: ((c, Obj.cells #[.slice (some ⟨g, 0, none⟩) L.length vc] 32 (0, 0)) :: (bw ++ (ds.map (fun D => (D, Obj.deferred (some []))) ++ st0 (.slice a2 len2 cap2) w.heap.size c7 B R))))))) (fun p hp => by
                simp only [List.mem_cons, List.mem_append, List.cons_append, List.nil_append] at hp ⊢
                rcases hp with h | h | h | h | h | h <;> simp only [h, true_or, or_true]))
              rw [hlen2] at x19
              have hl96 := HL96.out
              clear hS2 hpre2 hle2 hE2 hlen2 HSr
              obtain ⟨nM, hnM⟩ : ∃ nM, L'.length = nM := ⟨_, rfl⟩
              rw [hnM] at x18 x19 hl96
              clear hnM
              cases lb
              · gi_wp2
                obtain ⟨r1, r2, r3⟩ := HRI.out _ HSe.out
                exact ⟨r2, r3, r1, HNo.out (by first | rfl | trivial)⟩
              · gi_wp2
                obtain ⟨r1, r2, r3⟩ := HRI.out _ HSe.out
                exact ⟨r2, r3, rfl, r1, HEx.out (by first | rfl | trivial)⟩
            case hstop =>
              rintro cd pre2 W2 h
              exact h.elim
        case done =>
          rintro D xs W5 rfl hE ⟨hRI, hst⟩ hdef
          have hlen : xs.length = L.length := by
            obtain ⟨_, _, _, h4, h5⟩ := hRI
            exact HW.out.1.ends h5 (by rw [← h4]; exact hE)
          obtain ⟨F5, hS5, hnb5, hpre5, hle5⟩ := hRI
          obtain ⟨va, vc, rfl⟩ := HW.out.2.2.2.1
          have HS5 : Hid (St w W5 F5 B (rnd Z2 len2 m xs.length) G R (rnd Z2 len2 m xs.length) ((W1.heap.size, Obj.deferred (some [])) :: ((c12, .cells #[.int .i64 (xs.length : Nat)] 3 (0, 0)) :: (c12 + 1, .cells #[.bool true] 4 (0, 0)) :: ((c, Obj.cells #[.slice va L.length vc] 32 (0, 0)) :: (bw ++ (ds.map (fun D => (D, Obj.deferred (some []))) ++ st0 (.slice a2 len2 cap2) w.heap.size c7 B R)))))) := hide (hS5.join (bs' := [(W1.heap.size, Obj.deferred (some []))]) (fun p hp => by rw [List.mem_singleton.1 hp]; exact ⟨hdef, fun h => (hnb5 _ (.inl h)).1 rfl, fun h => (hnb5 _ (.inr h)).1 rfl, Hwb.out⟩))
          have bx := fun p hp => (HS5.out.bx p hp).1
          have x12 := (cell_of_box (bx (c12, .cells #[.int .i64 (xs.length : Nat)] 3 (0, 0)) (by simp))).1
          have x13 := (cell_of_box (bx (c12 + 1, .cells #[.bool true] 4 (0, 0)) (by simp))).1
          have x11 := (cell_of_box (bx (c, Obj.cells #[.slice va L.length vc] 32 (0, 0)) (by simp))).1
          have x7 := (cell_of_box (bx (c7, .cells #[.pointer (some ⟨B, 0, none⟩)] 25 (0, 0)) (by simp [st0]))).1
          have x8 := (cell_of_box (bx (c7 + 1, .cells #[.pointer (some ⟨R, 0, none⟩)] 26 (0, 0)) (by simp [st0]))).1
          rw [hlen] at x12
          clear bx hS5 hdef hpre5 hle5
          generalize hLl : L.length = nL at *
          go_wp2_with fail
          refine (alike_any _ F5 G B R _ HS5.out.duo.tab HS5.out.duo.ref).mono ?_
          rintro e W6 ⟨rfl, hW6⟩
          subst W6
          go_wp2
          refine ⟨AllI.mk1 (k + 1) (W1.heap.size :: ds) F5 _ (by omega) rfl (hide (List.nodup_cons.2 ⟨fun h => by have := HBd.out (W1.heap.size, Obj.deferred (some [])) (by simp [h]); omega, HN.out⟩)) (hide (HS5.out.sub (fun p hp => by simp only [List.map_cons, List.cons_append, List.mem_cons, List.mem_append] at hp ⊢; rcases hp with h | h | h <;> simp [h]))), ?_⟩
          show 2 - ((k : Int) + 1).toNat < 2 - ((k : Int)).toNat
          omega
        case stop =>
          rintro D cd pre W5 rfl ⟨rfl, hRI, hlen⟩ hdef
          refine wpIn_wide.2 ?_
          obtain ⟨F5, hS5, hnb5, hpre5, hle5⟩ := hRI
          obtain ⟨va, vc, rfl⟩ := HW.out.2.2.2.1
          have HS5 : Hid (St w W5 F5 B (rnd Z2 len2 m pre.length) G R (rnd Z2 len2 m pre.length) ((W1.heap.size, Obj.deferred (some [])) :: ((c12, .cells #[.int .i64 (pre.length : Nat)] 3 (0, 0)) :: (c12 + 1, .cells #[.bool true] 4 (0, 0)) :: ((c, Obj.cells #[.slice va L.length vc] 32 (0, 0)) :: (bw ++ (ds.map (fun D => (D, Obj.deferred (some []))) ++ st0 (.slice a2 len2 cap2) w.heap.size c7 B R)))))) := hide (hS5.join (bs' := [(W1.heap.size, Obj.deferred (some []))]) (fun p hp => by rw [List.mem_singleton.1 hp]; exact ⟨hdef, fun h => (hnb5 _ (.inl h)).1 rfl, fun h => (hnb5 _ (.inr h)).1 rfl, Hwb.out⟩))
          have bx := fun p hp => (HS5.out.bx p hp).1
          have x12 := (cell_of_box (bx (c12, .cells #[.int .i64 (pre.length : Nat)] 3 (0, 0)) (by simp))).1
          have x13 := (cell_of_box (bx (c12 + 1, .cells #[.bool true] 4 (0, 0)) (by simp))).1
          have x11 := (cell_of_box (bx (c, Obj.cells #[.slice va L.length vc] 32 (0, 0)) (by simp))).1
          have x7 := (cell_of_box (bx (c7, .cells #[.pointer (some ⟨B, 0, none⟩)] 25 (0, 0)) (by simp [st0]))).1
          have x8 := (cell_of_box (bx (c7 + 1, .cells #[.pointer (some ⟨R, 0, none⟩)] 26 (0, 0)) (by simp [st0]))).1
          rw [hlen] at x12
          clear bx hS5 hdef hpre5 hle5
          generalize hLl : L.length = nL at *
          go_wp2_with fail
          refine (alike_any _ F5 G B R _ HS5.out.duo.tab HS5.out.duo.ref).mono ?_
          rintro e W6 ⟨rfl, hW6⟩
          subst W6
          go_wp2
          refine ⟨AllI.mk1 (k + 1) (W1.heap.size :: ds) F5 _ (by omega) rfl (hide (List.nodup_cons.2 ⟨fun h => by have := HBd.out (W1.heap.size, Obj.deferred (some [])) (by simp [h]); omega, HN.out⟩)) (hide (HS5.out.sub (fun p hp => by simp only [List.map_cons, List.cons_append, List.mem_cons, List.mem_append] at hp ⊢; rcases hp with h | h | h <;> simp [h]))), ?_⟩
          show 2 - ((k : Int) + 1).toNat < 2 - ((k : Int)).toNat
          omega
    · have hk2 : k = 2 := by omega
      subst hk2
      go_wp2
      refine ⟨by simp, ?_⟩
      refine leave_marks (fn := Try.f3) (v := .bool true) (fun W => ?_) ds W HN.out (fun D hD => ⟨(HS.out.bx (D, .deferred (some [])) (by simp; exact .inl hD)).2.2.2, (HS.out.bx (D, .deferred (some [])) (by simp; exact .inl hD)).1⟩) HS.out.duo.bel
      exact results_tmp (fn := Try.f3) (t := 6) rfl _ _ _
end Go.Proofs.Ytclbgmkodjiapaa
