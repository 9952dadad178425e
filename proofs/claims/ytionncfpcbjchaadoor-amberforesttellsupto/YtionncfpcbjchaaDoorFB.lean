import Derived.Test.YtionncfpcbjchaaDoorFA
namespace Go.Proofs.YtionncfpcbjchaaDoor
open Go.RowKit
set_option maxRecDepth 100000 in
set_option maxHeartbeats 2000000 in
theorem text_any (w : World) (b : Nat) (T : Tx) (h : Sh w b T) : Calls Tryd.prog 9 #[.pointer (some ⟨b, 0, none⟩)] w fun e w' => e = .returned (.string ⟨T.toArray⟩) ∧ w' = w := by
  obtain ⟨v, hb, hO⟩ := h
  have hst := str_of hO
  have hc : w.cell? ⟨b, 0, none⟩ = some v := by rw [cell_of_row _ _ _ _ _ _ hb]; rfl
  obtain ⟨a, n, c, rfl, _, _⟩ := hO.len2
  clear hb hO
  go_enter Tryd.func9, Tryd.ntmps9
  go_wp2
  go_ret
  exact ⟨rfl, rfl⟩
set_option maxRecDepth 100000 in
set_option maxHeartbeats 2000000 in
theorem Forest_any (w : World) (v : Fv) (F : Fo) (hF : F.Ok) (h3 : 3 ≤ w.heap.size) (hA : FoAt w.heap.size w v F) (hT : Tb w) :
    Calls Tryd.prog 6 #[.agg (v.cells F).toArray] w fun e w' => e = .returned (.string ⟨F.text.toArray⟩) ∧ Below w.heap.size w w' := by
  obtain ⟨V, hV⟩ : ∃ V, v.cells F = V := ⟨_, rfl⟩
  have hVl : V.length = 5 := by rw [← hV]; rfl
  have hb1 : Below w.heap.size w (w.alloc (.cells V.toArray 28)) := (Below.refl _ _).alloc (Nat.le_refl _) _
  have hb2 : Below w.heap.size w ((w.alloc (.cells V.toArray 28)).alloc (.cells #[.slice none 0 0] 52)) := hb1.alloc hb1.size _
  have hsh : Sh ((w.alloc (.cells V.toArray 28)).alloc (.cells #[.slice none 0 0] 52)) (w.heap.size + 1) [] := ⟨.slice none 0 0, by
    have := heap_alloc_last (w.alloc (.cells V.toArray 28)) (.cells #[.slice none 0 0] 52)
    simpa using this, OwB.nil _ _⟩
  have hbx : Blk ((w.alloc (.cells V.toArray 28)).alloc (.cells #[.slice none 0 0] 52)) w.heap.size 28 V := (Blk.new w V _).below ((Below.refl (w.alloc (.cells V.toArray 28)).heap.size _).alloc (Nat.le_refl _) _) (by simp)
  have hK := forest_any _ (w.heap.size + 1) v F hF (by omega) hsh ((hA.keep hb2).mono (by omega)) (hT.up h3 hb2)
  rw [hV] at hK ⊢
  have HB2 := hide hb2
  have HX := hide hbx
  clear hb1 hb2 hsh hbx hA hT hV
  go_enter Tryd.func6, Tryd.ntmps6
  go_upto_region 2 with fail
  generalize (w.alloc (.cells V.toArray 28)).alloc (.cells #[.slice none 0 0] 52) = w2 at *
  go_wp2_with (refine loadT Tryd.underlying28 rfl V (by rw [hVl]; exact info_fo) (by rfl) _ rfl ⟨w.heap.size, 0, none⟩ rfl HX.out.cells ?_)
  refine hK.mono ?_
  rintro e w3 ⟨rfl, hs3, hf3⟩
  have HB3 := hide (HB2.out.trans (hf3.1.mono (Nat.le_succ _)))
  have hX := text_any w3 _ _ hs3
  clear hK hs3 hf3
  go_wp2_with fail
  refine hX.mono ?_
  rintro e w4 ⟨rfl, rfl⟩
  clear hX
  go_wp2
  go_ret
  exact ⟨rfl, HB3.out⟩
end Go.Proofs.YtionncfpcbjchaaDoor
