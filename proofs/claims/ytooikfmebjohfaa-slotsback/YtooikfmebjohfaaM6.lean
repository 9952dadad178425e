import Derived.Test.YtooikfmebjohfaaM5
namespace Go.Proofs.Ytooikfmebjohfaa
open Go.RowKit

theorem atK_one (c : Cl) : atK KCl [(c, (1 : Int))] c = some 1 := by
  unfold atK
  rw [List.find?_cons, (key_cl.same c c).2 rfl]; rfl
set_option maxRecDepth 8000 in
set_option maxHeartbeats 1600000 in
theorem tied_any (w : World) : Calls Try.prog 9 #[] w fun x w' => x = .returned (.bool true) ∧ Below w.heap.size w w' := by
  have HC := hide (fun w => cell_any w 2)
  generalize cl 2 = c at *
  have h26 := eq26'
  go_enter Try.func9, Try.ntmps9
  go_wp2_with fail
  refine (newT_any _).mono ?_
  rintro e w1 ⟨rfl, hT1, hb1⟩
  have HT1 := hide hT1
  have Hb1 := hide hb1
  clear hT1 hb1
  generalize hF0 : (fun b => b = w.heap.size ∨ b = w.heap.size + 1 ∨ b = w.heap.size + 2) = F0 at *
  have HF0 := hide (show ∀ b, F0 b → w.heap.size ≤ b by intro b hb; rw [← hF0] at hb; omega)
  clear hF0
  generalize w.heap.size + 2 = B at *
  go_wp2_with fail
  refine (HC.out _).mono ?_
  rintro e w2 ⟨rfl, hb2⟩
  have HT2 := hide (HT1.out.below hb2)
  have Hb2 := hide (Hb1.out.trans (hb2.mono Hb1.out.size))
  clear hb2 HT1 Hb1
  go_wp2_with fail
  refine (tieT_any _ F0 B [] HT2.out 1 c).mono ?_
  rintro e w3 ⟨r3, ps3, rfl, hT3, hE3, h3⟩
  obtain ⟨rfl, rfl⟩ : r3 = true ∧ ps3 = [(1, c)] := by
    rcases h3 with ⟨_, h, _⟩ | ⟨_, ⟨_, h⟩, _⟩ | ⟨_, _, rfl, rfl⟩
    · cases h
    · cases h
    · exact ⟨rfl, rfl⟩
  have HT3 := hide hT3
  have Hb3 := hide (Hb2.out.trans (hE3.mod.below HF0.out Hb2.out.size))
  clear hT3 hE3 h3 HT2 Hb2
  go_wp2_with fail
  refine (HC.out _).mono ?_
  rintro e w4 ⟨rfl, hb4⟩
  have HT4 := hide (HT3.out.below hb4)
  have Hb4 := hide (Hb3.out.trans (hb4.mono Hb3.out.size))
  clear hb4 HT3 Hb3
  go_wp2_with fail
  refine (tieT_any _ F0 B [(1, c)] HT4.out 3 c).mono ?_
  rintro e w5 ⟨r5, ps5, rfl, hT5, hE5, h5⟩
  obtain ⟨rfl, rfl⟩ : r5 = false ∧ ps5 = [(1, c)] := by
    rcases h5 with ⟨_, h, _⟩ | ⟨_, _, rfl, rfl⟩ | ⟨_, h, _⟩
    · cases h
    · exact ⟨rfl, rfl⟩
    · have := atK_one c
      rw [show [(1, c)].map Prod.swap = [(c, (1 : Int))] from rfl, this] at h; cases h
  have HT5 := hide hT5
  have Hb5 := hide (Hb4.out.trans (hE5.mod.below HF0.out Hb4.out.size))
  clear hT5 hE5 h5 HT4 Hb4
  go_wp2_with fail
  refine (toT_any _ F0 B [(1, c)] HT5.out 1 c rfl).mono ?_
  rintro e w6 ⟨rfl, hb6⟩
  have HT6 := hide (HT5.out.below hb6)
  have Hb6 := hide (Hb5.out.trans (hb6.mono Hb5.out.size))
  clear hb6 HT5 Hb5
  simp only [Cl.val] at *
  go_wp2_with fail
  have hTW := HT6.out.below ((Below.refl w6.heap.size w6).alloc (Nat.le_refl _) (.cells #[.string c.s, .int .i64 c.a, .int .i64 c.b] 28))
  have hbW := Hb6.out.alloc Hb6.out.size (.cells #[.string c.s, .int .i64 c.a, .int .i64 c.b] 28)
  obtain ⟨l3, k3, k4, k5⟩ := row3 (heap_alloc_new w6 (.cells #[.string c.s, .int .i64 c.a, .int .i64 c.b] 28))
  have HTW := hide hTW
  have HbW := hide hbW
  clear hTW hbW HT6 Hb6
  generalize hW : w6.alloc (.cells #[.string c.s, .int .i64 c.a, .int .i64 c.b] 28) = W at *
  clear hW
  refine region_below (by kernel_rfl) (by kernel_rfl) ?_
  iterate 9 (refine wpQuiet_step (fun K hK => ?_); go_simp; refine ⟨_, fun _ _ => rfl, hK _ ?_⟩; clear hK K)
  refine wpQuiet_step (fun K hK => ?_)
  go_simp
  refine ⟨.agg #[.string c.s, .int .i64 c.a, .int .i64 c.b], fun w' hw' => ?_, hK _ ?_⟩
  · have c3 := (hw'.cell (p := ⟨w6.heap.size, 0, none⟩) l3).trans k3
    have c4 := (hw'.cell (p := ⟨w6.heap.size, 1, none⟩) l3).trans k4
    have c5 := (hw'.cell (p := ⟨w6.heap.size, 2, none⟩) l3).trans k5
    go_simp
  clear hK K
  refine wpQuiet_step (fun K hK => ?_)
  go_simp
  refine ⟨.agg #[.string c.s, .int .i64 c.a, .int .i64 c.b], fun w' hw' => calls_below hw' (HC.out w'), hK _ ?_⟩
  clear hK K
  iterate 4 (refine wpQuiet_step (fun K hK => ?_); go_simp; refine ⟨_, fun _ _ => rfl, hK _ ?_⟩; clear hK K)
  refine wpQuiet_step (fun K hK => ?_)
  go_simp
  refine ⟨.int .i64 1, fun w' hw' => ?_, hK _ ?_⟩
  · refine (lenT_any w' F0 B [(1, c)] (HTW.out.below hw')).mono ?_
    rintro e w'' ⟨rfl, rfl⟩
    exact ⟨rfl, hw'⟩
  clear hK K
  iterate 3 (refine wpQuiet_step (fun K hK => ?_); go_simp; refine ⟨_, fun _ _ => rfl, hK _ ?_⟩; clear hK K)
  refine wpQuiet_nil ?_
  intro w' hw'
  have HW := hide (HbW.out.trans (hw'.mono HbW.out.size))
  clear hw'
  go_wp2
  go_ret
  exact ⟨rfl, HW.out⟩
end Go.Proofs.Ytooikfmebjohfaa
