import Derived.Test.YtfonenigkjngoaaDoorI7
namespace Go.Proofs.YtfonenigkjngoaaDoor
open Go.RowKit
section
variable (w : World)
set_option maxRecDepth 100000 in
set_option maxHeartbeats 1000000 in
theorem encodes_walk (i : I) (hO : Ops w) : Calls Tryd.prog 3 #[.agg i.cells.toArray] w fun e w' => e = .returned (.bool true) ∧ Below w.heap.size w w' := by
  obtain ⟨x, c, h1, h2⟩ : ∃ x c, (∀ w', Ops w' → Calls Tryd.prog 8 #[.agg i.cells.toArray] w' fun e w'' => e = .returned (.tuple #[.int .u32 x, .int .i64 c]) ∧ Below w'.heap.size w' w'') ∧
      ∀ w', Calls Tryd.prog 9 #[.agg i.cells.toArray] w' fun e w'' => e = .returned (.tuple #[.int .u32 x, .int .i64 c]) ∧ Below w'.heap.size w' w'' := by
    rcases hx : isI i with _ | _
    · exact ⟨_, _, fun w' h => enc_no w' i hx h, fun w' => renc_no w' i hx⟩
    · exact ⟨_, _, fun w' h => enc_yes w' i hx h, fun w' => renc_yes w' i hx⟩
  obtain ⟨op, a, b, m⟩ := i
  simp only [I.cells] at h1 h2 ⊢
  have HO : Hid (∀ o, Ops (w.alloc o)) := hide fun o => hO.below (bel1 _ _)
  clear hO
  go_enter Tryd.func3, Tryd.ntmps3
  go_wp2_with fail
  refine (h1 _ (HO.out _)).mono ?_
  rintro e w1 ⟨rfl, hb⟩
  have HB := hide ((bel1 w _).trans (hb.mono (by simp)))
  obtain ⟨hc, hf⟩ := bcell hb
  clear hb h1
  go_wp2_with fail
  refine (h2 _).mono ?_
  rintro e w2 ⟨rfl, hb2⟩
  have HB2 := hide (HB.out.trans (hb2.mono HB.out.size))
  clear hb2 HB h2 hc hf
  go_wp2
  go_ret
  exact ⟨rfl, HB2.out⟩
end
end Go.Proofs.YtfonenigkjngoaaDoor
