import Derived.Test.YtfonenigkjngoaaDoorI6
namespace Go.Proofs.YtfonenigkjngoaaDoor
open Go.RowKit
section
variable (w : World)
set_option maxRecDepth 100000 in
set_option maxHeartbeats 1000000 in
theorem codes_walk (n : Nat) (hn : n < 4294967296) (hO : Ops w) : Calls Tryd.prog 6 #[.int .u32 (n : Nat)] w fun e w' => e = .returned (.bool true) ∧ Below w.heap.size w w' := by
  have d1 := dec_any w n hn hO
  obtain ⟨o, ho⟩ : ∃ o, decI n = o := ⟨_, rfl⟩
  obtain ⟨c, hc⟩ : ∃ c, decE n = c := ⟨_, rfl⟩
  have d2 : ∀ w', Calls Tryd.prog 13 #[.int .u32 (n : Nat)] w' fun e w'' => e = .returned (.tuple #[.agg o.cells.toArray, .int .i64 c]) ∧ Below w'.heap.size w' w'' := fun w' => by
    have := rdec_any w' n hn
    rw [ho, hc] at this; exact this
  rw [ho, hc] at d1
  clear ho hc hO
  obtain ⟨op, a, b, m⟩ := o
  simp only [I.cells] at d1 d2
  go_enter Tryd.func6, Tryd.ntmps6
  go_wp2_with fail
  refine d1.mono ?_
  rintro e w1 ⟨rfl, hb⟩
  have HB := hide hb
  clear hb d1
  go_wp2_with fail
  refine (d2 _).mono ?_
  rintro e w2 ⟨rfl, hb2⟩
  have HB2 := hide (HB.out.trans ((bel1 w1 (.cells #[.int .i64 op, .int .i64 a, .int .i64 b, .int .i64 m] 23)).trans (hb2.mono (by simp))|>.mono HB.out.size))
  obtain ⟨hc, hf⟩ := bcell hb2
  have hz : w1.heap.size < w2.heap.size := by have := hb2.size; simp at this; omega
  clear hb2 HB d2
  go_wp2
  go_ret
  exact ⟨rfl, HB2.out.alloc HB2.out.size _⟩
end
end Go.Proofs.YtfonenigkjngoaaDoor
