import Derived.Test.YtncbbllmhohnkaaDoorE7
import Derived.Test.YtncbbllmhohnkaaDoorE8
import Derived.Test.YtncbbllmhohnkaaDoorE9
namespace Go.Proofs.YtncbbllmhohnkaaDoor
open Go.RowKit
theorem rg_nine (R : Nat → Nat) (pc : Nat) : (rg R pc).toArray = #[.int .u32 (R 0 : Nat), .int .u32 (R 1 : Nat), .int .u32 (R 2 : Nat), .int .u32 (R 3 : Nat), .int .u32 (R 4 : Nat), .int .u32 (R 5 : Nat), .int .u32 (R 6 : Nat), .int .u32 (R 7 : Nat), .int .u32 (pc : Nat)] := rfl
theorem sz1 {W w1 : World} {o : Obj} (hb : Below (W.alloc o).heap.size (W.alloc o) w1) : W.heap.size < w1.heap.size := by have := hb.size; simp at this; omega
section
variable (w : World)
theorem parts_known : parts 36700165 = ⟨((2 : Nat) : Int), (3 : Nat), (0 : Nat), 5⟩ := rfl
theorem isI_known : isI ⟨((2 : Nat) : Int), (3 : Nat), (0 : Nat), 5⟩ = true := by decide
theorem exec_known (hO : Ops w) : Calls Tryd.prog 11 #[.agg #[.int .u32 0, .int .u32 0, .int .u32 0, .int .u32 0, .int .u32 0, .int .u32 0, .int .u32 0, .int .u32 0, .int .u32 7], .int .u32 36700165] w fun e w' => e = .returned (.tuple #[.agg #[.int .u32 0, .int .u32 0, .int .u32 0, .int .u32 5, .int .u32 0, .int .u32 0, .int .u32 0, .int .u32 0, .int .u32 8], .agg #[.int .i64 0, .int .u32 0, .int .i64 0, .int .u32 0, .int .i64 0]]) ∧ Below w.heap.size w w' :=
  exec_op w (fun _ => 0) 7 36700165 2 3 0 5 (by decide) parts_known isI_known hO (by decide) (by decide) ⟨fun _ _ => by decide, by decide⟩ ⟨by decide, by decide, by decide, by decide, by decide, by decide⟩
theorem dec_known (hO : Ops w) : Calls Tryd.prog 26 #[.int .u32 36700165] w fun e w' => e = .returned (.tuple #[.agg #[.int .i64 2, .int .i64 3, .int .i64 0, .int .i64 5], .int .i64 0]) ∧ Below w.heap.size w w' := by
  have h := dec_any w 36700165 (by decide) hO
  rw [(decI_yes parts_known isI_known).1, (decI_yes parts_known isI_known).2] at h
  exact h
theorem enc_known (hO : Ops w) : Calls Tryd.prog 30 #[.agg #[.int .i64 2, .int .i64 3, .int .i64 0, .int .i64 5]] w fun e w' => e = .returned (.tuple #[.int .u32 36700165, .int .i64 0]) ∧ Below w.heap.size w w' :=
  enc_yes w ⟨((2 : Nat) : Int), (3 : Nat), (0 : Nat), 5⟩ isI_known hO
set_option maxRecDepth 100000 in
set_option maxHeartbeats 2000000 in
theorem known_any (hO : Ops w) : Calls Tryd.prog 12 #[] w fun e w' => e = .returned (.bool true) ∧ Below w.heap.size w w' := by
  have HO := hide hO
  clear hO
  go_enter Tryd.func12, Tryd.ntmps12
  go_wp2_with fail
  refine (dec_known _ HO.out).mono ?_
  rintro e w1 ⟨rfl, hb⟩
  have HB1 := hide hb
  have HO1 := hide ((HO.out.below hb).below (bel1 w1 (.cells #[.int .i64 2, .int .i64 3, .int .i64 0, .int .i64 5] 58)))
  clear hb HO
  go_wp2_with fail
  refine (enc_known _ HO1.out).mono ?_
  rintro e w2 ⟨rfl, hb⟩
  have HB2 := hide (HB1.out.trans (((bel1 w1 (.cells #[.int .i64 2, .int .i64 3, .int .i64 0, .int .i64 5] 58)).trans (hb.mono (by simp))).mono HB1.out.size))
  have HO2 := hide (HO1.out.below hb)
  clear hb HO1 HB1
  go_wp2_with fail
  refine (exec_known _ HO2.out).mono ?_
  rintro e w3 ⟨rfl, hb⟩
  have HB3 := hide (HB2.out.trans (hb.mono HB2.out.size))
  clear hb HO2 HB2
  go_wp2
  go_ret
  exact ⟨rfl, (HB3.out.alloc HB3.out.size _).alloc (by have := HB3.out.size; simp; omega) _⟩
end
end Go.Proofs.YtncbbllmhohnkaaDoor
