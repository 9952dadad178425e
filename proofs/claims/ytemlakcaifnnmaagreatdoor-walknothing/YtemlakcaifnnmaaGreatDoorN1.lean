import Derived.Test.YtemlakcaifnnmaaGreatDoorRows
import Derived.WalkKit
import Derived.Handy
import Derived.WalkSpells
import Derived.WalkLawsBesides
import Derived.Deep.RegionLaw
import Derived.Deep.WholeRow
import Derived.Laws.OwnMore
import Derived.Deep.RegionHeld
import Derived.Deep.Slices
import Derived.Deep.MidRow
import Derived.ProofKit
import Derived.BigQuiet
import Derived.Deep.Cut
import Derived.Deep.DeepCutAuto
import Derived.WalkSmall
import Derived.Below
namespace Go.Proofs.YtemlakcaifnnmaaGreatDoor
open Go.ChangeShapes Go.WideShapes Go.ChangeAt Go.RowKit Go.Deep

theorem hide {p : Prop} (h : p) : Hid p := h
theorem results_row2 {P : Program} {fn : Func} {p u : Tmp} {ty : TypeId} (h : fn.results = #[.cell p ty, .tmp u]) (tmps : Array Value) (w : World) (g : Nat) (t : TypeId) (cs : Array Value) (fr : Nat × Nat) (d : TypeDesc)
    (hp : tmps.getD p undef = .pointer (some ⟨g, 0, none⟩)) (hg : w.heap[g]? = some (.cells cs t fr))
    (hu : P.underlying ty = some d) (hd : (match d with | .struct _ | .array _ _ => true | _ => false) = true) (hi : (P.info? ty).map (·.size) = some cs.size) :
    (results fn tmps).run P w = .ok (.tuple #[.agg cs, tmps.getD u undef]) w := by
  rw [results_cell_tmp h, hp]
  simp [asAddr, run_loadVar_row w g t ty cs fr d hg hu hd hi]
def tz : Array Value := #[.pointer none, .int .i64 0, .int .i64 0, .int .i64 0]
theorem infoTree : (Tryz.prog.info? 45).map (·.size) = some 4 := by kernel_rfl
set_option maxRecDepth 8000 in
set_option maxHeartbeats 3200000 in
theorem open_nil (w : World) (e s r : Int) : Calls Tryz.prog 10 #[.pointer none, .int .i64 e, .int .i64 s, .int .i64 r] w fun x w' => x = .returned (.tuple #[.agg tz, .int .i64 1]) ∧ Below w.heap.size w w' := by
  go_enter Tryz.func10, Tryz.ntmps10
  go_wp2
  refine bodyPost_ret (results_row2 rfl _ _ w.heap.size 45 tz (0, 0) _ rfl (heap_alloc_new w _) Tryz.underlying45 rfl infoTree) rfl ?_
  exact ⟨rfl, (Below.refl w.heap.size w).alloc (Nat.le_refl _) _⟩
def fz : Array Value := #[.slice none 0 0, .slice none 0 0, .slice none 0 0, .slice none 0 0, .slice none 0 0]
theorem infoF : (Tryz.prog.info? 28).map (·.size) = some 5 := by kernel_rfl
set_option maxRecDepth 8000 in
set_option maxHeartbeats 3200000 in
theorem dirty_nil (w : World) (e s : Int) : Calls Tryz.prog 5 #[.pointer none, .int .i64 e, .int .i64 s] w fun x w' => x = .returned (.tuple #[.slice none 0 0, .int .i64 1]) ∧ Below w.heap.size w w' := by
  have HO := hide (open_nil w e s 1)
  go_enter Tryz.func5, Tryz.ntmps5
  go_wp2_with fail
  refine HO.out.mono ?_
  rintro x w1 ⟨rfl, hb⟩
  have hb1 := hb.alloc hb.size (.cells tz 45)
  clear HO hb
  unfold tz at *
  go_wp2
  refine bodyPost_ret (results_tmp2 rfl _ _ _) rfl ?_
  exact ⟨rfl, hb1⟩
set_option maxRecDepth 8000 in
set_option maxHeartbeats 3200000 in
theorem clean_nil (w : World) (e s : Int) : Calls Tryz.prog 6 #[.pointer none, .int .i64 e, .int .i64 s] w fun x w' => x = .returned (.tuple #[.int .i64 0, .int .i64 1]) ∧ Below w.heap.size w w' := by
  have HO := hide (open_nil w e s 3)
  go_enter Tryz.func6, Tryz.ntmps6
  go_wp2_with fail
  refine HO.out.mono ?_
  rintro x w1 ⟨rfl, hb⟩
  have hb1 := hb.alloc hb.size (.cells tz 45)
  clear HO hb
  unfold tz at *
  go_wp2
  refine bodyPost_ret (results_tmp2 rfl _ _ _) rfl ?_
  exact ⟨rfl, hb1⟩
set_option maxRecDepth 8000 in
set_option maxHeartbeats 3200000 in
theorem freeze_nil (w : World) (e s : Int) (on : Bool) : Calls Tryz.prog 7 #[.pointer none, .int .i64 e, .int .i64 s, .bool on] w fun x w' => x = .returned (.tuple #[.bool false, .int .i64 1]) ∧ Below w.heap.size w w' := by
  have HO := hide (open_nil w e s 3)
  go_enter Tryz.func7, Tryz.ntmps7
  go_wp2_with fail
  refine HO.out.mono ?_
  rintro x w1 ⟨rfl, hb⟩
  have hb1 := hb.alloc hb.size (.cells tz 45)
  clear HO hb
  unfold tz at *
  go_wp2
  refine bodyPost_ret (results_tmp2 rfl _ _ _) rfl ?_
  exact ⟨rfl, hb1⟩
set_option maxRecDepth 8000 in
set_option maxHeartbeats 3200000 in
theorem holds_nil (w : World) (e s : Int) : Calls Tryz.prog 8 #[.pointer none, .int .i64 e, .int .i64 s] w fun x w' => x = .returned (.tuple #[.bool false, .int .i64 1]) ∧ Below w.heap.size w w' := by
  have HO := hide (open_nil w e s 1)
  go_enter Tryz.func8, Tryz.ntmps8
  go_wp2_with fail
  refine HO.out.mono ?_
  rintro x w1 ⟨rfl, hb⟩
  have hb1 := hb.alloc hb.size (.cells tz 45)
  clear HO hb
  unfold tz at *
  go_wp2
  refine bodyPost_ret (results_tmp2 rfl _ _ _) rfl ?_
  exact ⟨rfl, hb1⟩
end Go.Proofs.YtemlakcaifnnmaaGreatDoor
