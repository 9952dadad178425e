import Derived.Test.YtncbbllmhohnkaaDoorI1
import Derived.ProofKit
import Derived.OpenShut
import Derived.Lib.LaidTab
namespace Go.Proofs.YtncbbllmhohnkaaDoor
open Go.ChangeShapes Go.WideShapes Go.ChangeAt Go.RowKit
/-- the datum of one operation, as the row lists it -/
def opData (n : Nat) : DataW Unit := .agg [.lit (.string (nm n)), .lit (.bool (uA n)), .lit (.bool (uB n)), .lit (.int .i64 (kd n : Nat))]
/-- the table's cells, as its text lays them -/
def opCells : Array Value := ((List.range 27).flatMap fun n => [.string ⟨(nm n).toArray⟩, .bool (uA n), .bool (uB n), .int .i64 (kd n : Nat)]).toArray
theorem laid_ops : (Rows.laid_amber_isa_operations : DataW Unit) = .agg ((List.range 27).map opData) := rfl
theorem gOps : Tryd.prog.globalNamed "amber/isa.operations" = some 0 := by kernel_rfl
theorem gOpsType : (Tryd.prog.globals[0]?).map (·.type) = some 92 := by kernel_rfl
theorem cellsOp : Tryd.prog.cellsOf 91 = 4 := by kernel_rfl
theorem cells1 : Tryd.prog.cellsOf 9 = 1 ∧ Tryd.prog.cellsOf 4 = 1 ∧ Tryd.prog.cellsOf 3 = 1 := ⟨by kernel_rfl, by kernel_rfl, by kernel_rfl⟩
section
variable {w : World} {base : Nat} {spare : Nat → Bool} {held : Bool}
set_option maxRecDepth 100000 in
theorem op_cells {n fuel : Nat} {cs : List Value} {p : List MemPlace} (h : DataW.trod (fun _ => ()) Tryd.prog w base spare held fuel 91 cs = some (opData n, p)) :
    ∃ s : ByteArray, cs = [.string s, .bool (uA n), .bool (uB n), .int .i64 (kd n : Nat)] ∧ s.data.toList = nm n := by
  obtain ⟨xs, m, _, hx, hl, hxl, hf⟩ := DataW.trod_struct Tryd.underlying91 h
  rw [cellsOp] at hl
  obtain ⟨k1, k2, k3⟩ := cells1
  match xs, hxl, cs, hl with
  | [y0, y1, y2, y3], _, [c0, c1, c2, c3], _ =>
    have g0 : DataW.trod (fun _ => ()) Tryd.prog w base spare held m 9 (([c0, c1, c2, c3].drop 0).take (Tryd.prog.cellsOf 9)) = some y0 := hf 0 _ rfl
    rw [k1] at g0
    have g1 : DataW.trod (fun _ => ()) Tryd.prog w base spare held m 4 (([c0, c1, c2, c3].drop 1).take (Tryd.prog.cellsOf 4)) = some y1 := hf 1 _ rfl
    rw [k2] at g1
    have g2 : DataW.trod (fun _ => ()) Tryd.prog w base spare held m 4 (([c0, c1, c2, c3].drop 2).take (Tryd.prog.cellsOf 4)) = some y2 := hf 2 _ rfl
    rw [k2] at g2
    have g3 : DataW.trod (fun _ => ()) Tryd.prog w base spare held m 3 (([c0, c1, c2, c3].drop 3).take (Tryd.prog.cellsOf 3)) = some y3 := hf 3 _ rfl
    rw [k3] at g3
    obtain ⟨s, e0, rfl, _⟩ := DataW.trod_string Tryd.underlying9 g0
    obtain ⟨b1, e1, rfl⟩ := DataW.trod_bool Tryd.underlying4 g1
    obtain ⟨b2, e2, rfl⟩ := DataW.trod_bool Tryd.underlying4 g2
    obtain ⟨z, e3, rfl, _⟩ := DataW.trod_int Tryd.underlying3 g3
    have hx1 := congrArg Prod.fst hx
    simp [opData] at hx1 e0 e1 e2 e3
    obtain ⟨f0, f1, f2, f3⟩ := hx1
    exact ⟨s, by rw [e0, e1, e2, e3, f1, f2, f3], f0.symm⟩
end
set_option maxRecDepth 100000 in
theorem ops_of {W : World} {l : List (String × DataW Unit)} (hm : ("amber/isa.operations", (Rows.laid_amber_isa_operations : DataW Unit)) ∈ l) (h : laidMet Tryd.prog l W) : Ops W := by
  obtain ⟨ps, hv, _⟩ := h
  have reads : ∀ {l : List (String × DataW Unit)} {ps : List MemPlace}, DataW.LaidVars Tryd.prog W l ps → ∀ n d, (n, d) ∈ l → ∃ g t cs fuel p, Tryd.prog.globalNamed n = some g ∧ (Tryd.prog.globals[g]?).map (·.type) = some t ∧ W.var? Tryd.prog n = some cs ∧ DataW.trod (fun _ => ()) Tryd.prog W 0 (fun _ => true) false fuel t cs.toList = some (d, p) := by
    intro l
    induction l with
    | nil => intro ps _ n d hm; cases hm
    | cons x r ih =>
      intro ps h n d hm
      obtain ⟨n', d'⟩ := x
      obtain ⟨g, t, cs, fuel, p, q, h1, h2, h3, h4, h5, _⟩ := h
      rcases List.mem_cons.1 hm with e | e
      · cases e
        exact ⟨g, t, cs, fuel, p, h1, h2, h3, h4⟩
      · exact ih h5 n d e
  obtain ⟨g, t, cs, fuel, p, h1, h2, h3, h4⟩ := reads hv _ _ hm
  obtain rfl := Option.some.inj (gOps.symm.trans h1)
  obtain rfl := Option.some.inj (gOpsType.symm.trans h2)
  obtain ⟨xs, m, _, hx, hl, hxl, hf⟩ := DataW.trod_array Tryd.underlying92 h4
  rw [laid_ops] at hx
  have hx1 : (List.range 27).map opData = xs.map (·.1) := by
    have := congrArg Prod.fst hx
    simpa using this
  have key : ∀ n, n < 27 → ∃ s : ByteArray, (cs.toList.drop (n * 4)).take 4 = [.string s, .bool (uA n), .bool (uB n), .int .i64 (kd n : Nat)] ∧ s.data.toList = nm n := by
    intro n hn
    have hn' := hf n hn
    rw [cellsOp] at hn'
    obtain ⟨y, hy⟩ : ∃ y, xs[n]? = some y := ⟨_, List.getElem?_eq_getElem (by omega)⟩
    have e1 := congrArg (·[n]?) hx1
    simp [hy, hn] at e1
    rw [hy] at hn'
    obtain ⟨d, q⟩ := y
    simp only at e1
    subst e1
    exact op_cells hn'
  have hc : ∀ n, n < 27 → ∀ j, j < 4 → ∀ v, ((cs.toList.drop (n * 4)).take 4)[j]? = some v → W.cell? ⟨0, n * 4 + j, none⟩ = some v := by
    intro n hn j hj v hv
    have e := World.var?_cell gOps h3 (n * 4 + j)
    rw [List.getElem?_take_of_lt hj, List.getElem?_drop] at hv
    rw [e]; simpa using hv
  refine ⟨fun n hn => ?_, fun n hn => ?_, fun n hn => ?_, fun n hn => ?_⟩
  · obtain ⟨s, e, f⟩ := key n hn
    exact ⟨s, hc n hn 0 (by omega) _ (by rw [e]; rfl), f⟩
  · obtain ⟨s, e, f⟩ := key n hn
    exact hc n hn 1 (by omega) _ (by rw [e]; rfl)
  · obtain ⟨s, e, f⟩ := key n hn
    exact hc n hn 2 (by omega) _ (by rw [e]; rfl)
  · obtain ⟨s, e, f⟩ := key n hn
    exact hc n hn 3 (by omega) _ (by rw [e]; rfl)
end Go.Proofs.YtncbbllmhohnkaaDoor
