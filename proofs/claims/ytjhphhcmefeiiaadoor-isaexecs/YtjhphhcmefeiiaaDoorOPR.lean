import Derived.Test.YtjhphhcmefeiiaaDoorR0
import Derived.ProofKit
import Derived.OpenShut
import Derived.Deep.Slices
namespace Go.Proofs.YtjhphhcmefeiiaaDoor
open Go.ChangeShapes Go.WideShapes Go.ChangeAt Go.RowKit Go.Deep
theorem u32_wf' {z : Int} (h : (Lit.int .u32 z).wf = true) : 0 ≤ z ∧ z < 4294967296 := by
  have h3 : 0 ≤ z ∧ z ≤ 4294967295 := by simpa [Lit.wf, IntKind.min, IntKind.max, IntKind.signed, IntKind.bits] using h
  omega
section
variable {H : Type} {enc : TypeId × Value → H} {w : World} {base : Nat} {spare : Nat → Bool} {held : Bool}
set_option maxRecDepth 100000 in
theorem open_regs {fuel : Nat} {cs : List Value} {x : DataW H × List MemPlace} (h : DataW.trod enc Tryd.prog w base spare held fuel 25 cs = some x) : ∃ R pc, cs = rg R pc ∧ RgOk R pc := by
  obtain ⟨xs, m, _, hx, hl, hxl, hf⟩ := DataW.trod_struct Tryd.underlying25 h
  rw [show Tryd.prog.cellsOf 25 = 9 by kernel_rfl] at hl
  have k1 : Tryd.prog.cellsOf 22 = 1 := by kernel_rfl
  have k8 : Tryd.prog.cellsOf 23 = 8 := by kernel_rfl
  match xs, hxl with
  | [y0, y1], _ =>
    have g0 : DataW.trod enc Tryd.prog w base spare held m 23 ((cs.drop 0).take (Tryd.prog.cellsOf 23)) = some y0 := hf 0 _ rfl
    have g1 : DataW.trod enc Tryd.prog w base spare held m 22 ((cs.drop 8).take (Tryd.prog.cellsOf 22)) = some y1 := hf 1 _ rfl
    rw [k8] at g0
    rw [k1] at g1
    obtain ⟨z1, e1, _, w1⟩ := DataW.trod_int Tryd.underlying22 g1
    obtain ⟨zs, m2, _, _, _, hzl, hz⟩ := DataW.trod_array Tryd.underlying23 g0
    have each : ∀ i, i < 8 → ∃ v : Nat, cs[i]? = some (.int .u32 (v : Nat)) ∧ v < 4294967296 := by
      intro i hi
      have hz' := hz i hi
      rw [k1, Nat.mul_one] at hz'
      obtain ⟨y, hy⟩ : ∃ y, zs[i]? = some y := ⟨_, List.getElem?_eq_getElem (by omega)⟩
      rw [hy] at hz'
      obtain ⟨z, h1, _, h2⟩ := DataW.trod_int Tryd.underlying22 hz'
      obtain ⟨h3, h4⟩ := u32_wf' h2
      refine ⟨z.toNat, ?_, by omega⟩
      have h5 := congrArg (fun l => l[0]?) h1
      simp only [List.drop_zero, List.getElem?_take_of_lt (Nat.lt_succ_self 0), List.getElem?_drop, Nat.add_zero, List.getElem?_cons_zero] at h5
      rw [List.getElem?_take_of_lt hi] at h5
      rw [h5]
      congr 2; omega
    obtain ⟨R, hR⟩ := choose_lt each
    obtain ⟨h3, h4⟩ := u32_wf' w1
    have e8 : cs[8]? = some (.int .u32 (z1.toNat : Nat)) := by
      have h5 := congrArg (fun l => l[0]?) e1
      simp only [List.getElem?_take_of_lt (Nat.lt_succ_self 0), List.getElem?_drop, Nat.add_zero, List.getElem?_cons_zero] at h5
      rw [h5]
      congr 2; omega
    exact ⟨R, z1.toNat, rg_ext hl (fun a ha => (hR a ha).1) e8, fun i hi => (hR i hi).2, by omega⟩
end
end Go.Proofs.YtjhphhcmefeiiaaDoor
