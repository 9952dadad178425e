import Derived.Test.YtihkkbbphdgagaaJ1
import Derived.ProofKit
import Derived.OpenShut
import Derived.Deep.Slices
namespace Go.Proofs.Ytihkkbbphdgagaa
open Go.ChangeShapes Go.WideShapes Go.ChangeAt Go.RowKit Go.Deep
theorem okWide_array {P : Program} {w : World} {r : Reach} {base : Nat} {t : TypeId} {v : Value} {n : Nat} {e : TypeId} (ht : P.underlying t = some (.array n e)) (h : Value.okWide P w r base t v) : ∃ cs, v = .agg cs ∧ cs.size = P.cellsOf t := by
  unfold Value.okWide at h
  rw [ht] at h
  cases v <;> simp_all
section
variable {H : Type} {enc : TypeId × Value → H} {w : World} {base : Nat} {spare : Nat → Bool} {held : Bool}
theorem u32_wf {z : Int} (h : (Lit.int .u32 z).wf = true) : 0 ≤ z ∧ z < 4294967296 := by
  have h3 : 0 ≤ z ∧ z ≤ 4294967295 := by simpa [Lit.wf, IntKind.min, IntKind.max, IntKind.signed, IntKind.bits] using h
  omega
theorem i64_wf {z : Int} (h : (Lit.int .i64 z).wf = true) : -9223372036854775808 ≤ z ∧ z ≤ 9223372036854775807 := by
  simpa [Lit.wf, IntKind.min, IntKind.max, IntKind.signed, IntKind.bits] using h
theorem page_of {cs : List Value} {p : Nat → Nat} (hl : cs.length = 32) (h : ∀ i, i < 32 → cs[i]? = some (.int .u32 (p i : Nat))) : cs = page p := by
  apply List.ext_getElem?
  intro j
  by_cases hj : j < 32
  · rw [h j hj, page_get p hj]
  · rw [List.getElem?_eq_none (by omega), List.getElem?_eq_none (by rw [page_len]; omega)]
theorem open_page {fuel : Nat} {cs : List Value} {x : DataW H × List MemPlace} (h : DataW.trod enc Try.prog w base spare held fuel 24 cs = some x) :
    ∃ p : Nat → Nat, cs = page p ∧ ∀ i, i < 32 → p i < 4294967296 := by
  obtain ⟨xs, m, _, _, hl, hxl, hf⟩ := DataW.trod_array Try.underlying24 h
  have e1 : Try.prog.cellsOf 22 = 1 := by kernel_rfl
  have e2 : Try.prog.cellsOf 24 = 32 := by kernel_rfl
  rw [e2] at hl
  have each : ∀ i, i < 32 → ∃ z : Nat, cs[i]? = some (.int .u32 (z : Nat)) ∧ z < 4294967296 := by
    intro i hi
    have := hf i hi
    rw [e1, Nat.mul_one] at this
    obtain ⟨y, hy⟩ : ∃ y, xs[i]? = some y := ⟨_, List.getElem?_eq_getElem (by omega)⟩
    rw [hy] at this
    obtain ⟨z, h1, _, h2⟩ := DataW.trod_int Try.underlying22 this
    obtain ⟨h3, h4⟩ := u32_wf h2
    refine ⟨z.toNat, ?_, by omega⟩
    have h5 := congrArg (fun l => l[0]?) h1
    simp only [List.getElem?_take_of_lt (Nat.lt_succ_self 0), List.getElem?_drop, Nat.add_zero, List.getElem?_cons_zero] at h5
    rw [h5]
    congr 2; omega
  obtain ⟨p, hp⟩ := choose_lt each
  exact ⟨p, page_of hl (fun i hi => (hp i hi).1), fun i hi => (hp i hi).2⟩
end
end Go.Proofs.Ytihkkbbphdgagaa
