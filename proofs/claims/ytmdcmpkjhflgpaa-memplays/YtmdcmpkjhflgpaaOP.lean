import Derived.Test.YtmdcmpkjhflgpaaRP
import Derived.SizedLaws
import Derived.ProofKit
import Derived.OpenShut
import Derived.Deep.Slices
namespace Go.Proofs.Ytmdcmpkjhflgpaa
open Go.ChangeShapes Go.WideShapes Go.ChangeAt Go.RowKit Go.Deep
theorem okWide_array {P : Program} {w : World} {r : Reach} {base : Nat} {t : TypeId} {v : Value} {n : Nat} {e : TypeId} (ht : P.underlying t = some (.array n e)) (h : Value.okWide P w r base t v) : ∃ cs, v = .agg cs ∧ cs.size = P.cellsOf t := by
  unfold Value.okWide at h
  rw [ht] at h
  cases v <;> simp_all
section
variable {H : Type} {enc : TypeId × Value → H} {w : World} {base : Nat} {spare : Nat → Bool} {held : Bool}
theorem u32_wf {z : Int} (h : (Lit.int .u32 z).wf = true) : 0 ≤ z ∧ z < 4294967296 := by
  have h3 : 0 ≤ z ∧ z ≤ 4294967295 := by simpa [Lit.wf, IntKind.min, IntKind.max, IntKind.signed, IntKind.bits] using h
  omega
theorem page_of {cs : List Value} {p : Nat → Nat} (hl : cs.length = 32) (h : ∀ i, i < 32 → cs[i]? = some (.int .u32 (p i : Nat))) : cs = page p := by
  apply List.ext_getElem?
  intro j
  by_cases hj : j < 32
  · rw [h j hj, page_get p hj]
  · rw [List.getElem?_eq_none (by omega), List.getElem?_eq_none (by rw [page_len]; omega)]
theorem open_page {fuel : Nat} {cs : List Value} {x : DataW H × List MemPlace} (h : DataW.trod enc Try.prog w base spare held fuel 29 cs = some x) :
    ∃ p : Nat → Nat, cs = page p ∧ ∀ i, i < 32 → p i < 4294967296 := by
  obtain ⟨xs, m, _, _, hl, hxl, hf⟩ := DataW.trod_array Try.underlying29 h
  have e1 : Try.prog.cellsOf 27 = 1 := by kernel_rfl
  have e2 : Try.prog.cellsOf 29 = 32 := by kernel_rfl
  rw [e2] at hl
  have each : ∀ i, i < 32 → ∃ z : Nat, cs[i]? = some (.int .u32 (z : Nat)) ∧ z < 4294967296 := by
    intro i hi
    have := hf i hi
    rw [e1, Nat.mul_one] at this
    obtain ⟨y, hy⟩ : ∃ y, xs[i]? = some y := ⟨_, List.getElem?_eq_getElem (by omega)⟩
    rw [hy] at this
    obtain ⟨z, h1, _, h2⟩ := DataW.trod_int Try.underlying27 this
    obtain ⟨h3, h4⟩ := u32_wf h2
    refine ⟨z.toNat, ?_, by omega⟩
    have h5 := congrArg (fun l => l[0]?) h1
    simp only [List.getElem?_take_of_lt (Nat.lt_succ_self 0), List.getElem?_drop, Nat.add_zero, List.getElem?_cons_zero] at h5
    rw [h5]
    congr 2; omega
  obtain ⟨p, hp⟩ := choose_lt each
  exact ⟨p, page_of hl (fun i hi => (hp i hi).1), fun i hi => (hp i hi).2⟩
theorem int_cell {t : TypeId} {n : Nat} {v : Value} {y : DataW H × List MemPlace} (ht : Try.prog.underlying t = some (.int .i64)) (h : DataW.trod enc Try.prog w base spare held n t [v] = some y) : ∃ z : Int, v = .int .i64 z := by
  obtain ⟨z, h1, _, h2⟩ := DataW.trod_int ht h
  exact ⟨z, by simpa using h1⟩
theorem bool_cell {t : TypeId} {n : Nat} {v : Value} {y : DataW H × List MemPlace} (ht : Try.prog.underlying t = some .bool) (h : DataW.trod enc Try.prog w base spare held n t [v] = some y) : ∃ z : Bool, v = .bool z := by
  obtain ⟨z, h1, _⟩ := DataW.trod_bool ht h
  exact ⟨z, by simpa using h1⟩
theorem open_op {n : Nat} {cs : List Value} {y : DataW H × List MemPlace} (hl : cs.length = 37) (h : DataW.trod enc Try.prog w base spare held n 31 cs = some y) : ∃ o : Ost, cs = o.cells := by
  obtain ⟨xs, k, hk, hxy, _, hxl, hf⟩ := DataW.trod_struct Try.underlying31 h
  match xs, hxl with
  | [y0, y1, y2, y3, y4, y5], _ =>
    have g0 := hf 0 _ rfl
    have g1 := hf 1 _ rfl
    have g2 := hf 2 _ rfl
    have g3 := hf 3 _ rfl
    have g4 := hf 4 _ rfl
    have g5 := hf 5 _ rfl
    have e1 : Try.prog.cellsOf 3 = 1 := by kernel_rfl
    have e2 : Try.prog.cellsOf 4 = 1 := by kernel_rfl
    have e3 : Try.prog.cellsOf 29 = 32 := by kernel_rfl
    match cs, hl with
    | v0 :: v1 :: v2 :: v3 :: v4 :: r, hl =>
      have hr : r.length = 32 := by simpa using hl
      simp [e1, e2, e3] at g0 g1 g2 g3 g4 g5
      rw [List.take_of_length_le (by omega)] at g5
      obtain ⟨b, rfl⟩ := bool_cell Try.underlying4 g0
      obtain ⟨z1, rfl⟩ := int_cell Try.underlying3 g1
      obtain ⟨z2, rfl⟩ := int_cell Try.underlying3 g2
      obtain ⟨z3, rfl⟩ := int_cell Try.underlying3 g3
      obtain ⟨z4, rfl⟩ := int_cell Try.underlying3 g4
      obtain ⟨p, rfl, _⟩ := open_page g5
      exact ⟨⟨b, z1, z2, z3, z4, p⟩, rfl⟩
theorem bytesOp : Try.prog.bytesOf 31 = 168 := by kernel_rfl
theorem open_ops {fuel : Nat} {cs : List Value} {x : DataW H × List MemPlace} (h : DataW.trod enc Try.prog w base spare held fuel 22 cs = some x) (hw : ∀ k ∈ x.1.weights Try.prog 22, k ≤ reachBytes) :
    ∃ (a : Option Addr) (len cap : Nat) (O : Nat → Ost), cs = [.slice a len cap] ∧ len < 1152921504606846976 ∧ IsOps w a len O := by
  rcases open_slice Try.underlying22 h with ⟨rfl, _⟩ | ⟨a, len, cap, m, n, D, Pl, rfl, hb, hl, hm, hmm, rfl, hx⟩
  · exact ⟨none, 0, 0, fun _ => Ost.nil, rfl, by omega, fun k hk => by omega⟩
  have hlm : len ≤ m := by rw [hmm]; split <;> omega
  have ce : Try.prog.cellsOf 31 = 37 := by kernel_rfl
  have each : ∀ i, i < len → ∃ o : Ost, ∀ (j : Nat) (v : Value), o.cells[j]? = some v → w.cell? ((a.add (i * 37)).add j) = some v := by
    intro i hi
    obtain ⟨cs', h1, h2⟩ := hx i (by omega)
    rw [ce] at h1
    obtain ⟨_, hlen, hcell⟩ := World.cells?_some h1
    obtain ⟨o, rfl⟩ := open_op hlen h2
    refine ⟨o, fun j v hv => ?_⟩
    have hj : j < 37 := by have := (List.getElem?_eq_some_iff.1 hv).1; rwa [ocells_len] at this
    rw [hcell j hj]; exact hv
  haveI : Inhabited Ost := ⟨Ost.nil⟩
  obtain ⟨O, hO⟩ := choose_lt each
  have hm9 : (((List.range len).map D).length + ((List.range (m - len)).map fun j => D (len + j)).length) * Try.prog.bytesOf 31 ≤ reachBytes := hw _ (by simp only [DataW.weights, Try.underlying22]; exact List.mem_cons_self)
  rw [bytesOp, List.length_map, List.length_range] at hm9
  have hrb : reachBytes = 140737488351232 := rfl
  exact ⟨some a, len, cap, O, rfl, by omega, fun k hk => ⟨a, rfl, hO k hk⟩⟩
end
end Go.Proofs.Ytmdcmpkjhflgpaa
