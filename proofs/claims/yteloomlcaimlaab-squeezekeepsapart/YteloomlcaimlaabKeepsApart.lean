/-
  The proof of Rows.SqueezeKeepsApartSaid: the walk is 'apart_walk' of the text V2; the frame is the shell's, with the reach of the slices that came in.
-/
import Derived.Test.YteloomlcaimlaabRows
import Derived.WalkKit
import Derived.ProofKit
import Derived.OpenShut
import Derived.ShutString
import Derived.ChangeOld
import Derived.Below
import Derived.SizedLaws
import Derived.Test.YteloomlcaimlaabV2
namespace Go.Proofs.Yteloomlcaimlaab
namespace squeezeKeepsApart
open Go.ChangeShapes Go.WideShapes Go.ChangeAt Go.RowKit
open Go.ChangeMaps (open_string shut_string)
set_option linter.unusedVariables false

theorem own : ownKnob Try.prog.godebug = none := by kernel_rfl
theorem laidOut : laidOutB Try.prog = true := by kernel_rfl
theorem bytes5 : Try.prog.bytesOf 5 = 1 := by kernel_rfl
theorem bnd8 (a : Int) (h : (Lit.int .u8 a).wf = true) : 0 ≤ a ∧ a < 256 := by
  simp [Lit.wf, IntKind.min, IntKind.max, IntKind.signed, IntKind.bits] at h; omega
theorem bnd64 (a : Int) (h : (Lit.int .i64 a).wf = true) : -9223372036854775808 ≤ a ∧ a ≤ 9223372036854775807 := by
  simp [Lit.wf, IntKind.min, IntKind.max, IntKind.signed, IntKind.bits] at h; omega
/-- what came in, as bytes -/
theorem rb_of {W : World} {x : Addr} {len cap : Nat} {zs : List Int} (hlc : len ≤ cap) (hlz : len ≤ zs.length) (hcell : ∀ i, i < zs.length → W.cell? (x.add i) = some (.int .u8 (zs.getD i 0))) (hwz : ∀ n ∈ zs, (Lit.int .u8 n).wf = true) :
    ∃ ns : List Nat, ns.length = len ∧ Bys ns ∧ Rb W W.heap.size (.slice (some x) len cap) ns := by
  refine ⟨(zs.take len).map Int.toNat, by simp; omega, ?_, .inr ⟨x, cap, by simp; omega, by simp; omega, ?_⟩⟩
  · intro n hn
    simp only [List.mem_map] at hn
    obtain ⟨a, ha, rfl⟩ := hn
    have := bnd8 a (hwz a (List.mem_of_mem_take ha))
    omega
  · intro i u hu
    have hi : i < len := by
      rcases Nat.lt_or_ge i len with h | h
      · exact h
      · rw [List.getElem?_eq_none (by simp; omega)] at hu; cases hu
    have hc : W.cell? (x.add i) = some u := by
      rw [hcell i (by omega)]
      rw [← hu]
      have hb := bnd8 zs[i] (hwz _ (List.getElem_mem _))
      simp [List.getD, hi, List.getElem?_eq_getElem (show i < zs.length by omega), By]
      omega
    have hb := World.block_lt_of_cell? W _ hc
    rw [blk_add] at hb
    exact ⟨hb, hc⟩

/-! ### THE ROW's STEP: WRITTEN OUT: LEAVE IT -/
set_option maxRecDepth 100000 in
theorem lifted (os : Os) (started : os.Started) (H : Type) (enc : TypeId × Value → H) :
    ReturnsInHanded {} Try.checked os 3 .any (Rows.squeezeKeepsApartSpec.pre6 enc Try.prog Try.f3 Rows.squeezeKeepsApartRow.domain false) (Rows.squeezeKeepsApartSpec.post enc Try.prog Try.f3 false true false false) := by
  refine returnsInHanded_of_change_sized (C := Try.checked) own started (by kernel_rfl) Try.func3
    (ChangeSpec.witness6 (enc := enc) (C := Try.checked) false ⟨#[], #[.slice none 0 0], []⟩ 8 (by kernel_rfl) (by kernel_rfl) (by kernel_rfl) (by kernel_rfl)) ?_
  intro W base args ds gs before hval0 hW hcnd hsz0 _
  have hsz : (DataW.weightsEach Try.prog (Try.f3.params.toList ++ Rows.squeezeKeepsApartSpec.plain.varTypes Try.prog) (ds ++ gs)).all (· ≤ reachBytes) = true := hsz0
  clear hsz0
  have hval : ∀ (j : Nat) t v, Try.f3.params[j]? = some t → args[j]? = some v → Value.okWide Try.prog W .any base t v := hval0
  have hW' := hW
  obtain ⟨p, q, hA0, hV, rfl, hfz, hnd⟩ := hW
  have hA : DataW.TrodAll enc Try.prog W 0 (fun _ => true) true Try.f3.params.toList args.toList ds p := hA0
  rw [Try.params3] at hA hval hsz
  obtain ⟨v0, vs0, d0, ds0, p0, q0, hargs, rfl, rfl, h0, r0⟩ := trodAll_cons hA
  obtain ⟨rfl, rfl, rfl⟩ := trodAll_nil r0
  obtain rfl : args = #[v0] := by cases args; simp_all
  obtain ⟨rfl, rfl⟩ := trodVars_none hV
  obtain ⟨a0, len0, cap0, rfl⟩ := okWide_slice Try.underlying22 (hval 0 22 v0 rfl rfl)
  have k0 := h0
  have lt0 : ∀ x ∈ p0, x.block < W.heap.size := by obtain ⟨m, hm⟩ := k0; exact DataW.trod_lt m _ _ _ hm
  obtain ⟨ns0, hlen0, hns0, hrd0⟩ : ∃ ns : List Nat, ns.length ≤ 140737488351232 ∧ Bys ns ∧ Rb W W.heap.size (.slice a0 len0 cap0) ns := by
    obtain ⟨fuel, hf⟩ := h0
    rcases open_ints Try.underlying22 Try.underlying5 (by kernel_rfl) hf with ⟨hcs, _⟩ | ⟨x, l, c, zs, hcs, _, hl, hm, hz, hx, hcell, hwz⟩
    · simp [Value.cells] at hcs
      obtain ⟨rfl, rfl, rfl⟩ := hcs
      exact ⟨[], by simp, Bys.nil, .inl ⟨rfl, rfl⟩⟩
    · simp [Value.cells] at hcs
      obtain ⟨rfl, rfl, rfl⟩ := hcs
      simp only [Prod.mk.injEq] at hx
      obtain ⟨rfl, _⟩ := hx
      simp only [if_true] at hz
      have hreach := sized_slice hsz (j := 0) (t := 22) (e := 5) rfl rfl Try.underlying22
      rw [bytes5] at hreach
      obtain ⟨ns, g1, g2, g3⟩ := rb_of (W := W) (cap := cap0) hl (show len0 ≤ zs.length by omega) hcell hwz
      refine ⟨ns, ?_, g2, g3⟩
      simp [lits] at hreach
      have : reachBytes = 140737488351232 := rfl
      omega
  clear hA0 hval0
  refine (apart_walk W (.slice a0 len0 cap0) ns0 hrd0 hns0 hlen0).mono fun e W' ⟨he, bel⟩ => ?_
  subst he
  exact ⟨_, rfl, _, _, _, [], _, [], hW', trodAll_mk1 (shut_bool Try.underlying4 _), (trodAll_cons_mk (Below.trod laidOut (by kernel_rfl) (of_decide_eq_true (by kernel_rfl)) k0 bel lt0) trodAll_mk0), rfl, bel.frame _, fun h => by cases h⟩

theorem over : Rows.squeezeKeepsApartRow.holds Try.pinned (OpenSpec.ofChange Rows.squeezeKeepsApartSpec) :=
  OpenClaim.holds_of_wide 3 Try.f3 rfl rfl rfl rfl rfl rfl rfl ⟨rfl, rfl, rfl, rfl, rfl⟩ rfl rfl rfl rfl rfl (by kernel_rfl) Try.func3 (by kernel_rfl)
    (of_decide_eq_true (by kernel_rfl)) (by unfold Func.isWrapper; first | (rw [if_pos (by decide +kernel)]; kernel_rfl) | (rw [if_neg (by decide +kernel)]; exact ⟨rfl, rfl⟩))
    (fun os started H enc _ => lifted os started H enc)

end squeezeKeepsApart

theorem squeezeKeepsApart_holds : Rows.SqueezeKeepsApartSaid := squeezeKeepsApart.over
#print axioms squeezeKeepsApart_holds
end Go.Proofs.Yteloomlcaimlaab
