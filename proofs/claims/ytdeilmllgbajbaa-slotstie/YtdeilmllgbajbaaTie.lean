/-
  The proof of 'Rows.SlotsTieSaid': the walk is 'tie_walk'; the frame is the shell's.
-/
import Derived.Test.YtdeilmllgbajbaaRows
import Derived.WalkKit
import Derived.ProofKit
import Derived.OpenShut
import Derived.ShutString
import Derived.ChangeOld
import Derived.Below
import Derived.SizedLaws
import Derived.Deep.Slices
import Derived.Test.YtdeilmllgbajbaaO1
import Derived.Test.YtdeilmllgbajbaaBK
namespace Go.Proofs.Ytdeilmllgbajbaa
namespace slotsTie
open Go.ChangeShapes Go.WideShapes Go.ChangeAt Go.RowKit Go.Deep
set_option linter.unusedVariables false

theorem own : ownKnob Try.prog.godebug = none := by kernel_rfl
theorem laidOut : laidOutB Try.prog = true := by kernel_rfl

set_option maxRecDepth 100000 in
theorem lifted (os : Os) (started : os.Started) (H : Type) (enc : TypeId × Value → H) :
    ReturnsInHanded {} Try.checked os 4 .any (Rows.slotsTieSpec.pre6 enc Try.prog Try.f4 Rows.slotsTieRow.domain false) (Rows.slotsTieSpec.post enc Try.prog Try.f4 false true false false) := by
  refine returnsInHanded_of_change_sized (C := Try.checked) own started (by kernel_rfl) Try.func4
    (ChangeSpec.witness6 (enc := enc) (C := Try.checked) false ⟨#[], #[.slice none 0 0], []⟩ 4 (by kernel_rfl) (by kernel_rfl) (by kernel_rfl) (by kernel_rfl)) ?_
  intro W base args ds gs before hval0 hW hcnd hsz _
  have hval : ∀ (j : Nat) t v, Try.f4.params[j]? = some t → args[j]? = some v → Value.okWide Try.prog W .any base t v := hval0
  have hW' := hW
  obtain ⟨p, q, hA0, hV, rfl, hfz, hnd⟩ := hW
  have hA : DataW.TrodAll enc Try.prog W 0 (fun _ => true) true Try.f4.params.toList args.toList ds p := hA0
  rw [Try.params4] at hA hval
  obtain ⟨v0, vs0, d0, ds0, p0, q0, hargs, rfl, rfl, h0, r0⟩ := trodAll_cons hA
  obtain ⟨rfl, rfl, rfl⟩ := trodAll_nil r0
  obtain rfl : args = #[v0] := by cases args; simp_all
  obtain ⟨rfl, rfl⟩ := trodVars_none hV
  obtain ⟨a0, len0, cap0, rfl⟩ := okWide_slice Try.underlying22 (hval 0 22 v0 rfl rfl)
  have k0 := h0
  have lt0 : ∀ x ∈ p0, x.block < W.heap.size := by obtain ⟨m, hm⟩ := k0; exact DataW.trod_lt m _ _ _ hm
  obtain ⟨Z0, hl0, w0⟩ : ∃ Z, len0 ≤ maxLen ∧ IsQuads W a0 len0 Z := by
    obtain ⟨fuel, hf⟩ := h0
    obtain ⟨a, l, c, Z, hcs, hl, hz⟩ := open_quads Try.underlying22 Try.underlying32 (by kernel_rfl) rfl rfl rfl rfl (by kernel_rfl) (by kernel_rfl) (by kernel_rfl) (by kernel_rfl) Try.underlying3 Try.underlying3 Try.underlying3 Try.underlying3 hf
    simp [Value.cells] at hcs
    obtain ⟨rfl, rfl, rfl⟩ := hcs
    exact ⟨Z, hl, hz⟩
  have hlt0 : len0 ≤ 4398046511104 := by
    obtain ⟨fuel, hf⟩ := k0
    rcases open_slice Try.underlying22 hf with ⟨h9, _⟩ | ⟨a9, l9, c9, m9, n9, D9, P9, h9, _, _, _, _, hx9, _⟩
    · simp [Value.cells] at h9
      omega
    · simp [Value.cells] at h9
      obtain ⟨_, rfl, _⟩ := h9
      have e1 : d0 = .slice ((List.range len0).map D9) ((List.range (m9 - len0)).map fun j => D9 (len0 + j)) := congrArg Prod.fst hx9
      have h8 := sized_slice hsz (j := 0) (t := 22) rfl (by rw [e1]; rfl) Try.underlying22
      have h7 : Try.checked.prog.bytesOf 32 = 32 := by kernel_rfl
      have h6 : reachBytes = 140737488351232 := by rfl
      rw [List.length_map, List.length_range, h7] at h8
      omega
  clear hA0 hval0 hsz
  refine (tie_walk a0 len0 cap0 Z0 W hlt0 w0).mono fun e W' ⟨he, bel⟩ => ?_
  subst he
  exact ⟨_, rfl, _, _, _, [], _, [], hW', trodAll_mk1 (shut_bool Try.underlying4 _), (trodAll_cons_mk (Below.trod laidOut (by kernel_rfl) (of_decide_eq_true (by kernel_rfl)) k0 bel lt0) trodAll_mk0), rfl, bel.frame _, fun h => by cases h⟩

theorem over : Rows.slotsTieRow.holds Try.pinned (OpenSpec.ofChange Rows.slotsTieSpec) :=
  OpenClaim.holds_of_wide 4 Try.f4 rfl rfl rfl rfl rfl rfl rfl ⟨rfl, rfl, rfl, rfl, rfl⟩ rfl rfl rfl rfl rfl (by kernel_rfl) Try.func4 (by kernel_rfl)
    (of_decide_eq_true (by kernel_rfl)) (by unfold Func.isWrapper; first | (rw [if_pos (by decide +kernel)]; kernel_rfl) | (rw [if_neg (by decide +kernel)]; exact ⟨rfl, rfl⟩))
    (fun os started H enc _ => lifted os started H enc)

end slotsTie
theorem slotsTie_holds : Rows.SlotsTieSaid := slotsTie.over
#print axioms slotsTie_holds
end Go.Proofs.Ytdeilmllgbajbaa
