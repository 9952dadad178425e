/-
  The proof of 'Rows.MemPacksSaid': the walk is 'packs_walk'; the frame is the shell's.
-/
import Derived.ProofKit
import Derived.OpenShut
import Derived.ShutString
import Derived.ChangeOld
import Derived.Below
import Derived.Test.YtihkkbbphdgagaaP7
import Derived.Test.YtihkkbbphdgagaaOP3
namespace Go.Proofs.Ytihkkbbphdgagaa
namespace memPacks
open Go.ChangeShapes Go.WideShapes Go.ChangeAt Go.RowKit Go.Deep
set_option linter.unusedVariables false

theorem own : ownKnob Try.prog.godebug = none := by kernel_rfl
theorem laidOut : laidOutB Try.prog = true := by kernel_rfl

set_option maxRecDepth 100000 in
theorem lifted (os : Os) (started : os.Started) (H : Type) (enc : TypeId × Value → H) :
    ReturnsInHanded {} Try.checked os 4 .any (Rows.memPacksSpec.pre6 enc Try.prog Try.f4 Rows.memPacksRow.domain false) (Rows.memPacksSpec.post enc Try.prog Try.f4 false true false false) := by
  refine returnsInHanded_of_change_sized (C := Try.checked) own started (by kernel_rfl) Try.func4
    (ChangeSpec.witness6 (enc := enc) (C := Try.checked) false ⟨#[], #[.agg (page (fun _ => 0)).toArray, .slice none 0 0], []⟩ 8 (by kernel_rfl) (by kernel_rfl) (by kernel_rfl) (by kernel_rfl)) ?_
  intro W base args ds gs before hval0 hW hcnd hsz _
  have hval : ∀ (j : Nat) t v, Try.f4.params[j]? = some t → args[j]? = some v → Value.okWide Try.prog W .any base t v := hval0
  have hW' := hW
  obtain ⟨p, q, hA0, hV, rfl, hfz, hnd⟩ := hW
  have hA : DataW.TrodAll enc Try.prog W 0 (fun _ => true) true Try.f4.params.toList args.toList ds p := hA0
  rw [Try.params4] at hA hval
  obtain ⟨v0, vs0, d0, ds0, p0, q0, hargs, rfl, rfl, h0, r0⟩ := trodAll_cons hA
  obtain ⟨v1, vs1, d1, ds1, p1, q1, rfl, rfl, rfl, h1, r1⟩ := trodAll_cons r0
  obtain ⟨rfl, rfl, rfl⟩ := trodAll_nil r1
  obtain rfl : args = #[v0, v1] := by cases args; simp_all
  obtain ⟨rfl, rfl⟩ := trodVars_none hV
  obtain ⟨cs0, rfl, hsz0⟩ := okWide_array Try.underlying24 (hval 0 24 v0 rfl rfl)
  have k0 := h0
  have lt0 : ∀ x ∈ p0, x.block < W.heap.size := by obtain ⟨m, hm⟩ := k0; exact DataW.trod_lt m _ _ _ hm
  obtain ⟨g0, hg0, hgb0⟩ : ∃ g : Nat → Nat, cs0 = (page g).toArray ∧ ∀ i, i < 32 → g i < 4294967296 := by
    obtain ⟨fuel, hf⟩ := h0
    obtain ⟨g, h9, h8⟩ := open_page hf
    exact ⟨g, by rw [← Array.toArray_toList (xs := cs0)]; congr 1, h8⟩
  subst hg0
  obtain ⟨a1, len1, cap1, rfl⟩ := okWide_slice Try.underlying25 (hval 1 25 v1 rfl rfl)
  have k1 := h1
  have lt1 : ∀ x ∈ p1, x.block < W.heap.size := by obtain ⟨m, hm⟩ := k1; exact DataW.trod_lt m _ _ _ hm
  obtain ⟨Z1, hl1, z1⟩ : ∃ Z, len1 ≤ maxLen ∧ IsBys W a1 len1 Z := by
    obtain ⟨fuel, hf⟩ := h1
    obtain ⟨a, l, c, Z, hcs, hl, hz⟩ := open_bys hf
    simp [Value.cells] at hcs
    obtain ⟨rfl, rfl, rfl⟩ := hcs
    exact ⟨Z, hl, hz⟩
  have hlt1 : len1 ≤ 140737488355328 ∧ (a1 = none → len1 = 0 ∧ cap1 = 0) := by
    obtain ⟨fuel, hf⟩ := k1
    rcases open_slice Try.underlying25 hf with ⟨h9, _⟩ | ⟨a9, l9, c9, m9, n9, D9, P9, h9, _, _, _, _, hx9, _⟩
    · simp [Value.cells] at h9
      obtain ⟨_, rfl, rfl⟩ := h9
      exact ⟨by omega, fun _ => ⟨rfl, rfl⟩⟩
    · simp [Value.cells] at h9
      obtain ⟨rfl, rfl, _⟩ := h9
      refine ⟨?_, fun h => by cases h⟩
      have e1 : d1 = .slice ((List.range len1).map D9) ((List.range (m9 - len1)).map fun j => D9 (len1 + j)) := congrArg Prod.fst hx9
      have h8 := sized_slice hsz (j := 1) (t := 25) rfl (by rw [e1]; rfl) Try.underlying25
      have h7 : 0 < Try.checked.prog.bytesOf 5 := of_decide_eq_true (by kernel_rfl)
      have h6 := reachBytes_lt
      have h5 := Nat.le_trans (Nat.le_mul_of_pos_right _ h7) h8
      rw [List.length_map, List.length_range] at h5
      omega
  clear hA0 hval0 hsz
  refine (packs_walk g0 a1 len1 cap1 Z1 W hgb0 hlt1.1 hlt1.2 z1).mono fun e W' ⟨he, bel⟩ => ?_
  subst he
  exact ⟨_, rfl, _, _, _, [], _, [], hW', trodAll_mk1 (shut_bool Try.underlying4 _), (trodAll_cons_mk (Below.trod laidOut (by kernel_rfl) (of_decide_eq_true (by kernel_rfl)) k0 bel lt0) (trodAll_cons_mk (Below.trod laidOut (by kernel_rfl) (of_decide_eq_true (by kernel_rfl)) k1 bel lt1) trodAll_mk0)), rfl, bel.frame _, fun h => by cases h⟩

theorem over : Rows.memPacksRow.holds Try.pinned (OpenSpec.ofChange Rows.memPacksSpec) :=
  OpenClaim.holds_of_wide 4 Try.f4 rfl rfl rfl rfl rfl rfl rfl ⟨rfl, rfl, rfl, rfl, rfl⟩ rfl rfl rfl rfl rfl (by kernel_rfl) Try.func4 (by kernel_rfl)
    (of_decide_eq_true (by kernel_rfl)) (by unfold Func.isWrapper; first | (rw [if_pos (by decide +kernel)]; kernel_rfl) | (rw [if_neg (by decide +kernel)]; exact ⟨rfl, rfl⟩))
    (fun os started H enc _ => lifted os started H enc)

end memPacks
theorem memPacks_holds : Rows.MemPacksSaid := memPacks.over
#print axioms memPacks_holds
end Go.Proofs.Ytihkkbbphdgagaa
