import Derived.Test.YtjhphhcmefeiiaaDoorXE
import Derived.Test.YtjhphhcmefeiiaaDoorXG
import Derived.Test.YtjhphhcmefeiiaaDoorE7
import Derived.Test.YtjhphhcmefeiiaaDoorE8
namespace Go.Proofs.YtjhphhcmefeiiaaDoor
open Go.RowKit
set_option linter.unusedVariables false

/-- both answer so -/
def Both (R : Nat → Nat) (pc n : Nat) (R' : Nat → Nat) (pc' : Nat) (k a r v c : Int) : Prop :=
  (∀ W, Ops W → Calls Tryd.prog 4 #[.agg (rg R pc).toArray, .int .u32 (n : Nat)] W fun e w' => e = .returned (.tuple #[.agg (rg R' pc').toArray, .agg (e5 k a r v c).toArray]) ∧ Below W.heap.size W w') ∧
  (∀ W, Calls Tryd.prog 5 #[.agg (rg R pc).toArray, .int .u32 (n : Nat)] W fun e w' => e = .returned (.tuple #[.agg (rg R' pc').toArray, .agg (e5 k a r v c).toArray]) ∧ Below W.heap.size W w')
theorem tgt_low {no x imm next : Nat} (h : no < 21) : tgt no x imm next = next := by
  unfold tgt
  rw [if_neg (by omega), if_neg (by omega)]
theorem res_high {no x y imm : Nat} (h : 21 ≤ no ∧ no ≤ 24) : res no x y imm = x := by
  have h9 : no = 21 ∨ no = 22 ∨ no = 23 ∨ no = 24 := by omega
  rcases h9 with rfl | rfl | rfl | rfl <;> rfl
theorem both_any (R : Nat → Nat) (pc n : Nat) (hn : n < 4294967296) (hR : RgOk R pc) : ∃ R' pc' k a r v c, Both R pc n R' pc' k a r v c := by
  cases hx : isI (parts n) with
  | false => exact ⟨R, pc, 4, 0, 0, 0, 70, fun W hO => exec_trap W R pc n hn hx hO, fun W => rexec_trap W R pc n hn hx⟩
  | true =>
    obtain ⟨no, na, nb, z, hp⟩ : ∃ (no na nb : Nat) (z : Int), parts n = ⟨(no : Int), na, nb, z⟩ := ⟨_, _, _, _, rfl⟩
    rw [hp] at hx
    have hI := isn.1 hx
    have h1 : 1 ≤ no := by have := hI.op1; simp only at this; omega
    have h2 : no < 27 := by have := hI.op2; simp only at this; omega
    by_cases h19 : no = 19
    · exact ⟨_, _, _, _, _, _, _, fun W hO => exec_ld W R pc n no na nb z hn hp hx hO h19, fun W => rexec_ld W R pc n no na nb z hn hp hx hR h19⟩
    by_cases h20 : no = 20
    · exact ⟨_, _, _, _, _, _, _, fun W hO => exec_st W R pc n no na nb z hn hp hx hO h20, fun W => rexec_st W R pc n no na nb z hn hp hx hR h20⟩
    by_cases h26 : no = 26
    · exact ⟨_, _, _, _, _, _, _, fun W hO => exec_sys W R pc n no na nb z hn hp hx hO h26, fun W => rexec_sys W R pc n no na nb z hn hp hx hR h26⟩
    by_cases h25 : no = 25
    · refine ⟨put R na (nx pc), tgt no (R na) (im z) (nx pc), 0, 0, 0, 0, 0, fun W hO => exec_call W R pc n no na nb z hn hp hx hO h2 hR h25, fun W => rexec_jump W R pc n no na nb z hn hp hx hR _ _ ⟨by omega, ?_, rfl⟩⟩
      rw [if_pos h25]
    by_cases hj : 21 ≤ no
    · refine ⟨R, tgt no (R na) (im z) (nx pc), 0, 0, 0, 0, 0, fun W hO => ?_, fun W => rexec_jump W R pc n no na nb z hn hp hx hR _ _ ⟨by omega, ?_, rfl⟩⟩
      · have h9 := exec_op W R pc n no na nb z hn hp hx hO h1 h2 hR (by omega)
        rw [res_high (by omega), put_same] at h9
        exact h9
      · rw [if_neg h25]
    have ht : tgt no (R na) (im z) (nx pc) = nx pc := tgt_low (by omega)
    by_cases h8 : no = 8
    · by_cases h0 : R nb = 0
      · exact ⟨R, pc, 4, 0, 0, 0, 73, fun W hO => exec_div8 W R pc n no na nb z hn hp hx hO h8 h0, fun W => rexec_div W R pc n no na nb z hn hp hx hR ⟨.inl h8, h0⟩⟩
      · refine ⟨put R na (res no (R na) (R nb) (im z)), nx pc, 0, 0, 0, 0, 0, fun W hO => ?_, fun W => rexec_op W R pc n no na nb z hn hp hx hR ⟨by omega, by omega, fun _ => h0⟩⟩
        have h9 := exec_op8 W R pc n no na nb z hn hp hx hO h1 h2 hR h8 h0
        rw [ht] at h9
        exact h9
    by_cases h9' : no = 9
    · by_cases h0 : R nb = 0
      · exact ⟨R, pc, 4, 0, 0, 0, 73, fun W hO => exec_div9 W R pc n no na nb z hn hp hx hO h9' h0, fun W => rexec_div W R pc n no na nb z hn hp hx hR ⟨.inr h9', h0⟩⟩
      · refine ⟨put R na (res no (R na) (R nb) (im z)), nx pc, 0, 0, 0, 0, 0, fun W hO => ?_, fun W => rexec_op W R pc n no na nb z hn hp hx hR ⟨by omega, by omega, fun _ => h0⟩⟩
        have h9 := exec_op9 W R pc n no na nb z hn hp hx hO h1 h2 hR h9' h0
        rw [ht] at h9
        exact h9
    have hO9 := fun W hO => exec_op W R pc n no na nb z hn hp hx hO h1 h2 hR (by omega)
    simp only [ht] at hO9
    by_cases ho1 : no = 1
    · refine ⟨R, nx pc, 0, 0, 0, 0, 0, fun W hO => ?_, fun W => rexec_nop W R pc n no na nb z hn hp hx hR ho1⟩
      have h9 := hO9 W hO
      rw [show res no (R na) (R nb) (im z) = R na by rw [ho1]; rfl, put_same] at h9
      exact h9
    by_cases ho2 : no = 2
    · refine ⟨put R na (im z), nx pc, 0, 0, 0, 0, 0, fun W hO => ?_, fun W => rexec_li W R pc n no na nb z hn hp hx hR ho2⟩
      have h9 := hO9 W hO
      rw [show res no (R na) (R nb) (im z) = im z by rw [ho2]; rfl] at h9
      exact h9
    by_cases ho3 : no = 3
    · refine ⟨put R na (res 3 (R na) (R nb) (im z)), nx pc, 0, 0, 0, 0, 0, fun W hO => ?_, fun W => rexec_lui W R pc n no na nb z hn hp hx hR ho3⟩
      have h9 := hO9 W hO
      rw [show res no (R na) (R nb) (im z) = res 3 (R na) (R nb) (im z) by rw [ho3]] at h9
      exact h9
    by_cases ho18 : no = 18
    · exact ⟨put R na (res no (R na) (R nb) (im z)), nx pc, 0, 0, 0, 0, 0, fun W hO => hO9 W hO, fun W => rexec_addi W R pc n no na nb z hn hp hx hR ho18⟩
    · exact ⟨put R na (res no (R na) (R nb) (im z)), nx pc, 0, 0, 0, 0, 0, fun W hO => hO9 W hO, fun W => rexec_op W R pc n no na nb z hn hp hx hR ⟨by omega, by omega, fun h => by omega⟩⟩
end Go.Proofs.YtjhphhcmefeiiaaDoor
