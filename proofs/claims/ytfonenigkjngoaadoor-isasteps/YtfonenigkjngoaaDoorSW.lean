import Derived.Test.YtfonenigkjngoaaDoorST3
import Derived.Test.YtfonenigkjngoaaDoorST4
import Derived.Test.YtfonenigkjngoaaDoorST6
import Derived.Test.YtfonenigkjngoaaDoorST7
import Derived.Test.YtfonenigkjngoaaDoorST8
import Derived.Test.YtfonenigkjngoaaDoorST9
namespace Go.Proofs.YtfonenigkjngoaaDoor
open Go.RowKit
theorem tgt_on18 {op x m nxt : Nat} (h : op ≤ 20) : tgt op x m nxt = nxt := by
  unfold tgt; rw [if_neg (by omega), if_neg (by omega)]
theorem put_ne (R : Nat → Nat) (a v : Nat) : ∀ k, k < 8 → k ≠ a → put R a v k = R k := fun k _ h => by simp [put, h]
theorem steps_walk (w : World) (R : Nat → Nat) (pc : Nat) (hR : RgOk R pc) (n : Nat) (hn : n < 4294967296) (hO : Ops w) : Calls Tryd.prog 5 #[.agg (rg R pc).toArray, .int .u32 (n : Nat)] w fun e w' => e = .returned (.bool true) ∧ Below w.heap.size w w' := by
  rcases hx : isI (parts n) with _ | _
  · exact steps_trap w R pc hR n ⟨0, 0, 0, 0⟩ R pc (e5 4 0 0 0 70) rfl rfl rfl hO (fun w h => by have d := dec_any w n hn h; rwa [(decI_no rfl hx).1, (decI_no rfl hx).2] at d) (fun w h => exec_trap w R pc n hn hx h)
  · have hI := isn.1 hx
    obtain ⟨no, na, nb, z, hp⟩ : ∃ (no na nb : Nat) (z : Int), parts n = ⟨(no : Int), na, nb, z⟩ := ⟨_, _, _, _, rfl⟩
    have hdec : ∀ w, Ops w → Calls Tryd.prog 11 #[.int .u32 (n : Nat)] w fun e w' => e = .returned (.tuple #[.agg #[.int .i64 (parts n).op, .int .i64 (parts n).a, .int .i64 (parts n).b, .int .i64 (parts n).imm], .int .i64 0]) ∧ Below w.heap.size w w' := fun w h => by
      have d := dec_any w n hn h
      rwa [(decI_yes rfl hx).1, (decI_yes rfl hx).2] at d
    have h1 : 1 ≤ no := by have := hI.op1; rw [hp] at this; simp only at this; omega
    have h2 : no < 27 := by have := hI.op2; rw [hp] at this; simp only at this; omega
    have hna : na < 8 := by have := (fitsB_range hI.a).2; rw [hp] at this; simp only at this; omega
    have hnb : nb < 8 := by have := (fitsB_range hI.b).2; rw [hp] at this; simp only at this; omega
    rw [hp] at hx
    by_cases e19 : no = 19
    · exact steps_ld w R pc hR n (parts n) R pc _ no na nb z hp hna hnb e19 rfl rfl rfl hO hdec (fun w h => exec_ld w R pc n no na nb z hn hp hx h e19)
    by_cases e20 : no = 20
    · exact steps_st w R pc hR n (parts n) R pc _ no na nb z hp hna hnb e20 rfl rfl rfl hO hdec (fun w h => exec_st w R pc n no na nb z hn hp hx h e20)
    by_cases e26 : no = 26
    · exact steps_sys w R pc hR n (parts n) R (nx pc) _ no na nb z hp hna hnb e26 rfl rfl rfl (fun _ _ _ => rfl) hO hdec (fun w h => exec_sys w R pc n no na nb z hn hp hx h e26)
    by_cases e25 : no = 25
    · exact steps_jump w R pc hR n (parts n) _ _ effz no na nb z hp hna hnb ⟨by omega, by omega⟩ rfl (put_ne R na (nx pc)) hO hdec (fun w h => exec_call w R pc n no na nb z hn hp hx h h2 hR e25)
    by_cases e8 : no = 8
    · by_cases hy : R nb = 0
      · exact steps_div8 w R pc hR n (parts n) R pc _ no na nb z hp hna hnb e8 rfl rfl rfl hy hO hdec (fun w h => exec_div8 w R pc n no na nb z hn hp hx h e8 hy)
      · exact steps_op w R pc hR n (parts n) _ _ effz no na nb z hp hna hnb ⟨by omega, by omega⟩ (tgt_on18 (by omega)) rfl (put_ne R na _) hO hdec (fun w h => exec_op8 w R pc n no na nb z hn hp hx h h1 h2 hR e8 hy)
    by_cases e9 : no = 9
    · by_cases hy : R nb = 0
      · exact steps_div9 w R pc hR n (parts n) R pc _ no na nb z hp hna hnb e9 rfl rfl rfl hy hO hdec (fun w h => exec_div9 w R pc n no na nb z hn hp hx h e9 hy)
      · exact steps_op w R pc hR n (parts n) _ _ effz no na nb z hp hna hnb ⟨by omega, by omega⟩ (tgt_on18 (by omega)) rfl (put_ne R na _) hO hdec (fun w h => exec_op9 w R pc n no na nb z hn hp hx h h1 h2 hR e9 hy)
    have hex := fun w h => exec_op w R pc n no na nb z hn hp hx h h1 h2 hR ⟨e8, e9, e19, e20, e25, e26⟩
    by_cases e1 : no = 1
    · exact steps_nop w R pc hR n (parts n) _ _ effz no na nb z hp hna hnb e1 (tgt_on18 (by omega)) (by subst e1; exact put_same R na) rfl (put_ne R na _) hO hdec hex
    by_cases e21 : no = 21
    · exact steps_jmp w R pc hR n (parts n) _ _ effz no na nb z hp hna hnb e21 (by subst e21; exact put_same R na) rfl (put_ne R na _) hO hdec hex
    by_cases ej : 22 ≤ no
    · exact steps_jump w R pc hR n (parts n) _ _ effz no na nb z hp hna hnb ⟨ej, by omega⟩ rfl (put_ne R na _) hO hdec hex
    · exact steps_op w R pc hR n (parts n) _ _ effz no na nb z hp hna hnb ⟨by omega, by omega⟩ (tgt_on18 (by omega)) rfl (put_ne R na _) hO hdec hex
end Go.Proofs.YtfonenigkjngoaaDoor
