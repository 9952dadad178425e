import Derived.Test.YtclbgmkodjiapaaF6
namespace Go.Proofs.Ytclbgmkodjiapaa
open Go.RowKit

/-- clear, of a slice of pointers that is its whole row -/
theorem clear89 (w : World) (p n : Nat) (cur : Array Value) (ty : TypeId) (hp : w.heap[p]? = some (.cells cur 58 (0, 0))) (hn : cur.size = n) :
    (Builtin.clear_ #[59] ty #[.slice (some ⟨p, 0, none⟩) n n]).run Try.prog w = .ok (.tuple #[]) (w.setRow p (List.replicate n (.pointer none)).toArray) := by
  rcases Nat.eq_zero_or_pos n with h0 | h0
  · subst h0
    have : cur = #[] := Array.eq_empty_of_size_eq_zero hn
    subst this
    rw [show (List.replicate 0 (Value.pointer none)).toArray = #[] from rfl, setRow_self w p #[] 58 (0, 0) hp]
    simp [Builtin.clear_, run_underlying Try.underlying59]
  · obtain ⟨k, rfl⟩ : ∃ k, n = k + 1 := ⟨n - 1, by omega⟩
    have hs := run_storeCells_from (P := Try.prog) p 58 (List.replicate (k + 1) (.pointer none)) 0 cur w hp (by simp [hn]) (fun v hv => by rw [(List.mem_replicate.1 hv).2]; rfl)
    simp only [Builtin.clear_]
    simp [run_underlying Try.underlying59, Value.cells, zeroCells_one, hs]
set_option maxHeartbeats 400000 in
theorem clearI_any (w : World) (F : Nat → Prop) (B : Nat) (m : List (Option Int)) (h : Tab KI w F B m) :
    Calls Try.prog 28 #[.pointer (some ⟨B, 0, none⟩)] w fun x w' => x = .returned (.tuple #[]) ∧ Tab KI w' F B (List.replicate m.length none) ∧ Ext F w F w' := by
  obtain ⟨p, ps, h⟩ := h
  obtain ⟨c0, c1, f0, f1⟩ := h.cells
  have hcl := fun ty => clear89 w p m.length _ ty h.row (by simp [h.len])
  have HC := hide h.clear
  have HM := hide (((Mod.refl F w).setRow h.fp (List.replicate m.length (Value.pointer none)).toArray).setCell (p := ⟨B, 1, none⟩) (.inl h.fB) (.int .i64 0))
  have d1 : (w.setRow p (List.replicate m.length (Value.pointer none)).toArray).cell? ⟨B, 1, none⟩ = _ := (cell_setRow_other w p _ ⟨B, 1, none⟩ (fun e => h.ne e.symm)).trans c1
  have g1 : (w.setRow p (List.replicate m.length (Value.pointer none)).toArray).frozen? ⟨B, 1, none⟩ = false := frozen_of_row _ B 1 _ _ ((setRow_other w p B _ (fun e => h.ne e.symm)).trans h.top)
  clear h
  generalize m.countP Option.isSome = cnt at *
  generalize hw : w.setRow p (List.replicate m.length (Value.pointer none)).toArray = w1 at *
  clear hw
  generalize List.replicate m.length (none : Option Int) = mm at *
  generalize List.replicate m.length (none : Option Nat) = pp at *
  generalize m.length = n at *
  go_enter Try.func28, Try.ntmps28
  go_wp2
  go_end0
  exact ⟨rfl, ⟨_, _, HC.out⟩, HM.out, fun _ h => .inl h⟩
set_option maxHeartbeats 400000 in
theorem setB_any (w : World) (F : Nat → Prop) (B : Nat) (m : List (Option Int)) (h : Tab KI w F B m) (i v : Int) :
    Calls Try.prog 27 #[.pointer (some ⟨B, 0, none⟩), .int .i64 i, .int .i64 v] w fun e w' => ∃ m', e = .returned (.bool (look m i).isSome) ∧ Tab KI w' F B m' ∧ Ext F w F w' ∧
      ((look m i = none ∧ m' = m) ∨ ∃ (k : Nat) (x : Int), i = k ∧ m[k]? = some (some x) ∧ m' = m.set k (some v)) := by
  have HT := hide h
  have HG := hide (holdsI_any _ F B m h i)
  have hmi : look m i = none ∨ ∃ (k : Nat) (x : Int), i = k ∧ k < m.length ∧ m[k]? = some (some x) ∧ look m i = some x := by
    rcases look_cases m i with ⟨h1, e⟩ | ⟨k, rfl, hk, hm, e⟩ | ⟨k, x, rfl, hk, hm, e⟩
    · exact .inl e
    · exact .inl e
    · exact .inr ⟨k, x, rfl, hk, hm, e⟩
  rcases hmi with e | ⟨k, x, rfl, hk, hm, e⟩
  · rw [e] at HG ⊢
    have HE := hide e
    clear h e
    go_enter Try.func27, Try.ntmps27
    go_wp2_with fail
    refine HG.out.mono ?_
    rintro e w1 ⟨rfl, rfl⟩
    simp only [Option.isSome_none]
    go_wp2
    go_ret
    exact ⟨m, rfl, HT.out, Ext.refl _ _, .inl ⟨by first | rfl | trivial, rfl⟩⟩
  · rw [e] at HG ⊢
    obtain ⟨p, ps, h⟩ := h
    have c0 := h.cells.1
    obtain ⟨q, hq1, c2, hq3, hq4⟩ := h.ptr hm
    have c3 := cell_of_row _ q 0 _ _ _ hq3
    have f3 := frozen_of_row _ q 0 _ _ hq3
    simp [KI] at c3
    have HD := hide (h.setv hm hq1 v)
    have HM := hide ((Mod.refl F w).setCell (p := ⟨q, 0, none⟩) (.inl hq4) (.int .i64 v))
    have HX := hide hm
    clear h e hm hq1 hq3 hq4
    generalize m.length = n at *
    go_enter Try.func27, Try.ntmps27
    go_wp2_with fail
    refine HG.out.mono ?_
    rintro e w1 ⟨rfl, rfl⟩
    simp only [Option.isSome_some]
    go_wp2
    go_ret
    exact ⟨_, rfl, ⟨_, _, HD.out⟩, ⟨HM.out, fun _ h => .inl h⟩, .inr ⟨k, x, rfl, HX.out, rfl⟩⟩


end Go.Proofs.Ytclbgmkodjiapaa
