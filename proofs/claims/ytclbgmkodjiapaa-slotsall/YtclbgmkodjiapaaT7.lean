import Derived.Test.YtclbgmkodjiapaaT6
namespace Go.Proofs.Ytclbgmkodjiapaa
open Go.RowKit

set_option maxHeartbeats 400000 in
theorem getI_any (w : World) (F : Nat → Prop) (B : Nat) (m : List (Option Int)) (h : Tab KI w F B m) (i : Int) :
    Calls Try.prog 14 #[.pointer (some ⟨B, 0, none⟩), .int .i64 i] w fun x w' => x = .returned (.tuple #[.int .i64 ((look m i).getD 0), .bool (look m i).isSome]) ∧ w' = w := by
  have HO := hide (holdsI_any _ F B m h i)
  obtain ⟨p, ps, h⟩ := h
  rcases look_cases m i with ⟨h1, e⟩ | ⟨k, rfl, hk, hm, e⟩ | ⟨k, x, rfl, hk, hm, e⟩ <;> rw [e] at HO ⊢ <;> clear e
  · clear h h1
    go_enter Try.func14, Try.ntmps14
    go_wp2_with fail
    refine HO.out.mono ?_
    rintro e w1 ⟨rfl, rfl⟩
    go_wp2
    go_returns
    exact ⟨rfl, rfl⟩
  · clear h hm
    go_enter Try.func14, Try.ntmps14
    go_wp2_with fail
    refine HO.out.mono ?_
    rintro e w1 ⟨rfl, rfl⟩
    go_wp2
    go_returns
    exact ⟨rfl, rfl⟩
  · have c0 := h.cells.1
    obtain ⟨q, hq1, c2, hq3, hq4⟩ := h.ptr hm
    have c3 := (cell_of_row _ q 0 _ _ _ hq3)
    simp [KI] at c3
    clear h hm hq1 hq3 hq4
    generalize m.length = n at *
    go_enter Try.func14, Try.ntmps14
    go_wp2_with fail
    refine HO.out.mono ?_
    rintro e w1 ⟨rfl, rfl⟩
    go_wp2
    go_returns
    exact ⟨rfl, rfl⟩

theorem clp3 : List.replicate (clp 3) (none : Option Int) = [none, none, none] := by rfl
set_option maxHeartbeats 800000 in
theorem fixed_any (w : World) :
    Calls Try.prog 4 #[] w fun x w' => x = .returned (.bool true) ∧ Below w.heap.size w w' := by
  have HC := hide clp3
  go_enter Try.func4, Try.ntmps4
  go_wp2_with fail
  refine (newI_any _ 3).mono ?_
  rintro e w1 ⟨rfl, hT1, hb1⟩
  rw [HC.out] at hT1
  have HT1 := hide hT1
  have HB1 := hide hb1
  clear hT1 hb1 HC
  go_wp2_with fail
  refine (putI_any _ _ _ _ HT1.out 7).mono ?_
  rintro e w2 ⟨h2, -⟩
  obtain ⟨rfl, F2, hT2, hE2⟩ := h2 (by decide)
  have HT2 := hide (show Tab KI w2 F2 (w.heap.size + 1) [some 7, none, none] from hT2)
  have HE2 := hide hE2
  clear h2 hT2 hE2
  go_wp2_with fail
  refine (putI_any _ _ _ _ HT2.out 8).mono ?_
  rintro e w3 ⟨h3, -⟩
  obtain ⟨rfl, F3, hT3, hE3⟩ := h3 (by decide)
  have HT3 := hide (show Tab KI w3 F3 (w.heap.size + 1) [some 7, some 8, none] from hT3)
  have HE3 := hide hE3
  clear h3 hT3 hE3
  go_wp2_with fail
  refine (getI_any _ _ _ _ HT3.out 1).mono ?_
  rintro e w4 ⟨rfl, rfl⟩
  rw [show look [some (7 : Int), some 8, none] (1 : Int) = some 8 from rfl]
  simp only [Option.getD_some, Option.isSome_some]
  rw [show ff [some (7 : Int), none, none] = 1 from rfl, show ff [(none : Option Int), none, none] = 0 from rfl]
  go_wp2_with fail
  refine (boundI_any _ _ _ _ HT3.out).mono ?_
  rintro e w5 ⟨rfl, rfl⟩
  go_wp2_with fail
  refine (lenI_any _ _ _ _ HT3.out).mono ?_
  rintro e w6 ⟨rfl, rfl⟩
  rw [show List.countP Option.isSome [some (7 : Int), some 8, none] = 2 from rfl]
  go_wp2
  go_ret
  refine ⟨rfl, ?_⟩
  have hx := HE2.out.trans HE3.out
  exact HB1.out.trans (hx.mod.below (fun b hb => by omega) HB1.out.size)
end Go.Proofs.Ytclbgmkodjiapaa
