import Derived.Test.YtclbgmkodjiapaaR1
namespace Go.Proofs.Ytclbgmkodjiapaa
open Go.RowKit

section
variable (w : World) (F : Nat → Prop) (R : Nat) (m : List (Option Int)) (h : Ref w F R m)
theorem isR_any (w : World) (F : Nat → Prop) (R : Nat) (m : List (Option Int)) (h : Ref w F R m) (i : Int) :
    Calls Try.prog 36 #[.pointer (some ⟨R, 0, none⟩), .int .i64 i] w fun x w' => x = .returned (.bool (look m i).isSome) ∧ w' = w := by
  obtain ⟨p, q, h⟩ := h
  obtain ⟨c0, c1⟩ := h.cells
  rcases look_cases m i with ⟨h1, e⟩ | ⟨k, rfl, hk, hm, e⟩ | ⟨k, x, rfl, hk, hm, e⟩ <;> rw [e] <;> clear e
  · clear h
    rcases h1 with h1 | h1
    · have hd : decide (0 ≤ i) = false := by simp; omega
      clear h1
      generalize m.length = n at *
      go_enter Try.func36, Try.ntmps36
      go_wp2
      go_ret
      exact ⟨rfl, rfl⟩
    · have hd : decide (0 ≤ i) = true := by simp; omega
      have hd2 : decide (i < (m.length : Int)) = false := by simp; omega
      clear h1
      generalize m.length = n at *
      go_enter Try.func36, Try.ntmps36
      go_wp2
      go_ret
      exact ⟨rfl, rfl⟩
  · obtain ⟨a0, _, _, _⟩ := h.at hm
    simp only [Option.isSome_none] at a0
    clear h hm
    generalize m.length = n at *
    go_enter Try.func36, Try.ntmps36
    go_wp2
    go_ret
    exact ⟨rfl, rfl⟩
  · obtain ⟨a0, _, _, _⟩ := h.at hm
    simp only [Option.isSome_some] at a0
    clear h hm
    generalize m.length = n at *
    go_enter Try.func36, Try.ntmps36
    go_wp2
    go_ret
    exact ⟨rfl, rfl⟩
theorem getR_any (w : World) (F : Nat → Prop) (R : Nat) (m : List (Option Int)) (h : Ref w F R m) (i : Int) :
    Calls Try.prog 26 #[.pointer (some ⟨R, 0, none⟩), .int .i64 i] w fun x w' => x = .returned (.tuple #[.int .i64 ((look m i).getD 0), .bool (look m i).isSome]) ∧ w' = w := by
  have HI := hide (isR_any w F R m h i)
  obtain ⟨p, q, h⟩ := h
  obtain ⟨c0, c1⟩ := h.cells
  have hmi : look m i = none ∨ ∃ (k : Nat) (x : Int), i = k ∧ k < m.length ∧ m[k]? = some (some x) ∧ look m i = some x := by
    rcases look_cases m i with ⟨h1, e⟩ | ⟨k, rfl, hk, hm, e⟩ | ⟨k, x, rfl, hk, hm, e⟩
    · exact .inl e
    · exact .inl e
    · exact .inr ⟨k, x, rfl, hk, hm, e⟩
  rcases hmi with e | ⟨k, x, rfl, hk, hm, e⟩ <;> rw [e] at HI ⊢ <;> clear e
  · clear h
    go_enter Try.func26, Try.ntmps26
    go_wp2_with fail
    refine HI.out.mono ?_
    rintro e w1 ⟨rfl, rfl⟩
    simp only [Option.isSome_none]
    go_wp2
    go_ret2
    exact ⟨rfl, rfl⟩
  · obtain ⟨_, a1, _, _⟩ := h.at hm
    simp only [Option.getD_some] at a1
    clear h hm
    generalize m.length = n at *
    go_enter Try.func26, Try.ntmps26
    go_wp2_with fail
    refine HI.out.mono ?_
    rintro e w1 ⟨rfl, rfl⟩
    simp only [Option.isSome_some]
    go_wp2
    go_ret2
    exact ⟨rfl, rfl⟩
set_option maxHeartbeats 800000 in
theorem setR_any (w : World) (F : Nat → Prop) (R : Nat) (m : List (Option Int)) (h : Ref w F R m) (i v : Int) :
    Calls Try.prog 29 #[.pointer (some ⟨R, 0, none⟩), .int .i64 i, .int .i64 v] w fun e w' => ∃ m', e = .returned (.bool (look m i).isSome) ∧ Ref w' F R m' ∧ Ext F w F w' ∧
      ((look m i = none ∧ m' = m) ∨ ∃ (k : Nat) (x : Int), i = k ∧ m[k]? = some (some x) ∧ m' = m.set k (some v)) := by
  have HI := hide (isR_any w F R m h i)
  have HR := hide h
  obtain ⟨p, q, h⟩ := h
  obtain ⟨c0, c1⟩ := h.cells
  have hmi : look m i = none ∨ ∃ (k : Nat) (x : Int), i = k ∧ k < m.length ∧ m[k]? = some (some x) ∧ look m i = some x := by
    rcases look_cases m i with ⟨h1, e⟩ | ⟨k, rfl, hk, hm, e⟩ | ⟨k, x, rfl, hk, hm, e⟩
    · exact .inl e
    · exact .inl e
    · exact .inr ⟨k, x, rfl, hk, hm, e⟩
  rcases hmi with e | ⟨k, x, rfl, hk, hm, e⟩ <;> rw [e] at HI ⊢ <;> clear e
  · clear h
    go_enter Try.func29, Try.ntmps29
    go_wp2_with fail
    refine HI.out.mono ?_
    rintro e w1 ⟨rfl, rfl⟩
    simp only [Option.isSome_none]
    go_wp2
    go_ret
    exact ⟨m, rfl, HR.out, Ext.refl _ _, .inl ⟨by trivial, rfl⟩⟩
  · obtain ⟨_, a1, _, f1⟩ := h.at hm
    have HD := hide (h.setv hm v)
    have HM := hide ((Mod.refl F w).setCell (p := ⟨q, k, none⟩) (.inl h.fq) (.int .i64 v))
    have HX := hide hm
    simp only [Option.getD_some] at a1
    clear h hm
    generalize m.length = n at *
    go_enter Try.func29, Try.ntmps29
    go_wp2_with fail
    refine HI.out.mono ?_
    rintro e w1 ⟨rfl, rfl⟩
    simp only [Option.isSome_some]
    go_wp2
    go_ret
    exact ⟨_, rfl, ⟨_, _, HD.out⟩, ⟨HM.out, fun _ h => .inl h⟩, .inr ⟨k, x, rfl, HX.out, rfl⟩⟩
set_option maxHeartbeats 800000 in
theorem dropR_any (w : World) (F : Nat → Prop) (R : Nat) (m : List (Option Int)) (h : Ref w F R m) (i : Int) :
    Calls Try.prog 22 #[.pointer (some ⟨R, 0, none⟩), .int .i64 i] w fun e w' => ∃ m', e = .returned (.tuple #[.int .i64 ((look m i).getD 0), .bool (look m i).isSome]) ∧ Ref w' F R m' ∧ Ext F w F w' ∧
      ((look m i = none ∧ m' = m) ∨ ∃ (k : Nat) (x : Int), i = k ∧ m[k]? = some (some x) ∧ m' = m.set k none) := by
  have HI := hide (getR_any w F R m h i)
  have HR := hide h
  obtain ⟨p, q, h⟩ := h
  obtain ⟨c0, c1⟩ := h.cells
  have hmi : look m i = none ∨ ∃ (k : Nat) (x : Int), i = k ∧ k < m.length ∧ m[k]? = some (some x) ∧ look m i = some x := by
    rcases look_cases m i with ⟨h1, e⟩ | ⟨k, rfl, hk, hm, e⟩ | ⟨k, x, rfl, hk, hm, e⟩
    · exact .inl e
    · exact .inl e
    · exact .inr ⟨k, x, rfl, hk, hm, e⟩
  rcases hmi with e | ⟨k, x, rfl, hk, hm, e⟩ <;> rw [e] at HI ⊢ <;> clear e
  · clear h
    go_enter Try.func22, Try.ntmps22
    go_wp2_with fail
    refine HI.out.mono ?_
    rintro e w1 ⟨rfl, rfl⟩
    simp only [Option.isSome_none, Option.getD_none]
    go_wp2
    go_ret2
    exact ⟨m, rfl, HR.out, Ext.refl _ _, .inl ⟨by trivial, rfl⟩⟩
  · obtain ⟨a0, a1, f0, f1⟩ := h.at hm
    have HD := hide (h.set k none)
    have HM := hide (h.mod (Mod.refl F w) k (.bool false) (.int .i64 0))
    have HX := hide hm
    have hnp := h.npq
    have hn1 := h.npR
    have hn2 := h.nqR
    simp only [Option.getD_some, Option.isSome_some] at a0 a1
    simp only [Option.getD_none, Option.isSome_none] at HD
    clear h hm
    generalize m.length = n at *
    go_enter Try.func22, Try.ntmps22
    go_wp2_with fail
    refine HI.out.mono ?_
    rintro e w1 ⟨rfl, rfl⟩
    simp only [Option.isSome_some, Option.getD_some]
    go_wp2
    go_ret2
    exact ⟨_, rfl, ⟨_, _, HD.out⟩, ⟨HM.out, fun _ h => .inl h⟩, .inr ⟨k, x, rfl, HX.out, rfl⟩⟩
set_option maxHeartbeats 800000 in
theorem putAtR_any (w : World) (F : Nat → Prop) (R : Nat) (m : List (Option Int)) (h : Ref w F R m) (i c : Int) :
    Calls Try.prog 20 #[.pointer (some ⟨R, 0, none⟩), .int .i64 i, .int .i64 c] w fun x w' => ∃ (v : Int) (m' : List (Option Int)), x = .returned (.int .i64 v) ∧ Ref w' F R m' ∧ Ext F w F w' ∧
      (((i < 0 ∨ (m.length : Int) ≤ i) ∧ v = 30 ∧ m' = m) ∨ (∃ (k : Nat) (x : Int), i = k ∧ m[k]? = some (some x) ∧ v = 31 ∧ m' = m) ∨ ∃ k : Nat, i = k ∧ m[k]? = some none ∧ v = 0 ∧ m' = m.set k (some c)) := by
  have HR := hide h
  obtain ⟨p, q, h⟩ := h
  obtain ⟨c0, c1⟩ := h.cells
  rcases look_cases m i with ⟨h1, _⟩ | ⟨k, rfl, hk, hm, _⟩ | ⟨k, x, rfl, hk, hm, _⟩
  · have H1 := hide h1
    clear h
    rcases h1 with h1 | h1
    · have hd : decide (i < 0) = true := by simp; omega
      clear h1
      generalize m.length = n at *
      go_enter Try.func20, Try.ntmps20
      go_wp2
      go_ret
      exact ⟨30, m, rfl, HR.out, Ext.refl _ _, .inl ⟨H1.out, rfl, rfl⟩⟩
    · have hd : decide (i < 0) = false := by simp; omega
      have hd2 : decide ((m.length : Int) ≤ i) = true := by simp; omega
      clear h1
      generalize m.length = n at *
      go_enter Try.func20, Try.ntmps20
      go_wp2
      go_ret
      exact ⟨30, m, rfl, HR.out, Ext.refl _ _, .inl ⟨H1.out, rfl, rfl⟩⟩
  · obtain ⟨a0, a1, f0, f1⟩ := h.at hm
    have HD := hide (h.set k (some c))
    have HM := hide (h.mod (Mod.refl F w) k (.bool true) (.int .i64 c))
    have HX := hide hm
    have hnp := h.npq
    have hn1 := h.npR
    have hn2 := h.nqR
    simp only [Option.getD_none, Option.isSome_none] at a0 a1
    simp only [Option.getD_some, Option.isSome_some] at HD
    have hd2 : decide ((m.length : Int) ≤ (k : Int)) = false := by simp; omega
    clear h hm
    generalize m.length = n at *
    go_enter Try.func20, Try.ntmps20
    go_wp2
    go_ret
    exact ⟨0, _, rfl, ⟨_, _, HD.out⟩, ⟨HM.out, fun _ h => .inl h⟩, .inr (.inr ⟨k, rfl, HX.out, rfl, rfl⟩)⟩
  · obtain ⟨a0, a1, f0, f1⟩ := h.at hm
    have HX := hide hm
    simp only [Option.isSome_some] at a0
    have hd2 : decide ((m.length : Int) ≤ (k : Int)) = false := by simp; omega
    clear h hm
    generalize m.length = n at *
    go_enter Try.func20, Try.ntmps20
    go_wp2
    go_ret
    exact ⟨31, m, rfl, HR.out, Ext.refl _ _, .inr (.inl ⟨k, x, rfl, HX.out, rfl, rfl⟩)⟩
end
end Go.Proofs.Ytclbgmkodjiapaa
