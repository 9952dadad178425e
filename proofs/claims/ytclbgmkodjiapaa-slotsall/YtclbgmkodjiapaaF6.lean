import Derived.Test.YtclbgmkodjiapaaF5
import Derived.Test.YtclbgmkodjiapaaT8
namespace Go.Proofs.Ytclbgmkodjiapaa
open Go.RowKit

set_option maxHeartbeats 400000 in
theorem putAtI_any (w : World) (F : Nat → Prop) (B : Nat) (m : List (Option Int)) (h : Tab KI w F B m) (i : Int) (c : Int) :
    Calls Try.prog 19 #[.pointer (some ⟨B, 0, none⟩), .int .i64 i, .int .i64 c] w fun x w' => ∃ (v : Int) (m' : List (Option Int)) (F' : Nat → Prop), x = .returned (.int .i64 v) ∧ Tab KI w' F' B m' ∧ Ext F w F' w' ∧
      (((i < 0 ∨ (m.length : Int) ≤ i) ∧ v = 30 ∧ m' = m) ∨ (∃ (k : Nat) (x : Int), i = k ∧ m[k]? = some (some x) ∧ v = 31 ∧ m' = m) ∨ ∃ k : Nat, i = k ∧ m[k]? = some none ∧ v = 0 ∧ m' = m.set k (some c)) := by
  have HT := hide h
  have HO := hide (outsideI_any _ F B m h i)
  obtain ⟨p, ps, h⟩ := h
  have c0 := h.cells.1
  rcases look_cases m i with ⟨h1, e⟩ | ⟨k, rfl, hk, hm, e⟩ | ⟨k, x, rfl, hk, hm, e⟩ <;> clear e
  · have hd : decide (i < 0 ∨ (m.length : Int) ≤ i) = true := by simpa using h1
    rw [hd] at HO
    have H1 := hide h1
    clear h h1 hd
    generalize hn : m.length = n at *
    clear hn
    go_enter Try.func19, Try.ntmps19
    go_wp2_with fail
    refine HO.out.mono ?_
    rintro e w1 ⟨rfl, rfl⟩
    go_wp2
    go_ret
    exact ⟨30, m, F, rfl, HT.out, Ext.refl _ _, .inl ⟨H1.out, rfl, rfl⟩⟩
  · rw [in_false hk] at HO
    have c2 := h.nil hm
    have HL := hide (layI_any _ F B m HT.out k hm c)
    have HM := hide hm
    clear h hm
    generalize hn : m.length = n at *
    clear hn
    go_enter Try.func19, Try.ntmps19
    go_wp2_with fail
    refine HO.out.mono ?_
    rintro e w1 ⟨rfl, rfl⟩
    go_wp2_with fail
    refine HL.out.mono ?_
    rintro e w2 ⟨rfl, F', hT, hE⟩
    have HT1 := hide hT
    have HE1 := hide hE
    clear hT hE
    go_wp2
    go_ret
    exact ⟨0, _, F', rfl, HT1.out, HE1.out, .inr (.inr ⟨k, rfl, HM.out, rfl, rfl⟩)⟩
  · rw [in_false hk] at HO
    obtain ⟨q, hq1, c2, _, _⟩ := h.ptr hm
    have HM := hide hm
    clear h hm hq1
    generalize hn : m.length = n at *
    clear hn
    go_enter Try.func19, Try.ntmps19
    go_wp2_with fail
    refine HO.out.mono ?_
    rintro e w1 ⟨rfl, rfl⟩
    go_wp2
    go_ret
    exact ⟨31, m, F, rfl, HT.out, Ext.refl _ _, .inr (.inl ⟨k, x, rfl, HM.out, rfl, rfl⟩)⟩

set_option maxHeartbeats 400000 in
theorem dropI_any (w : World) (F : Nat → Prop) (B : Nat) (m : List (Option Int)) (h : Tab KI w F B m) (i : Int) :
    Calls Try.prog 21 #[.pointer (some ⟨B, 0, none⟩), .int .i64 i] w fun e w' => ∃ v m', e = .returned v ∧ Tab KI w' F B m' ∧ Ext F w F w' ∧
      ((look m i = none ∧ m' = m) ∨ ∃ (k : Nat) (x : Int), i = k ∧ m[k]? = some (some x) ∧ m' = m.set k none) := by
  have HT := hide h
  have HG := hide (getI_any _ F B m h i)
  have hcnt : m.countP Option.isSome ≤ 4096 := Nat.le_trans count_le h.cap
  have hmi : look m i = none ∨ ∃ (k : Nat) (x : Int), i = k ∧ k < m.length ∧ m[k]? = some (some x) ∧ look m i = some x := by
    rcases look_cases m i with ⟨h1, e⟩ | ⟨k, rfl, hk, hm, e⟩ | ⟨k, x, rfl, hk, hm, e⟩
    · exact .inl e
    · exact .inl e
    · exact .inr ⟨k, x, rfl, hk, hm, e⟩
  rcases hmi with e | ⟨k, x, rfl, hk, hm, e⟩
  · rw [e] at HG
    have HE := hide e
    clear h e
    go_enter Try.func21, Try.ntmps21
    go_wp2_with fail
    refine HG.out.mono ?_
    rintro e w1 ⟨rfl, rfl⟩
    simp only [Option.getD_none, Option.isSome_none]
    go_wp2
    go_ret2
    exact ⟨_, m, rfl, HT.out, Ext.refl _ _, .inl ⟨HE.out, rfl⟩⟩
  · rw [e] at HG
    obtain ⟨p, ps, h⟩ := h
    obtain ⟨c0, c1, f0, f1⟩ := h.cells
    obtain ⟨q, hq1, c2, hq3, hq4⟩ := h.ptr hm
    have f2 := h.frz k
    have hne := h.ne
    have HD := hide (fun t => h.drop hm (c := t))
    have HM := hide (fun a b => ((Mod.refl F w).setCell (p := ⟨p, k, none⟩) (.inl h.fp) a).setCell (p := ⟨B, 1, none⟩) (.inl h.fB) b)
    have HX := hide hm
    have hpos : 0 < m.countP Option.isSome := List.countP_pos_iff.2 ⟨_, List.mem_of_getElem? hm, rfl⟩
    clear h e hm hq1 hq3 hq4
    generalize m.countP Option.isSome = cnt at *
    generalize m.length = n at *
    go_enter Try.func21, Try.ntmps21
    go_wp2_with fail
    refine HG.out.mono ?_
    rintro e w1 ⟨rfl, rfl⟩
    simp only [Option.getD_some, Option.isSome_some]
    go_wp2
    go_ret2
    exact ⟨_, _, rfl, ⟨_, _, HD.out _ rfl⟩, ⟨HM.out _ _, fun _ h => .inl h⟩, .inr ⟨k, x, rfl, HX.out, rfl⟩⟩

theorem TabAt.setv {w : World} {F : Nat → Prop} {B p : Nat} {ps : List (Option Nat)} {m : List (Option Int)} (h : TabAt KI w F B p ps m) {i q : Nat} {x : Int} (hi : m[i]? = some (some x)) (hq : ps[i]? = some (some q)) (v : Int) :
    TabAt KI (w.setCell ⟨q, 0, none⟩ (.int .i64 v)) F B p ps (m.set i (some v)) := by
  obtain ⟨hil, e⟩ := List.getElem?_eq_some_iff.1 hi
  obtain ⟨q', h1, h2, h3, h4, h5⟩ := h.held i x hi
  rw [hq] at h1; cases h1
  have hc : (m.set i (some v)).countP Option.isSome = m.countP Option.isSome := by
    have hp : 0 < m.countP Option.isSome := List.countP_pos_iff.2 ⟨_, List.mem_of_getElem? hi, rfl⟩
    rw [List.countP_set hil, e]; simp; omega
  refine ⟨?_, ?_, by simp [h.len], ?_, ?_, h.inj, h.fB, h.fp, h.ne, ?_, by simpa using h.cap⟩
  · rw [heap_setCell_other _ _ _ _ (fun e => h4 e.symm), hc]; simpa using h.top
  · rw [heap_setCell_other _ _ _ _ (fun e => h5 e.symm)]; exact h.row
  · intro j hj
    rw [List.getElem?_set] at hj
    split at hj
    · simp at hj
    · exact h.free j hj
  · intro j y hj
    rw [List.getElem?_set] at hj
    split at hj
    · rename_i e
      subst e
      simp at hj
      subst hj
      refine ⟨q, hq, ?_, h3, h4, h5⟩
      rw [heap_setCell_same _ q 0 _ _ _ h2]
      simp [KI]
    · rename_i e
      obtain ⟨q2, g1, g2, g3, g4, g5⟩ := h.held j y hj
      refine ⟨q2, g1, ?_, g3, g4, g5⟩
      rw [heap_setCell_other _ _ _ _ (fun e2 => e (h.inj i j q hq (by rw [g1]; simp at e2; rw [e2])))]
      exact g2
  · intro b hb; have := h.lt b hb; simpa [World.setCell] using this

set_option maxHeartbeats 400000 in
theorem setI_any (w : World) (F : Nat → Prop) (B : Nat) (m : List (Option Int)) (h : Tab KI w F B m) (i v : Int) :
    Calls Try.prog 27 #[.pointer (some ⟨B, 0, none⟩), .int .i64 i, .int .i64 v] w fun e w' => ∃ r m', e = .returned r ∧ Tab KI w' F B m' ∧ Ext F w F w' ∧
      ((look m i = none ∧ m' = m) ∨ ∃ (k : Nat) (x : Int), i = k ∧ m[k]? = some (some x) ∧ m' = m.set k (some v)) := by
  have HT := hide h
  have HG := hide (holdsI_any _ F B m h i)
  have hmi : look m i = none ∨ ∃ (k : Nat) (x : Int), i = k ∧ k < m.length ∧ m[k]? = some (some x) ∧ look m i = some x := by
    rcases look_cases m i with ⟨h1, e⟩ | ⟨k, rfl, hk, hm, e⟩ | ⟨k, x, rfl, hk, hm, e⟩
    · exact .inl e
    · exact .inl e
    · exact .inr ⟨k, x, rfl, hk, hm, e⟩
  rcases hmi with e | ⟨k, x, rfl, hk, hm, e⟩
  · rw [e] at HG
    have HE := hide e
    clear h e
    go_enter Try.func27, Try.ntmps27
    go_wp2_with fail
    refine HG.out.mono ?_
    rintro e w1 ⟨rfl, rfl⟩
    simp only [Option.isSome_none]
    go_wp2
    go_ret
    exact ⟨_, m, rfl, HT.out, Ext.refl _ _, .inl ⟨HE.out, rfl⟩⟩
  · rw [e] at HG
    obtain ⟨p, ps, h⟩ := h
    have c0 := h.cells.1
    obtain ⟨q, hq1, c2, hq3, hq4⟩ := h.ptr hm
    have c3 := cell_of_row _ q 0 _ _ _ hq3
    have f3 := frozen_of_row _ q 0 _ _ hq3
    simp [KI] at c3
    have HD := hide (h.setv hm hq1 v)
    have HM := hide ((Mod.refl F w).setCell (p := ⟨q, 0, none⟩) (.inl hq4) (.int .i64 v))
    have HX := hide hm
    clear h e hm hq1 hq3 hq4
    generalize m.length = n at *
    go_enter Try.func27, Try.ntmps27
    go_wp2_with fail
    refine HG.out.mono ?_
    rintro e w1 ⟨rfl, rfl⟩
    simp only [Option.isSome_some]
    go_wp2
    go_ret
    exact ⟨_, _, rfl, ⟨_, _, HD.out⟩, ⟨HM.out, fun _ h => .inl h⟩, .inr ⟨k, x, rfl, HX.out, rfl⟩⟩
end Go.Proofs.Ytclbgmkodjiapaa
