import Derived.Test.YteacmcdmdeckmaaGreatTL
namespace Go.Proofs.YteacmcdmdeckmaaGreat
open Go.RowKit

set_option maxHeartbeats 400000 in
/-- PutAt, at each kind of place -/
theorem putAtL_any (w : World) (F : Nat → Prop) (B : Nat) (m : List (Option Nat)) (h : Tab KL w F B m) (i : Int) (c : Nat) :
    Calls Tryz.prog 70 #[.pointer (some ⟨B, 0, none⟩), .int .i64 i, .pointer (some ⟨c, 0, none⟩)] w fun x w' => ∃ (v : Int) (m' : List (Option Nat)) (F' : Nat → Prop), x = .returned (.int .i64 v) ∧ Tab KL w' F' B m' ∧ Ext F w F' w' ∧
      (((i < 0 ∨ (m.length : Int) ≤ i) ∧ v = 30 ∧ m' = m) ∨ (∃ (k : Nat) (x : Nat), i = k ∧ m[k]? = some (some x) ∧ v = 31 ∧ m' = m) ∨ ∃ k : Nat, i = k ∧ m[k]? = some none ∧ v = 0 ∧ m' = m.set k (some c)) := by
  have HT := hide (h)
  have HO := hide (outsideL_any _ F B m HT.out i)
  obtain ⟨p, ps, h⟩ := h
  have c0 := h.cells.1
  rcases look_cases m i with ⟨h1, e⟩ | ⟨k, rfl, hk, hm, e⟩ | ⟨k, x, rfl, hk, hm, e⟩ <;> clear e
  · have hd : decide (i < 0 ∨ (m.length : Int) ≤ i) = true := by simpa using h1
    rw [hd] at HO
    have H1 := hide h1
    clear h h1 hd
    generalize hn : m.length = n at *
    clear hn
    go_enter Tryz.func70, Tryz.ntmps70
    go_wp2_with fail
    refine HO.out.mono ?_
    rintro e w1 ⟨rfl, rfl⟩
    go_wp2
    go_ret
    exact ⟨30, m, F, rfl, HT.out, Ext.refl _ _, .inl ⟨H1.out, rfl, rfl⟩⟩
  · rw [in_false hk] at HO
    have c2 := h.nil hm
    have HL := hide (layL_any _ F B m HT.out k hm c)
    have HM := hide hm
    clear h hm
    generalize hn : m.length = n at *
    clear hn
    go_enter Tryz.func70, Tryz.ntmps70
    go_wp2_with fail
    refine HO.out.mono ?_
    rintro e w1 ⟨rfl, rfl⟩
    go_wp2_with fail
    refine HL.out.mono ?_
    rintro e w2 ⟨rfl, F', hT, hE⟩
    have HT1 := hide hT
    have HE1 := hide hE
    clear hT hE
    go_wp2
    go_ret
    exact ⟨0, _, F', rfl, HT1.out, HE1.out, .inr (.inr ⟨k, rfl, HM.out, rfl, rfl⟩)⟩
  · rw [in_false hk] at HO
    obtain ⟨q, hq1, _, _, _⟩ := h.ptr hm
    have c2 := (h.place hq1).1
    have HM := hide hm
    clear h hm hq1
    simp only [ptr] at c2
    generalize hn : m.length = n at *
    clear hn
    go_enter Tryz.func70, Tryz.ntmps70
    go_wp2_with fail
    refine HO.out.mono ?_
    rintro e w1 ⟨rfl, rfl⟩
    go_wp2
    go_ret
    exact ⟨31, m, F, rfl, HT.out, Ext.refl _ _, .inr (.inl ⟨k, x, rfl, HM.out, rfl, rfl⟩)⟩
set_option maxHeartbeats 800000 in
theorem dropL_some (w : World) (F : Nat → Prop) (B : Nat) (m : List (Option Nat)) (h : Tab KL w F B m) (k x : Nat) (hm : m[k]? = some (some x)) :
    Calls Tryz.prog 73 #[.pointer (some ⟨B, 0, none⟩), .int .i64 k] w fun e w' => e = .returned (.tuple #[.pointer (some ⟨x, 0, none⟩), .bool true]) ∧ Tab KL w' F B (m.set k none) ∧ Ext F w F w' := by
  have HG := hide (getL_any _ F B m h k)
  have hi : look m (k : Int) = some x := by rw [look_nat, hm]; rfl
  rw [hi] at HG
  have hcnt : m.countP Option.isSome ≤ 4096 := Nat.le_trans count_le h.cap
  have hk : k < m.length := (List.getElem?_eq_some_iff.1 hm).1
  obtain ⟨p, ps, h1⟩ := h
  obtain ⟨d0, d1, g0, g1⟩ := h1.cells
  have g2 := h1.frz k
  obtain ⟨q, hq1, d2, hq3, hq4⟩ := h1.ptr hm
  have hne := h1.ne
  have HD := hide (fun t => h1.drop hm (c := t))
  have HM := hide (fun a b => ((Mod.refl F w).setCell (p := ⟨p, k, none⟩) (.inl h1.fp) a).setCell (p := ⟨B, 1, none⟩) (.inl h1.fB) b)
  have hpos : 0 < m.countP Option.isSome := List.countP_pos_iff.2 ⟨_, List.mem_of_getElem? hm, rfl⟩
  clear h1 hq1 hq3 hq4 hm hi
  generalize m.countP Option.isSome = cnt at *
  generalize m.length = n at *
  simp only [ptr, Option.isSome_some] at *
  go_enter Tryz.func73, Tryz.ntmps73
  go_wp2_with fail
  refine HG.out.mono ?_
  rintro e w1 ⟨rfl, rfl⟩
  go_wp2
  go_ret2
  exact ⟨rfl, ⟨_, _, HD.out _ rfl⟩, HM.out _ _, fun b hb => .inl hb⟩
end Go.Proofs.YteacmcdmdeckmaaGreat
