import Derived.Test.YteacmcdmdeckmaaGreatB2
namespace Go.Proofs.YteacmcdmdeckmaaGreat
open Go.RowKit

/-- numbers that may be a capability's -/
abbrev mb (k o s r : Int) : Prop := 1 ≤ k ∧ k ≤ 3 ∧ 0 ≤ o ∧ o ≤ 4611686018427387903 ∧ 1 ≤ s ∧ s ≤ 4611686018427387903 ∧ 0 ≤ r ∧ r ≤ 15
set_option maxHeartbeats 1600000 in
theorem mayBe_any (w : World) (k o s r : Int) : Calls Tryz.prog 76 #[.agg #[.int .i64 k, .int .i64 o, .int .i64 s, .int .i64 r]] w fun e w' => e = .returned (.bool (decide (mb k o s r))) ∧ Below w.heap.size w w' := by
  have hb := fun o => (Below.refl w.heap.size w).alloc (Nat.le_refl _) o
  have HR := hide (fun W => areRights_any W r)
  by_cases h1 : 1 ≤ k
  · by_cases h2 : k ≤ 3
    · by_cases h3 : 0 ≤ o
      · by_cases h4 : o ≤ 4611686018427387903
        · by_cases h5 : 1 ≤ s
          · by_cases h6 : s ≤ 4611686018427387903
            · have e : decide (mb k o s r) = (decide (0 ≤ r) && decide (r ≤ 15)) := by unfold mb; simp [h1, h2, h3, h4, h5, h6]
              rw [e]
              go_enter Tryz.func76, Tryz.ntmps76
              go_wp2_with fail
              refine (HR.out _).mono ?_
              rintro e w1 ⟨rfl, rfl⟩
              go_wp2
              go_ret
              exact ⟨rfl, hb _⟩
            · have e : decide (mb k o s r) = false := by unfold mb; simp [h6]
              rw [e]
              go_enter Tryz.func76, Tryz.ntmps76
              go_wp2
              go_ret
              exact ⟨rfl, hb _⟩
          · have e : decide (mb k o s r) = false := by unfold mb; simp [h5]
            rw [e]
            go_enter Tryz.func76, Tryz.ntmps76
            go_wp2
            go_ret
            exact ⟨rfl, hb _⟩
        · have e : decide (mb k o s r) = false := by unfold mb; simp [h4]
          rw [e]
          go_enter Tryz.func76, Tryz.ntmps76
          go_wp2
          go_ret
          exact ⟨rfl, hb _⟩
      · have e : decide (mb k o s r) = false := by unfold mb; simp [h3]
        rw [e]
        go_enter Tryz.func76, Tryz.ntmps76
        go_wp2
        go_ret
        exact ⟨rfl, hb _⟩
    · have e : decide (mb k o s r) = false := by unfold mb; simp [h2]
      rw [e]
      go_enter Tryz.func76, Tryz.ntmps76
      go_wp2
      go_ret
      exact ⟨rfl, hb _⟩
  · have e : decide (mb k o s r) = false := by unfold mb; simp [h1]
    rw [e]
    go_enter Tryz.func76, Tryz.ntmps76
    go_wp2
    go_ret
    exact ⟨rfl, hb _⟩

/-- what lay does -/
def LayR (l : Lst) (a : Int) (r : Rc) (v c : Int) (l' : Lst) : Prop :=
  (∃ k : Nat, k < l.length ∧ l[k]? = some none ∧ v = k ∧ c = 0 ∧ l' = l.set k (some r) ∧ ((a < 0 ∧ k = ff l) ∨ a = k)) ∨
  (v = -1 ∧ l' = l ∧ ((a < 0 ∧ ff l = l.length ∧ c = 2) ∨ (0 ≤ a ∧ (l.length : Int) ≤ a ∧ c = 30) ∨ (0 ≤ a ∧ (∃ x, look l a = some x) ∧ c = 31)))
theorem LayR.len {l : Lst} {a : Int} {r : Rc} {v c : Int} {l' : Lst} (h : LayR l a r v c l') : l'.length = l.length := by
  rcases h with ⟨k, _, _, _, _, rfl, _⟩ | ⟨_, rfl, _⟩
  · simp
  · rfl
set_option maxHeartbeats 1600000 in
theorem lay_any (w : World) (F : Nat → Prop) (B : Nat) (l : Lst) (h : Tab KR w F B l) (a : Int) (r : Rc) :
    Calls Tryz.prog 77 #[.pointer (some ⟨B, 0, none⟩), .int .i64 a, r.val] w fun x w' => ∃ (v c : Int) (l' : Lst) (F' : Nat → Prop), x = .returned (.tuple #[.int .i64 v, .int .i64 c]) ∧ Tab KR w' F' B l' ∧ Ext F w F' w' ∧ LayR l a r v c l' := by
  have hb := fun o => (Below.refl w.heap.size w).alloc (Nat.le_refl _) o
  have HB := hide (fun o => (⟨(Mod.refl F w).alloc o, fun _ h => .inl h⟩ : Ext F w F (w.alloc o)))
  by_cases ha : a < 0
  · have HP := hide (fun o => putR_any _ F B l (h.below (hb o)) r)
    have hf := ff_le l
    simp only [Rc.val] at HP ⊢
    go_enter Tryz.func77, Tryz.ntmps77
    go_wp2_with fail
    refine (HP.out _).mono ?_
    rintro e w1 ⟨h1, h2⟩
    rcases Nat.lt_or_eq_of_le hf with hf' | hf'
    · obtain ⟨rfl, F', hT, hE⟩ := h1 hf'
      have K1 := hide hT
      have K2 := hide ((HB.out _).trans hE)
      have K3 := hide hf'
      clear h h1 h2 hT hE hf hf' HP HB hb
      go_wp2
      go_ret2
      exact ⟨_, _, _, _, rfl, K1.out, K2.out, .inl ⟨ff l, K3.out, ff_free K3.out, rfl, rfl, rfl, .inl ⟨ha, rfl⟩⟩⟩
    · obtain ⟨rfl, hT, hE⟩ := h2 hf'
      have K1 := hide hT
      have K2 := hide ((HB.out _).trans hE)
      have K3 := hide hf'
      clear h h1 h2 hT hE hf hf' HP HB hb
      go_wp2
      go_ret2
      exact ⟨_, _, _, _, rfl, K1.out, K2.out, .inr ⟨rfl, rfl, .inl ⟨ha, K3.out, rfl⟩⟩⟩
  · have HP := hide (fun o => putAtR_any _ F B l (h.below (hb o)) a r)
    simp only [Rc.val] at HP ⊢
    go_enter Tryz.func77, Tryz.ntmps77
    go_wp2_with fail
    refine (HP.out _).mono ?_
    rintro e w1 ⟨v, m', F', rfl, hT, hE, h3⟩
    have K1 := hide hT
    have K2 := hide ((HB.out _).trans hE)
    clear h hT hE HP HB hb
    rcases h3 with ⟨h3, rfl, rfl⟩ | ⟨k, x, rfl, h4, rfl, rfl⟩ | ⟨k, rfl, h4, rfl, rfl⟩
    · have K3 := hide h3
      clear h3
      go_wp2
      go_ret2
      exact ⟨_, _, _, _, rfl, K1.out, K2.out, .inr ⟨rfl, rfl, .inr (.inl ⟨by omega, by have := K3.out; omega, rfl⟩)⟩⟩
    · have K3 := hide h4
      clear h4
      go_wp2
      go_ret2
      exact ⟨_, _, _, _, rfl, K1.out, K2.out, .inr ⟨rfl, rfl, .inr (.inr ⟨by omega, ⟨x, by rw [look_nat, K3.out]; rfl⟩, rfl⟩)⟩⟩
    · have K3 := hide h4
      clear h4
      go_wp2
      go_ret2
      exact ⟨_, _, _, _, rfl, K1.out, K2.out, .inl ⟨k, (List.getElem?_eq_some_iff.1 K3.out).1, K3.out, rfl, rfl, rfl, .inr rfl⟩⟩
set_option maxHeartbeats 1600000 in
theorem new_any (w : World) : Calls Tryz.prog 4 #[] w fun e w' => ∃ B F, e = .returned (.pointer (some ⟨B, 0, none⟩)) ∧ Book w' F B (List.replicate 16 none) ∧ (∀ b, F b → w.heap.size ≤ b) ∧ Below w.heap.size w w' := by
  go_enter Tryz.func4, Tryz.ntmps4
  go_wp2_with fail
  refine (newL_any _).mono ?_
  rintro e w1 ⟨rfl, hT, hb⟩
  have H1 := hide hT
  have H2 := hide hb
  clear hT hb
  go_wp2
  go_ret
  refine ⟨_, fun b => b = w.heap.size ∨ b = w.heap.size + 1 ∨ b = w1.heap.size, rfl, ⟨w.heap.size + 1, fun b => b = w.heap.size ∨ b = w.heap.size + 1, List.replicate 16 none, fun _ _ => False, ?_⟩, fun b hb => ?_, H2.out.alloc H2.out.size _⟩
  · have hlt := H1.out.lt (w.heap.size + 1) (.inr rfl)
    have hfr : ∀ i : Nat, (List.replicate 16 (none : Option Nat))[i]? = some none → (List.replicate 16 (none : Option Lst))[i]? = some none := by
      intro i hi; rw [List.getElem?_replicate] at hi ⊢; split <;> simp_all
    have hno : ∀ (i b : Nat), (List.replicate 16 (none : Option Nat))[i]? ≠ some (some b) := by
      intro i b hi; rw [List.getElem?_replicate] at hi; split at hi <;> cases hi
    refine ⟨heap_alloc_new _ _, H1.out.below ((Below.refl _ _).alloc (Nat.le_refl _) _), List.length_replicate, List.length_replicate, hfr, fun i b hi => (hno i b hi).elim, .inr (.inr rfl), fun b hb => ?_, fun i c b hi => (hno i c hi).elim, fun i j c d b hi => (hno i c hi).elim, fun b hb => ?_⟩
    · rcases hb with rfl | rfl
      · exact ⟨.inl rfl, by omega⟩
      · exact ⟨.inr (.inl rfl), by omega⟩
    · simp; rcases hb with rfl | rfl | rfl <;> omega
  · have := H2.out.size; rcases hb with rfl | rfl | rfl <;> omega
end Go.Proofs.YteacmcdmdeckmaaGreat
