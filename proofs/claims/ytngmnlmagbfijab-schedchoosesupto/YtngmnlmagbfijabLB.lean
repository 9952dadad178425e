import Derived.Test.YtngmnlmagbfijabLA
namespace Go.Proofs.Ytngmnlmagbfijab
open Go.RowKit
theorem srt_eq {zs l : List Int} (hp : zs.Perm l) (hs : l.Pairwise (fun a b => a ≤ b)) : srt zs = l :=
  List.Perm.eq_of_pairwise (le := fun a b : Int => a ≤ b) (fun a b _ _ h1 h2 => by omega) (srt_le zs) hs ((srt_perm zs).trans hp)
theorem srt_nil : srt [] = [] := srt_eq (List.Perm.refl _) .nil
theorem mayF_prB (R : List Int) : mayF (srt R) = if prB R = false then 1 else if R = [] then 91 else 0 := by
  have hne : srt R = [] ↔ R = [] := by
    constructor
    · intro h; have := srt_len R; rw [h] at this; exact List.eq_nil_of_length_eq_zero this.symm
    · intro h; subst h; exact srt_nil
  have hnd : (srt R).Nodup ↔ R.Nodup := (srt_perm R).nodup_iff
  unfold mayF
  by_cases h1 : R = []
  · subst h1
    rw [if_pos srt_nil]
    have : prB [] = true := rfl
    rw [this]; simp
  rw [if_neg (fun h => h1 (hne.1 h)), if_neg h1]
  have hs := srt_le R
  have hns : srt R ≠ [] := fun h => h1 (hne.1 h)
  by_cases h2 : (srt R).headD 0 < 1
  · rw [if_pos h2]
    have hm : (srt R).headD 0 ∈ R := by
      rw [← srt_mem]
      cases h : srt R with
      | nil => exact absurd h hns
      | cons a t => exact List.mem_cons_self ..
    have : prB R = false := by
      unfold prB
      have : R.all (fun z => decide (1 ≤ z)) = false := by
        rw [List.all_eq_false]
        exact ⟨_, hm, fun h9 => by have := of_decide_eq_true h9; omega⟩
      rw [this]; rfl
    rw [if_pos this]
  · rw [if_neg h2]
    have hall : R.all (fun z => decide (1 ≤ z)) = true := by
      rw [List.all_eq_true]
      intro x hx
      rw [← srt_mem, ← head_tail hns, List.mem_cons] at hx
      rw [← head_tail hns, List.pairwise_cons] at hs
      rcases hx with rfl | hx
      · exact decide_eq_true (by omega)
      · have := hs.1 x hx; exact decide_eq_true (by omega)
    unfold prB
    rw [hall]
    by_cases h3 : R.Nodup
    · rw [if_pos (hnd.2 h3)]; simp [h3]
    · rw [if_neg (fun h => h3 (hnd.1 h))]; simp [h3]
/-- three plans beside each other -/
def P3 (w0 w : World) (g1 g2 g3 n1 n2 n3 : Nat) (s1 s2 s3 : Pl) : Prop :=
  ∃ X1 X2 X3 : Nat → Prop, PlAt w X1 g1 n1 s1 ∧ PlAt w X2 g2 n2 s2 ∧ PlAt w X3 g3 n3 s3 ∧ (∀ b, X1 b → ¬ X2 b ∧ ¬ X3 b) ∧ (∀ b, X2 b → ¬ X3 b) ∧ (∀ b, X1 b ∨ X2 b ∨ X3 b → w0.heap.size ≤ b) ∧ Below w0.heap.size w0 w
section
variable {w0 w w' : World} {g1 g2 g3 n1 n2 n3 : Nat} {s1 s2 s3 : Pl}
theorem P3.rot (h : P3 w0 w g1 g2 g3 n1 n2 n3 s1 s2 s3) : P3 w0 w g2 g3 g1 n2 n3 n1 s2 s3 s1 := by
  obtain ⟨X1, X2, X3, h1, h2, h3, d1, d2, hl, hb⟩ := h
  exact ⟨X2, X3, X1, h2, h3, h1, fun b hb => ⟨d2 b hb, fun h => (d1 b h).1 hb⟩, fun b hb h => (d1 b h).2 hb, fun b hb => hl b (by rcases hb with h | h | h <;> simp [h]), hb⟩
theorem P3.below (h : P3 w0 w g1 g2 g3 n1 n2 n3 s1 s2 s3) (hb : Below w.heap.size w w') : P3 w0 w' g1 g2 g3 n1 n2 n3 s1 s2 s3 := by
  obtain ⟨X1, X2, X3, h1, h2, h3, d1, d2, hl, hb0⟩ := h
  exact ⟨X1, X2, X3, h1.below hb, h2.below hb, h3.below hb, d1, d2, hl, hb0.trans (hb.mono hb0.size)⟩
theorem P3.fst (h : P3 w0 w g1 g2 g3 n1 n2 n3 s1 s2 s3) : ∃ X, PlAt w X g1 n1 s1 ∧ (∀ b, X b → w0.heap.size ≤ b) ∧ ∀ (w' : World) (X' : Nat → Prop) (n' : Nat) (s' : Pl), PlAt w' X' g1 n' s' → Ext X w X' w' → P3 w0 w' g1 g2 g3 n' n2 n3 s' s2 s3 := by
  obtain ⟨X1, X2, X3, h1, h2, h3, d1, d2, hl, hb⟩ := h
  refine ⟨X1, h1, fun b hb => hl b (.inl hb), fun w' X' n' s' h' hE => ?_⟩
  refine ⟨X', X2, X3, h', h2.keep hE.mod.size (fun b hb => hE.mod.block b (h2.lt b hb) (fun h => (d1 b h).1 hb)), h3.keep hE.mod.size (fun b hb => hE.mod.block b (h3.lt b hb) (fun h => (d1 b h).2 hb)), fun b hb => ?_, d2, fun b hb' => ?_, ?_⟩
  · rcases hE.new b hb with h | h
    · exact d1 b h
    · exact ⟨fun h9 => by have := h2.lt b h9; omega, fun h9 => by have := h3.lt b h9; omega⟩
  · rcases hb' with h | h | h
    · rcases hE.new b h with h | h
      · exact hl b (.inl h)
      · have := hb.size; omega
    · exact hl b (.inr (.inl h))
    · exact hl b (.inr (.inr h))
  · exact hb.trans ⟨hE.mod.os, hE.mod.tape, hE.mod.output, hE.mod.size, fun b hb9 => hE.mod.block b (Nat.lt_of_lt_of_le hb9 hb.size) (fun h => by have := hl b (.inl h); omega)⟩
theorem P3.bel (h : P3 w0 w g1 g2 g3 n1 n2 n3 s1 s2 s3) : Below w0.heap.size w0 w := by
  obtain ⟨X1, X2, X3, h1, h2, h3, d1, d2, hl, hb⟩ := h; exact hb
theorem P3.make {w1 w2 w3 : World} {X1 X2 X3 : Nat → Prop} (b1 : Below w0.heap.size w0 w1) (h1 : PlAt w1 X1 g1 n1 s1) (l1 : ∀ b, X1 b → w0.heap.size ≤ b) (b2 : Below w1.heap.size w1 w2) (h2 : PlAt w2 X2 g2 n2 s2) (l2 : ∀ b, X2 b → w1.heap.size ≤ b) (b3 : Below w2.heap.size w2 w3) (h3 : PlAt w3 X3 g3 n3 s3) (l3 : ∀ b, X3 b → w2.heap.size ≤ b) : P3 w0 w3 g1 g2 g3 n1 n2 n3 s1 s2 s3 := by
  have z1 := b1.size
  have z2 := b2.size
  refine ⟨X1, X2, X3, (h1.below b2).below b3, h2.below b3, h3, fun b hb => ⟨fun h => ?_, fun h => ?_⟩, fun b hb h => ?_, fun b hb => ?_, (b1.trans (b2.mono z1)).trans (b3.mono (by omega))⟩
  · have := h1.lt b hb; have := l2 b h; omega
  · have := h1.lt b hb; have := l3 b h; omega
  · have := h2.lt b hb; have := l3 b h; omega
  · rcases hb with h | h | h
    · exact l1 b h
    · have := l2 b h; omega
    · have := l3 b h; omega
/-- Next of a list that may be handed in -/
theorem Next_ok (w : World) (g n : Nat) (X S : Nat → Prop) (s : Pl) (hP : PlAt w X g n s) (v : Value) (zs R : List Int) (hs : srt zs = R) (hm : mayF R = 0) (hR : Rd S w v zs) (hS : ∀ b, S b → b < w.heap.size) (hl : zs.length ≤ 1048576) (hz : ∀ z ∈ zs, I64 z) (hn : n ≤ 2097152) (p : Int) (hp : pick s R = p) :
    Calls Try.prog 9 #[.pointer (some ⟨g, 0, none⟩), v] w fun e w' => e = .returned (.tuple #[.int .i64 p, .int .i64 0]) ∧ ∃ X', PlAt w' X' g (n + zs.length) (nextP s R) ∧ Ext X w X' w' := by
  refine (Next_any w g n X S s hP v zs hR hS hl hz hn).mono ?_
  subst hs
  subst hp
  rintro e w' (⟨h1, _⟩ | ⟨_, h2, h3⟩)
  · exact absurd hm h1
  · exact ⟨h2, h3⟩
end
section
variable (w : World)
set_option maxRecDepth 100000 in
set_option maxHeartbeats 16000000 in
theorem fixed_any : Calls Try.prog 4 #[] w fun e w' => e = .returned (.bool true) ∧ Below w.heap.size w w' := by
  have hlit : ∀ (W : World) (cs : List Int), Rd (fun b => b = W.heap.size) (W.alloc (.cells (cs.map Zi).toArray 3)) (.slice (some ⟨W.heap.size, 0, none⟩) cs.length cs.length) cs := fun W cs =>
    .inr ⟨_, _, rfl, Nat.le_refl _, fun i u hu => ⟨rfl, cell_row_new _ _ _ i u (by simpa using hu)⟩⟩
  have HL := hide hlit
  clear hlit
  go_enter Try.func4, Try.ntmps4
  go_wp2_with fail
  refine (New_any _ 1 (by omega)).mono ?_
  rintro e w1 ⟨g1, X1, rfl, hP1, hX1, hb1⟩
  have P1 := hide (And.intro hP1 (And.intro hX1 hb1))
  clear hP1 hX1 hb1
  go_wp2_with fail
  refine (New_any _ 2 (by omega)).mono ?_
  rintro e w2 ⟨g2, X2, rfl, hP2, hX2, hb2⟩
  have P2 := hide (And.intro hP2 (And.intro hX2 hb2))
  clear hP2 hX2 hb2
  go_wp2_with fail
  refine (New_any _ 3 (by omega)).mono ?_
  rintro e w3 ⟨g3, X3, rfl, hP3, hX3, hb3⟩
  have HP : Hid (P3 w w3 g1 g2 g3 0 0 0 (start 1) (start 2) (start 3)) := hide (P3.make P1.out.2.2 P1.out.1 P1.out.2.1 P2.out.2.2 P2.out.1 P2.out.2.1 hb3 hP3 hX3)
  clear hP3 hX3 hb3 P1 P2
  obtain ⟨Xa, hPa, _, hfa⟩ := (HP.out.below (w' := w3.alloc (.cells #[.int .i64 7, .int .i64 3, .int .i64 5] 3)) ((Below.refl _ _).alloc (Nat.le_refl _) _)).fst
  have HA := hide (And.intro hPa hfa)
  clear hPa hfa HP
  go_wp2_with fail
  refine (Next_ok (w3.alloc (.cells #[.int .i64 7, .int .i64 3, .int .i64 5] 3)) _ _ Xa (fun b => b = w3.heap.size) _ HA.out.1 _ [7, 3, 5] [3, 5, 7] (srt_eq (by decide) (by decide)) (by decide) (HL.out w3 [7, 3, 5]) (fun b hb => by subst hb; simp) (by decide) (fun z hz => by simp at hz; unfold I64; omega) (by first | omega | (simp only [List.length_cons, List.length_nil]; omega)) 3 (by kernel_rfl)).mono ?_
  rintro e w4 ⟨rfl, Xb, hPb, hEb⟩
  have HP := hide (HA.out.2 _ _ _ _ hPb hEb)
  clear hPb hEb HA
  obtain ⟨Xa, hPa, _, hfa⟩ := (HP.out.below (w' := w4.alloc (.cells #[.int .i64 7, .int .i64 3, .int .i64 5] 3)) ((Below.refl _ _).alloc (Nat.le_refl _) _)).fst
  have HA := hide (And.intro hPa hfa)
  clear hPa hfa HP
  go_wp2_with fail
  refine (Next_ok (w4.alloc (.cells #[.int .i64 7, .int .i64 3, .int .i64 5] 3)) _ _ Xa (fun b => b = w4.heap.size) _ HA.out.1 _ [7, 3, 5] [3, 5, 7] (srt_eq (by decide) (by decide)) (by decide) (HL.out w4 [7, 3, 5]) (fun b hb => by subst hb; simp) (by decide) (fun z hz => by simp at hz; unfold I64; omega) (by first | omega | (simp only [List.length_cons, List.length_nil]; omega)) 5 (by kernel_rfl)).mono ?_
  rintro e w5 ⟨rfl, Xb, hPb, hEb⟩
  have HP := hide (HA.out.2 _ _ _ _ hPb hEb)
  clear hPb hEb HA
  have HP := hide HP.out.rot
  obtain ⟨Xa, hPa, _, hfa⟩ := HP.out.fst
  have HA := hide (And.intro hPa hfa)
  clear hPa hfa HP
  go_wp2_with fail
  refine (Set_any w5 _ _ Xa _ HA.out.1 4 2 (by omega) (by omega) (by omega) (by omega) (by first | omega | (simp only [List.length_cons, List.length_nil]; omega))).mono ?_
  rintro e w6 ⟨rfl, hPb, hMb⟩
  have HP := hide (HA.out.2 _ _ _ _ hPb ⟨hMb, fun _ h => .inl h⟩)
  clear hPb hMb HA
  obtain ⟨Xa, hPa, _, hfa⟩ := (HP.out.below (w' := w6.alloc (.cells #[.int .i64 4, .int .i64 2] 3)) ((Below.refl _ _).alloc (Nat.le_refl _) _)).fst
  have HA := hide (And.intro hPa hfa)
  clear hPa hfa HP
  go_wp2_with fail
  refine (Next_ok (w6.alloc (.cells #[.int .i64 4, .int .i64 2] 3)) _ _ Xa (fun b => b = w6.heap.size) _ HA.out.1 _ [4, 2] [2, 4] (srt_eq (by decide) (by decide)) (by decide) (HL.out w6 [4, 2]) (fun b hb => by subst hb; simp) (by decide) (fun z hz => by simp at hz; unfold I64; omega) (by first | omega | (simp only [List.length_cons, List.length_nil]; omega)) 2 (by kernel_rfl)).mono ?_
  rintro e w7 ⟨rfl, Xb, hPb, hEb⟩
  have HP := hide (HA.out.2 _ _ _ _ hPb hEb)
  clear hPb hEb HA
  obtain ⟨Xa, hPa, _, hfa⟩ := (HP.out.below (w' := w7.alloc (.cells #[.int .i64 4, .int .i64 2] 3)) ((Below.refl _ _).alloc (Nat.le_refl _) _)).fst
  have HA := hide (And.intro hPa hfa)
  clear hPa hfa HP
  go_wp2_with fail
  refine (Next_ok (w7.alloc (.cells #[.int .i64 4, .int .i64 2] 3)) _ _ Xa (fun b => b = w7.heap.size) _ HA.out.1 _ [4, 2] [2, 4] (srt_eq (by decide) (by decide)) (by decide) (HL.out w7 [4, 2]) (fun b hb => by subst hb; simp) (by decide) (fun z hz => by simp at hz; unfold I64; omega) (by first | omega | (simp only [List.length_cons, List.length_nil]; omega)) 4 (by kernel_rfl)).mono ?_
  rintro e w8 ⟨rfl, Xb, hPb, hEb⟩
  have HP := hide (HA.out.2 _ _ _ _ hPb hEb)
  clear hPb hEb HA
  have HP := hide HP.out.rot
  obtain ⟨Xa, hPa, _, hfa⟩ := HP.out.fst
  have HA := hide (And.intro hPa hfa)
  clear hPa hfa HP
  go_wp2_with fail
  refine (Set_any w8 _ _ Xa _ HA.out.1 4 2 (by omega) (by omega) (by omega) (by omega) (by first | omega | (simp only [List.length_cons, List.length_nil]; omega))).mono ?_
  rintro e w9 ⟨rfl, hPb, hMb⟩
  have HP := hide (HA.out.2 _ _ _ _ hPb ⟨hMb, fun _ h => .inl h⟩)
  clear hPb hMb HA
  obtain ⟨Xa, hPa, _, hfa⟩ := (HP.out.below (w' := w9.alloc (.cells #[.int .i64 4, .int .i64 2] 3)) ((Below.refl _ _).alloc (Nat.le_refl _) _)).fst
  have HA := hide (And.intro hPa hfa)
  clear hPa hfa HP
  go_wp2_with fail
  refine (Next_ok (w9.alloc (.cells #[.int .i64 4, .int .i64 2] 3)) _ _ Xa (fun b => b = w9.heap.size) _ HA.out.1 _ [4, 2] [2, 4] (srt_eq (by decide) (by decide)) (by decide) (HL.out w9 [4, 2]) (fun b hb => by subst hb; simp) (by decide) (fun z hz => by simp at hz; unfold I64; omega) (by first | omega | (simp only [List.length_cons, List.length_nil]; omega)) 4 (by kernel_rfl)).mono ?_
  rintro e w10 ⟨rfl, Xb, hPb, hEb⟩
  have HP := hide (HA.out.2 _ _ _ _ hPb hEb)
  clear hPb hEb HA
  obtain ⟨Xa, hPa, _, hfa⟩ := (HP.out.below (w' := w10.alloc (.cells #[.int .i64 4, .int .i64 2] 3)) ((Below.refl _ _).alloc (Nat.le_refl _) _)).fst
  have HA := hide (And.intro hPa hfa)
  clear hPa hfa HP
  go_wp2_with fail
  refine (Next_ok (w10.alloc (.cells #[.int .i64 4, .int .i64 2] 3)) _ _ Xa (fun b => b = w10.heap.size) _ HA.out.1 _ [4, 2] [2, 4] (srt_eq (by decide) (by decide)) (by decide) (HL.out w10 [4, 2]) (fun b hb => by subst hb; simp) (by decide) (fun z hz => by simp at hz; unfold I64; omega) (by first | omega | (simp only [List.length_cons, List.length_nil]; omega)) 2 (by kernel_rfl)).mono ?_
  rintro e w11 ⟨rfl, Xb, hPb, hEb⟩
  have HP := hide (HA.out.2 _ _ _ _ hPb hEb)
  clear hPb hEb HA
  obtain ⟨Xa, hPa, _, hfa⟩ := (HP.out.below (w' := w11.alloc (.cells #[.int .i64 4, .int .i64 2] 3)) ((Below.refl _ _).alloc (Nat.le_refl _) _)).fst
  have HA := hide (And.intro hPa hfa)
  clear hPa hfa HP
  go_wp2_with fail
  refine (Next_ok (w11.alloc (.cells #[.int .i64 4, .int .i64 2] 3)) _ _ Xa (fun b => b = w11.heap.size) _ HA.out.1 _ [4, 2] [2, 4] (srt_eq (by decide) (by decide)) (by decide) (HL.out w11 [4, 2]) (fun b hb => by subst hb; simp) (by decide) (fun z hz => by simp at hz; unfold I64; omega) (by first | omega | (simp only [List.length_cons, List.length_nil]; omega)) 4 (by kernel_rfl)).mono ?_
  rintro e w12 ⟨rfl, Xb, hPb, hEb⟩
  have HP := hide (HA.out.2 _ _ _ _ hPb hEb)
  clear hPb hEb HA
  go_wp2
  go_ret
  exact ⟨rfl, HP.out.bel⟩
end
end Go.Proofs.Ytngmnlmagbfijab
