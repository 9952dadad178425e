import Derived.Test.YteacmcdmdeckmaaGreatX3
namespace Go.Proofs.YteacmcdmdeckmaaGreat
open Go.RowKit Go.Shelf

theorem encHs_len (e : Int) (l : List (Nat × Rc)) : (encHs e l).length = l.length * 6 := by
  unfold encHs
  induction l with
  | nil => rfl
  | cons x t ih => rw [List.flatMap_cons, List.length_append, ih, List.length_cons]; simp [encH]; omega
theorem encHs_at {e : Int} {l : List (Nat × Rc)} {k : Nat} (hk : k < l.length) (j : Nat) (hj : j < 6) : (encHs e l)[k * 6 + j]? = (encH e l[k])[j]? := by
  have e1 : encHs e l = encHs e (l.take k) ++ (encH e l[k] ++ encHs e (l.drop (k + 1))) := by
    unfold encHs
    rw [← List.flatMap_cons, ← List.drop_eq_getElem_cons hk, ← List.flatMap_append, List.take_append_drop]
  have hl : (encHs e (l.take k)).length = k * 6 := by rw [encHs_len, List.length_take, Nat.min_eq_left (by omega)]
  rw [e1, List.getElem?_append_right (by omega), hl, show k * 6 + j - k * 6 = j by omega, List.getElem?_append_left (by simp [encH]; omega)]
/-- one after another is dropped -/
def Drops  : List (Nat × Nat) → List (Option Lst) → List (Option Lst) → Prop := fun z0 z1 z2 => ∀ M : List (Nat × Nat) → List (Option Lst) → List (Option Lst) → Prop, (∀ (bk : List (Option Lst)), M [] bk bk) → (∀ {ps : List (Nat × Nat)} {bk m bk' : List (Option Lst)} {p : Nat × Nat} {r : Rc}, M ps bk m → atB m (p.1 : Int) (p.2 : Int) = some r → DropR m p.1 p.2 r bk' → M (ps ++ [p]) bk bk') → M z0 z1 z2
theorem Drops.nil (bk : List (Option Lst)) : Drops [] bk bk := fun _ c0 _ => c0 bk
theorem Drops.snoc {ps : List (Nat × Nat)} {bk m bk' : List (Option Lst)} {p : Nat × Nat} {r : Rc} (h0 : Drops ps bk m) (h1 : atB m (p.1 : Int) (p.2 : Int) = some r) (h2 : DropR m p.1 p.2 r bk') : Drops (ps ++ [p]) bk bk' := fun M c0 c1 => c1 (h0 M c0 c1) h1 h2
theorem Drops.ind {motive : ∀ (z0 : List (Nat × Nat)) (z1 : List (Option Lst)) (z2 : List (Option Lst)), Drops z0 z1 z2 → Prop} (nil : ∀ (bk : List (Option Lst)), motive [] bk bk (Drops.nil bk)) (snoc : ∀ {ps : List (Nat × Nat)} {bk m bk' : List (Option Lst)} {p : Nat × Nat} {r : Rc} (h0 : Drops ps bk m) (h1 : atB m (p.1 : Int) (p.2 : Int) = some r) (h2 : DropR m p.1 p.2 r bk') (_ : motive ps bk m h0), motive (ps ++ [p]) bk bk' (Drops.snoc h0 h1 h2)) {z0 : List (Nat × Nat)} {z1 : List (Option Lst)} {z2 : List (Option Lst)} (h : Drops z0 z1 z2) : motive z0 z1 z2 h := by
  refine Exists.elim (h (fun z0 z1 z2 => ∃ h : Drops z0 z1 z2, motive z0 z1 z2 h) ?_ ?_) (fun _ p => p)
  · rintro bk; exact ⟨Drops.nil bk, nil bk⟩
  · rintro ps bk m bk' p r ⟨h0, ih0⟩ h1 h2; exact ⟨Drops.snoc h0 h1 h2, snoc h0 h1 h2 ih0⟩
theorem Drops.here {ps : List (Nat × Nat)} {bk bk' : List (Option Lst)} (h : Drops ps bk bk') : Shape bk bk' ∧ ∀ a b : Nat, (atB bk' (a : Int) (b : Int)).isSome = (decide ((a, b) ∉ ps) && (atB bk (a : Int) (b : Int)).isSome) := by
  induction h using Drops.ind with
  | nil bk => exact ⟨Shape.refl _, fun a b => by simp⟩
  | snoc h0 hr hd ih =>
    rename_i ps bk m bk' p r
    clear h0 hr
    refine ⟨ih.1.trans hd.1, fun a b => ?_⟩
    rw [hd.2]
    by_cases e : a = p.1 ∧ b = p.2
    · rw [if_pos e]
      have : (a, b) = p := Prod.ext e.1 e.2
      simp [this]
    · rw [if_neg e, Option.isSome_map, ih.2]
      have : (a, b) ≠ p := fun h => e ⟨congrArg Prod.fst h, congrArg Prod.snd h⟩
      simp [this]
theorem own_ext {F : Nat → Prop} {w w1 : World} (h : Ext F w F w1) {b : Nat} (hF : ∀ x, F x → x < b) {e : TypeId} {s k : Nat} {v : Value} {xs : List Value} (ho : w.ownsRow b e s v k xs) : w1.ownsRow b e s v k xs := by
  obtain ⟨h1, h2 | ⟨g, cap, cur, h2, h3, h4, h5⟩⟩ := ho
  · exact ⟨h1, .inl h2⟩
  · exact ⟨h1, .inr ⟨g, cap, cur, h2, h3, (h.mod.block g (Array.getElem?_eq_some_iff.1 h4).1 (fun hf => by have := hF g hf; omega)).trans h4, h5⟩⟩
theorem shape_open {bk bk' : List (Option Lst)} (h : Shape bk bk') {i : Nat} {l : Lst} (hl : bk[i]? = some (some l)) : ∃ l', bk'[i]? = some (some l') := by
  have h1 := h (i : Int)
  rw [look_nat, look_nat, hl] at h1
  cases hb : bk'[i]? with
  | none => rw [hb] at h1; cases h1
  | some o => cases o with
    | none => rw [hb] at h1; cases h1
    | some l' => exact ⟨l', rfl⟩
set_option maxHeartbeats 1600000 in
theorem list_none (w : World) (F : Nat → Prop) (B : Nat) (bk : List (Option Lst)) (h : Book w F B bk) (e : Int) (hn : look bk e = none) :
    Calls Tryz.prog 15 #[.pointer (some ⟨B, 0, none⟩), .int .i64 e] w fun x w' => x = .returned (.tuple #[.slice none 0 0, .int .i64 83]) ∧ Below w.heap.size w w' := by
  have hb0 := (Below.refl w.heap.size w).alloc (Nat.le_refl _) (.cells #[.int .i64 e] 3)
  obtain ⟨T, G, m, fs, hA⟩ := h.below hb0
  have HB := hide hb0.drew
  have hX : (w.alloc (.cells #[.int .i64 e] 3)).cell? ⟨w.heap.size, 0, none⟩ = some (.int .i64 e) := (Boxed.new w 3 (.int .i64 e)).cell
  have c0 : (w.alloc (.cells #[.int .i64 e] 3)).drew.cell? ⟨B, 0, none⟩ = some (.pointer (some ⟨T, 0, none⟩)) ∧ (w.alloc (.cells #[.int .i64 e] 3)).drew.cell? ⟨w.heap.size, 0, none⟩ = some (.int .i64 e) := ⟨hA.cell, hX⟩
  have HG := hide (getL_any (w.alloc (.cells #[.int .i64 e] 3)).drew G T m (hA.tab.below (Below.refl _ _).drew) e)
  rcases hA.cases e with ⟨h1, h2⟩ | ⟨i, b, l, rfl, h1, h2, h3, h4, h5, h6⟩
  · rw [h1] at HG
    simp only [ptr, Option.isSome_none] at HG
    clear hA h1 h2 h hb0 hn hX
    go_enter Tryz.func15, Tryz.ntmps15
    go_upto_region 1 with fail
    generalize w.alloc (.cells #[.int .i64 e] 3) = w0 at *
    go_region_held (fun W => W.cell? ⟨B, 0, none⟩ = some (.pointer (some ⟨T, 0, none⟩)) ∧ W.cell? ⟨w.heap.size, 0, none⟩ = some (.int .i64 e))
      (first | assumption | exact c0)
      (first | (go_at_call 33; refine HG.out.mono ?_; rintro e1 w1 ⟨rfl, hw1⟩; subst hw1))
    go_wp2
    go_ret2
    exact ⟨rfl, HB.out⟩
  · exact absurd hn (by simp_all)
set_option maxHeartbeats 1600000 in
theorem shut_none (w : World) (F : Nat → Prop) (B : Nat) (bk : List (Option Lst)) (h : Book w F B bk) (e : Int) (hn : look bk e = none) :
    Calls Tryz.prog 51 #[.pointer (some ⟨B, 0, none⟩), .int .i64 e] w fun x w' => x = .returned (.tuple #[.slice none 0 0, .int .i64 83]) ∧ Below w.heap.size w w' := by
  have HL := hide (list_none w F B bk h e hn)
  clear h hn
  go_enter Tryz.func51, Tryz.ntmps51
  go_wp2_with fail
  refine HL.out.mono ?_
  rintro e1 w1 ⟨rfl, hb⟩
  have HB := hide hb
  clear hb
  go_wp2
  go_ret2
  exact ⟨rfl, HB.out⟩
end Go.Proofs.YteacmcdmdeckmaaGreat
