import Derived.Test.YteacmcdmdeckmaaGreatTR
import Derived.Test.YteacmcdmdeckmaaGreatTL
namespace Go.Proofs.YteacmcdmdeckmaaGreat
open Go.RowKit

theorem blk6 {w1 : World} {b : Nat} {x0 x1 x2 x3 x4 x5 : Value} {t : TypeId} (h : w1.heap[b]? = some (.cells #[x0, x1, x2, x3, x4, x5] t (0, 0))) :
    w1.cell? ⟨b, 0, none⟩ = some x0 ∧ w1.cell? ⟨b, 1, none⟩ = some x1 ∧ w1.cell? ⟨b, 2, none⟩ = some x2 ∧ w1.cell? ⟨b, 3, none⟩ = some x3 ∧ w1.cell? ⟨b, 4, none⟩ = some x4 ∧ w1.cell? ⟨b, 5, none⟩ = some x5 ∧
    w1.frozen? ⟨b, 0, none⟩ = false ∧ w1.frozen? ⟨b, 1, none⟩ = false ∧ w1.frozen? ⟨b, 2, none⟩ = false ∧ w1.frozen? ⟨b, 3, none⟩ = false ∧ w1.frozen? ⟨b, 4, none⟩ = false ∧ w1.frozen? ⟨b, 5, none⟩ = false :=
  ⟨by rw [cell_of_row _ _ _ _ _ _ h]; rfl, by rw [cell_of_row _ _ _ _ _ _ h]; rfl, by rw [cell_of_row _ _ _ _ _ _ h]; rfl, by rw [cell_of_row _ _ _ _ _ _ h]; rfl, by rw [cell_of_row _ _ _ _ _ _ h]; rfl, by rw [cell_of_row _ _ _ _ _ _ h]; rfl, frozen_of_row _ _ _ _ _ h, frozen_of_row _ _ _ _ _ h, frozen_of_row _ _ _ _ _ h, frozen_of_row _ _ _ _ _ h, frozen_of_row _ _ _ _ _ h, frozen_of_row _ _ _ _ _ h⟩
theorem set6 {w : World} {b : Nat} {x0 x1 x2 x3 x4 x5 : Value} {t : TypeId} (h : w.heap[b]? = some (.cells #[x0, x1, x2, x3, x4, x5] t (0, 0))) (y0 y1 y2 y3 y4 y5 : Value) :
    ((((((w.setCell ⟨b, 0, none⟩ y0).setCell ⟨b, 1, none⟩ y1).setCell ⟨b, 2, none⟩ y2).setCell ⟨b, 3, none⟩ y3).setCell ⟨b, 4, none⟩ y4).setCell ⟨b, 5, none⟩ y5).heap[b]? = some (.cells #[y0, y1, y2, y3, y4, y5] t (0, 0)) := by
  have h1 := heap_setCell_same _ b 0 _ _ y0 h
  have h2 := heap_setCell_same _ b 1 _ _ y1 h1
  have h3 := heap_setCell_same _ b 2 _ _ y2 h2
  have h4 := heap_setCell_same _ b 3 _ _ y3 h3
  have h5 := heap_setCell_same _ b 4 _ _ y4 h4
  have h6 := heap_setCell_same _ b 5 _ _ y5 h5
  rw [h6]; rfl
theorem set6_other {w : World} {b : Nat} (y0 y1 y2 y3 y4 y5 : Value) {c : Nat} (h : c ≠ b) :
    ((((((w.setCell ⟨b, 0, none⟩ y0).setCell ⟨b, 1, none⟩ y1).setCell ⟨b, 2, none⟩ y2).setCell ⟨b, 3, none⟩ y3).setCell ⟨b, 4, none⟩ y4).setCell ⟨b, 5, none⟩ y5).heap[c]? = w.heap[c]? := by
  rw [heap_setCell_other _ _ c _ h, heap_setCell_other _ _ c _ h, heap_setCell_other _ _ c _ h, heap_setCell_other _ _ c _ h, heap_setCell_other _ _ c _ h, heap_setCell_other _ _ c _ h]
theorem results_row2 {P : Program} {fn : Func} {p u : Tmp} {ty : TypeId} (h : fn.results = #[.cell p ty, .tmp u]) (tmps : Array Value) (w : World) (g : Nat) (t : TypeId) (cs : Array Value) (fr : Nat × Nat) (d : TypeDesc)
    (hp : tmps.getD p undef = .pointer (some ⟨g, 0, none⟩)) (hg : w.heap[g]? = some (.cells cs t fr))
    (hu : P.underlying ty = some d) (hd : (match d with | .struct _ | .array _ _ => true | _ => false) = true) (hi : (P.info? ty).map (·.size) = some cs.size) :
    (results fn tmps).run P w = .ok (.tuple #[.agg cs, tmps.getD u undef]) w := by
  rw [results_cell_tmp h, hp]
  simp [asAddr, run_loadVar_row w g t ty cs fr d hg hu hd hi]
/-- what a changing of a taken place leaves -/
theorem TabAt.chg {α : Type} {K : Knd α} {w : World} {F : Nat → Prop} {B p : Nat} {ps : List (Option Nat)} {m : List (Option α)} (h : TabAt K w F B p ps m) {i q : Nat} {x : α} (hi : m[i]? = some (some x)) (hq : ps[i]? = some (some q)) (y : α) {w' : World} (hs : w.heap.size ≤ w'.heap.size)
    (hy : w'.heap[q]? = some (.cells (K.enc y) K.E (0, 0))) (ho : ∀ b, b < w.heap.size → b ≠ q → w'.heap[b]? = w.heap[b]?) : TabAt K w' F B p ps (m.set i (some y)) := by
  obtain ⟨q', e1, e2, e3, e4, e5⟩ := h.held i x hi
  rw [hq] at e1; cases e1
  have hc : (m.set i (some y)).countP Option.isSome = m.countP Option.isSome := by
    obtain ⟨hl, e⟩ := List.getElem?_eq_some_iff.1 hi
    have hp : 0 < m.countP Option.isSome := List.countP_pos_iff.2 ⟨m[i], List.getElem_mem hl, by rw [e]; rfl⟩
    rw [List.countP_set hl, e]; simp; omega
  refine ⟨?_, ?_, by simp [h.len], ?_, ?_, h.inj, h.fB, h.fp, h.ne, fun b hb => Nat.lt_of_lt_of_le (h.lt b hb) hs, by simpa using h.cap⟩
  · rw [hc, List.length_set, ho B (h.lt B h.fB) (fun e => e4 e.symm)]; exact h.top
  · rw [ho p (h.lt p h.fp) (fun e => e5 e.symm)]; exact h.row
  · intro j hj
    rw [List.getElem?_set] at hj
    split at hj
    · split at hj <;> cases hj
    · exact h.free j hj
  · intro j z hj
    rw [List.getElem?_set] at hj
    split at hj
    · rename_i e
      subst e
      split at hj
      · cases hj; exact ⟨q, hq, hy, e3, e4, e5⟩
      · cases hj
    · rename_i e
      obtain ⟨q2, h1, h2, h3, h4, h5⟩ := h.held j z hj
      refine ⟨q2, h1, ?_, h3, h4, h5⟩
      rw [ho q2 (h.lt q2 h3) (fun e' => by subst e'; exact e (h.inj i j _ hq h1))]; exact h2
set_option maxHeartbeats 400000 in
/-- PutAt, at each kind of place -/
theorem putAtR_any (w : World) (F : Nat → Prop) (B : Nat) (m : List (Option Rc)) (h : Tab KR w F B m) (i : Int) (c : Rc) :
    Calls Tryz.prog 97 #[.pointer (some ⟨B, 0, none⟩), .int .i64 i, c.val] w fun x w' => ∃ (v : Int) (m' : List (Option Rc)) (F' : Nat → Prop), x = .returned (.int .i64 v) ∧ Tab KR w' F' B m' ∧ Ext F w F' w' ∧
      (((i < 0 ∨ (m.length : Int) ≤ i) ∧ v = 30 ∧ m' = m) ∨ (∃ (k : Nat) (x : Rc), i = k ∧ m[k]? = some (some x) ∧ v = 31 ∧ m' = m) ∨ ∃ k : Nat, i = k ∧ m[k]? = some none ∧ v = 0 ∧ m' = m.set k (some c)) := by
  have HT := hide (fun o => h.below ((Below.refl w.heap.size w).alloc (Nat.le_refl _) o))
  have HB := hide (fun o => (⟨(Mod.refl F w).alloc o, fun _ h => .inl h⟩ : Ext F w F (w.alloc o)))
  have HO := hide (fun o => outsideR_any _ F B m (HT.out o) i)
  obtain ⟨p, ps, h⟩ := h
  have h' := fun o => h.keep (w' := w.alloc o) (by simp) (fun b hb => Below.heap_alloc _ _ _ (h.lt b hb))
  have c0 := fun o => (h' o).cells.1
  simp only [Rc.val]
  rcases look_cases m i with ⟨h1, e⟩ | ⟨k, rfl, hk, hm, e⟩ | ⟨k, x, rfl, hk, hm, e⟩ <;> clear e
  · have hd : decide (i < 0 ∨ (m.length : Int) ≤ i) = true := by simpa using h1
    rw [hd] at HO
    have H1 := hide h1
    clear h h1 h' hd
    generalize hn : m.length = n at *
    clear hn
    go_enter Tryz.func97, Tryz.ntmps97
    go_wp2_with fail
    refine (HO.out _).mono ?_
    rintro e w1 ⟨rfl, rfl⟩
    go_wp2
    go_ret
    exact ⟨30, m, F, rfl, HT.out _, HB.out _, .inl ⟨H1.out, rfl, rfl⟩⟩
  · rw [in_false hk] at HO
    have c2 := fun o => (h' o).nil hm
    have HL := hide (fun o => layR_any _ F B m (HT.out o) k hm c)
    have HM := hide hm
    clear h h' hm
    generalize hn : m.length = n at *
    clear hn
    simp only [Rc.val] at HL
    go_enter Tryz.func97, Tryz.ntmps97
    go_wp2_with fail
    refine (HO.out _).mono ?_
    rintro e w1 ⟨rfl, rfl⟩
    go_wp2_with fail
    refine (HL.out _).mono ?_
    rintro e w2 ⟨rfl, F', hT, hE⟩
    have HT1 := hide hT
    have HE1 := hide hE
    clear hT hE
    go_wp2
    go_ret
    exact ⟨0, _, F', rfl, HT1.out, (HB.out _).trans HE1.out, .inr (.inr ⟨k, rfl, HM.out, rfl, rfl⟩)⟩
  · rw [in_false hk] at HO
    obtain ⟨q, hq1, _, _, _⟩ := h.ptr hm
    have c2 := fun o => ((h' o).place hq1).1
    have HM := hide hm
    clear h h' hm hq1
    simp only [ptr] at c2
    generalize hn : m.length = n at *
    clear hn
    go_enter Tryz.func97, Tryz.ntmps97
    go_wp2_with fail
    refine (HO.out _).mono ?_
    rintro e w1 ⟨rfl, rfl⟩
    go_wp2
    go_ret
    exact ⟨31, m, F, rfl, HT.out _, HB.out _, .inr (.inl ⟨k, x, rfl, HM.out, rfl, rfl⟩)⟩
set_option maxHeartbeats 1600000 in
theorem setR_some (w : World) (F : Nat → Prop) (B : Nat) (m : List (Option Rc)) (h : Tab KR w F B m) (k : Nat) (x y : Rc) (hm : m[k]? = some (some x)) :
    Calls Tryz.prog 95 #[.pointer (some ⟨B, 0, none⟩), .int .i64 k, y.val] w fun e w' => e = .returned (.bool true) ∧ Tab KR w' F B (m.set k (some y)) ∧ Ext F w F w' := by
  have HT := hide (fun o => h.below ((Below.refl w.heap.size w).alloc (Nat.le_refl _) o))
  have HO := hide (fun o => holdsR_any _ F B m (HT.out o) k)
  have hl : look m (k : Int) = some x := by rw [look_nat, hm]; rfl
  rw [hl] at HO
  obtain ⟨p, ps, h⟩ := h
  have h' := fun o => h.keep (w' := w.alloc o) (by simp) (fun b hb => Below.heap_alloc _ _ _ (h.lt b hb))
  have hk : k < m.length := (List.getElem?_eq_some_iff.1 hm).1
  have c0 := fun o => (h' o).cells.1
  obtain ⟨q, hq1, c2, hq3, hq4⟩ := h.ptr hm
  have hqs := h.lt q hq4
  have c1 := fun o => ((h' o).place hq1).1
  simp only [ptr] at c1
  have hq := hq3
  simp only [KR] at hq
  obtain ⟨d0, d1, d2, d3, d4, d5, f0, f1, f2, f3, f4, f5⟩ := blk6 hq
  have HC := hide (h.chg hm hq1 y (w' := (((((w.setCell ⟨q, 0, none⟩ (.int .i64 y.k)).setCell ⟨q, 1, none⟩ (.int .i64 y.o)).setCell ⟨q, 2, none⟩ (.int .i64 y.s)).setCell ⟨q, 3, none⟩ (.int .i64 y.r)).setCell ⟨q, 4, none⟩ (.int .i64 y.e)).setCell ⟨q, 5, none⟩ (.int .i64 y.t)) (by simp [World.setCell]) (set6 hq _ _ _ _ _ _) (fun b _ hb => set6_other _ _ _ _ _ _ hb))
  have HM := hide (fun a0 a1 a2 a3 a4 a5 => ((((((Mod.refl F w).setCell (p := ⟨q, 0, none⟩) (.inl hq4) a0).setCell (p := ⟨q, 1, none⟩) (.inl hq4) a1).setCell (p := ⟨q, 2, none⟩) (.inl hq4) a2).setCell (p := ⟨q, 3, none⟩) (.inl hq4) a3).setCell (p := ⟨q, 4, none⟩) (.inl hq4) a4).setCell (p := ⟨q, 5, none⟩) (.inl hq4) a5)
  have hne : q ≠ w.heap.size := by omega
  clear h hm hq hq1 hq3 hq4 h' c2 hl
  generalize m.length = n at *
  simp only [Rc.val, Option.isSome_some] at *
  go_enter Tryz.func95, Tryz.ntmps95
  go_wp2_with fail
  refine (HO.out _).mono ?_
  rintro e w1 ⟨rfl, rfl⟩
  go_wp2_with fail
  go_region
  go_wp2
  go_ret
  exact ⟨rfl, Tab.below ⟨_, _, HC.out⟩ ((Below.refl _ _).alloc (Nat.le_refl _) _).drew, ((HM.out _ _ _ _ _ _).alloc _).drew, fun b hb => .inl hb⟩
end Go.Proofs.YteacmcdmdeckmaaGreat
