import Derived.Test.YtmflohehnoghhaaPL
import Derived.Test.YtmflohehnoghhaaOP
namespace Go.Proofs.Ytmflohehnoghhaa
open Go.RowKit

theorem rest_any (w : World) (x : Int) : Calls Try.prog 7 #[.int .i64 x, .int .i64 3] w fun e w' => ∃ i : Nat, i < 3 ∧ e = .returned (.int .i64 (i : Int)) ∧ w' = w := by
  obtain ⟨y, hy⟩ : ∃ y, x.tmod 3 = y := ⟨_, rfl⟩
  have hy1 : -3 < y := by rw [← hy]; exact Int.lt_tmod_of_pos x (by omega)
  have hy2 : y < 3 := by rw [← hy]; exact Int.tmod_lt_of_pos x (by omega)
  have hw0 : IntKind.i64.wrap y = y := by rw [IntKind.wrap_i64]; omega
  by_cases h : y < 0
  · have d1 : decide (y < 0) = true := by simp; omega
    obtain ⟨i, hi⟩ : ∃ i : Nat, y + 3 = (i : Int) := ⟨(y + 3).toNat, by omega⟩
    have hw1 : IntKind.i64.wrap (y + 3) = (i : Int) := by rw [IntKind.wrap_i64]; omega
    go_enter Try.func7, Try.ntmps7
    go_wp2
    go_ret
    exact ⟨i, by omega, rfl, rfl⟩
  · have d1 : decide (y < 0) = false := by simp; omega
    obtain ⟨i, rfl⟩ : ∃ i : Nat, y = (i : Int) := ⟨y.toNat, by omega⟩
    go_enter Try.func7, Try.ntmps7
    go_wp2
    go_ret
    exact ⟨i, by omega, rfl, rfl⟩
set_option maxHeartbeats 1000000 in
theorem fixed_any (w : World) : Calls Try.prog 4 #[] w fun e w' => e = .returned (.bool true) ∧ Below w.heap.size w w' := by
  go_enter Try.func4, Try.ntmps4
  go_wp2_with fail
  refine (new_any w).mono ?_
  rintro e w1 ⟨rfl, h1, hb1⟩
  go_wp2_with fail
  refine (map_good w1 w.heap.size nil ((1 : Nat) : Int) ((5 : Nat) : Int) false h1 rfl).mono ?_
  rintro e w2 ⟨rfl, hg⟩
  have h2 : Tb w2 w.heap.size (upd nil 1 (some (5, false))) := hg.1
  have hb2 : Below w.heap.size w w2 := hb1.trans (hg.2.below (fun b hb => by omega) hb1.size)
  have hm : upd nil 1 (some (5, false)) (33 / 32) = some (5, false) := rfl
  have HT1 := hide (trans_ok w2 w.heap.size _ 33 false h2 (by omega) 5 false hm (fun h => h))
  clear h1 hg hb1
  go_wp2_with fail
  refine HT1.out.mono ?_
  rintro e w3 ⟨rfl, hb3⟩
  have HT2 := hide (trans_ro w3 w.heap.size _ 33 (h2.below hb3) (by omega) 5 hm)
  have hb4 := hb2.trans (hb3.mono hb2.size)
  clear hb3 hb2 h2 HT1
  go_wp2_with fail
  refine HT2.out.mono ?_
  rintro e w4 ⟨rfl, hb5⟩
  have HB := hide (hb4.trans (hb5.mono hb4.size))
  clear hb4 hb5 HT2
  go_wp2
  go_ret
  exact ⟨rfl, HB.out⟩
/-- the cells of three pairs, of which k are laid -/
def cellsT (k : Nat) (b r : Nat → Nat) : List Value := (List.range 3).flatMap (fun i => if i < k then [bp (b i), rp' (r i)] else [.pointer none, .pointer none])
def updN (f : Nat → Nat) (i x : Nat) : Nat → Nat := fun j => if j = i then x else f j
theorem cellsT_len (k : Nat) (b r : Nat → Nat) : (cellsT k b r).length = 6 := by
  unfold cellsT
  have : List.range 3 = [0, 1, 2] := rfl
  rw [this]
  simp only [List.flatMap_cons, List.flatMap_nil, List.length_append]
  split <;> split <;> split <;> rfl
theorem cellsT_get {k i : Nat} {b r : Nat → Nat} (hi : i < 3) (hk : i < k) : (cellsT k b r)[i * 2]? = some (bp (b i)) ∧ (cellsT k b r)[i * 2 + 1]? = some (rp' (r i)) := by
  unfold cellsT
  have : List.range 3 = [0, 1, 2] := rfl
  rw [this]
  simp only [List.flatMap_cons, List.flatMap_nil]
  match i, hi with
  | 0, _ => rw [if_pos hk]; exact ⟨rfl, rfl⟩
  | 1, _ => rw [if_pos (by omega), if_pos hk]; exact ⟨rfl, rfl⟩
  | 2, _ => rw [if_pos (by omega), if_pos (by omega), if_pos hk]; exact ⟨rfl, rfl⟩
theorem cellsT_set {k k' i : Nat} {b r : Nat → Nat} (hi : i < 3) (hk : i < k') (hkk : ∀ j, j < 3 → j ≠ i → (j < k ↔ j < k')) (B R : Nat) : (((cellsT k b r).toArray.setIfInBounds (i * 2) (bp B)).setIfInBounds (i * 2 + 1) (rp' R)) = (cellsT k' (updN b i B) (updN r i R)).toArray := by
  unfold cellsT
  have : List.range 3 = [0, 1, 2] := rfl
  rw [this]
  simp only [List.flatMap_cons, List.flatMap_nil]
  match i, hi with
  | 0, _ =>
    have e1 := hkk 1 (by omega) (by omega)
    have e2 := hkk 2 (by omega) (by omega)
    simp only [e1, e2, if_pos hk]
    by_cases c0 : 0 < k <;> by_cases c1 : 1 < k' <;> by_cases c2 : 2 < k' <;> simp [c0, c1, c2, updN]
  | 1, _ =>
    have e1 := hkk 0 (by omega) (by omega)
    have e2 := hkk 2 (by omega) (by omega)
    simp only [e1, e2, if_pos hk]
    by_cases c0 : 1 < k <;> by_cases c1 : 0 < k' <;> by_cases c2 : 2 < k' <;> simp [c0, c1, c2, updN]
  | 2, _ =>
    have e1 := hkk 0 (by omega) (by omega)
    have e2 := hkk 1 (by omega) (by omega)
    simp only [e1, e2, if_pos hk]
    by_cases c0 : 2 < k <;> by_cases c1 : 0 < k' <;> by_cases c2 : 1 < k' <;> simp [c0, c1, c2, updN]
/-- three pairs of tables, of which k are laid, beside the array that holds them -/
structure TriAt (w wr : World) (A k : Nat) (b r : Nat → Nat) (Hs : Nat → Nat → Prop) : Prop where
  arr : wr.heap[A]? = some (.cells (cellsT k b r).toArray 28 (0, 0))
  prs : ∀ i, i < k → PrA (b i) (r i) wr (Hs i)
  dis : ∀ i j, i < k → j < k → i ≠ j → ∀ x, Hs i x → ¬ Hs j x
  nA : ∀ i, i < k → ¬ Hs i A
  lo : ∀ i, i < k → ∀ x, Hs i x → w.heap.size ≤ x
  loA : w.heap.size ≤ A
  bel : Below w.heap.size w wr
def Tri (w wr : World) (A k : Nat) (b r : Nat → Nat) : Prop := ∃ Hs, TriAt w wr A k b r Hs
section
variable {w wr w' : World} {A k : Nat} {b r : Nat → Nat} {Hs : Nat → Nat → Prop}
theorem TriAt.below (h : TriAt w wr A k b r Hs) (hb : Below wr.heap.size wr w') : TriAt w w' A k b r Hs :=
  ⟨(hb.block A (Array.getElem?_eq_some_iff.1 h.arr).1).trans h.arr, fun i hi => (good_pr _ _).keep (h.prs i hi) hb.size (fun x hx => hb.block x ((good_pr _ _).lt (h.prs i hi) x hx)), h.dis, h.nA, h.lo, h.loA, h.bel.trans (hb.mono h.bel.size)⟩
theorem Tri.below (h : Tri w wr A k b r) (hb : Below wr.heap.size wr w') : Tri w w' A k b r := by obtain ⟨Hs, h⟩ := h; exact ⟨Hs, h.below hb⟩
theorem Tri.bel (h : Tri w wr A k b r) : Below w.heap.size w wr := by obtain ⟨Hs, h⟩ := h; exact h.bel
theorem TriAt.cells (h : TriAt w wr A k b r Hs) {i : Nat} (hi : i < 3) (hk : i < k) : wr.cell? ⟨A, i * 2, none⟩ = some (bp (b i)) ∧ wr.cell? ⟨A, i * 2 + 1, none⟩ = some (rp' (r i)) := by
  obtain ⟨h1, h2⟩ := cellsT_get (b := b) (r := r) hi hk
  exact ⟨by rw [cell_of_row _ _ _ _ _ _ h.arr]; simpa using h1, by rw [cell_of_row _ _ _ _ _ _ h.arr]; simpa using h2⟩
theorem TriAt.turn (h : TriAt w wr A k b r Hs) {i : Nat} (hi : i < k) {H' : Nat → Prop} (hP : PrA (b i) (r i) w' H') (hE : Ext (Hs i) wr H' w') : Tri w w' A k b r := by
  refine ⟨fun j => if j = i then H' else Hs j, ?_, fun j hj => ?_, fun j l hj hl hne x hx => ?_, fun j hj => ?_, fun j hj x hx => ?_, h.loA, ?_⟩
  · exact (hE.mod.block A (Array.getElem?_eq_some_iff.1 h.arr).1 (h.nA i hi)).trans h.arr
  · by_cases e : j = i
    · subst e; simp only [if_pos]; exact hP
    · simp only [if_neg e]
      exact (good_pr _ _).keep (h.prs j hj) hE.mod.size (fun x hx => hE.mod.block x ((good_pr _ _).lt (h.prs j hj) x hx) (h.dis j i hj hi e x hx))
  · by_cases e : j = i
    · by_cases e2 : l = i
      · omega
      · simp only [if_pos e] at hx
        simp only [if_neg e2]
        intro hl2
        rcases hE.new x hx with h1 | h1
        · exact h.dis i l hi hl (fun e3 => e2 e3.symm) x h1 hl2
        · have := (good_pr _ _).lt (h.prs l hl) x hl2; omega
    · simp only [if_neg e] at hx
      by_cases e2 : l = i
      · simp only [if_pos e2]
        intro hl2
        rcases hE.new x hl2 with h1 | h1
        · exact h.dis j i hj hi e x hx h1
        · have := (good_pr _ _).lt (h.prs j hj) x hx; omega
      · simp only [if_neg e2]; exact h.dis j l hj hl hne x hx
  · by_cases e : j = i
    · simp only [if_pos e]
      intro hA
      rcases hE.new A hA with h1 | h1
      · exact h.nA i hi h1
      · have := (Array.getElem?_eq_some_iff.1 h.arr).1; omega
    · simp only [if_neg e]; exact h.nA j hj
  · by_cases e : j = i
    · simp only [if_pos e] at hx
      rcases hE.new x hx with h1 | h1
      · exact h.lo i hi x h1
      · have := h.bel.size; omega
    · simp only [if_neg e] at hx; exact h.lo j hj x hx
  · exact h.bel.trans (hE.mod.below (h.lo i hi) h.bel.size)
/-- a new pair laid at a place -/
theorem TriAt.put (h : TriAt w wr A k b r Hs) {i k' : Nat} (hi3 : i < 3) (hik : i < k') (hkk : ∀ j, j < 3 → j ≠ i → (j < k ↔ j < k')) (hk3' : k' ≤ 3) {B R : Nat} {H' : Nat → Prop} (hb : Below wr.heap.size wr w') (hP : PrA B R w' H') (hl : ∀ x, H' x → wr.heap.size ≤ x) :
    Tri w ((w'.setCell ⟨A, i * 2, none⟩ (bp B)).setCell ⟨A, i * 2 + 1, none⟩ (rp' R)) A k' (updN b i B) (updN r i R) := by
  have h' := h.below hb
  have hAl := (Array.getElem?_eq_some_iff.1 h.arr).1
  have hoth : ∀ x, x ≠ A → ((w'.setCell ⟨A, i * 2, none⟩ (bp B)).setCell ⟨A, i * 2 + 1, none⟩ (rp' R)).heap[x]? = w'.heap[x]? := fun x hx => by rw [heap_setCell_other _ _ _ _ hx, heap_setCell_other _ _ _ _ hx]
  have hsz : w'.heap.size ≤ ((w'.setCell ⟨A, i * 2, none⟩ (bp B)).setCell ⟨A, i * 2 + 1, none⟩ (rp' R)).heap.size := by simp [World.setCell]
  have hjk : ∀ j, j < k' → j ≠ i → j < k := fun j hj hne => (hkk j (by omega) hne).2 hj
  refine ⟨fun j => if j = i then H' else Hs j, ?_, fun j hj => ?_, fun j l hj hl2 hne x hx => ?_, fun j hj => ?_, fun j hj x hx => ?_, h.loA, ?_⟩
  · rw [heap_setCell_same _ A (i * 2 + 1) _ _ _ (heap_setCell_same _ A (i * 2) _ _ _ h'.arr), cellsT_set hi3 hik hkk]
  · by_cases e : j = i
    · subst e
      simp only [if_pos, updN]
      refine (good_pr _ _).keep hP hsz (fun x hx => hoth x (fun e => ?_))
      have := hl x hx; omega
    · simp only [if_neg e, updN]
      exact (good_pr _ _).keep (h'.prs j (hjk j hj e)) hsz (fun x hx => hoth x (fun e2 => h'.nA j (hjk j hj e) (e2 ▸ hx)))
  · by_cases e : j = i
    · by_cases e2 : l = i
      · omega
      · simp only [if_pos e] at hx
        simp only [if_neg e2]
        intro hx2
        have := hl x hx
        have := (good_pr _ _).lt (h.prs l (hjk l hl2 e2)) x hx2
        omega
    · simp only [if_neg e] at hx
      by_cases e2 : l = i
      · simp only [if_pos e2]
        intro hx2
        have := hl x hx2
        have := (good_pr _ _).lt (h.prs j (hjk j hj e)) x hx
        omega
      · simp only [if_neg e2]; exact h.dis j l (hjk j hj e) (hjk l hl2 e2) hne x hx
  · by_cases e : j = i
    · simp only [if_pos e]
      intro hA
      have := hl A hA; omega
    · simp only [if_neg e]; exact h.nA j (hjk j hj e)
  · by_cases e : j = i
    · simp only [if_pos e] at hx
      have := hl x hx; have := h.bel.size; omega
    · simp only [if_neg e] at hx; exact h.lo j (hjk j hj e) x hx
  · exact (h'.bel.setCell (p := ⟨A, i * 2, none⟩) h.loA _).setCell (p := ⟨A, i * 2 + 1, none⟩) h.loA _
/-- two new tables are a pair -/
theorem pr_new {w w1 w2 : World} {B R : Nat} (h1 : Tb w1 B nil) (hB : w.heap.size ≤ B) (hb1 : Below w.heap.size w w1) (h2 : RtA R [] w2 (fun x => x = R)) (hR : R = w1.heap.size) (hb2 : Below w1.heap.size w1 w2) : PrA B R w2 (fun x => x = B ∨ x = R) ∧ (∀ x, (x = B ∨ x = R) → w.heap.size ≤ x) := by
  refine ⟨⟨nil, [], _, ⟨h1.below hb2, h2, Ag.zero⟩, fun _ => Iff.rfl, fun e => ?_⟩, ?_⟩
  · have := h1.lt; omega
  · have := hb1.size
    rintro x (rfl | rfl)
    · exact hB
    · omega
end
end Go.Proofs.Ytmflohehnoghhaa
