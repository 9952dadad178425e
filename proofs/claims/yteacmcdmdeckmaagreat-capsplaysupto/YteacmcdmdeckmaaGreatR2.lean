import Derived.Test.YteacmcdmdeckmaaGreatR1
namespace Go.Proofs.YteacmcdmdeckmaaGreat
open Go.RowKit

/-- a record with another parent -/
def rq (e t : Int) (r : Rc) : Rc := { r with e := e, t := t }
theorem rq_rq (e t : Int) (r : Rc) : rq e t (rq e t r) = rq e t r := rfl
/-- behind k of the children -/
def RelK (ps : List (Nat × Nat)) (e t : Int) (k : Nat) (bk bk' : List (Option Lst)) : Prop :=
  Shape bk bk' ∧ ∀ a b : Nat, atB bk' (a : Int) (b : Int) = if (a, b) ∈ ps.take k then (atB bk (a : Int) (b : Int)).map (rq e t) else atB bk (a : Int) (b : Int)
theorem mem_pls {P : Rc → Bool} {bk : List (Option Lst)} {a b : Nat} : (a, b) ∈ pls P bk ↔ ∃ r, atB bk (a : Int) (b : Int) = some r ∧ P r = true := by
  unfold pls plsI one fit
  simp only [List.mem_flatMap, List.mem_map, List.mem_filter, idx]
  constructor
  · rintro ⟨i, ⟨⟨i', l⟩, h1, rfl⟩, ⟨s, ⟨⟨s', r⟩, ⟨h2, h3⟩, rfl⟩, h4⟩⟩
    cases h4
    have h5 := prs_mem.1 h1
    have hlf : lf bk i' = l := by unfold lf; rw [look_nat, h5]; rfl
    dsimp only at h2
    rw [hlf] at h2
    have h6 := prs_mem.1 h2
    exact ⟨r, by rw [atN_eq h5, h6]; rfl, h3⟩
  · rintro ⟨r, h1, h2⟩
    obtain ⟨i, j, l, ei, ej, h3, h4, h5⟩ := atB_some h1
    obtain rfl : a = i := by omega
    obtain rfl : b = j := by omega
    exact ⟨a, ⟨(a, l), prs_mem.2 h3, rfl⟩, b, ⟨(b, r), ⟨by rw [h5]; exact prs_mem.2 h4, h2⟩, rfl⟩, rfl⟩
theorem RelK.start (ps : List (Nat × Nat)) (e t : Int) (bk : List (Option Lst)) : RelK ps e t 0 bk bk := ⟨Shape.refl _, fun a b => by simp⟩
theorem RelK.held {ps : List (Nat × Nat)} {e t : Int} {k : Nat} {bk bk' : List (Option Lst)} (h : RelK ps e t k bk bk') {a b : Nat} {r : Rc} (hr : atB bk (a : Int) (b : Int) = some r) : ∃ r', atB bk' (a : Int) (b : Int) = some r' ∧ rq e t r' = rq e t r := by
  rw [h.2 a b, hr]
  split
  · exact ⟨_, rfl, rq_rq e t r⟩
  · exact ⟨_, rfl, rfl⟩
theorem RelK.next {ps : List (Nat × Nat)} {e t : Int} {k : Nat} {bk bk' : List (Option Lst)} (h : RelK ps e t k bk bk') (hk : k < ps.length) {r r' : Rc} (hr : atB bk ((ps[k].1 : Nat) : Int) ((ps[k].2 : Nat) : Int) = some r) (hr' : atB bk' ((ps[k].1 : Nat) : Int) ((ps[k].2 : Nat) : Int) = some r') (he : rq e t r' = rq e t r) :
    RelK ps e t (k + 1) bk (setAt bk' ps[k].1 ps[k].2 (some (rq e t r'))) := by
  obtain ⟨i, j, l, ei, ej, h3, h4, h5⟩ := atB_some hr'
  obtain rfl : ps[k].1 = i := by omega
  obtain rfl : ps[k].2 = j := by omega
  refine ⟨h.1.trans (shape_setAt h3), fun a b => ?_⟩
  rw [atB_setAt h3 (List.getElem?_eq_some_iff.1 h4).1, List.take_succ_eq_append_getElem hk]
  by_cases e1 : a = ps[k].1 ∧ b = ps[k].2
  · obtain ⟨rfl, rfl⟩ := e1
    rw [if_pos ⟨rfl, rfl⟩, if_pos (List.mem_append.2 (.inr (by simp))), hr, he]; rfl
  · rw [if_neg e1, h.2 a b]
    have : (a, b) ≠ ps[k] := fun e' => e1 ⟨by rw [← e'], by rw [← e']⟩
    simp only [List.mem_append, List.mem_singleton, this, or_false]
/-- what Drop leaves -/
def rp (i j : Nat) (r0 r : Rc) : Rc := if r.e = i ∧ r.t = j then rq r0.e r0.t r else r
def DropR (bk : List (Option Lst)) (i j : Nat) (r0 : Rc) (bk' : List (Option Lst)) : Prop :=
  Shape bk bk' ∧ ∀ a b : Nat, atB bk' (a : Int) (b : Int) = if a = i ∧ b = j then none else (atB bk (a : Int) (b : Int)).map (rp i j r0)
theorem RelK.done {bk bk' : List (Option Lst)} {i j : Nat} {r0 : Rc} (hr : atB bk (i : Int) (j : Int) = some r0) (h : RelK (pls (fun r => decide (r.e = (i : Int)) && decide (r.t = (j : Int))) (setAt bk i j none)) r0.e r0.t (pls (fun r => decide (r.e = (i : Int)) && decide (r.t = (j : Int))) (setAt bk i j none)).length (setAt bk i j none) bk') : DropR bk i j r0 bk' := by
  obtain ⟨i', j', l, ei, ej, h3, h4, h5⟩ := atB_some hr
  obtain rfl : i = i' := by omega
  obtain rfl : j = j' := by omega
  have hj := (List.getElem?_eq_some_iff.1 h4).1
  refine ⟨(shape_setAt h3).trans h.1, fun a b => ?_⟩
  rw [h.2 a b, List.take_length, atB_setAt h3 hj]
  by_cases e : a = i ∧ b = j
  · simp [e]
  · simp only [if_neg e]
    have hm := mem_pls (P := fun r => decide (r.e = (i : Int)) && decide (r.t = (j : Int))) (bk := setAt bk i j none) (a := a) (b := b)
    rw [atB_setAt h3 hj, if_neg e] at hm
    cases ha : atB bk (a : Int) (b : Int) with
    | none => simp
    | some r =>
      rw [ha] at hm
      by_cases e2 : r.e = (i : Int) ∧ r.t = (j : Int)
      · rw [if_pos (hm.2 ⟨r, rfl, by simp [e2]⟩)]; simp [rp, e2]
      · rw [if_neg (fun h8 => by obtain ⟨r', h6, h7⟩ := hm.1 h8; cases h6; simp at h7; exact e2 h7)]; simp [rp, e2]
theorem pls_le {w : World} {F : Nat → Prop} {B : Nat} {bk : List (Option Lst)} (h : Book w F B bk) (P : Rc → Bool) : (pls P bk).length ≤ 768 := by
  have h2 := len_flat (one P bk) 48 (idx bk) (fun x _ => one_le P bk x (fun l hl => h.l48 hl))
  have h3 := idx_le bk
  rw [h.blen] at h3
  unfold pls plsI
  omega
end Go.Proofs.YteacmcdmdeckmaaGreat
