import Derived.Test.YtimfgjndgfjjgaaYD
namespace Go.Proofs.Ytimfgjndgfjjgaa
open Go.RowKit Go.Shelf

theorem hl_mem {bk : List (Option Lst)} {n i j : Nat} {r : Rc} (hi : i < n) (h : atB bk (i : Int) (j : Int) = some r) : ((i : Int), (j, r)) ∈ hl bk n := by
  refine List.mem_flatMap.2 ⟨i, List.mem_range.2 hi, List.mem_map.2 ⟨(j, r), ?_, rfl⟩⟩
  obtain ⟨i', j', l, e1, e2, h1, h2, h3⟩ := atB_some h
  obtain rfl : i = i' := by omega
  obtain rfl : j = j' := by omega
  refine prs_mem.2 ?_
  have : lf bk i = l := by unfold lf; rw [look_nat, h1]; rfl
  rw [this]
  exact h2
/-- what is found at a place -/
theorem hl_find {bk : List (Option Lst)} {e s : Int} {r : Rc} (h16 : bk.length = 16) (h : atB bk e s = some r) : ∃ i j : Nat, e = i ∧ s = j ∧ (hl bk 16).find? (fnd e s) = some ((i : Int), (j, r)) := by
  obtain ⟨i, j, l, rfl, rfl, h1, h2, h3⟩ := atB_some h
  refine ⟨i, j, rfl, rfl, ?_⟩
  have hi : i < 16 := by rw [← h16]; exact (List.getElem?_eq_some_iff.1 h1).1
  have hm := hl_mem hi h
  cases hf : (hl bk 16).find? (fnd (i : Int) (j : Int)) with
  | none =>
    have := List.find?_eq_none.1 hf _ hm
    simp [fnd] at this
  | some y =>
    have hy := List.find?_some hf
    have hym := List.mem_of_find?_eq_some hf
    obtain ⟨i', _, e1, e2⟩ := mem_hl hym
    simp only [fnd, Bool.and_eq_true, decide_eq_true_eq] at hy
    obtain ⟨y1, y2, y3⟩ := y
    simp only at hy e1 e2
    obtain ⟨rfl, hy2⟩ := hy
    obtain rfl : y2 = j := by omega
    have : i' = i := by omega
    subst this
    rw [h] at e2
    cases e2
    rfl
/-- how many lie lower -/
def lowN (l : List (Int × (Nat × Rc))) (f : Int → Int → Nat) (n : Nat) : Nat := l.countP (fun y => decide (f y.1 (y.2.1 : Int) < n))
theorem lowN_lt {l : List (Int × (Nat × Rc))} {f : Int → Int → Nat} {n : Nat} {y : Int × (Nat × Rc)} (hy : y ∈ l) (h : f y.1 (y.2.1 : Int) < n) : lowN l f (f y.1 (y.2.1 : Int)) < lowN l f n := by
  unfold lowN
  induction l with
  | nil => cases hy
  | cons x t ih =>
    have hle : ∀ t : List (Int × (Nat × Rc)), t.countP (fun z => decide (f z.1 (z.2.1 : Int) < f y.1 (y.2.1 : Int))) ≤ t.countP (fun z => decide (f z.1 (z.2.1 : Int) < n)) := fun t => by
      refine List.countP_mono_left fun z _ hz => ?_
      simp only [decide_eq_true_eq] at hz ⊢
      omega
    rw [List.countP_cons, List.countP_cons]
    have h0 := hle t
    rcases List.mem_cons.1 hy with rfl | hy
    · simp [h]; omega
    · have := ih hy
      by_cases c1 : f x.1 (x.2.1 : Int) < f y.1 (y.2.1 : Int)
      · have c2 : f x.1 (x.2.1 : Int) < n := by omega
        simp [c1, c2]; omega
      · simp [c1]; omega
theorem lowN_len {l : List (Int × (Nat × Rc))} {f : Int → Int → Nat} {y : Int × (Nat × Rc)} (hy : y ∈ l) : lowN l f (f y.1 (y.2.1 : Int)) < l.length := by
  have h1 := lowN_lt (n := f y.1 (y.2.1 : Int) + 1) hy (Nat.lt_succ_self _)
  have h2 : lowN l f (f y.1 (y.2.1 : Int) + 1) ≤ l.length := List.countP_le_length
  omega
theorem par16 : ∀ a b : Fin 16, (bits .andNot .i64 (bits .or .i64 (a.val : Int) 4) (b.val : Int) == 0) = true → bits .and .i64 (b.val : Int) 4 ≠ 0 ∧ bits .and .i64 (a.val : Int) (b.val : Int) = (a.val : Int) := by decide
theorem par_bits {p q : Rc} (hp : Rt p) (hq : Rt q) (h : okR q.r p = true) : bits .and .i64 p.r 4 ≠ 0 ∧ bits .and .i64 q.r p.r = q.r := by
  have h1 := par16 ⟨q.r.toNat, by have := hq.1; have := hq.2; omega⟩ ⟨p.r.toNat, by have := hp.1; have := hp.2; omega⟩
  have e2 : ((q.r.toNat : Nat) : Int) = q.r := by have := hq.1; omega
  have e3 : ((p.r.toNat : Nat) : Int) = p.r := by have := hp.1; omega
  simp only [e2, e3] at h1
  exact h1 h
end Go.Proofs.Ytimfgjndgfjjgaa
