import Derived.Test.YtimfgjndgfjjgaaXG
import Derived.Laws.AppendOwnNone
namespace Go.Proofs.Ytimfgjndgfjjgaa
open Go.RowKit Go.Shelf

/-- what the lists below k hold -/
def hl (bk : List (Option Lst)) (k : Nat) : List (Int × (Nat × Rc)) := (List.range k).flatMap (fun i => (prs (lf bk i) 0).map (fun x => ((i : Int), x)))
def encA (l : List (Int × (Nat × Rc))) : List Value := l.flatMap (fun y => encH y.1 y.2)
theorem hl_succ (bk : List (Option Lst)) (k : Nat) : hl bk (k + 1) = hl bk k ++ (prs (lf bk k) 0).map (fun x => ((k : Int), x)) := by simp [hl, List.range_succ]
theorem encA_add (l : List (Int × (Nat × Rc))) (i : Int) (m : List (Nat × Rc)) : encA (l ++ m.map (fun x => (i, x))) = encA l ++ encHs i m := by
  simp [encA, encHs, List.flatMap_map]
theorem lf_len {w : World} {F : Nat → Prop} {B : Nat} {bk : List (Option Lst)} (h : Book w F B bk) (i : Nat) : (prs (lf bk i) 0).length ≤ 48 := by
  rw [prs_len]
  refine Nat.le_trans count_le ?_
  unfold lf
  cases hl : look bk (i : Int) with
  | none => simp
  | some l =>
    obtain ⟨j, e, hj⟩ := look_open hl
    obtain rfl : i = j := by omega
    exact Nat.le_of_eq (h.l48 hj)
theorem hl_len {w : World} {F : Nat → Prop} {B : Nat} {bk : List (Option Lst)} (h : Book w F B bk) (k : Nat) : (hl bk k).length ≤ k * 48 := by
  induction k with
  | zero => simp [hl]
  | succ k ih => rw [hl_succ, List.length_append, List.length_map]; have := lf_len h k; omega
theorem list_all (w : World) (F : Nat → Prop) (B : Nat) (bk : List (Option Lst)) (h : Book w F B bk) (i : Nat) :
    Calls Try.prog 22 #[.pointer (some ⟨B, 0, none⟩), .int .i64 (i : Int)] w fun e W' => ∃ v c, e = .returned (.tuple #[v, .int .i64 c]) ∧ W'.ownsRow w.heap.size 54 6 v (prs (lf bk i) 0).length (encHs (i : Int) (prs (lf bk i) 0)) ∧ Below w.heap.size w W' := by
  cases hl : look bk (i : Int) with
  | none =>
    refine (list_none w F B bk h i hl).mono ?_
    rintro e w' ⟨rfl, hb⟩
    have e0 : lf bk i = [] := by unfold lf; rw [hl]; rfl
    exact ⟨_, _, rfl, by rw [e0]; exact ⟨rfl, .inl ⟨rfl, rfl⟩⟩, hb⟩
  | some l =>
    obtain ⟨j, e, hj⟩ := look_open hl
    obtain rfl : i = j := by omega
    have e0 : lf bk i = l := by unfold lf; rw [hl]; rfl
    rw [e0]
    obtain ⟨T, G, m, fs, h⟩ := h
    refine ((callsIn_wide (n := 3)).1 (list_in 3 (Nat.le_refl _) F B T G m fs bk w h i l hj)).mono ?_
    rintro e w' ⟨v, rfl, h1, h2⟩
    exact ⟨v, 0, rfl, h1, h2⟩
end Go.Proofs.Ytimfgjndgfjjgaa
