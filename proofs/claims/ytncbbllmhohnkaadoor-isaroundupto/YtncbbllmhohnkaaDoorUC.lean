import Derived.Test.YtncbbllmhohnkaaDoorUB
namespace Go.Proofs.YtncbbllmhohnkaaDoor
open Go.RowKit
theorem cut_at (ms : Tx) : ∀ (s : Tx) (k : Nat) (hk : k < s.length), (∀ j (hj : j < k), ms.contains s[j] = false) → ms.contains s[k] = true → cutT ms s = some (s.take k, s.drop (k + 1))
  | [], k, hk, _, _ => by simp at hk
  | c :: r, 0, _, _, h => by
    simp only [List.getElem_cons_zero] at h
    simp only [cutT, h, if_true, List.take_zero, List.drop_succ_cons, List.drop_zero]
  | c :: r, k + 1, hk, h0, h => by
    have hc := h0 0 (Nat.succ_pos k)
    simp only [List.getElem_cons_zero] at hc
    have ih := cut_at ms r k (by simpa using hk) (fun j hj => by simpa using h0 (j + 1) (by omega)) (by simpa using h)
    simp only [cutT, hc, ih, Bool.false_eq_true, if_false, Option.map_some, List.take_succ_cons, List.drop_succ_cons]
theorem cut_none (ms : Tx) : ∀ (s : Tx), (∀ j (hj : j < s.length), ms.contains s[j] = false) → cutT ms s = none
  | [], _ => rfl
  | c :: r, h => by
    have hc := h 0 (by simp)
    simp only [List.getElem_cons_zero] at hc
    have ih := cut_none ms r (fun j hj => h (j + 1) (Nat.succ_lt_succ hj))
    simp only [cutT, hc, ih, Bool.false_eq_true, if_false, Option.map_none]
theorem split_ne (m : UInt8) (s : Tx) : splitT m s ≠ [] := by
  cases s with
  | nil => simp [splitT]
  | cons c r =>
    simp only [splitT]
    split
    · simp
    · split <;> simp
/-- pieces so far, then one that is open -/
theorem split_mark (m : UInt8) : ∀ (a b : Tx), (∀ x ∈ a, (x == m) = false) → splitT m (a ++ m :: b) = a :: splitT m b
  | [], b, _ => by simp [splitT]
  | c :: r, b, h => by
    have hc := h c (by simp)
    have ih := split_mark m r b (fun x hx => h x (by simp [hx]))
    simp only [List.cons_append, splitT, hc, Bool.false_eq_true, if_false, ih]
theorem split_end (m : UInt8) : ∀ (a : Tx), (∀ x ∈ a, (x == m) = false) → splitT m a = [a]
  | [], _ => rfl
  | c :: r, h => by
    have hc := h c (by simp)
    have ih := split_end m r (fun x hx => h x (by simp [hx]))
    simp only [splitT, hc, Bool.false_eq_true, if_false, ih]
theorem lbl_iff (s : Tx) : isLbl s = true ↔ s ≠ [] ∧ ∀ j (hj : j < s.length), isLet s[j] = true ∨ (j ≠ 0 ∧ isDig s[j] = true) := by
  cases s with
  | nil => simp [isLbl]
  | cons c r =>
    simp only [isLbl, Bool.and_eq_true, List.all_eq_true, Bool.or_eq_true]
    constructor
    · rintro ⟨h1, h2⟩
      refine ⟨by simp, fun j hj => ?_⟩
      cases j with
      | zero => exact .inl h1
      | succ j =>
        simp only [List.getElem_cons_succ]
        rcases h2 _ (List.getElem_mem (by simpa using hj)) with h | h
        · exact .inl h
        · exact .inr ⟨by omega, h⟩
    · rintro ⟨_, h⟩
      refine ⟨?_, fun x hx => ?_⟩
      · rcases h 0 (by simp) with h | h
        · exact h
        · exact absurd rfl h.1
      · obtain ⟨j, hj, rfl⟩ := List.getElem_of_mem hx
        rcases h (j + 1) (by simpa using hj) with h | h
        · exact .inl (by simpa using h)
        · exact .inr (by simpa using h.2)
theorem digV_le (c : UInt8) : digV c ≤ 16 := by
  unfold digV isDig
  split
  · next h => simp at h; omega
  · split <;> omega
theorem numF_take (b : Nat) : ∀ (s : Tx) (n j : Nat) (m : Nat), numF b n (s.take j) = some m → numF b n s = numF b m (s.drop j)
  | [], n, j, m, h => by simp [numF] at h ⊢; subst h; simp
  | c :: r, n, 0, m, h => by simp [numF] at h; subst h; simp
  | c :: r, n, j + 1, m, h => by
    simp only [List.take_succ_cons, numF] at h
    split at h
    · next hd =>
      simp only [numF, hd, if_true, List.drop_succ_cons]
      exact numF_take b r _ j m h
    · simp at h
theorem numF_snoc (b : Nat) (c : UInt8) : ∀ (s : Tx) (n : Nat), numF b n (s ++ [c]) = (numF b n s).bind fun m => if digV c < b then some (m * b + digV c) else none
  | [], n => by simp [numF]
  | x :: r, n => by
    simp only [List.cons_append, numF]
    split
    · exact numF_snoc b c r _
    · rfl
theorem numF_step {b m pos : Nat} {D : Tx} (hp : pos < D.length) (h : numF b 0 (D.take pos) = some m) (hd : digV D[pos] < b) : numF b 0 (D.take (pos + 1)) = some (m * b + digV D[pos]) := by
  rw [List.take_succ_eq_append_getElem hp, numF_snoc, h]
  simp [hd]
theorem numF_none {b m pos : Nat} {D : Tx} (hp : pos < D.length) (h : numF b 0 (D.take pos) = some m) (hd : ¬ digV D[pos] < b) : numF b 0 D = none := by
  rw [numF_take b D 0 pos m h, List.drop_eq_getElem_cons hp]
  simp [numF, hd]
/-- a number of so many digits -/
theorem numF_lt (b : Nat) (hb : 2 ≤ b) : ∀ (s : Tx) (n m k : Nat), n < b ^ k → numF b n s = some m → m < b ^ (k + s.length)
  | [], n, m, k, h, e => by simp [numF] at e; subst e; simpa using h
  | c :: r, n, m, k, h, e => by
    simp only [numF] at e
    split at e
    · next hd =>
      have h1 : n * b + digV c < b ^ (k + 1) := by
        have : (n + 1) * b ≤ b ^ k * b := Nat.mul_le_mul_right b h
        rw [Nat.pow_succ]
        rw [Nat.add_mul] at this
        omega
      have := numF_lt b hb r _ m (k + 1) h1 e
      rw [List.length_cons, show k + (r.length + 1) = k + 1 + r.length by omega]
      exact this
    · simp at e
end Go.Proofs.YtncbbllmhohnkaaDoor
