import Derived.Test.YtogpgchfaalikaaR5
namespace Go.Proofs.Ytogpgchfaalikaa
open Go.RowKit

/-- the list without its place i -/
def without (cl : List (Nat × Cl)) (i k : Nat) : List (Nat × Cl) := ((List.range k).filter (fun j => j != i)).filterMap (fun j => cl[j]?)
theorem without_0 (cl : List (Nat × Cl)) (i : Nat) : without cl i 0 = [] := rfl
theorem without_skip (cl : List (Nat × Cl)) (i : Nat) : without cl i (i + 1) = without cl i i := by
  unfold without; rw [List.range_succ, List.filter_append]; simp
theorem without_next {cl : List (Nat × Cl)} {i k : Nat} {c : Nat × Cl} (hk : k ≠ i) (hc : cl[k]? = some c) : without cl i (k + 1) = without cl i k ++ [c] := by
  unfold without; rw [List.range_succ, List.filter_append, List.filterMap_append]; simp [hk, hc]
theorem without_len (cl : List (Nat × Cl)) (i k : Nat) : (without cl i k).length ≤ k := by
  unfold without
  refine Nat.le_trans (List.length_filterMap_le _ _) (Nat.le_trans (List.length_filter_le _ _) (by simp))
/-- where an entry of the rest came from -/
theorem without_mem {cl : List (Nat × Cl)} {i k : Nat} {c : Nat × Cl} : c ∈ without cl i k ↔ ∃ j, j < k ∧ j ≠ i ∧ cl[j]? = some c := by
  unfold without
  rw [List.mem_filterMap]
  constructor
  · rintro ⟨j, hj, hc⟩
    rw [List.mem_filter] at hj
    exact ⟨j, by simpa using hj.1, by simpa using hj.2, hc⟩
  · rintro ⟨j, h1, h2, hc⟩
    exact ⟨j, List.mem_filter.2 ⟨by simpa using h1, by simpa using h2⟩, hc⟩
theorem without_one {cl : List (Nat × Cl)} (h1 : ∀ (a b n : Nat) (c d : Cl), cl[a]? = some (n, c) → cl[b]? = some (n, d) → a = b) (i : Nat) : ∀ (k : Nat), k ≤ cl.length → ∀ (a b n : Nat) (c d : Cl), (without cl i k)[a]? = some (n, c) → (without cl i k)[b]? = some (n, d) → a = b
  | 0, _ => fun a b n c d ha => by simp [without_0] at ha
  | k + 1, hk => by
    by_cases e : k = i
    · subst e; rw [without_skip]; exact without_one h1 k k (by omega)
    · obtain ⟨x, hx⟩ : ∃ x, cl[k]? = some x := ⟨_, List.getElem?_eq_getElem (by omega)⟩
      rw [without_next e hx]
      have ih := without_one h1 i k (by omega)
      have old : ∀ (a n : Nat) (c : Cl), (without cl i k)[a]? = some (n, c) → n ≠ x.1 := by
        intro a n c ha en
        obtain ⟨j, q1, q2, q3⟩ := without_mem.1 (List.mem_of_getElem? ha)
        subst en
        have := h1 j k x.1 c x.2 q3 hx
        omega
      intro a b n c d ha hb
      by_cases hA : a < (without cl i k).length <;> by_cases hB : b < (without cl i k).length
      · rw [List.getElem?_append_left hA] at ha
        rw [List.getElem?_append_left hB] at hb
        exact ih a b n c d ha hb
      · rw [List.getElem?_append_left hA] at ha
        have hbl := (List.getElem?_eq_some_iff.1 hb).1
        simp at hbl
        obtain rfl : b = (without cl i k).length := by omega
        simp at hb
        exact absurd (by rw [hb]) (old a n c ha)
      · rw [List.getElem?_append_left hB] at hb
        have hal := (List.getElem?_eq_some_iff.1 ha).1
        simp at hal
        obtain rfl : a = (without cl i k).length := by omega
        simp at ha
        exact absurd (by rw [ha]) (old b n d hb)
      · have hal := (List.getElem?_eq_some_iff.1 ha).1
        have hbl := (List.getElem?_eq_some_iff.1 hb).1
        simp at hal hbl
        omega
theorem Rel.cut {cl : List (Nat × Cl)} {C : Nat → Cl} (h : Rel cl C) {i n : Nat} (hi : cl[i]? = some (n, C n)) : Rel (without cl i cl.length) (put C n Cl.zero) := by
  have back : ∀ (a k : Nat) (c : Cl), (without cl i cl.length)[a]? = some (k, c) → ∃ j, j ≠ i ∧ cl[j]? = some (k, c) := fun a k c ha => by
    obtain ⟨j, _, q2, q3⟩ := without_mem.1 (List.mem_of_getElem? ha); exact ⟨j, q2, q3⟩
  refine ⟨fun a k c ha => ?_, fun k hk h0 => ?_, fun a b k c d => without_one h.one i cl.length (Nat.le_refl _) a b k c d⟩
  · obtain ⟨j, q1, q2⟩ := back a k c ha
    obtain ⟨p1, p2, p3⟩ := h.is j k c q2
    have hkn : k ≠ n := fun e => by subst e; exact q1 (h.one j i k _ _ q2 hi)
    exact ⟨p1, by rw [put_other _ _ hkn]; exact p2, p3⟩
  · by_cases e : k = n
    · subst e; rw [put_same] at h0; exact absurd h0 (by simp [Cl.zero])
    · rw [put_other _ _ e] at h0 ⊢
      obtain ⟨j, hj⟩ := h.has k hk h0
      have hji : j ≠ i := fun e' => by subst e'; rw [hi] at hj; cases hj; exact e rfl
      have hm : (k, C k) ∈ without cl i cl.length := without_mem.2 ⟨j, (List.getElem?_eq_some_iff.1 hj).1, hji, hj⟩
      exact List.getElem?_of_mem hm
end Go.Proofs.Ytogpgchfaalikaa
