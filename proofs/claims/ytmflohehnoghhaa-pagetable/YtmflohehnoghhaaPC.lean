import Derived.Test.YtmflohehnoghhaaPB
namespace Go.Proofs.Ytmflohehnoghhaa
open Go.RowKit

set_option maxHeartbeats 1000000 in
theorem at_any (w : World) (va : Value) (L : List Mp) (base : Nat) (h : OwM w base va L) (hl : L.length ≤ 1000) (v : Int) :
    Calls Try.prog 30 #[va, .int .i64 v] w fun e w' => w' = w ∧ ((∃ (i : Nat) (z : Mp), L[i]? = some z ∧ z.v = v ∧ e = .returned (.int .i64 (i : Int))) ∨ ((∀ z ∈ L, z.v ≠ v) ∧ e = .returned (.int .i64 (-1)))) := by
  obtain ⟨ao, cap, rfl⟩ := h.len
  obtain ⟨n, hn⟩ : ∃ n, L.length = n := ⟨_, rfl⟩
  rw [hn] at h hl ⊢
  have HN := hide hn
  have HO := hide h
  clear hn h
  go_enter Try.func30, Try.ntmps30
  go_wp2_with fail
  go_loopw [5] (fun x wr => ∃ k : Nat, k ≤ n ∧ x = .int .i64 (k : Int) ∧ Hid (wr = w) ∧ Hid (∀ j z, j < k → L[j]? = some z → z.v ≠ v)) (fun x _ => n - (intOf x).toNat)
  case atStart => exact ⟨0, by omega, rfl, hide rfl, hide fun j z hj => by omega⟩
  case round =>
  obtain ⟨k, hk, rfl, K0, K1⟩ := hrel
  have hw0 : wr = w := K0.out
  subst hw0
  clear K0
  by_cases hlt : k < n
  · have hd : decide (k < n) = true := by simp; omega
    have hki : (k : Int) < (n : Int) := by omega
    obtain ⟨g, cp, hv, -, -, -⟩ := HO.out.some_of (by rw [HN.out]; omega)
    rw [HN.out] at hv
    cases hv
    obtain ⟨z, hz⟩ : ∃ z, L[k]? = some z := ⟨_, List.getElem?_eq_getElem (by rw [HN.out]; exact hlt)⟩
    obtain ⟨c0, c1, c2⟩ := HO.out.cell hz
    by_cases e : z.v = v
    · have hb : (z.v == v) = true := by simp [e]
      have HR := hide (And.intro hz e)
      clear hz
      go_wp2
      go_ret
      exact ⟨rfl, .inl ⟨k, z, HR.out.1, HR.out.2, rfl⟩⟩
    · have hb : (z.v == v) = false := by simp [e]
      have K2 : Hid (∀ j z, j < k + 1 → L[j]? = some z → z.v ≠ v) := hide fun j y hj hy => by
        by_cases e2 : j = k
        · subst e2; rw [hz] at hy; cases hy; exact e
        · exact K1.out j y (by omega) hy
      clear hz K1
      go_wp2
      go_roundw
      case rel =>
        first
          | exact ⟨k + 1, by omega, by go_num, hide rfl, K2⟩
          | exact ⟨k + 1, by omega, by go_num, hide trivial, K2⟩
          | ((repeat apply Exists.intro); refine ⟨?_, rfl⟩; exact ⟨k + 1, by omega, by go_num, hide rfl, K2⟩)
      case measure => simp [intOf]; omega
  · obtain rfl : k = n := by omega
    have HF : Hid (∀ z ∈ L, z.v ≠ v) := hide fun z hz => by
      obtain ⟨j, hj⟩ := List.mem_iff_getElem?.1 hz
      exact K1.out j z (by have := (List.getElem?_eq_some_iff.1 hj).1; have := HN.out; omega) hj
    clear K1
    go_wp2
    go_ret
    exact ⟨rfl, .inr ⟨HF.out, rfl⟩⟩
theorem at_hit {w : World} {va : Value} {L : List Mp} {base : Nat} (h : OwM w base va L) (hl : L.length ≤ 1000) (hne : L.Pairwise fun a b => a.v ≠ b.v) {i : Nat} {z : Mp} (hi : L[i]? = some z) {v : Int} (hz : z.v = v) :
    Calls Try.prog 30 #[va, .int .i64 v] w fun e w' => e = .returned (.int .i64 (i : Int)) ∧ w' = w := by
  refine (at_any w va L base h hl v).mono ?_
  rintro e w' ⟨rfl, ⟨j, y, h1, h2, rfl⟩ | ⟨h1, _⟩⟩
  · rw [ne_at hne h1 hi (by rw [h2, hz])]; exact ⟨rfl, rfl⟩
  · exact (h1 z (List.mem_of_getElem? hi) hz).elim
theorem at_miss {w : World} {va : Value} {L : List Mp} {base : Nat} (h : OwM w base va L) (hl : L.length ≤ 1000) {v : Int} (hn : ∀ z ∈ L, z.v ≠ v) :
    Calls Try.prog 30 #[va, .int .i64 v] w fun e w' => e = .returned (.int .i64 (-1)) ∧ w' = w := by
  refine (at_any w va L base h hl v).mono ?_
  rintro e w' ⟨rfl, ⟨j, y, h1, h2, rfl⟩ | ⟨h1, rfl⟩⟩
  · exact (hn y (List.mem_of_getElem? h1) h2).elim
  · exact ⟨rfl, rfl⟩
theorem OwM.isMaps {w : World} {base g cap n : Nat} {L : List Mp} (h : OwM w base (.slice (some ⟨g, 0, none⟩) n cap) L) {k : Nat} {z : Mp} (hk : L[k]? = some z) : ∀ (j : Nat) (v : Value), [.int .i64 z.v, .int .i64 z.s, .bool z.b][j]? = some v → w.cell? ((⟨g, k * 3, none⟩ : Addr).add j) = some v := by
  intro j v hv
  obtain ⟨c0, c1, c2⟩ := h.cell hk
  rw [show (⟨g, k * 3, none⟩ : Addr).add j = ⟨g, k * 3 + j, none⟩ from by unfold Addr.add; split <;> simp_all]
  match j, hv with
  | 0, hv => cases hv; exact c0
  | 1, hv => cases hv; exact c1
  | 2, hv => cases hv; exact c2
  | j + 3, hv => simp at hv
theorem erase_step {L : List Mp} {i k : Nat} (hk : k < L.length) : (L.take (k + 1)).eraseIdx i = if k = i then (L.take k).eraseIdx i else (L.take k).eraseIdx i ++ [L[k]] := by
  rw [List.take_add_one, List.getElem?_eq_getElem hk]
  have hl : (L.take k).length = k := by rw [List.length_take]; omega
  split
  · rename_i e
    subst e
    rw [List.eraseIdx_append_of_length_le (by rw [hl]; exact Nat.le_refl _), hl, Nat.sub_self, List.eraseIdx_of_length_le (l := L.take k) (by rw [hl]; exact Nat.le_refl _)]
    simp
  · rename_i e
    rcases Nat.lt_or_ge i k with h1 | h1
    · rw [List.eraseIdx_append_of_lt_length (by rw [hl]; exact h1)]; rfl
    · rw [List.eraseIdx_append_of_length_le (by rw [hl]; exact h1), hl, List.eraseIdx_of_length_le (l := L.take k) (by rw [hl]; exact h1)]
      rw [List.eraseIdx_of_length_le (by simp; omega)]; rfl
set_option maxHeartbeats 2000000 in
theorem without_any (w : World) (va : Value) (L : List Mp) (base : Nat) (h : OwM w base va L) (hl : L.length ≤ 1000) (i : Nat) :
    Calls Try.prog 36 #[va, .int .i64 (i : Int)] w fun e w' => ∃ r, e = .returned r ∧ OwM w' w.heap.size r (L.eraseIdx i) ∧ Below w.heap.size w w' := by
  obtain ⟨i50, hi, hz0, hs, hby⟩ := info50'
  obtain ⟨ao, cap, rfl⟩ := h.len
  obtain ⟨n, hn⟩ : ∃ n, L.length = n := ⟨_, rfl⟩
  rw [hn] at h hl ⊢
  have HN := hide hn
  have HO := hide h
  clear hn h
  go_enter Try.func36, Try.ntmps36
  go_wp2_with fail
  go_loopw [6, 5] (fun x v wr => ∃ k : Nat, k ≤ n ∧ x = .int .i64 (k : Int) ∧ Hid (OwM wr w.heap.size v ((L.take k).eraseIdx i)) ∧ Hid (Below w.heap.size w wr)) (fun x _ _ => n - (intOf x).toNat)
  case atStart => exact ⟨0, by omega, rfl, hide (by simpa using OwM.nil w w.heap.size), Below.refl _ _⟩
  case round =>
  obtain ⟨k, hk, rfl, K1, K2⟩ := hrel
  by_cases hlt : k < n
  · have hd : decide (k < n) = true := by simp; omega
    have hki : (k : Int) < (n : Int) := by omega
    have hlt' : k < L.length := by rw [HN.out]; exact hlt
    obtain ⟨g, cp, hv, -, -, -⟩ := HO.out.some_of (by rw [HN.out]; omega)
    rw [HN.out] at hv
    cases hv
    have HS := hide (erase_step (i := i) hlt')
    have hLk : L[k]? = some L[k] := List.getElem?_eq_getElem hlt'
    generalize L[k] = z at *
    have hlen : ((L.take k).eraseIdx i).length ≤ 1000 := by
      refine Nat.le_trans (List.length_eraseIdx_le _ _) ?_
      rw [List.length_take]; omega
    by_cases e : k = i
    · have hb : ((k : Int) != (i : Int)) = false := by simp; omega
      have hb3 : (k : Int) = (i : Int) := by omega
      rw [if_pos e] at HS
      rw [← HS.out] at K1
      clear hLk HS e
      go_wp2
      go_roundw
      case rel =>
        first
          | exact ⟨k + 1, by omega, by go_num, K1, K2⟩
          | ((repeat apply Exists.intro); refine ⟨?_, rfl⟩; exact ⟨k + 1, by omega, by go_num, K1, K2⟩)
      case measure => simp [intOf]; omega
    · have hb : ((k : Int) != (i : Int)) = true := by simp; omega
      have hb3 : ¬ (k : Int) = (i : Int) := by omega
      rw [if_neg e] at HS
      generalize (L.take k).eraseIdx i = X at *
      obtain ⟨a2, c2, he⟩ := K1.out.len
      obtain ⟨t, ht⟩ : ∃ t, X.length = t := ⟨_, rfl⟩
      rw [ht] at he hlen
      subst he
      have HC := hide ((HO.out.below K2.out).isMaps hLk)
      have HO2 : Hid (wr.ownsRow w.heap.size 64 3 (.slice a2 t c2) t (mcs X)) := hide (by have := K1.out.out; rw [ht] at this; exact this)
      have HT := hide ht
      clear hLk ht K1
      go_wp2_with (first
        | refine load_st 64 _ Try.underlying64 rfl [.int .i64 z.v, .int .i64 z.s, .bool z.b] info50 rfl _ rfl ⟨g, k * 3, none⟩ rfl HC.out ?_
        | (at_builtin; refine wpList_append_own _ rfl _ _ 32 rfl w.heap.size 64 i50 (.agg #[.int .i64 0, .int .i64 0, .bool false]) 3 24 Try.underlying32 hi hz0 hs hby rfl (by decide) _ t (mcs X) rfl (HO2.out.alloc _) ⟨wr.heap.size, 0, none⟩ 1 1 z.cells rfl rfl ?c1 (cells_one _) ?c3 ?c4 ?c5 ?_))
      case c1 => exact cells_new wr z
      case c3 => unfold maxLen; omega
      case c4 => omega
      case c5 => simp; have := K2.out.size; omega
      intro r2 w3 hown hg _
      have H2 : Hid (OwM w3 w.heap.size r2 ((L.take (k + 1)).eraseIdx i)) := hide ⟨by rw [HS.out, List.length_append, HT.out, mcs_snoc]; exact hown⟩
      have HB2 := hide (below_own K2.out HO2.out hg K2.out.size)
      clear hown hg
      go_wp2
      go_roundw
      case rel =>
        first
          | exact ⟨k + 1, by omega, by go_num, H2, HB2⟩
          | ((repeat apply Exists.intro); refine ⟨?_, rfl⟩; exact ⟨k + 1, by omega, by go_num, H2, HB2⟩)
      case measure => simp [intOf]; omega
  · obtain rfl : k = n := by omega
    rw [List.take_of_length_le (by rw [HN.out]; exact Nat.le_refl _)] at K1
    go_wp2
    go_ret
    exact ⟨_, rfl, K1.out, K2.out⟩
end Go.Proofs.Ytmflohehnoghhaa
