import Derived.Test.YtmflohehnoghhaaGF
namespace Go.Proofs.Ytmflohehnoghhaa
open Go.RowKit
/-- the first n of them -/
def fst (Z : Nat → Mp) (n : Nat) : List Mp := (List.range n).map Z
theorem fst_len (Z : Nat → Mp) (n : Nat) : (fst Z n).length = n := by simp [fst]
theorem fst_succ (Z : Nat → Mp) (n : Nat) : fst Z (n + 1) = fst Z n ++ [Z n] := by simp [fst, List.range_succ]
theorem fst_get (Z : Nat → Mp) {n k : Nat} (h : k < n) : (fst Z n).getD k Mp.nil = Z k := by simp [fst, h]
section
variable (w : World)
set_option maxRecDepth 100000 in
set_option maxHeartbeats 1600000 in
theorem own_any (a : Option Addr) (len cap : Nat) (Z : Nat → Mp) (hz : IsMaps w a len Z) (hl : len * 24 ≤ 140737488351232) :
    Calls Try.prog 26 #[.slice a len cap] w fun e w' => ∃ r, e = .returned r ∧ OwM w' w.heap.size r (fst Z len) ∧ Below w.heap.size w w' := by
  obtain ⟨i50, hi, hz0, hs, hby⟩ := info50'
  have H := hide hz
  clear hz
  go_enter Try.func26, Try.ntmps26
  go_upto_region 3 with fail
  go_loopw [4, 3] (fun i v wr => ∃ k : Nat, k ≤ len ∧ i = .int .i64 (k : Int) ∧ OwM wr w.heap.size v (fst Z k) ∧ Below w.heap.size w wr) (fun i _ _ => len - (intOf i).toNat)
  case atStart => exact ⟨0, by omega, rfl, OwM.nil _ _, Below.refl _ _⟩
  case round =>
    obtain ⟨k, hk, rfl, hO, hM⟩ := hrel
    by_cases hlt : k < len
    · have hd : decide (k < len) = true := by simp; omega
      obtain ⟨a2, c2, he⟩ := hO.len
      rw [fst_len] at he
      subst he
      obtain ⟨x, hx, hc⟩ := (H.out.below hM) k hlt
      subst hx
      have e0 : (Z k).cells = [.int .i64 (Z k).v, .int .i64 (Z k).s, .bool (Z k).b] := rfl
      rw [e0] at hc
      have HC := hide hc
      have HO2 : Hid (wr.ownsRow w.heap.size 64 3 (.slice a2 k c2) k (mcs (fst Z k))) := hide (by have := hO.out; rw [fst_len] at this; exact this)
      have HO := hide (And.intro hO hM)
      clear hc hO hM e0
      go_wp2_with (first
        | refine load_st 64 _ Try.underlying64 rfl [.int .i64 (Z k).v, .int .i64 (Z k).s, .bool (Z k).b] info50 rfl _ rfl (x.add (k * 3)) rfl HC.out ?_
        | (at_builtin; refine wpList_append_own _ rfl _ _ 32 rfl w.heap.size 64 i50 (.agg #[.int .i64 0, .int .i64 0, .bool false]) 3 24 Try.underlying32 hi hz0 hs hby rfl (by decide) _ k (mcs (fst Z k)) rfl (HO2.out.alloc _) ⟨wr.heap.size, 0, none⟩ 1 1 (Z k).cells rfl rfl ?c1 (cells_one _) ?c3 ?c4 ?c5 ?_))
      case c1 => exact cells_new wr (Z k)
      case c3 => unfold maxLen; omega
      case c4 => omega
      case c5 => simp; have := HO.out.2.size; omega
      intro r2 w3 hown hg _
      have H2 : Hid (OwM w3 w.heap.size r2 (fst Z (k + 1))) := hide ⟨by rw [fst_len, fst_succ, mcs_snoc]; exact hown⟩
      have HB2 := hide (below_own HO.out.2 HO2.out hg HO.out.2.size)
      clear hown hg
      go_wp2
      go_roundw
      case rel => exact ⟨k + 1, by omega, by go_num, H2.out, HB2.out⟩
      case measure => simp [intOf]; omega
    · obtain rfl : k = len := by omega
      have hd : decide (k < k) = false := by simp
      have HX := hide (And.intro hO hM)
      clear hO hM
      go_wp2
      go_ret
      exact ⟨_, rfl, HX.out⟩
end
/-- lists that begin alike -/
theorem lay_congr {Z Z' : Nat → Mp} {n : Nat} (h : ∀ k, k < n → Z k = Z' k) : lay Z n = lay Z' n := by
  induction n with
  | zero => rfl
  | succ n ih => simp only [lay, ih (fun k hk => h k (by omega)), h n (by omega)]
theorem lay_pre {Z : Nat → Mp} {n : Nat} {m : Nat → E} (h : lay Z n = .ok m) {k : Nat} (hk : k ≤ n) : ∃ m', lay Z k = .ok m' := by
  induction n generalizing m with
  | zero => obtain rfl : k = 0 := by omega
            exact ⟨m, h⟩
  | succ n ih =>
    by_cases e : k = n + 1
    · subst e; exact ⟨m, h⟩
    · unfold lay at h
      split at h
      · simp at h
      · rename_i m1 h1
        exact ih h1 (by omega)
theorem lay_step {Z : Nat → Mp} {n : Nat} {m : Nat → E} (h : lay Z (n + 1) = .ok m) : ∃ m', lay Z n = .ok m' ∧ code m' (Z n).v (Z n).s = 0 ∧ m = upd m' (Z n).v.toNat (some ((Z n).s.toNat, (Z n).b)) := by
  unfold lay at h
  split at h
  · simp at h
  · rename_i m1 h1
    split at h
    · rename_i h2
      simp at h
      exact ⟨m1, h1, h2, h.symm⟩
    · simp at h
theorem lay_none {Z : Nat → Mp} {n : Nat} {m : Nat → E} (h : lay Z n = .ok m) (v : Nat) : m v = none ↔ ∀ k, k < n → (Z k).v ≠ (v : Int) := by
  induction n generalizing m with
  | zero => simp [lay] at h; subst h; simp [nil]
  | succ n ih =>
    obtain ⟨m', h1, h2, rfl⟩ := lay_step h
    obtain ⟨q, t, hq, ht, hq1, ht1, hn⟩ := code_ok h2
    have hi := ih h1
    rw [hq]
    simp only [upd, Int.toNat_natCast]
    by_cases e : v = q
    · subst e
      simp
      exact ⟨n, by omega, hq⟩
    · rw [if_neg e, hi]
      constructor
      · intro h3 k hk
        by_cases ek : k = n
        · subst ek; rw [hq]; omega
        · exact h3 k (by omega)
      · intro h3 k hk; exact h3 k (by omega)
theorem lay_some {Z : Nat → Mp} {n : Nat} {m : Nat → E} (h : lay Z n = .ok m) (v s : Nat) (b : Bool) : m v = some (s, b) ↔ ∃ k, k < n ∧ Z k = ⟨(v : Int), (s : Int), b⟩ := by
  induction n generalizing m with
  | zero => simp [lay] at h; subst h; simp [nil]
  | succ n ih =>
    obtain ⟨m', h1, h2, rfl⟩ := lay_step h
    obtain ⟨q, t, hq, ht, hq1, ht1, hn⟩ := code_ok h2
    have hi := ih h1
    have hnn := (lay_none h1 q).1 hn
    rw [hq, ht]
    simp only [upd, Int.toNat_natCast]
    by_cases e : v = q
    · subst e
      rw [if_pos rfl]
      constructor
      · intro h3
        simp at h3
        obtain ⟨rfl, rfl⟩ := h3
        refine ⟨n, by omega, ?_⟩
        rw [← hq, ← ht]
      · rintro ⟨k, hk, hz⟩
        by_cases ek : k = n
        · subst ek; rw [hz] at ht; simp at ht; rw [hz]; simp; omega
        · exact absurd (by rw [hz]) (hnn k (by omega))
    · rw [if_neg e, hi]
      constructor
      · rintro ⟨k, hk, hz⟩; exact ⟨k, by omega, hz⟩
      · rintro ⟨k, hk, hz⟩
        by_cases ek : k = n
        · subst ek; rw [hz] at hq; simp at hq; omega
        · exact ⟨k, by omega, hz⟩
/-- it may be laid just if pages and slots are such, and no page stands twice -/
theorem lay_make {Z : Nat → Mp} {n : Nat} (h1 : ∀ k, k < n → 0 ≤ (Z k).v ∧ (Z k).v < 16 ∧ 0 ≤ (Z k).s ∧ (Z k).s < 48) (h2 : ∀ i, i < n → ∀ k, k < i → (Z k).v ≠ (Z i).v) : ∃ m, lay Z n = .ok m := by
  induction n with
  | zero => exact ⟨nil, rfl⟩
  | succ n ih =>
    obtain ⟨m, hm⟩ := ih (fun k hk => h1 k (by omega)) (fun i hi k hk => h2 i (by omega) k hk)
    obtain ⟨a, b, c, d⟩ := h1 n (by omega)
    have hn : m (Z n).v.toNat = none := (lay_none hm _).2 (fun k hk => by have := h2 n (by omega) k hk; omega)
    exact ⟨_, lay_ok hm (by unfold code; rw [if_neg (by omega), if_neg (by omega), if_neg (by simp [hn])])⟩
end Go.Proofs.Ytmflohehnoghhaa
