import Derived.Test.YtngmnlmagbfijaaM1
namespace Go.Proofs.Ytngmnlmagbfijaa
open Go.RowKit
/-- nobody is passed over -/
def NR (l : List Cz) (who : Int) : Prop := ∀ b, b < l.length → (∀ j c, j ≤ b → l[j]? = some c → c.c ≠ who ∧ who ∈ c.R) → ∃ j c, j ≤ b ∧ l[j]? = some c ∧ b + 1 < 8 + c.R.length
theorem rsum_mem : ∀ (l : List Cz) (j : Nat) (c : Cz), l[j]? = some c → c.R.length ≤ rsum l
  | [], _, _, h => by simp at h
  | a :: t, 0, c, h => by simp at h; subst h; simp only [rsum]; omega
  | a :: t, j + 1, c, h => by have := rsum_mem t j c (by simpa using h); simp only [rsum]; omega
section
variable (w : World)
set_option maxRecDepth 100000 in
set_option maxHeartbeats 8000000 in
theorem passed_any (S : Nat → Prop) (v : Value) (l : List Cz) (hO : ChR S w v l) (hl : l.length ≤ 1048576) (hr : rsum l ≤ 1048576) (who : Int) (hNR : NR l who) :
    Calls Try.prog 12 #[v, .int .i64 who] w fun e w' => e = .returned (.bool false) ∧ w' = w := by
  have HO := hide hO
  have HN := hide hNR
  have HR := hide hr
  obtain ⟨ao, cap, rfl, hcap, _⟩ := hO
  obtain ⟨m, hm⟩ : ∃ m, l.length = m := ⟨_, rfl⟩
  have HLn := hide hm
  rw [hm] at hcap HO hl ⊢
  clear hm hNR hr
  go_enter Try.func12, Try.ntmps12
  go_upto_region 3 with fail
  go_loopw [5, 6] (fun r i wr => ∃ (k n : Nat), k ≤ m ∧ i = .int .i64 (k : Nat) ∧ r = .int .i64 (n : Nat) ∧ n ≤ 1048576 ∧ Hid (∀ j c, j < k → l[j]? = some c → (c.c ≠ who ∧ who ∈ c.R) ∧ c.R.length ≤ n) ∧ wr = w) (fun _ i _ => m - (RowKit.intOf i).toNat)
  case atStart => exact ⟨0, 0, by omega, rfl, rfl, by omega, hide (fun j c hj => by omega), rfl⟩
  case round =>
    obtain ⟨k, n, hk, rfl, rfl, hn, HD, rfl⟩ := hrel
    by_cases hlt : k < m
    · obtain ⟨c, hc⟩ : ∃ c, l[k]? = some c := ⟨l[k]'(by rw [HLn.out]; exact hlt), List.getElem?_eq_getElem _⟩
      have HC := hide hc
      obtain ⟨x, au, cu, rfl, hSx, c0, c1, _, c5⟩ := HO.out.at hc
      have hki : (k : Int) < m := by omega
      have hcl : c.R.length ≤ 1048576 := by have := rsum_mem l k c hc; have := HR.out; omega
      obtain ⟨cR, cc, cb⟩ := c
      dsimp only at c0 c1 c5 hcl
      obtain ⟨rl, hrl⟩ : ∃ rl, cR.length = rl := ⟨_, rfl⟩
      have HRl := hide hrl
      rw [hrl] at c0 c5 hcl
      have HC5 := hide c5
      clear hc c5 hrl hSx
      by_cases hcw : cc = who
      · subst hcw
        go_wp2
        go_ret
        exact ⟨rfl, rfl⟩
      have hcw2 : (cc == who) = false := by simpa using hcw
      by_cases hin : who ∈ cR
      · go_wp2_with fail
        refine (in_any wr S _ cR HC5.out (by rw [HRl.out]; omega) who).mono ?_
        rw [decide_eq_true hin]
        rintro e w1 ⟨rfl, rfl⟩
        have HI := hide (And.intro hcw hin)
        obtain ⟨n2, hn2⟩ : ∃ n2 : Nat, max n rl = n2 := ⟨_, rfl⟩
        have hmx : max (n : Int) (rl : Int) = (n2 : Int) := by omega
        have HD2 : Hid (∀ j c, j < k + 1 → l[j]? = some c → (c.c ≠ who ∧ who ∈ c.R) ∧ c.R.length ≤ n2) := hide (fun j c hj hc => by
          by_cases hjk : j = k
          · subst hjk
            rw [HC.out] at hc
            cases hc
            exact ⟨HI.out, by show cR.length ≤ n2; rw [HRl.out]; omega⟩
          · obtain ⟨h1, h2⟩ := HD.out j c (by omega) hc
            exact ⟨h1, by omega⟩)
        have hbig : ¬ ((8 : Int) + (n2 : Int) ≤ (k : Int) + 1) := by
          obtain ⟨j, c, g1, g2, g3⟩ := HN.out k (by rw [HLn.out]; exact hlt) (fun j c hj hc => (HD2.out j c (by omega) hc).1)
          have := (HD2.out j c (by omega) g2).2
          omega
        have hn3 : n2 ≤ 1048576 := by omega
        clear hcw hin hcw2 hn2 HD
        go_wp2
        go_roundw
        case rel => exact ⟨k + 1, n2, by omega, by go_num, rfl, hn3, HD2, trivial⟩
        case measure => simp [RowKit.intOf]; omega
      · go_wp2_with fail
        refine (in_any wr S _ cR HC5.out (by rw [HRl.out]; omega) who).mono ?_
        rw [decide_eq_false hin]
        rintro e w1 ⟨rfl, rfl⟩
        go_wp2
        go_ret
        exact ⟨rfl, rfl⟩
    · obtain rfl : k = m := by omega
      go_wp2
      go_ret
      exact ⟨rfl, rfl⟩
end
end Go.Proofs.Ytngmnlmagbfijaa
