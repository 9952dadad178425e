import Derived.Test.YtcbfolpeglfbcaaGG
namespace Go.Proofs.Ytcbfolpeglfbcaa
open Go.RowKit
def okB (Z : Nat → Mp) (n : Nat) : Bool := match lay Z n with
  | .ok _ => true
  | .error _ => false
theorem okB_ok {Z : Nat → Mp} {n : Nat} {m : Nat → E} (h : lay Z n = .ok m) : okB Z n = true := by simp [okB, h]
theorem okB_bad {Z : Nat → Mp} {n : Nat} {m : Nat → E} (h : lay Z n = .ok m) (hc : code m (Z n).v (Z n).s ≠ 0) {len : Nat} (hl : n < len) : okB Z len = false := by simp [okB, lay_bad h hc hl]
theorem IsMaps.c {w : World} {x : Addr} {len k : Nat} {Z : Nat → Mp} (h : IsMaps w (some x) len Z) (hk : k < len) :
    w.cell? (x.add (k * 3)) = some (.int .i64 (Z k).v) ∧ w.cell? ⟨(x.add (k * 3)).block, (x.add (k * 3)).off + 1, none⟩ = some (.int .i64 (Z k).s) ∧ w.cell? ⟨(x.add (k * 3)).block, (x.add (k * 3)).off + 2, none⟩ = some (.bool (Z k).b) := by
  obtain ⟨y, hy, hc⟩ := h k hk
  cases hy
  refine ⟨?_, ?_, ?_⟩
  · have := hc 0 _ rfl
    simpa [Addr.add] using this
  · rw [← addp _ (by decide)]; exact hc 1 _ rfl
  · rw [← addp _ (by decide)]; exact hc 2 _ rfl
section
variable (w : World)
set_option maxRecDepth 100000 in
set_option maxHeartbeats 3200000 in
theorem good_any (a : Option Addr) (len cap : Nat) (Z : Nat → Mp) (hz : IsMaps w a len Z) (hl : len ≤ maxLen) :
    Calls Try.prog 19 #[.slice a len cap] w fun e w' => e = .returned (.bool (okB Z len)) ∧ Below w.heap.size w w' := by
  have H := hide hz
  have hl' : len ≤ 9223372036854775807 := hl
  clear hz
  obtain ⟨r, hr⟩ : ∃ r, okB Z len = r := ⟨_, rfl⟩
  rw [hr]
  have HR := hide hr
  clear hr
  go_enter Try.func19, Try.ntmps19
  go_upto_region 2 with fail
  go_loopw [3] (fun i wr => ∃ (k : Nat) (m : Nat → E), k ≤ len ∧ i = .int .i64 (k : Int) ∧ lay Z k = .ok m ∧ Below w.heap.size w wr) (fun i _ => len - (intOf i).toNat)
  case atStart => exact ⟨0, nil, by omega, rfl, rfl, Below.refl _ _⟩
  case round =>
    obtain ⟨k, m, hk, rfl, hL, hM⟩ := hrel
    by_cases hlt : k < len
    · have hd : decide (k < len) = true := by simp; omega
      obtain ⟨x, hx, _⟩ := H.out k hlt
      subst hx
      obtain ⟨c0, c1, _⟩ := (H.out.below hM).c hlt
      have HM := hide (And.intro hL hM)
      clear hL hM
      by_cases hin : 0 ≤ (Z k).v ∧ (Z k).v < 16 ∧ 0 ≤ (Z k).s ∧ (Z k).s < 48
      · have d1 : decide ((Z k).v < 0) = false := by simp; omega
        have d2 : decide (16 ≤ (Z k).v) = false := by simp; omega
        have d3 : decide ((Z k).s < 0) = false := by simp; omega
        have d4 : decide (48 ≤ (Z k).s) = false := by simp; omega
        have HI := hide hin
        clear hin
        go_upto_region 7 with fail
        clear d1 d2 d3 d4 c0 c1 hd
        go_loopw [4] (fun i wr => ∃ q : Nat, q ≤ k ∧ i = .int .i64 (q : Int) ∧ (∀ p, p < q → (Z p).v ≠ (Z k).v) ∧ Below w.heap.size w wr) (fun i _ => k - (intOf i).toNat)
        case atStart => exact ⟨0, by omega, rfl, fun p hp => by omega, HM.out.2⟩
        case round =>
          obtain ⟨q, hq, rfl, hP, hM⟩ := hrel
          by_cases hlq : q < k
          · have hd : decide (q < k) = true := by simp; omega
            obtain ⟨c0, _, _⟩ := (H.out.below hM).c hlt
            obtain ⟨e0, _, _⟩ := (H.out.below hM).c (k := q) (by omega)
            have hql : q < len := by omega
            have HP := hide (And.intro hP hM.drew)
            clear hP hM
            go_upto_region 9 with fail
            by_cases he : (Z q).v = (Z k).v
            · have hne : code m (Z k).v (Z k).s ≠ 0 := by
                intro h0
                obtain ⟨v, t, hv, _, _, _, hn⟩ := code_ok h0
                exact (lay_none HM.out.1 v).1 hn q hlq (by rw [he, hv])
              obtain rfl : r = false := by rw [← HR.out]; exact okB_bad HM.out.1 hne hlt
              rw [he] at e0
              generalize (Z k).v = z at *
              go_region_held (fun W => W.cell? (x.add (q * 3)) = some (.int .i64 z) ∧ W.cell? (x.add (k * 3)) = some (.int .i64 z)) (exact ⟨e0, c0⟩) (fail)
              go_wp2
              go_ret
              exact ⟨rfl, HP.out.2⟩
            · have hb : ((Z q).v == (Z k).v) = false := by simpa using he
              go_region_held (fun W => W.cell? (x.add (q * 3)) = some (.int .i64 (Z q).v) ∧ W.cell? (x.add (k * 3)) = some (.int .i64 (Z k).v)) (exact ⟨e0, c0⟩) (fail)
              rename_i hHeld
              clear hHeld c0 e0
              go_wp2
              go_roundw
              case rel => exact ⟨q + 1, by omega, by go_num, fun p hp => by
                by_cases e : p = q
                · subst e; exact he
                · exact HP.out.1 p (by omega), HP.out.2⟩
              case measure => simp [intOf]; omega
          · have hd : decide (q < k) = false := by simp; omega
            have hc : code m (Z k).v (Z k).s = 0 := by
              obtain ⟨a, b, c, d⟩ := HI.out
              have hn : m (Z k).v.toNat = none := (lay_none HM.out.1 _).2 (fun p hp => by have := hP p (by omega); omega)
              unfold code; rw [if_neg (by omega), if_neg (by omega), if_neg (by simp [hn])]
            have HY := hide (And.intro (lay_ok HM.out.1 hc) hM)
            clear hP hM HM
            go_wp2
            go_roundw
            case rel => exact ⟨k + 1, _, by omega, by go_num, HY.out⟩
            case measure => simp [intOf]; omega
      · have hne : code m (Z k).v (Z k).s ≠ 0 := by
          intro h0
          obtain ⟨v, t, hv, ht, h1, h2, hn⟩ := code_ok h0
          exact hin (by omega)
        obtain rfl : r = false := by rw [← HR.out]; exact okB_bad HM.out.1 hne hlt
        have hx : (Z k).v < 0 ∨ (¬ (Z k).v < 0 ∧ 16 ≤ (Z k).v) ∨ (¬ (Z k).v < 0 ∧ ¬ 16 ≤ (Z k).v ∧ (Z k).s < 0) ∨ (¬ (Z k).v < 0 ∧ ¬ 16 ≤ (Z k).v ∧ ¬ (Z k).s < 0 ∧ 48 ≤ (Z k).s) := by omega
        clear hin hne
        generalize (Z k).v = z at *
        generalize (Z k).s = y at *
        rcases hx with h1 | ⟨h1, h2⟩ | ⟨h1, h2, h3⟩ | ⟨h1, h2, h3, h4⟩
        · go_wp2
          go_ret
          exact ⟨rfl, HM.out.2⟩
        · go_wp2
          go_ret
          exact ⟨rfl, HM.out.2⟩
        · go_wp2
          go_ret
          exact ⟨rfl, HM.out.2⟩
        · go_wp2
          go_ret
          exact ⟨rfl, HM.out.2⟩
    · have hd : decide (k < len) = false := by simp; omega
      obtain rfl : r = true := by
        obtain rfl : k = len := by omega
        rw [← HR.out]; exact okB_ok hL
      have HM := hide hM
      clear hL hM
      go_wp2
      go_ret
      exact ⟨rfl, HM.out⟩
end
end Go.Proofs.Ytcbfolpeglfbcaa
