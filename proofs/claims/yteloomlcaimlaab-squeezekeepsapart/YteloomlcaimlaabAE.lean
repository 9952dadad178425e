import Derived.Test.YteloomlcaimlaabAD
namespace Go.Proofs.Yteloomlcaimlaab
open Go.RowKit
theorem eq_of_get {xs ys : List Nat} (hl : xs.length = ys.length) (h : ∀ j, j < xs.length → xs.getD j 0 = ys.getD j 0) : xs = ys := by
  apply List.ext_getElem hl
  intro i h1 h2
  have := h i h1
  simpa [List.getD_eq_getElem?_getD, List.getElem?_eq_getElem h1, List.getElem?_eq_getElem h2] using this
section
variable (w : World)
set_option maxHeartbeats 1000000 in
theorem Unpack_any (v : Value) (p : List Nat) (hv : Rb w w.heap.size v p) (hy : Bys p) (hl : p.length ≤ 140737488351232) :
    Calls Try.prog 10 #[v] w fun e w' => ∃ r, e = .returned (.tuple #[r, .int .i64 ((un p).1 : Nat)]) ∧ Ow w' w.heap.size r (un p).2.1 ∧ ((un p).1 ≠ 0 → r = .slice none 0 0) ∧ Below w.heap.size w w' := by
  have HC := hide (unpack_any w v p hv hy hl)
  clear hv hy
  go_enter Try.func10, Try.ntmps10
  go_wp2_with fail
  refine HC.out.mono ?_
  rintro e w1 ⟨r, rfl, hO, hr, hB⟩
  have HO := hide hO
  have HR := hide hr
  have HB := hide hB
  obtain ⟨a, k, c, rfl, HK, _⟩ := hO.len2
  clear hO hr hB HC
  go_wp2
  go_ret2
  exact ⟨_, rfl, HO.out, HR.out, HB.out⟩
set_option maxHeartbeats 1000000 in
theorem Size_any (v : Value) (p : List Nat) (hv : Rb w w.heap.size v p) (hy : Bys p) (hl : p.length ≤ 140737488351232) :
    Calls Try.prog 11 #[v] w fun e w' => e = .returned (.tuple #[.int .i64 ((un p).2.1.length : Nat), .int .i64 ((un p).1 : Nat)]) ∧ Below w.heap.size w w' := by
  have HC := hide (unpack_any w v p hv hy hl)
  clear hv hy
  go_enter Try.func11, Try.ntmps11
  go_wp2_with fail
  refine HC.out.mono ?_
  rintro e w1 ⟨r, rfl, hO, hr, hB⟩
  have HB := hide hB
  obtain ⟨a, k, c, rfl, HK, _⟩ := hO.len2
  clear hO hr hB HC
  go_wp2
  go_ret2
  rw [HK.out]
  exact ⟨rfl, HB.out⟩
set_option maxHeartbeats 1000000 in
theorem Tokens_any (v : Value) (p : List Nat) (hv : Rb w w.heap.size v p) (hy : Bys p) (hl : p.length ≤ 140737488351232) :
    Calls Try.prog 12 #[v] w fun e w' => e = .returned (.tuple #[.int .i64 ((un p).2.2 : Nat), .int .i64 ((un p).1 : Nat)]) ∧ Below w.heap.size w w' := by
  have HC := hide (unpack_any w v p hv hy hl)
  clear hv hy
  go_enter Try.func12, Try.ntmps12
  go_wp2_with fail
  refine HC.out.mono ?_
  rintro e w1 ⟨r, rfl, hO, hr, hB⟩
  have HB := hide hB
  obtain ⟨a, k, c, rfl, HK, _⟩ := hO.len2
  clear hO hr hB HC
  go_wp2
  go_ret2
  exact ⟨rfl, HB.out⟩
set_option maxHeartbeats 1000000 in
theorem dup_any (v : Value) (b : List Nat) (B : Nat) (hv : Rb w B v b) (hl : b.length ≤ 140737488351232) :
    Calls Try.prog 9 #[v] w fun e w' => ∃ r, e = .returned r ∧ Ow w' w.heap.size r b ∧ Below w.heap.size w w' := by
  have HV := hide hv
  obtain ⟨ao, cap, rfl, hcap⟩ := hv.len
  have HN := hide (ow_none w w.heap.size)
  clear hv
  go_enter Try.func9, Try.ntmps9
  go_wp2_with (at_builtin; refine app_rd rfl _ _ rfl w.heap.size _ [] rfl HN.out (Nat.le_refl _) _ _ b rfl HV.out (by simp; omega) ?_; intro r2 w2 ho2 hg2 hk2; obtain ⟨a2, k2, c2, rfl, HK2, _⟩ := ho2.len2)
  rw [List.nil_append] at ho2
  have HO2 := hide ho2
  have HB2 := hide hk2.1
  clear ho2 hk2 hg2
  go_wp2
  go_ret
  exact ⟨_, rfl, HO2.out, HB2.out⟩
set_option maxHeartbeats 1000000 in
theorem same_any (v u : Value) (xs ys : List Nat) (B B' : Nat) (h1 : Rb w B v xs) (h2 : Rb w B' u ys) (hl : xs.length ≤ 140737488351232) :
    Calls Try.prog 7 #[v, u] w fun e w' => e = .returned (.bool (decide (xs = ys))) ∧ Below w.heap.size w w' := by
  have H1 := hide h1
  have H2 := hide h2
  obtain ⟨a1, c1, rfl, hc1⟩ := h1.len
  obtain ⟨a2, c2, rfl, hc2⟩ := h2.len
  obtain ⟨m, hm⟩ : ∃ m, ys.length = m := ⟨_, rfl⟩
  obtain ⟨n, hn⟩ : ∃ n, xs.length = n := ⟨_, rfl⟩
  have HN := hide hn
  have HM := hide hm
  rw [hn] at H1 hl
  rw [hm] at H2
  rw [hn, hm]
  clear h1 h2 hc1 hc2
  by_cases hnm : n = m
  · subst hnm
    have HX : Hid (∀ bv : Bool, (bv = decide (xs = ys)) → decide (xs = ys) = bv) := hide (fun _ h => h.symm)
    go_enter Try.func7, Try.ntmps7
    go_upto_region 4 with fail
    go_loopw [5] (fun iv wr => ∃ k : Nat, iv = .int .i64 (k : Nat) ∧ k ≤ n ∧ Hid (∀ j, j < k → xs.getD j 0 = ys.getD j 0) ∧ Below w.heap.size w wr) (fun iv _ => n - (intOf iv).toNat)
    case atStart => exact ⟨0, rfl, Nat.zero_le _, hide fun j h => by omega, Below.refl _ _⟩
    case round =>
      obtain ⟨k, rfl, hk, HA, hB⟩ := hrel
      by_cases hlt : k < n
      · have hkI : (k : Int) < (n : Int) := by omega
        obtain ⟨x1, rfl, _, d1⟩ := H1.out.some_of (by rw [HN.out]; omega)
        obtain ⟨x2, rfl, _, d2⟩ := H2.out.some_of (by rw [HM.out]; omega)
        have e1 := d1 k (by rw [HN.out]; exact hlt)
        have e2 := d2 k (by rw [HM.out]; exact hlt)
        rw [← hB.cell (World.block_lt_of_cell? w _ e1)] at e1
        rw [← hB.cell (World.block_lt_of_cell? w _ e2)] at e2
        have HB := hide hB
        clear d1 d2 hB H1 H2
        by_cases heq : xs.getD k 0 = ys.getD k 0
        · have HA2 : Hid (∀ j, j < k + 1 → xs.getD j 0 = ys.getD j 0) := hide (fun j hj => by
            by_cases e : j = k
            · rw [e]; exact heq
            · exact HA.out j (by omega))
          have he := eqN _ _ heq
          clear HA heq
          generalize xs.getD k 0 = p1 at *
          generalize ys.getD k 0 = p2 at *
          go_upto_region 6 with fail
          go_quiet (fail)
          go_wp2
          go_roundw
          case rel => exact ⟨k + 1, by go_num, by omega, HA2, HB.out.trans (drewN_below _ _ _)⟩
          case measure => simp [intOf]; omega
        · have HF : Hid (decide (xs = ys) = false) := hide (decide_eq_false fun e => heq (by rw [e]))
          have he := neN _ _ heq
          clear HA heq
          generalize xs.getD k 0 = p1 at *
          generalize ys.getD k 0 = p2 at *
          go_upto_region 6 with fail
          go_quiet (fail)
          go_wp2
          go_ret
          rw [HF.out]
          exact ⟨rfl, HB.out.trans (drewN_below _ _ _)⟩
      · obtain rfl : k = n := by omega
        have HT : Hid (decide (xs = ys) = true) := hide (decide_eq_true (eq_of_get (by rw [HN.out, HM.out]) (by rw [HN.out]; exact HA.out)))
        go_wp2
        go_ret
        rw [HT.out]
        exact ⟨rfl, hB⟩
  · have HF : Hid (decide (xs = ys) = false) := hide (decide_eq_false fun e => hnm (by rw [← HN.out, ← HM.out, e]))
    have hne : ((n : Int) == (m : Int)) = false := neN n m hnm
    go_enter Try.func7, Try.ntmps7
    go_wp2
    go_ret
    rw [HF.out]
    exact ⟨rfl, Below.refl _ _⟩
end
end Go.Proofs.Yteloomlcaimlaab
