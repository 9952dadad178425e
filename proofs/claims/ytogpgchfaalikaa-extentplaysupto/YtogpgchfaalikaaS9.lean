import Derived.Test.YtogpgchfaalikaaS8
import Derived.Test.YtogpgchfaalikaaR8
namespace Go.Proofs.Ytogpgchfaalikaa
open Go.RowKit

set_option maxRecDepth 100000 in
set_option maxHeartbeats 3200000 in
theorem bytesOf_any (w : World) (kd n sec se ln : Int) (two : Bool) (b : Nat) (kv : Value) : Calls Try.prog 42 #[.agg #[.int .i64 kd, .bool two, .int .i64 n, .int .i64 sec, .int .i64 se, .int .u8 (b : Int), .int .i64 ln, kv]] w fun e w' => ∃ v, e = .returned v ∧ Ow w' w.heap.size v (List.replicate (ln % 256).toNat b) ∧ Below w.heap.size w w' := by
  have hm : (0 : Int) ≤ ln % 256 ∧ ln % 256 < 256 := by omega
  obtain ⟨m, hmm⟩ : ∃ m : Nat, ln % 256 = (m : Int) := ⟨(ln % 256).toNat, by omega⟩
  go_enter Try.func42, Try.ntmps42
  go_wp2_with fail
  have hc : wrap64 ((IntKind.u64.wrap ln).tmod 256) = (m : Int) := by
    have e1 : IntKind.u64.wrap ln = ln % 18446744073709551616 := by simp [IntKind.wrap, IntKind.signed, IntKind.bits]
    rw [e1, Int.tmod_eq_emod_of_nonneg (by omega), show ln % 18446744073709551616 % 256 = (m : Int) by omega]
    simp only [wrap64]; omega
  rw [hc]
  refine (run_any _ b m (by omega)).mono ?_
  rintro e w1 ⟨v, rfl, hv, hb⟩
  go_wp2
  go_ret
  rw [hmm]
  exact ⟨_, rfl, hv.mono (by simp), ((Below.refl w.heap.size w).alloc (Nat.le_refl _) _).trans (hb.mono (by simp))⟩

theorem tells_at {C : Nat → Cl} {l : List Nat} {i j x : Nat} {v : Value} (hc : l[i]? = some x) (hv : (tell1 C x)[j]? = some v) : (tells C l)[i * 3 + j]? = some v := by
  induction l generalizing i with
  | nil => simp at hc
  | cons y r ih =>
    show (tell1 C y ++ tells C r)[i * 3 + j]? = _
    have hj : j < 3 := by have := (List.getElem?_eq_some_iff.1 hv).1; simpa [tell1] using this
    cases i with
    | zero =>
      simp at hc; subst hc
      rw [List.getElem?_append_left (by simp [tell1]; omega)]
      simpa using hv
    | succ i =>
      rw [List.getElem?_append_right (by simp [tell1]; omega)]
      have := ih (i := i) (by simpa using hc)
      rw [show (i + 1) * 3 + j - (tell1 C y).length = i * 3 + j by simp [tell1]; omega]
      exact this
theorem told_at {w : World} {b n : Nat} {v : Value} {C : Nat → Cl} {l : List Nat} (h : w.ownsRow b 39 3 v n (tells C l)) {i x : Nat} (hi : i < n) (hc : l[i]? = some x) : ∃ g cap, v = .slice (some ⟨g, 0, none⟩) n cap ∧ w.cell? ⟨g, i * 3, none⟩ = some (.int .i64 (x : Int)) ∧ w.cell? ⟨g, i * 3 + 1, none⟩ = some (.int .i64 (C x).se) ∧ w.cell? ⟨g, i * 3 + 2, none⟩ = some (.int .i64 ((C x).ho : Int)) := by
  have hr := h
  obtain ⟨hl, ⟨_, h0⟩ | ⟨g, cap, cur, hv, hb, hg, _⟩⟩ := h
  · omega
  · rw [hv] at hr
    have d0 := World.ownsRow.cells hr rfl _ _ (tells_at (j := 0) hc rfl)
    have d1 := World.ownsRow.cells hr rfl _ _ (tells_at (j := 1) hc rfl)
    have d2 := World.ownsRow.cells hr rfl _ _ (tells_at (j := 2) hc rfl)
    rw [add0] at d0 d1 d2
    exact ⟨g, cap, hv, d0, d1, d2⟩

set_option maxRecDepth 100000 in
set_option maxHeartbeats 3200000 in
/-- two lists of the same claims -/
theorem sameList_eq (w : World) (u v : Value) (b : Nat) (C : Nat → Cl) (l : List Nat) (hu : w.ownsRow b 39 3 u l.length (tells C l)) (hv : w.ownsRow b 39 3 v l.length (tells C l)) (hl : l.length ≤ 32) : Calls Try.prog 62 #[u, v] w fun e w' => e = .returned (.bool true) ∧ Below w.heap.size w w' := by
  obtain ⟨au, cu, rfl⟩ := own_shape hu
  obtain ⟨av, cv, rfl⟩ := own_shape hv
  have HU := hide hu
  have HV := hide hv
  clear hu hv
  obtain ⟨L, hL⟩ : ∃ L, l.length = L := ⟨_, rfl⟩
  rw [hL] at HU HV hl ⊢
  go_enter Try.func62, Try.ntmps62
  go_wp2
  go_loopw [5] (fun x wr => ∃ k : Nat, k ≤ L ∧ x = .int .i64 (k : Int) ∧ Hid (Below w.heap.size w wr)) (fun x _ => L - (intOf x).toNat)
  case atStart => exact ⟨0, by omega, rfl, Below.refl _ _⟩
  case round =>
  obtain ⟨k, hk, rfl, KB⟩ := hrel
  by_cases hkL : k < L
  · obtain ⟨x, hx⟩ : ∃ x, l[k]? = some x := ⟨_, List.getElem?_eq_getElem (by omega)⟩
    obtain ⟨g, cap, hv, a0, a1, a2⟩ := told_at (own_below HU.out KB.out) hkL hx
    obtain ⟨g', cap', hv', b0, b1, b2⟩ := told_at (own_below HV.out KB.out) hkL hx
    cases hv
    cases hv'
    have hkL' : (k : Int) < (L : Int) := by omega
    have hd : decide (0 ≤ (k : Int)) = true := by simp
    clear hx hL
    generalize (C x).se = se at *
    generalize (C x).ho = ho at *
    go_wp2
    go_quiet (fail)
    have KB2 := hide (below_drewN KB.out nq)
    generalize wr.drewN nq = w5 at *
    go_wp2
    go_roundw
    case rel =>
      first
        | exact ⟨k + 1, by omega, by go_num, KB2⟩
        | ((repeat apply Exists.intro); refine ⟨?_, rfl⟩; exact ⟨k + 1, by omega, by go_num, KB2⟩)
    case measure => simp [intOf]; omega
  · obtain rfl : k = L := by omega
    go_wp2
    go_ret
    exact ⟨rfl, KB.out⟩

end Go.Proofs.Ytogpgchfaalikaa
