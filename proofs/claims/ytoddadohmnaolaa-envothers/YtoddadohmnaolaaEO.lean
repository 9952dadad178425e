import Derived.Test.YtoddadohmnaolaaPL
import Derived.BigQuiet
import Derived.Deep.RegionHeld
import Derived.Deep.Cut
import Derived.Deep.DeepCutAuto
import Derived.WalkSmall
import Derived.Sort.Grow
namespace Go.Proofs.Ytoddadohmnaolaa
open Go.RowKit Go.Shelf Go.Sort

/-- how two numbers lie -/
def ci (x y : Int) : Int := if x < y then -1 else if y < x then 1 else 0
theorem nan_any (w : World) (x : Int) : Calls Try.prog 75 #[.int .i64 x] w fun e w' => e = .returned (.bool false) ∧ w' = w := by
  go_enter Try.func75, Try.ntmps75
  go_wp2
  go_ret
  exact ⟨by simp, rfl⟩
theorem compare_any (w : World) (x y : Int) : Calls Try.prog 71 #[.int .i64 x, .int .i64 y] w fun e w' => e = .returned (.int .i64 (ci x y)) ∧ w' = w := by
  have HN := hide (fun w x => nan_any w x)
  unfold ci
  by_cases h1 : x < y
  · rw [if_pos h1]
    go_enter Try.func71, Try.ntmps71
    go_wp2_with (go_at_call 75; refine (HN.out _ _).mono ?_; rintro e w1 ⟨rfl, rfl⟩)
    go_ret
    exact ⟨rfl, rfl⟩
  · rw [if_neg h1]
    by_cases h2 : y < x
    · rw [if_pos h2]
      go_enter Try.func71, Try.ntmps71
      go_wp2_with (go_at_call 75; refine (HN.out _ _).mono ?_; rintro e w1 ⟨rfl, rfl⟩)
      go_ret
      exact ⟨rfl, rfl⟩
    · rw [if_neg h2]
      go_enter Try.func71, Try.ntmps71
      go_wp2_with (go_at_call 75; refine (HN.out _ _).mono ?_; rintro e w1 ⟨rfl, rfl⟩)
      go_ret
      exact ⟨rfl, rfl⟩
section
variable (w : World) (F : Nat → Prop) (T : Nat) (rs : List (Option Er)) (last : Int)
set_option maxHeartbeats 800000 in
theorem serial_any (h : Et w F T rs last) (k : Nat) (r : Er) (hr : rs[k]? = some (some r)) : Calls Try.prog 72 #[.pointer (some ⟨T, 0, none⟩), .int .i64 (k : Int)] w fun x w' => x = .returned (.int .i64 r.se) ∧ w' = w := by
  obtain ⟨S, G, m, h⟩ := h
  have c0 := h.cell.1
  have HG := hide (getL_any _ G S m h.tab (k : Int))
  rcases h.cases (k : Int) with ⟨_, h1⟩ | ⟨k', b, r', e1, hm, h3, h4, _, hR⟩
  · rw [look_nat, hr] at h1; cases h1
  · obtain rfl : k = k' := by omega
    rw [hr] at h3; cases h3
    rw [h4] at HG
    simp only [ptr, Option.isSome_some] at HG
    have c5 := hR.get (j := 0) rfl
    clear h h4 hR
    go_enter Try.func72, Try.ntmps72
    go_wp2_with fail
    refine HG.out.mono ?_
    rintro e1 w1 ⟨rfl, rfl⟩
    go_wp2
    go_ret
    exact ⟨rfl, rfl⟩
/-- the serial of a number -/
def ser (rs : List (Option Er)) (k : Nat) : Int := match rs[k]? with | some (some r) => r.se | _ => 0
theorem ser_at {rs : List (Option Er)} {k : Nat} {r : Er} (h : rs[k]? = some (some r)) : ser rs k = r.se := by unfold ser; rw [h]
def Lv (rs : List (Option Er)) (k : Nat) : Prop := ∃ r, rs[k]? = some (some r)
theorem serial_ser (h : Et w F T rs last) (k : Nat) (hk : Lv rs k) : Calls Try.prog 72 #[.pointer (some ⟨T, 0, none⟩), .int .i64 (k : Int)] w fun x w' => x = .returned (.int .i64 (ser rs k)) ∧ w' = w := by
  obtain ⟨r, hr⟩ := hk
  rw [ser_at hr]
  exact serial_any w F T rs last h k r hr
set_option maxRecDepth 100000 in
set_option maxHeartbeats 1600000 in
/-- the comparer of 'children' -/
theorem cmpK_any (h : Et w F T rs last) (tb : Nat) (hc : w.cell? ⟨tb, 0, none⟩ = some (.pointer (some ⟨T, 0, none⟩))) (x y : Nat) (hx : Lv rs x) (hy : Lv rs y) : Calls Try.prog 70 #[.int .i64 (x : Int), .int .i64 (y : Int), .pointer (some ⟨tb, 0, none⟩)] w fun e w' => e = .returned (.int .i64 (ci (ser rs x) (ser rs y))) ∧ ∃ q, w' = w.drewN q := by
  have HX : Hid (∀ n k, Lv rs k → Calls Try.prog 72 #[.pointer (some ⟨T, 0, none⟩), .int .i64 (k : Int)] (w.drewN n) fun e w' => e = .returned (.int .i64 (ser rs k)) ∧ w' = w.drewN n) := hide (fun n k hk => serial_ser _ F T rs last (h.keep (w' := w.drewN n) (Nat.le_refl _) (fun _ _ => rfl)) k hk)
  have HC : Hid (∀ n a b, Calls Try.prog 71 #[.int .i64 a, .int .i64 b] (w.drewN n) fun e w' => e = .returned (.int .i64 (ci a b)) ∧ w' = w.drewN n) := hide (fun n a b => compare_any _ a b)
  clear h
  go_enter Try.func70, Try.ntmps70
  go_upto_region 1 with fail
  go_quiet (first | (go_at_call 72; exact Calls.quiet_of_same (HX.out _ _ (by first | exact hx | exact hy))) | (go_at_call 71; exact Calls.quiet_of_same (HC.out _ _ _)))
  go_wp2
  go_ret
  exact ⟨rfl, _, rfl⟩
end
end Go.Proofs.Ytoddadohmnaolaa
