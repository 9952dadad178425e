import Derived.Test.YtoddadohmnaolaaEM
import Derived.Test.YtoddadohmnaolaaEL
namespace Go.Proofs.Ytoddadohmnaolaa
open Go.RowKit

section
variable (w : World) (F : Nat → Prop) (T : Nat) (rs : List (Option Er)) (last : Int)
set_option maxHeartbeats 800000 in
theorem freezeNone_any (h : Et w F T rs last) (e : Int) (hn : look rs e = none) (on : Bool) : Calls Try.prog 41 #[.pointer (some ⟨T, 0, none⟩), .int .i64 e, .bool on] w fun x w' => x = .returned (.int .i64 90) ∧ w' = w := by
  obtain ⟨S, G, m, h⟩ := h
  have c0 := h.cell.1
  have HG := hide (getL_any _ G S m h.tab e)
  rcases h.cases e with ⟨h1, _⟩ | ⟨k, b, r, rfl, _, _, _, h4, _⟩
  · rw [h1] at HG
    simp only [ptr, Option.isSome_none] at HG
    clear h h1 hn
    go_enter Try.func41, Try.ntmps41
    go_wp2_with fail
    refine HG.out.mono ?_
    rintro e1 w1 ⟨rfl, rfl⟩
    go_wp2
    go_ret
    exact ⟨rfl, rfl⟩
  · rw [h4] at hn; cases hn
set_option maxHeartbeats 800000 in
theorem setBitsNone_any (h : Et w F T rs last) (e : Int) (hn : look rs e = none) (n : Int) : Calls Try.prog 40 #[.pointer (some ⟨T, 0, none⟩), .int .i64 e, .int .i64 n] w fun x w' => x = .returned (.int .i64 90) ∧ w' = w := by
  obtain ⟨S, G, m, h⟩ := h
  have c0 := h.cell.1
  have HG := hide (getL_any _ G S m h.tab e)
  rcases h.cases e with ⟨h1, _⟩ | ⟨k, b, r, rfl, _, _, _, h4, _⟩
  · rw [h1] at HG
    simp only [ptr, Option.isSome_none] at HG
    clear h h1 hn
    go_enter Try.func40, Try.ntmps40
    go_wp2_with fail
    refine HG.out.mono ?_
    rintro e1 w1 ⟨rfl, rfl⟩
    go_wp2
    go_ret
    exact ⟨rfl, rfl⟩
  · rw [h4] at hn; cases hn
set_option maxHeartbeats 800000 in
theorem setStateNone_any (h : Et w F T rs last) (e : Int) (hn : look rs e = none) (st co : Int) : Calls Try.prog 10 #[.pointer (some ⟨T, 0, none⟩), .int .i64 e, .int .i64 st, .int .i64 co] w fun x w' => x = .returned (.int .i64 90) ∧ w' = w := by
  obtain ⟨S, G, m, h⟩ := h
  have c0 := h.cell.1
  have HG := hide (getL_any _ G S m h.tab e)
  rcases h.cases e with ⟨h1, _⟩ | ⟨k, b, r, rfl, _, _, _, h4, _⟩
  · rw [h1] at HG
    simp only [ptr, Option.isSome_none] at HG
    clear h h1 hn
    go_enter Try.func10, Try.ntmps10
    go_wp2_with fail
    refine HG.out.mono ?_
    rintro e1 w1 ⟨rfl, rfl⟩
    go_wp2
    go_ret
    exact ⟨rfl, rfl⟩
  · rw [h4] at hn; cases hn
set_option maxHeartbeats 800000 in
theorem notifyNone_any (h : Et w F T rs last) (e : Int) (hn : look rs e = none) (n : Int) : Calls Try.prog 14 #[.pointer (some ⟨T, 0, none⟩), .int .i64 e, .int .i64 n] w fun x w' => x = .returned (.int .i64 90) ∧ w' = w := by
  obtain ⟨S, G, m, h⟩ := h
  have c0 := h.cell.1
  have HG := hide (getL_any _ G S m h.tab e)
  rcases h.cases e with ⟨h1, _⟩ | ⟨k, b, r, rfl, _, _, _, h4, _⟩
  · rw [h1] at HG
    simp only [ptr, Option.isSome_none] at HG
    clear h h1 hn
    go_enter Try.func14, Try.ntmps14
    go_wp2_with fail
    refine HG.out.mono ?_
    rintro e1 w1 ⟨rfl, rfl⟩
    go_wp2
    go_ret
    exact ⟨rfl, rfl⟩
  · rw [h4] at hn; cases hn
set_option maxHeartbeats 800000 in
theorem freeze_any (h : Et w F T rs last) (k : Nat) (r : Er) (hr : rs[k]? = some (some r)) (on : Bool) : Calls Try.prog 41 #[.pointer (some ⟨T, 0, none⟩), .int .i64 (k : Int), .bool on] w fun x w' => x = .returned (.int .i64 0) ∧ Et w' F T (rs.set k (some { r with fz := on })) last ∧ Mod F w w' := by
  obtain ⟨S, G, m, h⟩ := h
  have c0 := h.cell.1
  have HG := hide (getL_any _ G S m h.tab (k : Int))
  rcases h.cases (k : Int) with ⟨_, h1⟩ | ⟨k', b, r', e1, hm, h3, h4, _, hR⟩
  · rw [look_nat, hr] at h1; cases h1
  · obtain rfl : k = k' := by omega
    rw [hr] at h3; cases h3
    rw [h4] at HG
    simp only [ptr, Option.isSome_some] at HG
    have c5 := hR.get (j := 5) rfl
    have f5 := hR.frz 5
    have HF : Hid (Et (w.setCell ⟨b, 5, none⟩ (.bool on)) F T (rs.set k (some { r with fz := on })) last ∧ Mod F w (w.setCell ⟨b, 5, none⟩ (.bool on))) :=
      hide (Et.upd h hm (hR.set rfl) ((At.refl w b).set 5 _))
    clear h h4 hR
    go_enter Try.func41, Try.ntmps41
    go_wp2_with fail
    refine HG.out.mono ?_
    rintro e1 w1 ⟨rfl, rfl⟩
    go_wp2
    go_ret
    exact ⟨rfl, HF.out⟩
set_option maxHeartbeats 800000 in
theorem setBits_any (h : Et w F T rs last) (k : Nat) (r : Er) (hr : rs[k]? = some (some r)) (n : Int) (hn : 0 ≤ n ∧ n ≤ 4294967295) : Calls Try.prog 40 #[.pointer (some ⟨T, 0, none⟩), .int .i64 (k : Int), .int .i64 n] w fun x w' => x = .returned (.int .i64 0) ∧ Et w' F T (rs.set k (some { r with bi := n })) last ∧ Mod F w w' := by
  obtain ⟨S, G, m, h⟩ := h
  have c0 := h.cell.1
  have HG := hide (getL_any _ G S m h.tab (k : Int))
  rcases h.cases (k : Int) with ⟨_, h1⟩ | ⟨k', b, r', e1, hm, h3, h4, _, hR⟩
  · rw [look_nat, hr] at h1; cases h1
  · obtain rfl : k = k' := by omega
    rw [hr] at h3; cases h3
    rw [h4] at HG
    simp only [ptr, Option.isSome_some] at HG
    have HI := hide (isWord_any w n)
    rw [show decide (0 ≤ n ∧ n ≤ 4294967295) = true by simp [hn]] at HI
    have c4 := hR.get (j := 4) rfl
    have f4 := hR.frz 4
    have HF : Hid (Et (w.setCell ⟨b, 4, none⟩ (.int .i64 n)) F T (rs.set k (some { r with bi := n })) last ∧ Mod F w (w.setCell ⟨b, 4, none⟩ (.int .i64 n))) :=
      hide (Et.upd h hm (hR.set rfl) ((At.refl w b).set 4 _))
    clear h h4 hR hn
    go_enter Try.func40, Try.ntmps40
    go_wp2_with fail
    refine HG.out.mono ?_
    rintro e1 w1 ⟨rfl, rfl⟩
    go_wp2_with fail
    refine HI.out.mono ?_
    rintro e1 w1 ⟨rfl, rfl⟩
    go_wp2
    go_ret
    exact ⟨rfl, HF.out⟩
end
end Go.Proofs.Ytoddadohmnaolaa
