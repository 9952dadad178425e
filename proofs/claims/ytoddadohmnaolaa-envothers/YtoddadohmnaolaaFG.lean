import Derived.Test.YtoddadohmnaolaaFF
namespace Go.Proofs.Ytoddadohmnaolaa
open Go.RowKit Go.Shelf

section
variable (w : World) (F : Nat → Prop) (T : Nat) (rs : List (Option Er)) (last : Int)
set_option maxHeartbeats 800000 in
theorem setBitsBad_any (h : Et w F T rs last) (k : Nat) (r : Er) (hr : rs[k]? = some (some r)) (n : Int) (hn : ¬ (0 ≤ n ∧ n ≤ 4294967295)) : Calls Try.prog 40 #[.pointer (some ⟨T, 0, none⟩), .int .i64 (k : Int), .int .i64 n] w fun x w' => x = .returned (.int .i64 1) ∧ w' = w := by
  obtain ⟨S, G, m, h⟩ := h
  have c0 := h.cell.1
  have HG := hide (getL_any _ G S m h.tab (k : Int))
  rcases h.cases (k : Int) with ⟨_, h1⟩ | ⟨k', b, r', e1, hm, h3, h4, _, hR⟩
  · rw [look_nat, hr] at h1; cases h1
  · obtain rfl : k = k' := by omega
    rw [hr] at h3; cases h3
    rw [h4] at HG
    simp only [ptr, Option.isSome_some] at HG
    have HI := hide (isWord_any w n)
    rw [show decide (0 ≤ n ∧ n ≤ 4294967295) = false by simpa using hn] at HI
    clear h h4 hR hn
    go_enter Try.func40, Try.ntmps40
    go_wp2_with fail
    refine HG.out.mono ?_
    rintro e1 w1 ⟨rfl, rfl⟩
    go_wp2_with fail
    refine HI.out.mono ?_
    rintro e1 w1 ⟨rfl, rfl⟩
    go_wp2
    go_ret
    exact ⟨rfl, rfl⟩
set_option maxHeartbeats 800000 in
theorem setStateBad1_any (h : Et w F T rs last) (k : Nat) (r : Er) (hr : rs[k]? = some (some r)) (st co : Int) (hs : st < 0) : Calls Try.prog 10 #[.pointer (some ⟨T, 0, none⟩), .int .i64 (k : Int), .int .i64 st, .int .i64 co] w fun x w' => x = .returned (.int .i64 1) ∧ w' = w := by
  obtain ⟨S, G, m, h⟩ := h
  have c0 := h.cell.1
  have HG := hide (getL_any _ G S m h.tab (k : Int))
  rcases h.cases (k : Int) with ⟨_, h1⟩ | ⟨k', b, r', e1, hm, h3, h4, _, hR⟩
  · rw [look_nat, hr] at h1; cases h1
  · obtain rfl : k = k' := by omega
    rw [hr] at h3; cases h3
    rw [h4] at HG
    simp only [ptr, Option.isSome_some] at HG
    clear h h4 hR
    go_enter Try.func10, Try.ntmps10
    go_wp2_with fail
    refine HG.out.mono ?_
    rintro e1 w1 ⟨rfl, rfl⟩
    go_wp2
    go_ret
    exact ⟨rfl, rfl⟩
set_option maxHeartbeats 800000 in
theorem setStateBad2_any (h : Et w F T rs last) (k : Nat) (r : Er) (hr : rs[k]? = some (some r)) (st co : Int) (hs : 4 < st) : Calls Try.prog 10 #[.pointer (some ⟨T, 0, none⟩), .int .i64 (k : Int), .int .i64 st, .int .i64 co] w fun x w' => x = .returned (.int .i64 1) ∧ w' = w := by
  obtain ⟨S, G, m, h⟩ := h
  have c0 := h.cell.1
  have HG := hide (getL_any _ G S m h.tab (k : Int))
  rcases h.cases (k : Int) with ⟨_, h1⟩ | ⟨k', b, r', e1, hm, h3, h4, _, hR⟩
  · rw [look_nat, hr] at h1; cases h1
  · obtain rfl : k = k' := by omega
    rw [hr] at h3; cases h3
    rw [h4] at HG
    simp only [ptr, Option.isSome_some] at HG
    have hs1 : ¬ st < 0 := by omega
    clear h h4 hR
    go_enter Try.func10, Try.ntmps10
    go_wp2_with fail
    refine HG.out.mono ?_
    rintro e1 w1 ⟨rfl, rfl⟩
    go_wp2
    go_ret
    exact ⟨rfl, rfl⟩
set_option maxHeartbeats 800000 in
theorem setStateBad3_any (h : Et w F T rs last) (k : Nat) (r : Er) (hr : rs[k]? = some (some r)) (st co : Int) (hs : 0 ≤ st ∧ st ≤ 4) (hc : ¬ (0 ≤ co ∧ co ≤ 4294967295)) : Calls Try.prog 10 #[.pointer (some ⟨T, 0, none⟩), .int .i64 (k : Int), .int .i64 st, .int .i64 co] w fun x w' => x = .returned (.int .i64 1) ∧ w' = w := by
  obtain ⟨S, G, m, h⟩ := h
  have c0 := h.cell.1
  have HG := hide (getL_any _ G S m h.tab (k : Int))
  rcases h.cases (k : Int) with ⟨_, h1⟩ | ⟨k', b, r', e1, hm, h3, h4, _, hR⟩
  · rw [look_nat, hr] at h1; cases h1
  · obtain rfl : k = k' := by omega
    rw [hr] at h3; cases h3
    rw [h4] at HG
    simp only [ptr, Option.isSome_some] at HG
    have HI := hide (isWord_any w co)
    rw [show decide (0 ≤ co ∧ co ≤ 4294967295) = false by simpa using hc] at HI
    have hs1 : ¬ st < 0 := by omega
    have hs2 : ¬ 4 < st := by omega
    clear h h4 hR hc hs
    go_enter Try.func10, Try.ntmps10
    go_wp2_with fail
    refine HG.out.mono ?_
    rintro e1 w1 ⟨rfl, rfl⟩
    go_wp2_with fail
    refine HI.out.mono ?_
    rintro e1 w1 ⟨rfl, rfl⟩
    go_wp2
    go_ret
    exact ⟨rfl, rfl⟩
set_option maxRecDepth 8000 in
set_option maxHeartbeats 1600000 in
theorem setRegsNone_any (h : Et w F T rs last) (e : Int) (hn : look rs e = none) (g : Nat → Nat) (pc : Nat) : Calls Try.prog 11 #[.pointer (some ⟨T, 0, none⟩), .int .i64 e, .agg (regsL g pc).toArray] w fun x w' => x = .returned (.int .i64 90) ∧ Below w.heap.size w w' := by
  have hb1 := (Below.refl w.heap.size w).alloc (Nat.le_refl _) (.cells (regsL g pc).toArray 33)
  obtain ⟨S, G, m, h⟩ := h
  have h1 := h.below hb1
  have c0 := h1.cell.1
  have HG := hide (getL_any _ G S m h1.tab e)
  have HB := hide hb1
  rcases h.cases e with ⟨h2, _⟩ | ⟨k', b, r', e1, hm, h3, h4, h5, hR⟩
  · rw [h2] at HG
    simp only [ptr, Option.isSome_none] at HG
    clear h h1 h2 hb1
    unfold regsL at *
    go_enter Try.func11, Try.ntmps11
    go_wp2_with fail
    refine HG.out.mono ?_
    rintro e1 w1 ⟨rfl, rfl⟩
    go_wp2
    go_ret
    exact ⟨rfl, HB.out⟩
  · rw [hn] at h5; cases h5
end
/-- the same but for states, registers, notices, flags -/
def KQ (rs rs' : List (Option Er)) : Prop := Same rs rs' ∧ ∀ (i : Nat) (r' : Er), rs'[i]? = some (some r') → ∃ r : Er, rs[i]? = some (some r) ∧ r'.pd = r.pd ∧ r'.le = r.le
section
variable {w : World} {F : Nat → Prop} {T : Nat} {rs : List (Option Er)} {last : Int}
theorem KQ.refl (rs : List (Option Er)) : KQ rs rs := ⟨⟨rfl, fun _ => rfl⟩, fun _ r h => ⟨r, h, rfl, rfl⟩⟩
theorem KQ.set {k : Nat} {r r' : Er} (h : rs[k]? = some (some r)) (h1 : r'.se = r.se) (h2 : r'.pa = r.pa) (h3 : r'.qu = r.qu) (h4 : r'.pd = r.pd) (h5 : r'.le = r.le) : KQ rs (rs.set k (some r')) := by
  refine ⟨Same.set h h1 h2 h3, fun i ri hi => ?_⟩
  by_cases e : i = k
  · subst e
    rw [List.getElem?_set_self (List.getElem?_eq_some_iff.1 h).1] at hi
    cases hi
    exact ⟨r, h, h4, h5⟩
  · rw [List.getElem?_set_ne (fun e' => e e'.symm)] at hi
    exact ⟨ri, hi, rfl, rfl⟩
/-- notices are words -/
def Wd (rs : List (Option Er)) : Prop := ∀ (k : Nat) (r : Er), rs[k]? = some (some r) → 0 ≤ r.bi ∧ r.bi ≤ 4294967295
theorem Wd.set (h : Wd rs) {k : Nat} {r' : Er} (hb : 0 ≤ r'.bi ∧ r'.bi ≤ 4294967295) : Wd (rs.set k (some r')) := by
  intro j rj hj
  by_cases e : j = k
  · subst e
    by_cases hl : j < rs.length
    · rw [List.getElem?_set_self hl] at hj; cases hj; exact hb
    · rw [List.getElem?_eq_none (by simp; omega)] at hj; cases hj
  · rw [List.getElem?_set_ne (fun e' => e e'.symm)] at hj; exact h j rj hj
/-- what a setting call leaves -/
def Qu (w : World) (F : Nat → Prop) (T : Nat) (rs : List (Option Er)) (last : Int) (rs' : List (Option Er)) (w' : World) : Prop := Et w' F T rs' last ∧ Mod F w w' ∧ Iv rs' last ∧ Wd rs' ∧ KQ rs rs'
theorem Qu.same (h : Et w F T rs last) (iv : Iv rs last) (wd : Wd rs) : Qu w F T rs last rs w := ⟨h, Mod.refl _ _, iv, wd, KQ.refl _⟩
theorem Qu.bel (h : Et w F T rs last) (iv : Iv rs last) (wd : Wd rs) {w' : World} (hb : Below w.heap.size w w') : Qu w F T rs last rs w' := ⟨h.below hb, Mod.of_below hb, iv, wd, KQ.refl _⟩
theorem Qu.at (iv : Iv rs last) (wd : Wd rs) {k : Nat} {r r' : Er} (hr : rs[k]? = some (some r)) {w' : World} (h : Et w' F T (rs.set k (some r')) last) (hm : Mod F w w') (h1 : r'.se = r.se) (h2 : r'.pa = r.pa) (h3 : r'.qu = r.qu) (h4 : r'.pd = r.pd) (h5 : r'.le = r.le) (h6 : 0 ≤ r'.bi ∧ r'.bi ≤ 4294967295) : Qu w F T rs last (rs.set k (some r')) w' :=
  ⟨h, hm, iv.keepq hr h1 h2 h3 h4 h5, wd.set h6, KQ.set hr h1 h2 h3 h4 h5⟩
/-- one record changed -/
def atE (rs : List (Option Er)) (e : Int) (f : Er → Er) : List (Option Er) := match look rs e with | none => rs | some r => rs.set e.toNat (some (f r))
theorem atE_none {e : Int} {f : Er → Er} (hl : look rs e = none) : atE rs e f = rs := by unfold atE; rw [hl]
theorem atE_some {k : Nat} {r : Er} {f : Er → Er} (hl : look rs (k : Int) = some r) : atE rs (k : Int) f = rs.set k (some (f r)) := by unfold atE; rw [hl]; rfl
def rgS (rs : List (Option Er)) (e : Int) (g : Nat → Nat) (pc : Nat) : List (Option Er) := atE rs e (fun r => { r with rg := g, pc := pc })
def stS (rs : List (Option Er)) (e st co : Int) : List (Option Er) := if (0 ≤ st ∧ st ≤ 4) ∧ (0 ≤ co ∧ co ≤ 4294967295) then atE rs e (fun r => { r with st := st, co := co }) else rs
def btS (rs : List (Option Er)) (e n : Int) : List (Option Er) := if 0 ≤ n ∧ n ≤ 4294967295 then atE rs e (fun r => { r with bi := n }) else rs
def noS (rs : List (Option Er)) (e n : Int) : List (Option Er) := if 0 ≤ n ∧ n ≤ 4294967295 then atE rs e (fun r => noticed r n) else rs
def waS (rs : List (Option Er)) (e : Int) : List (Option Er) := atE rs e waited
def frS (rs : List (Option Er)) (e : Int) (on : Bool) : List (Option Er) := atE rs e (fun r => { r with fz := on })
theorem stS_none {e st co : Int} (hl : look rs e = none) : stS rs e st co = rs := by unfold stS; rw [atE_none hl]; split <;> rfl
theorem btS_none {e n : Int} (hl : look rs e = none) : btS rs e n = rs := by unfold btS; rw [atE_none hl]; split <;> rfl
theorem noS_none {e n : Int} (hl : look rs e = none) : noS rs e n = rs := by unfold noS; rw [atE_none hl]; split <;> rfl
theorem setRegs_q (h : Et w F T rs last) (iv : Iv rs last) (wd : Wd rs) (e : Int) (g : Nat → Nat) (pc : Nat) : Calls Try.prog 11 #[.pointer (some ⟨T, 0, none⟩), .int .i64 e, .agg (regsL g pc).toArray] w fun x w' => (∃ c, x = .returned (.int .i64 c)) ∧ Qu w F T rs last (rgS rs e g pc) w' := by
  cases hl : look rs e with
  | none =>
    rw [show (rgS rs e g pc) = rs from by unfold rgS; exact atE_none hl]
    exact (setRegsNone_any w F T rs last h e hl g pc).mono (fun x w' ⟨h1, h2⟩ => ⟨⟨_, h1⟩, Qu.bel h iv wd h2⟩)
  | some r =>
    obtain ⟨k, rfl, hr⟩ := look_some hl
    rw [show (rgS rs (k : Int) g pc) = rs.set k (some { r with rg := g, pc := pc }) by unfold rgS; rw [atE_some hl]]
    exact (setRegs_any w F T rs last h k r hr g pc).mono (fun x w' ⟨h1, h2, h3⟩ => ⟨⟨_, h1⟩, Qu.at iv wd hr h2 h3 rfl rfl rfl rfl rfl (wd k r hr)⟩)
theorem setState_q (h : Et w F T rs last) (iv : Iv rs last) (wd : Wd rs) (e st co : Int) : Calls Try.prog 10 #[.pointer (some ⟨T, 0, none⟩), .int .i64 e, .int .i64 st, .int .i64 co] w fun x w' => (∃ c, x = .returned (.int .i64 c)) ∧ Qu w F T rs last (stS rs e st co) w' := by
  have same : ∀ {c : Int} {x : Ending} {w' : World}, (x = .returned (.int .i64 c) ∧ w' = w) → (∃ c, x = .returned (.int .i64 c)) ∧ Qu w F T rs last rs w' := fun ⟨h1, h2⟩ => ⟨⟨_, h1⟩, by rw [h2]; exact Qu.same h iv wd⟩
  cases hl : look rs e with
  | none =>
    rw [show (stS rs e st co) = rs from stS_none hl]
    exact (setStateNone_any w F T rs last h e hl st co).mono (fun x w' hh => same hh)
  | some r =>
    obtain ⟨k, rfl, hr⟩ := look_some hl
    by_cases h1 : st < 0
    · rw [show (stS rs (k : Int) st co) = rs by unfold stS; rw [if_neg (by omega)]]
      exact (setStateBad1_any w F T rs last h k r hr st co h1).mono (fun x w' hh => same hh)
    by_cases h2 : 4 < st
    · rw [show (stS rs (k : Int) st co) = rs by unfold stS; rw [if_neg (by omega)]]
      exact (setStateBad2_any w F T rs last h k r hr st co h2).mono (fun x w' hh => same hh)
    by_cases h3 : 0 ≤ co ∧ co ≤ 4294967295
    · rw [show (stS rs (k : Int) st co) = rs.set k (some { r with st := st, co := co }) by unfold stS; rw [if_pos ⟨by omega, h3⟩, atE_some hl]]
      exact (setState_any w F T rs last h k r hr st co ⟨by omega, by omega⟩ h3).mono (fun x w' ⟨h1, h2, h3⟩ => ⟨⟨_, h1⟩, Qu.at iv wd hr h2 h3 rfl rfl rfl rfl rfl (wd k r hr)⟩)
    · rw [show (stS rs (k : Int) st co) = rs by unfold stS; rw [if_neg (fun h9 => h3 h9.2)]]
      exact (setStateBad3_any w F T rs last h k r hr st co ⟨by omega, by omega⟩ h3).mono (fun x w' hh => same hh)
theorem setBits_q (h : Et w F T rs last) (iv : Iv rs last) (wd : Wd rs) (e n : Int) : Calls Try.prog 40 #[.pointer (some ⟨T, 0, none⟩), .int .i64 e, .int .i64 n] w fun x w' => (∃ c, x = .returned (.int .i64 c)) ∧ Qu w F T rs last (btS rs e n) w' := by
  cases hl : look rs e with
  | none =>
    rw [show (btS rs e n) = rs from btS_none hl]
    exact (setBitsNone_any w F T rs last h e hl n).mono (fun x w' ⟨h1, h2⟩ => ⟨⟨_, h1⟩, by rw [h2]; exact Qu.same h iv wd⟩)
  | some r =>
    obtain ⟨k, rfl, hr⟩ := look_some hl
    by_cases h3 : 0 ≤ n ∧ n ≤ 4294967295
    · have hn := h3
      rw [show (btS rs (k : Int) n) = rs.set k (some { r with bi := n }) by unfold btS; rw [if_pos hn, atE_some hl]]
      exact (setBits_any w F T rs last h k r hr n h3).mono (fun x w' ⟨h1, h2, h3⟩ => ⟨⟨_, h1⟩, Qu.at iv wd hr h2 h3 rfl rfl rfl rfl rfl hn⟩)
    · rw [show (btS rs (k : Int) n) = rs by unfold btS; rw [if_neg h3]]
      exact (setBitsBad_any w F T rs last h k r hr n h3).mono (fun x w' ⟨h1, h2⟩ => ⟨⟨_, h1⟩, by rw [h2]; exact Qu.same h iv wd⟩)
theorem noticed_keeps (r : Er) (n : Int) : (noticed r n).se = r.se ∧ (noticed r n).pa = r.pa ∧ (noticed r n).qu = r.qu ∧ (noticed r n).pd = r.pd ∧ (noticed r n).le = r.le := by
  unfold noticed
  split <;> exact ⟨rfl, rfl, rfl, rfl, rfl⟩
theorem waited_keeps (r : Er) : (waited r).se = r.se ∧ (waited r).pa = r.pa ∧ (waited r).qu = r.qu ∧ (waited r).pd = r.pd ∧ (waited r).le = r.le := by
  unfold waited
  split <;> exact ⟨rfl, rfl, rfl, rfl, rfl⟩
theorem or_word (a n : Int) (ha : 0 ≤ a ∧ a ≤ 4294967295) (hn : 0 ≤ n ∧ n ≤ 4294967295) : 0 ≤ bits .or .i64 a n ∧ bits .or .i64 a n ≤ 4294967295 := by
  obtain ⟨x, rfl⟩ := Int.eq_ofNat_of_zero_le ha.1
  obtain ⟨y, rfl⟩ := Int.eq_ofNat_of_zero_le hn.1
  have h1 := bits_or_i64 x y (by omega) (by omega)
  have h2 := or_lt x y (by omega) (by omega)
  rw [h1]; omega
theorem notify_q (h : Et w F T rs last) (iv : Iv rs last) (wd : Wd rs) (e n : Int) : Calls Try.prog 14 #[.pointer (some ⟨T, 0, none⟩), .int .i64 e, .int .i64 n] w fun x w' => (∃ c, x = .returned (.int .i64 c)) ∧ Qu w F T rs last (noS rs e n) w' := by
  cases hl : look rs e with
  | none =>
    rw [show (noS rs e n) = rs from noS_none hl]
    exact (notifyNone_any w F T rs last h e hl n).mono (fun x w' ⟨h1, h2⟩ => ⟨⟨_, h1⟩, by rw [h2]; exact Qu.same h iv wd⟩)
  | some r =>
    obtain ⟨k, rfl, hr⟩ := look_some hl
    by_cases hn : 0 ≤ n ∧ n ≤ 4294967295
    · obtain ⟨q1, q2, q3, q4, q5⟩ := noticed_keeps r n
      have hz := or_word r.bi n (wd k r hr) hn
      have q6 : 0 ≤ (noticed r n).bi ∧ (noticed r n).bi ≤ 4294967295 := by unfold noticed; split <;> first | exact hz | exact (show (0 : Int) ≤ 0 ∧ (0 : Int) ≤ 4294967295 from ⟨by decide, by decide⟩)
      rw [show (noS rs (k : Int) n) = rs.set k (some (noticed r n)) by unfold noS; rw [if_pos hn, atE_some hl]]
      exact (notify_any w F T rs last h k r hr n hn hz).mono (fun x w' ⟨h1, h2, h3⟩ => ⟨⟨_, h1⟩, Qu.at iv wd hr h2 h3 q1 q2 q3 q4 q5 q6⟩)
    · rw [show (noS rs (k : Int) n) = rs by unfold noS; rw [if_neg hn]]
      exact (notifyBad_any w F T rs last h k r hr n hn).mono (fun x w' ⟨h1, h2⟩ => ⟨⟨_, h1⟩, by rw [h2]; exact Qu.same h iv wd⟩)
theorem wait_q (h : Et w F T rs last) (iv : Iv rs last) (wd : Wd rs) (e : Int) : Calls Try.prog 12 #[.pointer (some ⟨T, 0, none⟩), .int .i64 e] w fun x w' => (∃ c d, x = .returned (.tuple #[.int .i64 c, .int .i64 d])) ∧ Qu w F T rs last (waS rs e) w' := by
  cases hl : look rs e with
  | none =>
    rw [show (waS rs e) = rs from by unfold waS; exact atE_none hl]
    exact (waitNone_any w F T rs last h e hl).mono (fun x w' ⟨h1, h2⟩ => ⟨⟨_, _, h1⟩, by rw [h2]; exact Qu.same h iv wd⟩)
  | some r =>
    obtain ⟨k, rfl, hr⟩ := look_some hl
    obtain ⟨q1, q2, q3, q4, q5⟩ := waited_keeps r
    have q6 : 0 ≤ (waited r).bi ∧ (waited r).bi ≤ 4294967295 := by unfold waited; split <;> exact (show (0 : Int) ≤ 0 ∧ (0 : Int) ≤ 4294967295 from ⟨by decide, by decide⟩)
    rw [show (waS rs (k : Int)) = rs.set k (some (waited r)) by unfold waS; rw [atE_some hl]]
    exact (waitSome_any w F T rs last h k r hr).mono (fun x w' ⟨h1, h2, h3⟩ => ⟨⟨_, _, h1⟩, Qu.at iv wd hr h2 h3 q1 q2 q3 q4 q5 q6⟩)
theorem freeze_q (h : Et w F T rs last) (iv : Iv rs last) (wd : Wd rs) (e : Int) (on : Bool) : Calls Try.prog 41 #[.pointer (some ⟨T, 0, none⟩), .int .i64 e, .bool on] w fun x w' => (∃ c, x = .returned (.int .i64 c)) ∧ Qu w F T rs last (frS rs e on) w' := by
  cases hl : look rs e with
  | none =>
    rw [show (frS rs e on) = rs from by unfold frS; exact atE_none hl]
    exact (freezeNone_any w F T rs last h e hl on).mono (fun x w' ⟨h1, h2⟩ => ⟨⟨_, h1⟩, by rw [h2]; exact Qu.same h iv wd⟩)
  | some r =>
    obtain ⟨k, rfl, hr⟩ := look_some hl
    rw [show (frS rs (k : Int) on) = rs.set k (some { r with fz := on }) by unfold frS; rw [atE_some hl]]
    exact (freeze_any w F T rs last h k r hr on).mono (fun x w' ⟨h1, h2, h3⟩ => ⟨⟨_, h1⟩, Qu.at iv wd hr h2 h3 rfl rfl rfl rfl rfl (wd k r hr)⟩)
end
end Go.Proofs.Ytoddadohmnaolaa
