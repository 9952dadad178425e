import Derived.Test.YtogpgchfaalikaaX4
import Derived.Test.YtogpgchfaalikaaC9
namespace Go.Proofs.Ytogpgchfaalikaa
open Go.RowKit

section
variable (w : World) (T : Nat) (dv : Value) (C : Nat → Cl)
/-- where a sector of an extent lies; what is wrong -/
def loc (C : Nat → Cl) (z s : Int) : Int × Int :=
  if isCl C z then (if 0 ≤ s ∧ s < 32 then (z * 32 + s, 0) else (0, 40)) else (0, 100)
theorem loc_ok {C : Nat → Cl} {z s : Int} (h : (loc C z s).2 = 0) : ∃ n k : Nat, z = n ∧ s = k ∧ n < 32 ∧ k < 32 ∧ 0 < (C n).ho ∧ loc C z s = (((n * 32 + k : Nat) : Int), 0) := by
  unfold loc at h ⊢
  cases hc : isCl C z
  · rw [hc] at h; simp at h
  · rw [hc] at h
    by_cases hs : 0 ≤ s ∧ s < 32
    · unfold isCl at hc
      have hz : (0 ≤ z ∧ z < 32) ∧ 0 < (C z.toNat).ho := by simpa using hc
      refine ⟨z.toNat, s.toNat, by omega, by omega, by omega, by omega, hz.2, ?_⟩
      rw [if_pos rfl, if_pos hs]
      congr 1; omega
    · rw [if_pos rfl, if_neg hs] at h; simp at h
theorem locate_any (h : Tb w T dv C) (z s : Int) : Calls Try.prog 35 #[tp T, .int .i64 z, .int .i64 s] w fun e w' => e = .returned (.tuple #[.int .i64 (loc C z s).1, .int .i64 (loc C z s).2]) ∧ w' = w := by
  have HC := hide (claimed_any w T dv C h z)
  unfold loc
  cases hc : isCl C z
  · rw [hc] at HC
    clear h hc
    simp only [Bool.false_eq_true, if_false]
    go_enter Try.func35, Try.ntmps35
    go_wp2_with fail
    refine HC.out.mono ?_
    rintro e w1 ⟨rfl, rfl⟩
    go_wp2
    go_ret2
    exact ⟨rfl, rfl⟩
  · rw [hc] at HC
    have hz : 0 ≤ z ∧ z < 32 := by unfold isCl at hc; simp at hc; omega
    clear h hc
    simp only [if_true]
    rcases Int.lt_or_le s 0 with h1 | h1
    · have hd : decide (s < 0) = true := by simp [h1]
      rw [if_neg (by omega)]
      go_enter Try.func35, Try.ntmps35
      go_wp2_with fail
      refine HC.out.mono ?_
      rintro e w1 ⟨rfl, rfl⟩
      go_wp2
      go_ret2
      exact ⟨rfl, rfl⟩
    · have hd : decide (s < 0) = false := by simp; omega
      by_cases h2 : s < 32
      · have hd2 : decide (32 ≤ s) = false := by simp; omega
        rw [if_pos ⟨h1, h2⟩]
        go_enter Try.func35, Try.ntmps35
        go_wp2_with fail
        refine HC.out.mono ?_
        rintro e w1 ⟨rfl, rfl⟩
        go_wp2
        go_ret2
        exact ⟨rfl, rfl⟩
      · have hd2 : decide (32 ≤ s) = true := by simp; omega
        rw [if_neg (by omega)]
        go_enter Try.func35, Try.ntmps35
        go_wp2_with fail
        refine HC.out.mono ?_
        rintro e w1 ⟨rfl, rfl⟩
        go_wp2
        go_ret2
        exact ⟨rfl, rfl⟩
/-- a call that finds no such sector -/
theorem readE_no (h : Tb w T dv C) (z s : Int) (hn : (loc C z s).2 ≠ 0) : Calls Try.prog 17 #[tp T, .int .i64 z, .int .i64 s] w fun e w' => e = .returned (.tuple #[.slice none 0 0, .int .i64 (loc C z s).2]) ∧ w' = w := by
  have HL := hide (locate_any w T dv C h z s)
  have hd : ((loc C z s).2 == 0) = false := by simp [hn]
  generalize (loc C z s).2 = y at *
  generalize (loc C z s).1 = x at *
  clear h hn
  go_enter Try.func17, Try.ntmps17
  go_wp2_with fail
  refine HL.out.mono ?_
  rintro e w1 ⟨rfl, rfl⟩
  go_wp2
  go_ret2
  exact ⟨rfl, rfl⟩
theorem writeE_no (h : Tb w T dv C) (z s : Int) (v : Value) (hn : (loc C z s).2 ≠ 0) : Calls Try.prog 15 #[tp T, .int .i64 z, .int .i64 s, v] w fun e w' => e = .returned (.int .i64 (loc C z s).2) ∧ w' = w := by
  have HL := hide (locate_any w T dv C h z s)
  have hd : ((loc C z s).2 == 0) = false := by simp [hn]
  generalize (loc C z s).2 = y at *
  generalize (loc C z s).1 = x at *
  clear h hn
  go_enter Try.func15, Try.ntmps15
  go_wp2_with fail
  refine HL.out.mono ?_
  rintro e w1 ⟨rfl, rfl⟩
  go_wp2
  go_ret
  exact ⟨rfl, rfl⟩
end
/-- the device of a table over the disk at block B -/
abbrev dvB (B : Nat) : Value := .iface 23 (tp B)
section
variable (w : World) (T B : Nat) (C : Nat → Cl)
theorem loc_at {C : Nat → Cl} {n s P : Nat} (hn : n < 32) (hs : s < 32) (hc : 0 < (C n).ho) (hP : n * 32 + s = P) : loc C (n : Int) (s : Int) = ((P : Int), 0) := by
  unfold loc
  rw [isCl_nat C hn, if_pos (by simpa using hc), if_pos (by omega)]
  congr 1; omega
/-- a call that finds its sector is the disk's -/
theorem readE_via (h : Tb w T (dvB B) C) (n s P : Nat) (hn : n < 32) (hs : s < 32) (hc : 0 < (C n).ho) (hP : n * 32 + s = P) (R : Value → Int → World → Prop)
    (hR : Calls Try.prog 37 #[dp B, .int .i64 (P : Int)] w fun e w' => ∃ r x, e = .returned (.tuple #[r, .int .i64 x]) ∧ R r x w') :
    Calls Try.prog 17 #[tp T, .int .i64 (n : Int), .int .i64 (s : Int)] w fun e w' => ∃ r x, e = .returned (.tuple #[r, .int .i64 x]) ∧ R r x w' := by
  have HL := hide (locate_any w T _ C h (n : Int) (s : Int))
  rw [loc_at hn hs hc hP] at HL
  have HR := hide hR
  have c0 := h.dev
  clear h hc hR hP
  go_enter Try.func17, Try.ntmps17
  go_wp2_with fail
  refine HL.out.mono ?_
  rintro e w1 ⟨rfl, rfl⟩
  go_wp2_with fail
  refine HR.out.mono ?_
  rintro e w2 ⟨r, x, rfl, hq⟩
  have HQ := hide hq
  clear hq
  go_wp2
  go_ret2
  exact ⟨r, x, rfl, HQ.out⟩
theorem writeE_via (h : Tb w T (dvB B) C) (n s P : Nat) (hn : n < 32) (hs : s < 32) (hc : 0 < (C n).ho) (hP : n * 32 + s = P) (v : Value) (R : Int → World → Prop)
    (hR : Calls Try.prog 36 #[dp B, .int .i64 (P : Int), v] w fun e w' => ∃ x, e = .returned (.int .i64 x) ∧ R x w') :
    Calls Try.prog 15 #[tp T, .int .i64 (n : Int), .int .i64 (s : Int), v] w fun e w' => ∃ x, e = .returned (.int .i64 x) ∧ R x w' := by
  have HL := hide (locate_any w T _ C h (n : Int) (s : Int))
  rw [loc_at hn hs hc hP] at HL
  have HR := hide hR
  have c0 := h.dev
  clear h hc hR hP
  go_enter Try.func15, Try.ntmps15
  go_wp2_with fail
  refine HL.out.mono ?_
  rintro e w1 ⟨rfl, rfl⟩
  go_wp2_with fail
  refine HR.out.mono ?_
  rintro e w2 ⟨x, rfl, hq⟩
  have HQ := hide hq
  clear hq
  go_wp2
  go_ret
  exact ⟨x, rfl, HQ.out⟩
theorem flushE_via (h : Tb w T (dvB B) C) (R : Int → World → Prop)
    (hR : Calls Try.prog 87 #[dp B] w fun e w' => ∃ x, e = .returned (.int .i64 x) ∧ R x w') :
    Calls Try.prog 25 #[tp T] w fun e w' => ∃ x, e = .returned (.int .i64 x) ∧ R x w' := by
  have HR := hide hR
  have c0 := h.dev
  clear h hR
  go_enter Try.func25, Try.ntmps25
  go_wp2_with fail
  refine HR.out.mono ?_
  rintro e w2 ⟨x, rfl, hq⟩
  have HQ := hide hq
  clear hq
  go_wp2
  go_ret
  exact ⟨x, rfl, HQ.out⟩
end
section
variable {w : World} {T B : Nat} {C : Nat → Cl} {D : Dsk} {F : Nat → Prop}
theorem readE_ok (h : Tb w T (dvB B) C) (hd : DkA B D w F) (n s : Nat) (hn : n < 32) (hs : s < 32) (hc : 0 < (C n).ho) (hw : D.down = false) :
    Calls Try.prog 17 #[tp T, .int .i64 (n : Int), .int .i64 (s : Int)] w fun e w' => ∃ r, e = .returned (.tuple #[r, .int .i64 0]) ∧ Ow w' w.heap.size r (D.seen (n * 32 + s)) ∧ Below w.heap.size w w' := by
  refine (readE_via w T B C h n s _ hn hs hc rfl (fun r x w' => x = 0 ∧ Ow w' w.heap.size r (D.seen (n * 32 + s)) ∧ Below w.heap.size w w') ((read_ok hd (n * 32 + s) (by omega) hw).mono ?_)).mono ?_
  · rintro e w' ⟨r, rfl, h1, h2⟩; exact ⟨r, 0, rfl, rfl, h1, h2⟩
  · rintro e w' ⟨r, x, rfl, rfl, h1, h2⟩; exact ⟨r, rfl, h1, h2⟩
theorem writeE_ok (h : Tb w T (dvB B) C) (hd : DkA B D w F) (n s : Nat) (hn : n < 32) (hs : s < 32) (hc : 0 < (C n).ho) (v : Value) (zs : List Nat) (hv : Rd w v zs) (hz : Sec zs) (hnF : ∀ b, v.ownBlock = some b → ¬ F b)
    (hw : D.down = false) (hl : D.armed = true → D.left ≠ 0) (ha : D.acts < 1152921504606846976) (hc2 : D.c.length < 1000000000) :
    Calls Try.prog 15 #[tp T, .int .i64 (n : Int), .int .i64 (s : Int), v] w fun e w' => e = .returned (.int .i64 0) ∧ ∃ F', DkA B (D.acted.put (n * 32 + s) zs) w' F' ∧ Ext F w F' w' := by
  refine (writeE_via w T B C h n s _ hn hs hc rfl v (fun x w' => x = 0 ∧ ∃ F', DkA B (D.acted.put (n * 32 + s) zs) w' F' ∧ Ext F w F' w') ((write_ok hd (n * 32 + s) v zs (by omega) hv hz hnF hw hl ha hc2).mono ?_)).mono ?_
  · rintro e w' ⟨rfl, h1⟩; exact ⟨0, rfl, rfl, h1⟩
  · rintro e w' ⟨x, rfl, rfl, h1⟩; exact ⟨rfl, h1⟩
end
end Go.Proofs.Ytogpgchfaalikaa
