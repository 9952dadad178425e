import Derived.Test.YtoddadohmnaolaaED
namespace Go.Proofs.Ytoddadohmnaolaa
open Go.RowKit

/-- a number with all above it: each lives -/
theorem line_lives {rs : List (Option Er)} {e : Int} {l : List Int} (h : Line rs e l) : ∀ z ∈ l, ∃ (k : Nat) (r : Er), z = k ∧ rs[k]? = some (some r) := by
  induction l generalizing e with
  | nil => intro z hz; cases hz
  | cons z0 l ih0 =>
    obtain ⟨rfl, r, h, hl0⟩ := h
    have ih := ih0 hl0
    intro z hz
    rcases List.mem_cons.1 hz with rfl | hz
    · rcases look_cases rs z with ⟨_, e1⟩ | ⟨k, rfl, _, _, e1⟩ | ⟨k, x, rfl, _, hm, e1⟩
      · rw [e1] at h; cases h
      · rw [e1] at h; cases h
      · exact ⟨k, x, rfl, hm⟩
    · exact ih z hz
/-- the flag at a number -/
def flg (rs : List (Option Er)) (z : Int) : Bool := match look rs z with | some r => r.fz | none => false
theorem flg_at {rs : List (Option Er)} {k : Nat} {r : Er} (h : rs[k]? = some (some r)) : r.fz = flg rs (k : Int) := by
  unfold flg
  rw [look_nat, h]; rfl
section
variable (w : World) (F : Nat → Prop) (T : Nat) (rs : List (Option Er)) (last : Int)
set_option maxRecDepth 8000 in
set_option maxHeartbeats 3200000 in
theorem runs_any (h : Et w F T rs last) (k : Nat) (r : Er) (hr : rs[k]? = some (some r)) (l : List Int) (hL : Line rs (k : Int) l) (hl : l.length ≤ 16) : Calls Try.prog 13 #[.pointer (some ⟨T, 0, none⟩), .int .i64 (k : Int)] w fun x w' => x = .returned (.bool (decide (r.st = 1) && !(l.any (flg rs)))) ∧ Below w.heap.size w w' := by
  have HE := hide h
  have HLn := hide (line_any w F T rs last h _ l hL hl)
  have HLv : Hid (∀ z ∈ l, ∃ (k : Nat) (r : Er), z = k ∧ rs[k]? = some (some r) ∧ r.fz = flg rs z) := hide (fun z hz => by
    obtain ⟨k, r, rfl, h1⟩ := line_lives hL z hz
    exact ⟨k, r, rfl, h1, flg_at h1⟩)
  have HLe := hide hl
  have HB := hide (Below.refl w.heap.size w)
  obtain ⟨S, G, m, h⟩ := h
  have c0 := h.cell.1
  have HG := hide (getL_any _ G S m h.tab (k : Int))
  rcases h.cases (k : Int) with ⟨_, h1⟩ | ⟨k', b, r', e1, hm, h3, h4, _, hR⟩
  · rw [look_nat, hr] at h1; cases h1
  · obtain rfl : k = k' := by omega
    rw [hr] at h3; cases h3
    rw [h4] at HG
    simp only [ptr, Option.isSome_some] at HG
    have c2 := hR.get (j := 2) rfl
    clear h h4 hR hL hl
    by_cases hs : r.st = 1
    · rw [hs] at c2
      simp only [hs, decide_true, Bool.true_and]
      clear hs
      go_enter Try.func13, Try.ntmps13
      go_wp2_with fail
      refine HG.out.mono ?_
      rintro e1 w1 ⟨rfl, rfl⟩
      go_wp2_with fail
      refine HLn.out.mono ?_
      rintro e1 w2 ⟨v, rfl, hrow, hb⟩
      obtain ⟨a, c, rfl⟩ := own_shape hrow
      have HC := hide (contains_any w2 F T rs last (HE.out.below hb) _ a c l hrow (flg rs) HLv.out HLe.out)
      have HB2 := hide hb
      obtain ⟨q, hq⟩ : ∃ q, l.any (flg rs) = q := ⟨_, rfl⟩
      rw [hq] at HC
      have HQ := hide hq
      clear hrow hb hq
      go_wp2_with fail
      refine HC.out.mono ?_
      rintro e1 w3 ⟨rfl, rfl⟩
      go_wp2
      go_ret
      exact ⟨by rw [HQ.out]; rfl, HB2.out⟩
    · have hsb : (r.st == 1) = false := by simp [hs]
      simp only [hs, decide_false, Bool.false_and]
      go_enter Try.func13, Try.ntmps13
      go_wp2_with fail
      refine HG.out.mono ?_
      rintro e1 w1 ⟨rfl, rfl⟩
      go_wp2
      go_ret
      exact ⟨rfl, HB.out⟩
end
end Go.Proofs.Ytoddadohmnaolaa
