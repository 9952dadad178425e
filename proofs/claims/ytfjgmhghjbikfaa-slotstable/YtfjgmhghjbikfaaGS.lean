import Derived.Test.YtfjgmhghjbikfaaGD
import Derived.Test.YtfjgmhghjbikfaaGX
namespace Go.Proofs.Ytfjgmhghjbikfaa
open Go.RowKit

/-- what lies at a taken place is turned -/
theorem TabAt.turn {α : Type} {K : Knd α} {w w' : World} {F : Nat → Prop} {B p : Nat} {ps : List (Option Nat)} {m : List (Option α)} (h : TabAt K w F B p ps m) {i q : Nat} {x : α} (hi : m[i]? = some (some x)) (hq : ps[i]? = some (some q)) (v : α)
    (hs : w.heap.size ≤ w'.heap.size) (hk : ∀ b, F b → b ≠ q → w'.heap[b]? = w.heap[b]?) (hw : w'.heap[q]? = some (.cells (K.enc v) K.E (0, 0))) : TabAt K w' F B p ps (m.set i (some v)) := by
  obtain ⟨hil, e⟩ := List.getElem?_eq_some_iff.1 hi
  obtain ⟨q', h1, h2, h3, h4, h5⟩ := h.held i x hi
  rw [hq] at h1; cases h1
  have hc : (m.set i (some v)).countP Option.isSome = m.countP Option.isSome := by
    have hp : 0 < m.countP Option.isSome := List.countP_pos_iff.2 ⟨_, List.mem_of_getElem? hi, rfl⟩
    rw [List.countP_set hil, e]; simp; omega
  refine ⟨?_, ?_, by simp [h.len], ?_, ?_, h.inj, h.fB, h.fp, h.ne, ?_, by simpa using h.cap⟩
  · rw [hk B h.fB (fun e => h4 e.symm), hc]; simpa using h.top
  · rw [hk p h.fp (fun e => h5 e.symm)]; exact h.row
  · intro j hj
    rw [List.getElem?_set] at hj
    split at hj
    · simp at hj
    · exact h.free j hj
  · intro j y hj
    rw [List.getElem?_set] at hj
    split at hj
    · rename_i e
      subst e
      simp at hj
      subst hj
      exact ⟨q, hq, hw, h3, h4, h5⟩
    · rename_i e
      obtain ⟨q2, g1, g2, g3, g4, g5⟩ := h.held j y hj
      refine ⟨q2, g1, ?_, g3, g4, g5⟩
      rw [hk q2 g3 (fun e2 => e (h.inj i j q hq (by rw [g1, e2])))]
      exact g2
  · intro b hb; have := h.lt b hb; omega

set_option maxHeartbeats 800000 in
theorem setC_any (w : World) (F : Nat → Prop) (B : Nat) (m : List (Option Cl)) (h : Tab KC w F B m) (i : Int) (v : Cl) :
    Calls Try.prog 30 #[.pointer (some ⟨B, 0, none⟩), .int .i64 i, v.val] w fun e w' => ∃ m', e = .returned (.bool (look m i).isSome) ∧ Tab KC w' F B m' ∧ Ext F w F w' ∧
      ((look m i = none ∧ m' = m) ∨ ∃ (k : Nat) (x : Cl), i = k ∧ m[k]? = some (some x) ∧ m' = m.set k (some v)) := by
  have hB0 := (Below.refl w.heap.size w).alloc (Nat.le_refl _) (.cells #[.string v.s, .int .i64 v.a, .int .i64 v.b] 39)
  have h1 := h.below hB0
  have HT := hide h1
  have HX0 : Hid (Ext F w F (w.alloc (.cells #[.string v.s, .int .i64 v.a, .int .i64 v.b] 39))) := hide ⟨(Mod.refl F w).alloc _, fun _ h => .inl h⟩
  have HG := hide (holdsC_any _ F B m h1 i)
  have hbx := heap_alloc_new w (.cells #[.string v.s, .int .i64 v.a, .int .i64 v.b] 39)
  have hlt := h.lt
  have hmi : look m i = none ∨ ∃ (k : Nat) (x : Cl), i = k ∧ k < m.length ∧ m[k]? = some (some x) ∧ look m i = some x := by
    rcases look_cases m i with ⟨h1, e⟩ | ⟨k, rfl, hk, hm, e⟩ | ⟨k, x, rfl, hk, hm, e⟩
    · exact .inl e
    · exact .inl e
    · exact .inr ⟨k, x, rfl, hk, hm, e⟩
  simp only [Cl.val]
  rcases hmi with e | ⟨k, x, rfl, hk, hm, e⟩
  · rw [e] at HG ⊢
    have HE := hide e
    clear h e h1 hbx hlt hB0
    go_enter Try.func30, Try.ntmps30
    go_wp2_with fail
    refine HG.out.mono ?_
    rintro e w1 ⟨rfl, rfl⟩
    simp only [Option.isSome_none]
    go_wp2
    go_ret
    exact ⟨m, rfl, HT.out, HX0.out, .inl ⟨by first | exact HE.out | trivial, rfl⟩⟩
  · rw [e] at HG ⊢
    obtain ⟨p, ps, h1⟩ := h1
    have c0 := h1.cells.1
    obtain ⟨q, hq1, c2, hq3, hq4⟩ := h1.ptr hm
    have hq5 : q < w.heap.size := hlt q hq4
    obtain ⟨d0, d1, d2, f0, f1, f2⟩ := blk3 hq3
    obtain ⟨b0, b1, b2, _, _, _⟩ := blk3 hbx
    have HD := hide (h1.turn (w' := (((w.alloc (.cells #[.string v.s, .int .i64 v.a, .int .i64 v.b] 39)).setCell ⟨q, 0, none⟩ (.string v.s)).setCell ⟨q, 1, none⟩ (.int .i64 v.a)).setCell ⟨q, 2, none⟩ (.int .i64 v.b)) hm hq1 v (by simp [World.setCell]) (fun b _ hb => by rw [heap_setCell_other _ _ _ _ hb, heap_setCell_other _ _ _ _ hb, heap_setCell_other _ _ _ _ hb]) (set3 hq3 _ _ _))
    have HM := hide (((HX0.out.mod.setCell (p := ⟨q, 0, none⟩) (.inl hq4) (.string v.s)).setCell (p := ⟨q, 1, none⟩) (.inl hq4) (.int .i64 v.a)).setCell (p := ⟨q, 2, none⟩) (.inl hq4) (.int .i64 v.b))
    have HX := hide hm
    have hqn : q ≠ w.heap.size := by omega
    clear h h1 e hm hq1 hq3 hq4 hbx hlt HT hB0
    generalize m.length = n at *
    go_enter Try.func30, Try.ntmps30
    go_wp2_with fail
    refine HG.out.mono ?_
    rintro e w1 ⟨rfl, rfl⟩
    simp only [Option.isSome_some]
    have hsz : w.heap.size < (w.alloc (.cells #[.string v.s, .int .i64 v.a, .int .i64 v.b] 39)).heap.size := by simp
    clear hq5 hqn HX0 HG
    generalize w.heap.size = S0 at *
    generalize w.alloc (.cells #[.string v.s, .int .i64 v.a, .int .i64 v.b] 39) = w1 at *
    go_wp2
    go_region
    all_goals
      go_wp2
      go_ret
      exact ⟨_, rfl, ⟨_, _, HD.out.keep (Nat.le_refl _) (fun _ _ => rfl)⟩, ⟨HM.out.drew, fun _ h => .inl h⟩, .inr ⟨k, x, rfl, HX.out, rfl⟩⟩
end Go.Proofs.Ytfjgmhghjbikfaa
