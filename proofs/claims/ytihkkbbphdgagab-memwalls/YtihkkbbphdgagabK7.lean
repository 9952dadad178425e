import Derived.Test.YtihkkbbphdgagabK5
namespace Go.Proofs.Ytihkkbbphdgagab
open Go.RowKit

/-- the step names frame 0 as the one to be changed -/
def Nm (o : Ost) : Prop := ((o.kd = 2 ∨ o.kd = 3 ∨ o.kd = 5 ∨ o.kd = 7 ∨ o.kd = 10) ∧ o.fa = 0) ∨ (o.kd = 8 ∧ o.ga = 0)
def nmB (o : Ost) : Bool := decide (((o.kd = 2 ∨ o.kd = 3 ∨ o.kd = 5 ∨ o.kd = 7 ∨ o.kd = 10) ∧ o.fa = 0) ∨ (o.kd = 8 ∧ o.ga = 0))
theorem nm_yes {o : Ost} (h : Nm o) : nmB o = true := decide_eq_true h
theorem nm_no {o : Ost} (h : ¬ Nm o) : nmB o = false := decide_eq_false h
set_option maxRecDepth 10000 in
set_option maxHeartbeats 2000000 in
theorem names_any (w : World) (o : Ost) :
    Calls Try.prog 9 #[.agg o.cells.toArray, .int .i64 0] w fun e w' => e = .returned (.bool (nmB o)) ∧ Below w.heap.size w w' := by
  have hO := Ob.new w o
  have hB0 : Below w.heap.size w (w.alloc (.cells o.cells.toArray 34)) := (Below.refl _ _).alloc (Nat.le_refl _) _
  obtain ⟨b, hb⟩ : ∃ b, nmB o = b := ⟨_, rfl⟩
  rw [hb]
  have HW := hide hb
  clear hb
  go_enter Try.func9, Try.ntmps9
  go_upto_region 1 with fail
  generalize w.alloc (.cells o.cells.toArray 34) = w0 at *
  obtain ⟨_, c1, c2, c3, c4, c5⟩ := hO.c
  have HB := hide hB0
  clear hO hB0
  by_cases k2 : o.kd = 2
  · rw [k2] at c1
    by_cases a1 : o.fa = 0
    · obtain rfl : b = true := by rw [← HW.out]; exact nm_yes (by unfold Nm; omega)
      rw [a1] at c2
      go_wp2
      go_ret
      exact ⟨rfl, HB.out⟩
    · obtain rfl : b = false := by rw [← HW.out]; exact nm_no (by unfold Nm; omega)
      have d : (o.fa == 0) = false := by simpa using a1
      go_wp2
      go_ret
      refine ⟨?_, HB.out⟩
      simp
  by_cases k3 : o.kd = 3
  · rw [k3] at c1
    by_cases a1 : o.fa = 0
    · obtain rfl : b = true := by rw [← HW.out]; exact nm_yes (by unfold Nm; omega)
      rw [a1] at c2
      go_wp2
      go_ret
      exact ⟨rfl, HB.out⟩
    · obtain rfl : b = false := by rw [← HW.out]; exact nm_no (by unfold Nm; omega)
      have d : (o.fa == 0) = false := by simpa using a1
      go_wp2
      go_ret
      refine ⟨?_, HB.out⟩
      simp
  by_cases k5 : o.kd = 5
  · rw [k5] at c1
    by_cases a1 : o.fa = 0
    · obtain rfl : b = true := by rw [← HW.out]; exact nm_yes (by unfold Nm; omega)
      rw [a1] at c2
      go_wp2
      go_ret
      exact ⟨rfl, HB.out⟩
    · obtain rfl : b = false := by rw [← HW.out]; exact nm_no (by unfold Nm; omega)
      have d : (o.fa == 0) = false := by simpa using a1
      go_wp2
      go_ret
      refine ⟨?_, HB.out⟩
      simp
  by_cases k7 : o.kd = 7
  · rw [k7] at c1
    by_cases a1 : o.fa = 0
    · obtain rfl : b = true := by rw [← HW.out]; exact nm_yes (by unfold Nm; omega)
      rw [a1] at c2
      go_wp2
      go_ret
      exact ⟨rfl, HB.out⟩
    · obtain rfl : b = false := by rw [← HW.out]; exact nm_no (by unfold Nm; omega)
      have d : (o.fa == 0) = false := by simpa using a1
      go_wp2
      go_ret
      refine ⟨?_, HB.out⟩
      simp
  by_cases k10 : o.kd = 10
  · rw [k10] at c1
    by_cases a1 : o.fa = 0
    · obtain rfl : b = true := by rw [← HW.out]; exact nm_yes (by unfold Nm; omega)
      rw [a1] at c2
      go_wp2
      go_ret
      exact ⟨rfl, HB.out⟩
    · obtain rfl : b = false := by rw [← HW.out]; exact nm_no (by unfold Nm; omega)
      have d : (o.fa == 0) = false := by simpa using a1
      go_wp2
      go_ret
      refine ⟨?_, HB.out⟩
      simp
  by_cases k8 : o.kd = 8
  · rw [k8] at c1
    by_cases a1 : o.ga = 0
    · obtain rfl : b = true := by rw [← HW.out]; exact nm_yes (by unfold Nm; omega)
      rw [a1] at c3
      go_wp2
      go_ret
      exact ⟨rfl, HB.out⟩
    · obtain rfl : b = false := by rw [← HW.out]; exact nm_no (by unfold Nm; omega)
      have d : (o.ga == 0) = false := by simpa using a1
      go_wp2
      go_ret
      refine ⟨?_, HB.out⟩
      simp
  obtain rfl : b = false := by rw [← HW.out]; exact nm_no (by unfold Nm; omega)
  go_wp2
  go_ret
  exact ⟨rfl, HB.out⟩
/-- frame 0 is f, and no frame is held more than q times -/
structure Wl (m : Nat → Fr) (f : Fr) (q : Nat) : Prop where
  fr : m 0 = f
  one : f.h = 1
  b : ∀ j, (m j).h ≤ q
theorem Wl.on {m : Nat → Fr} {f : Fr} {q : Nat} (h : Wl m f q) : On m 8 0 := ⟨by omega, by rw [h.fr, h.one]; omega⟩
theorem Wl.mono {m : Nat → Fr} {f : Fr} {q : Nat} (h : Wl m f q) : Wl m f (q + 1) := ⟨h.fr, h.one, fun j => Nat.le_succ_of_le (h.b j)⟩
theorem Wl.step {m m' : Nat → Fr} {f : Fr} {q : Nat} {o : Ost} (h : Wl m f q) (he : Eff 8 m o m') (hn : ¬ Nm o) : Wl m' f (q + 1) := by
  have key : ∀ (t : Nat) (g : Fr), t ≠ 0 → g.h ≤ q + 1 → Wl (upd m t g) f (q + 1) := by
    intro t g ht hg
    refine ⟨by rw [upd_other _ _ (Ne.symm ht)]; exact h.fr, h.one, fun j => ?_⟩
    unfold upd; split
    · exact hg
    · have := h.b j; omega
  have b := h.b
  have h1 := b 0
  rw [h.fr, h.one] at h1
  cases he using Eff.ind with
  | taken k hk hq hz => exact key k _ (by intro e; subst e; rw [h.fr, h.one] at hz; omega) (by simp [Fr.new])
  | held k hk hf hu => exact key k _ (by intro e; subst e; exact hn (by unfold Nm; omega)) (by have := b k; show (m k).h + 1 ≤ q + 1; omega)
  | less k hk hf hu => exact key k _ (by intro e; subst e; exact hn (by unfold Nm; omega)) (by have := b k; show (m k).h - 1 ≤ q + 1; omega)
  | gone k hk hf hu => exact key k _ (by intro e; subst e; exact hn (by unfold Nm; omega)) (by simp [Fr.nil])
  | stored k i hk hf hu hi hx => exact key k _ (by intro e; subst e; exact hn (by unfold Nm; omega)) (by have := b k; show (m k).h ≤ q + 1; omega)
  | paged k hk hf hu => exact key k _ (by intro e; subst e; exact hn (by unfold Nm; omega)) (by have := b k; show (m k).h ≤ q + 1; omega)
  | copied k t hk hf hg hu ht => exact key t _ (by intro e; subst e; exact hn (by unfold Nm; omega)) (by have := b t; show (m t).h ≤ q + 1; omega)
  | cleaned k hk hf hu => exact key k _ (by intro e; subst e; exact hn (by unfold Nm; omega)) (by have := b k; show (m k).h ≤ q + 1; omega)
  | same h5 h7 h8 => exact h.mono
end Go.Proofs.Ytihkkbbphdgagab
