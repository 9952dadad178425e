import Derived.Test.YtoddadohmnaolaaEC
namespace Go.Proofs.Ytoddadohmnaolaa
open Go.RowKit

theorem row_cell {w : World} {base : Nat} {a : Option Addr} {n c : Nat} {l : List Int} (h : w.ownsRow base 3 1 (.slice a n c) n (nums l)) {k : Nat} {z : Int} (hk : l[k]? = some z) : ∃ g, a = some ⟨g, 0, none⟩ ∧ w.cell? ⟨g, k, none⟩ = some (.int .i64 z) := by
  have hn : n = l.length := by have := h.1; simpa [nums] using this.symm
  have hkl : k < n := by rw [hn]; exact (List.getElem?_eq_some_iff.1 hk).1
  have h' := h
  obtain ⟨h1, ⟨h2, h3⟩ | ⟨g, cap, cur, h2, _⟩⟩ := h
  · omega
  · cases h2
    refine ⟨g, rfl, ?_⟩
    rw [h'.cellAt k (by omega)]
    simp [nums, hk]
set_option maxRecDepth 8000 in
set_option maxHeartbeats 3200000 in
theorem index_any (w : World) (F : Nat → Prop) (T : Nat) (rs : List (Option Er)) (last : Int) (h : Et w F T rs last) (base : Nat) (a : Option Addr) (c : Nat) (l : List Int) (hrow : w.ownsRow base 3 1 (.slice a l.length c) l.length (nums l)) (P : Int → Bool) (hP : ∀ z ∈ l, ∃ (k : Nat) (r : Er), z = k ∧ rs[k]? = some (some r) ∧ r.fz = P z) (hl : l.length ≤ 16) :
    Calls Try.prog 59 #[.slice a l.length c, .func (.func 37) #[.pointer (some ⟨T, 0, none⟩)] #[]] w fun x w' => (∃ z : Int, x = .returned (.int .i64 z) ∧ (0 ≤ z ↔ l.any P = true)) ∧ w' = w := by
  have HH := hide h
  have HP := hide hP
  have HRow := hide hrow
  obtain ⟨L, hL⟩ : ∃ L, l.length = L := ⟨_, rfl⟩
  rw [hL] at HRow hl ⊢
  have HLen := hide hL
  clear h hP hrow hL
  go_enter Try.func59, Try.ntmps59
  go_wp2_with fail
  go_loopw [8] (fun x wr => ∃ k : Nat, k ≤ L ∧ x = .int .i64 (k : Int) ∧ wr = w ∧ Hid (∀ j z, j < k → l[j]? = some z → P z = false)) (fun x _ => L - (intOf x).toNat)
  case atStart => exact ⟨0, by omega, rfl, rfl, hide (fun j z hj => by omega)⟩
  case round =>
  obtain ⟨k, hk, rfl, rfl, HN⟩ := hrel
  by_cases hlt : k < L
  · have hd : decide ((k : Int) < (L : Int)) = true := by simp; omega
    obtain ⟨z, hz⟩ : ∃ z, l[k]? = some z := ⟨_, List.getElem?_eq_getElem (by rw [HLen.out]; exact hlt)⟩
    obtain ⟨g, rfl, hc⟩ := row_cell HRow.out hz
    obtain ⟨kk, r, rfl, hr, hfz⟩ := HP.out z (List.mem_of_getElem? hz)
    have HC := hide (flagged_any wr F T rs last HH.out kk r hr)
    rw [hfz] at HC
    have HZ := hide hz
    clear hz hr hfz
    go_wp2_with fail
    refine HC.out.mono ?_
    rintro e1 w1 ⟨rfl, rfl⟩
    cases hp : P (kk : Int)
    · have HPF := hide hp
      clear hp
      go_wp2
      go_roundw
      case rel =>
        have HN2 : Hid (∀ j z, j < k + 1 → l[j]? = some z → P z = false) := hide (fun j z hj hz => by
          by_cases e : j = k
          · subst e; rw [HZ.out] at hz; cases hz; exact HPF.out
          · exact HN.out j z (by omega) hz)
        first
          | exact ⟨k + 1, by omega, by go_num, by trivial, HN2⟩
          | ((repeat apply Exists.intro); refine ⟨?_, rfl⟩; exact ⟨k + 1, by omega, by go_num, by trivial, HN2⟩)
      case measure => simp [intOf]; omega
    · have HPT := hide hp
      clear hp
      go_wp2
      go_ret
      refine ⟨⟨(k : Int), rfl, ⟨fun _ => ?_, fun _ => by omega⟩⟩, rfl⟩
      rw [List.any_eq_true]
      exact ⟨_, List.mem_of_getElem? HZ.out, HPT.out⟩
  · have hd : decide ((k : Int) < (L : Int)) = false := by simp; omega
    go_wp2
    go_ret
    refine ⟨⟨-1, rfl, ⟨fun h => by omega, fun h => ?_⟩⟩, rfl⟩
    rw [List.any_eq_true] at h
    obtain ⟨z, h1, h2⟩ := h
    obtain ⟨j, hj, e⟩ := List.getElem_of_mem h1
    have := HN.out j z (by have := HLen.out; omega) (by rw [List.getElem?_eq_getElem hj, e])
    rw [this] at h2; cases h2
set_option maxHeartbeats 1600000 in
theorem contains_any (w : World) (F : Nat → Prop) (T : Nat) (rs : List (Option Er)) (last : Int) (h : Et w F T rs last) (base : Nat) (a : Option Addr) (c : Nat) (l : List Int) (hrow : w.ownsRow base 3 1 (.slice a l.length c) l.length (nums l)) (P : Int → Bool) (hP : ∀ z ∈ l, ∃ (k : Nat) (r : Er), z = k ∧ rs[k]? = some (some r) ∧ r.fz = P z) (hl : l.length ≤ 16) :
    Calls Try.prog 35 #[.slice a l.length c, .func (.func 37) #[.pointer (some ⟨T, 0, none⟩)] #[]] w fun x w' => x = .returned (.bool (l.any P)) ∧ w' = w := by
  have HI := hide (index_any w F T rs last h base a c l hrow P hP hl)
  generalize l.length = L at *
  generalize l.any P = q at *
  clear h hrow hP hl
  go_enter Try.func35, Try.ntmps35
  go_wp2_with fail
  refine HI.out.mono ?_
  rintro e1 w1 ⟨⟨z, rfl, hz⟩, rfl⟩
  have hq : decide (0 ≤ z) = q := by
    cases q
    · simp at hz ⊢; exact hz
    · simp at hz ⊢; exact hz
  have HQ := hide hq
  clear hz hq
  go_wp2
  go_ret
  refine ⟨?_, rfl⟩
  rw [← HQ.out]
  rfl
end Go.Proofs.Ytoddadohmnaolaa
