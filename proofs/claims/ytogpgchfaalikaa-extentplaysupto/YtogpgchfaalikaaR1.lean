import Derived.Test.YtogpgchfaalikaaX8
namespace Go.Proofs.Ytogpgchfaalikaa
open Go.RowKit

/-- the document's list of claims: a number with its serial and holds -/
def encC (c : Nat × Cl) : List Value := [.int .i64 (c.1 : Int), .int .i64 c.2.se, .int .i64 (c.2.ho : Int)]
def encCs (cl : List (Nat × Cl)) : List Value := cl.flatMap encC
theorem encCs_len (cl : List (Nat × Cl)) : (encCs cl).length = cl.length * 3 := by
  induction cl with
  | nil => rfl
  | cons x r ih =>
    show (encC x ++ encCs r).length = _
    rw [List.length_append, ih]; simp [encC]; omega
theorem encCs_at {cl : List (Nat × Cl)} {i j : Nat} {c : Nat × Cl} {v : Value} (hc : cl[i]? = some c) (hv : (encC c)[j]? = some v) : (encCs cl)[i * 3 + j]? = some v := by
  induction cl generalizing i with
  | nil => simp at hc
  | cons x r ih =>
    show (encC x ++ encCs r)[i * 3 + j]? = _
    have hj : j < 3 := by have := (List.getElem?_eq_some_iff.1 hv).1; simpa [encC] using this
    cases i with
    | zero =>
      simp at hc; subst hc
      rw [List.getElem?_append_left (by simp [encC]; omega), ← hv]; congr 1; omega
    | succ i =>
      rw [List.getElem?_append_right (by simp [encC]; omega), ← ih (i := i) (by simpa using hc)]
      congr 1; simp [encC]; omega
theorem encCs_snoc (cl : List (Nat × Cl)) (c : Nat × Cl) : encCs (cl ++ [c]) = encCs cl ++ encC c := by simp [encCs]
/-- the list tells the claims C -/
structure Rel (cl : List (Nat × Cl)) (C : Nat → Cl) : Prop where
  is : ∀ (i n : Nat) (c : Cl), cl[i]? = some (n, c) → n < 32 ∧ C n = c ∧ 0 < c.ho
  has : ∀ n, n < 32 → 0 < (C n).ho → ∃ i : Nat, cl[i]? = some (n, C n)
  one : ∀ (i j n : Nat) (c d : Cl), cl[i]? = some (n, c) → cl[j]? = some (n, d) → i = j
structure TkAt (w : World) (K R : Nat) (cv : Value) (cl : List (Nat × Cl)) : Prop where
  top : w.heap[K]? = some (.cells #[cv, .pointer (some ⟨R, 0, none⟩)] 99 (0, 0))
  row : w.ownsRow 0 39 3 cv cl.length (encCs cl)
  ne : cv.ownBlock ≠ some K
/-- the document's table at block K, over its disk at block R -/
def TkA (K R : Nat) (C : Nat → Cl) (N : Nat) : Asn := fun w F => ∃ cv cl, TkAt w K R cv cl ∧ Rel cl C ∧ cl.length ≤ N ∧ ∀ b, F b ↔ b = K ∨ cv.ownBlock = some b
section
variable {w : World} {K R : Nat} {cv : Value} {cl : List (Nat × Cl)} {C : Nat → Cl}
theorem TkAt.lt (h : TkAt w K R cv cl) : K < w.heap.size := (Array.getElem?_eq_some_iff.1 h.top).1
theorem TkAt.cv0 (h : TkAt w K R cv cl) : w.cell? ⟨K, 0, none⟩ = some cv ∧ w.cell? ⟨K, 1, none⟩ = some (.pointer (some ⟨R, 0, none⟩)) ∧ w.frozen? ⟨K, 0, none⟩ = false :=
  ⟨by rw [cell_of_row _ _ _ _ _ _ h.top]; rfl, by rw [cell_of_row _ _ _ _ _ _ h.top]; rfl, frozen_of_row _ _ _ _ _ h.top⟩
theorem TkAt.shape (h : TkAt w K R cv cl) : ∃ a c, cv = .slice a cl.length c := own_shape h.row
theorem TkAt.at (h : TkAt w K R cv cl) {i : Nat} {c : Nat × Cl} (hc : cl[i]? = some c) : ∃ g cap, cv = .slice (some ⟨g, 0, none⟩) cl.length cap ∧ w.cell? ⟨g, i * 3, none⟩ = some (.int .i64 (c.1 : Int)) ∧ w.cell? ⟨g, i * 3 + 1, none⟩ = some (.int .i64 c.2.se) ∧ w.cell? ⟨g, i * 3 + 2, none⟩ = some (.int .i64 (c.2.ho : Int)) ∧ (∀ j, w.frozen? ⟨g, j, none⟩ = false) := by
  have hr := h.row
  obtain ⟨hl, ⟨_, h0⟩ | ⟨g, cap, cur, hv, hb, hg, _⟩⟩ := h.row
  · have := (List.getElem?_eq_some_iff.1 hc).1; omega
  · rw [hv] at hr
    have d0 := World.ownsRow.cells hr rfl _ _ (encCs_at (j := 0) hc rfl)
    have d1 := World.ownsRow.cells hr rfl _ _ (encCs_at (j := 1) hc rfl)
    have d2 := World.ownsRow.cells hr rfl _ _ (encCs_at (j := 2) hc rfl)
    rw [add0] at d0 d1 d2
    exact ⟨g, cap, hv, d0, d1, d2, fun j => frozen_of_row _ _ _ _ _ hg⟩
end
theorem good_tk (K R : Nat) (C : Nat → Cl) (N : Nat) : Good (TkA K R C N) := by
  refine ⟨?_, ?_⟩
  · rintro W H ⟨cv, cl, h, _, _, he⟩ b hb
    rcases (he b).1 hb with rfl | e
    · exact h.lt
    · exact ownsRow_lt h.row e
  · rintro W W' H ⟨cv, cl, h, hr, hn, he⟩ _ hk
    exact ⟨cv, cl, ⟨by rw [hk K ((he K).2 (.inl rfl))]; exact h.top, ownsRow_keep h.row (fun b e => hk b ((he b).2 (.inr e))), h.ne⟩, hr, hn, he⟩
set_option maxHeartbeats 1600000 in
theorem at_any (w : World) (K R : Nat) (cv : Value) (cl : List (Nat × Cl)) (C : Nat → Cl) (h : TkAt w K R cv cl) (hR : Rel cl C) (hlen : cl.length ≤ 2097152) (z : Int) :
    Calls Try.prog 69 #[tp K, .int .i64 z] w fun e w' => w' = w ∧ ((isCl C z = false ∧ e = .returned (.int .i64 (-1))) ∨ ∃ i : Nat, cl[i]? = some (z.toNat, C z.toNat) ∧ isCl C z = true ∧ e = .returned (.int .i64 (i : Int))) := by
  obtain ⟨c0, _, _⟩ := h.cv0
  obtain ⟨a, cp, hcv⟩ := h.shape
  have HH := hide h
  have HR := hide hR
  subst hcv
  clear h hR
  obtain ⟨L, hL⟩ : ∃ L, cl.length = L := ⟨_, rfl⟩
  rw [hL] at c0 hlen
  have HL := hide hL
  clear hL
  go_enter Try.func69, Try.ntmps69
  go_wp2
  go_loopw [5] (fun x wr => ∃ k : Nat, k ≤ L ∧ x = .int .i64 (k : Int) ∧ wr = w ∧ Hid (∀ (j n : Nat) (c : Cl), j < k → cl[j]? = some (n, c) → (n : Int) ≠ z)) (fun x _ => L - (intOf x).toNat)
  case atStart => exact ⟨0, by omega, rfl, rfl, hide (fun j n c hj => by omega)⟩
  case round =>
  obtain ⟨k, hk, rfl, rfl, KN⟩ := hrel
  by_cases hlt : k < L
  · have hd : decide ((k : Int) < (L : Int)) = true := by simp; omega
    obtain ⟨c, hc⟩ : ∃ c, cl[k]? = some c := ⟨_, List.getElem?_eq_getElem (by rw [HL.out]; exact hlt)⟩
    obtain ⟨g, cap, hv, d0, _, _, _⟩ := HH.out.at hc
    rw [HL.out] at hv
    cases hv
    have HC := hide hc
    clear hc
    by_cases he : (c.1 : Int) = z
    · have hb : ((c.1 : Int) == z) = true := by simp [he]
      have HZ := hide he
      clear he
      go_wp2
      go_ret
      obtain ⟨h1, h2, h3⟩ := HR.out.is k c.1 c.2 HC.out
      have hz : z.toNat = c.1 := by rw [← HZ.out]; simp
      refine ⟨rfl, .inr ⟨k, by rw [hz, h2]; exact HC.out, ?_, rfl⟩⟩
      rw [← HZ.out, isCl_nat C h1, h2]; simp [h3]
    · have hb : ((c.1 : Int) == z) = false := by simpa using he
      have HN : Hid (∀ (j n : Nat) (d : Cl), j < k + 1 → cl[j]? = some (n, d) → (n : Int) ≠ z) := hide (fun j n d hj hjd => by
        by_cases e : j = k
        · subst e; rw [HC.out] at hjd; cases hjd; exact he
        · exact KN.out j n d (by omega) hjd)
      clear he
      go_wp2
      go_roundw
      case rel =>
        first
          | exact ⟨k + 1, by omega, by go_num, by first | rfl | trivial, HN⟩
          | ((repeat apply Exists.intro); refine ⟨?_, rfl⟩; exact ⟨k + 1, by omega, by go_num, by first | rfl | trivial, HN⟩)
      case measure => simp [intOf]; omega
  · obtain rfl : k = L := by omega
    have hd : decide ((k : Int) < (k : Int)) = false := by simp
    go_wp2
    go_ret
    refine ⟨rfl, .inl ⟨?_, rfl⟩⟩
    cases hq : isCl C z
    · rfl
    · unfold isCl at hq
      have hz : (0 ≤ z ∧ z < 32) ∧ 0 < (C z.toNat).ho := by simpa using hq
      obtain ⟨i, hi⟩ := HR.out.has z.toNat (by omega) hz.2
      have hil := (List.getElem?_eq_some_iff.1 hi).1
      exact absurd (show ((z.toNat : Nat) : Int) = z by omega) (KN.out i z.toNat _ (by rw [← HL.out]; exact hil) hi)
theorem at_no {w : World} {K R : Nat} {cv : Value} {cl : List (Nat × Cl)} {C : Nat → Cl} (h : TkAt w K R cv cl) (hR : Rel cl C) (hlen : cl.length ≤ 2097152) {z : Int} (hz : isCl C z = false) :
    Calls Try.prog 69 #[tp K, .int .i64 z] w fun e w' => e = .returned (.int .i64 (-1)) ∧ w' = w := by
  refine (at_any w K R cv cl C h hR hlen z).mono ?_
  rintro e w' ⟨rfl, ⟨_, rfl⟩ | ⟨i, _, hc, _⟩⟩
  · exact ⟨rfl, rfl⟩
  · rw [hz] at hc; cases hc
theorem at_yes {w : World} {K R : Nat} {cv : Value} {cl : List (Nat × Cl)} {C : Nat → Cl} (h : TkAt w K R cv cl) (hR : Rel cl C) (hlen : cl.length ≤ 2097152) {z : Int} (hz : isCl C z = true) :
    ∃ (n i : Nat), z = n ∧ n < 32 ∧ 0 < (C n).ho ∧ cl[i]? = some (n, C n) ∧ Calls Try.prog 69 #[tp K, .int .i64 z] w fun e w' => e = .returned (.int .i64 (i : Int)) ∧ w' = w := by
  have hq := hz
  unfold isCl at hq
  have hz2 : (0 ≤ z ∧ z < 32) ∧ 0 < (C z.toNat).ho := by simpa using hq
  obtain ⟨i, hi⟩ := hR.has z.toNat (by omega) hz2.2
  refine ⟨z.toNat, i, by omega, by omega, hz2.2, hi, (at_any w K R cv cl C h hR hlen z).mono ?_⟩
  rintro e w' ⟨rfl, ⟨hc, _⟩ | ⟨j, hj, _, rfl⟩⟩
  · rw [hz] at hc; cases hc
  · rw [hR.one i j _ _ _ hi hj]; exact ⟨rfl, rfl⟩
end Go.Proofs.Ytogpgchfaalikaa
