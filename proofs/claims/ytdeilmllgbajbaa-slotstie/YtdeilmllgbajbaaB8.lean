import Derived.Test.YtdeilmllgbajbaaB7
import Derived.Laws.AppendOwn
import Derived.Laws.AppendOwnNone
import Derived.Deep.Cut
namespace Go.Proofs.Ytdeilmllgbajbaa
open Go.RowKit

def encP (L : List (Int × Int)) : List Value := L.flatMap fun p => [.int .i64 p.1, .int .i64 p.2]
theorem encP_len (L : List (Int × Int)) : (encP L).length = L.length * 2 := by
  induction L with
  | nil => rfl
  | cons t r ih => simp only [encP, List.flatMap_cons, List.length_append, List.length_cons, List.length_nil] at *; omega
theorem encP_at : ∀ (L : List (Int × Int)) (k : Nat) (p : Int × Int), L[k]? = some p → (encP L)[k * 2]? = some (.int .i64 p.1) ∧ (encP L)[k * 2 + 1]? = some (.int .i64 p.2)
  | [], k, t, h => by simp at h
  | u :: r, 0, t, h => by simp at h; subst h; simp [encP]
  | u :: r, k + 1, t, h => by
    obtain ⟨h1, h2⟩ := encP_at r k t (by simpa using h)
    simp only [encP, List.flatMap_cons] at *
    refine ⟨?_, ?_⟩
    · rw [List.getElem?_append_right (by simp; omega), ← h1]; congr 1; simp; omega
    · rw [List.getElem?_append_right (by simp; omega), ← h2]; congr 1; simp; omega
theorem encP_snoc (L : List (Int × Int)) (a b : Int) : encP (L ++ [(a, b)]) = encP L ++ [.int .i64 a, .int .i64 b] := by simp [encP]
theorem ownsRow_lt {w : World} {base e size n : Nat} {v : Value} {xs : List Value} (h : w.ownsRow base e size v n xs) {b : Nat} (hb : v.ownBlock = some b) : b < w.heap.size := (World.ownsRow.lt h b hb).2
theorem ownsRow_keep {w w' : World} {base e size n : Nat} {v : Value} {xs : List Value} (h : w.ownsRow base e size v n xs) (hk : ∀ b, v.ownBlock = some b → w'.heap[b]? = w.heap[b]?) : w'.ownsRow base e size v n xs := by
  obtain ⟨hl, ⟨rfl, h0⟩ | ⟨g, cap, cur, rfl, hb, hg, r⟩⟩ := h
  · exact ⟨hl, .inl ⟨rfl, h0⟩⟩
  · exact ⟨hl, .inr ⟨g, cap, cur, rfl, hb, by rw [hk g rfl]; exact hg, r⟩⟩
theorem own_shape {w : World} {base e size n : Nat} {v : Value} {xs : List Value} (h : w.ownsRow base e size v n xs) : ∃ a cap, v = .slice a n cap := by
  obtain ⟨_, ⟨rfl, rfl⟩ | ⟨g, cap, cur, rfl, _⟩⟩ := h
  · exact ⟨none, 0, rfl⟩
  · exact ⟨_, cap, rfl⟩
/-- the document's tie: its pairs -/
structure RbAt (w : World) (F : Nat → Prop) (J : Nat) (v : Value) (L : List (Int × Int)) : Prop where
  top : w.heap[J]? = some (.cells #[v] 45 (0, 0))
  row : w.ownsRow 0 71 2 v L.length (encP L)
  nJ : v.ownBlock ≠ some J
  fJ : F J
  fv : ∀ b, v.ownBlock = some b → F b
  lt : ∀ b, F b → b < w.heap.size
def Rb (w : World) (F : Nat → Prop) (J : Nat) (L : List (Int × Int)) : Prop := ∃ v, RbAt w F J v L
section
variable {w w' : World} {F : Nat → Prop} {J : Nat} {v : Value} {L : List (Int × Int)}
theorem RbAt.keep (h : RbAt w F J v L) (hs : w.heap.size ≤ w'.heap.size) (hk : ∀ b, F b → w'.heap[b]? = w.heap[b]?) : RbAt w' F J v L :=
  ⟨by rw [hk J h.fJ]; exact h.top, ownsRow_keep h.row (fun b e => hk b (h.fv b e)), h.nJ, h.fJ, h.fv, fun b hb => Nat.lt_of_lt_of_le (h.lt b hb) hs⟩
theorem Rb.keep (h : Rb w F J L) (hs : w.heap.size ≤ w'.heap.size) (hk : ∀ b, F b → w'.heap[b]? = w.heap[b]?) : Rb w' F J L := by obtain ⟨v, h⟩ := h; exact ⟨v, h.keep hs hk⟩
theorem Rb.lt (h : Rb w F J L) : ∀ b, F b → b < w.heap.size := by obtain ⟨v, h⟩ := h; exact h.lt
theorem Rb.below (h : Rb w F J L) (hb : Below w.heap.size w w') : Rb w' F J L := h.keep hb.size (fun b hf => hb.block b (h.lt b hf))
theorem Rb.apart (h : Rb w F J L) {G G' : Nat → Prop} (hx : Ext G w G' w') (hd : ∀ b, F b → ¬ G b) : Rb w' F J L := h.keep hx.mod.size (fun b hb => hx.mod.block b (h.lt b hb) (hd b hb))
theorem RbAt.cell (h : RbAt w F J v L) : w.cell? ⟨J, 0, none⟩ = some v ∧ w.frozen? ⟨J, 0, none⟩ = false := ⟨by rw [cell_of_row _ _ _ _ _ _ h.top]; rfl, frozen_of_row _ _ _ _ _ h.top⟩
theorem RbAt.at (h : RbAt w F J v L) {k : Nat} {p : Int × Int} (hk : L[k]? = some p) : ∃ g cap, v = .slice (some ⟨g, 0, none⟩) L.length cap ∧ w.cell? ⟨g, k * 2, none⟩ = some (.int .i64 p.1) ∧ w.cell? ⟨g, k * 2 + 1, none⟩ = some (.int .i64 p.2) := by
  have hkl := (List.getElem?_eq_some_iff.1 hk).1
  have h' := h.row
  obtain ⟨hl, ⟨_, h2⟩ | ⟨g, cap, cur, hv, _⟩⟩ := h'
  · omega
  · refine ⟨g, cap, hv, ?_⟩
    obtain ⟨e1, e2⟩ := encP_at L k p hk
    have h' := h.row
    rw [hv] at h'
    have q1 := World.ownsRow.cells h' rfl _ _ e1
    have q2 := World.ownsRow.cells h' rfl _ _ e2
    rw [add0] at q1 q2
    exact ⟨q1, q2⟩
end
set_option maxHeartbeats 800000 in
theorem left_any (w : World) (F : Nat → Prop) (J : Nat) (L : List (Int × Int)) (h : Rb w F J L) (hL : L.length ≤ 4398046511104) (a : Int) :
    Calls Try.prog 36 #[.pointer (some ⟨J, 0, none⟩), .int .i64 a] w fun x w' => (∃ q : Int, x = .returned (.int .i64 q) ∧ ((q = -1 ∧ ∀ p ∈ L, p.1 ≠ a) ∨ ∃ (i : Nat) (b : Int), q = i ∧ L[i]? = some (a, b))) ∧ w' = w := by
  obtain ⟨v, h⟩ := h
  obtain ⟨ao, cap, rfl⟩ := own_shape h.row
  have c0 := h.cell.1
  have HA : Hid (∀ (k : Nat) (p : Int × Int), L[k]? = some p → ∃ g, ao = some ⟨g, 0, none⟩ ∧ w.cell? ⟨g, k * 2, none⟩ = some (.int .i64 p.1)) := hide (fun k p hk => by
    obtain ⟨g, c, hv, h1, h2⟩ := h.at hk
    cases hv; exact ⟨g, rfl, h1⟩)
  have HL : Hid (∀ k, k < L.length → ∃ p, L[k]? = some p) := hide (fun k hk => ⟨_, List.getElem?_eq_getElem hk⟩)
  have HE : Hid (∀ k, (∀ (j : Nat) (p : Int × Int), j < k → L[j]? = some p → p.1 ≠ a) → L.length ≤ k → ∀ p ∈ L, p.1 ≠ a) := hide (fun k hj hk p hp => by
    obtain ⟨j, hj2⟩ := List.getElem?_of_mem hp
    exact hj j p (by have := (List.getElem?_eq_some_iff.1 hj2).1; omega) hj2)
  clear h
  generalize L.length = n at *
  go_enter Try.func36, Try.ntmps36
  go_wp2
  go_loopw [5] (fun i wr => ∃ k : Nat, k ≤ n ∧ i = .int .i64 k ∧ wr = w ∧ Hid (∀ (j : Nat) (p : Int × Int), j < k → L[j]? = some p → p.1 ≠ a)) (fun i _ => n - (intOf i).toNat)
  case atStart => exact ⟨0, by omega, rfl, rfl, fun j p h2 => by omega⟩
  case round =>
    obtain ⟨k, hk, rfl, rfl, hH⟩ := hrel
    by_cases hlt : k < n
    · obtain ⟨p, hp⟩ := HL.out k hlt
      obtain ⟨g, rfl, c2⟩ := HA.out k p hp
      have HP := hide hp
      clear hp
      by_cases hpa : p.1 = a
      · have hd : (p.1 == a) = true := by simp [hpa]
        have HPA := hide hpa
        clear hpa
        go_wp2
        go_ret
        exact ⟨⟨_, rfl, .inr ⟨k, p.2, rfl, by rw [HP.out, ← HPA.out]⟩⟩, rfl⟩
      · have hd : (p.1 == a) = false := by simp [hpa]
        have HPA := hide hpa
        clear hpa
        go_wp2
        go_roundw
        case rel => exact ⟨k + 1, by omega, by go_num, by first | rfl | trivial, fun j q h1 h2 => by
            rcases Nat.lt_or_ge j k with h3 | h3
            · exact hH j q h3 h2
            · obtain rfl : j = k := by omega
              rw [HP.out] at h2; cases h2; exact HPA.out⟩
        case measure => simp [intOf]; omega
    · have HF := hide (HE.out k hH (by omega))
      go_wp2
      go_ret
      exact ⟨⟨_, rfl, .inl ⟨rfl, HF.out⟩⟩, rfl⟩
end Go.Proofs.Ytdeilmllgbajbaa
