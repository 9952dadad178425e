import Derived.Test.YtdeilmllgbajbaaBB
namespace Go.Proofs.Ytdeilmllgbajbaa
open Go.RowKit

abbrev TP (w : World) (F : Nat → Prop) (B : Nat) (L : List (Int × Int)) : Prop := Tie 56 KI64 KCl w F B (pP L)
abbrev TQ (w : World) (F : Nat → Prop) (B : Nat) (L : List (Int × Int)) : Prop := Tie 60 KCl KI64 w F B (pQ L)
theorem eqb_cl (a b : Int) : KCl.eqb (cl a) (cl b) = (a == b) := by
  cases h : (a == b) with
  | true => rw [beq_iff_eq] at h; subst h; exact (key_cl.same _ _).2 rfl
  | false =>
    cases h2 : KCl.eqb (cl a) (cl b) with
    | false => rfl
    | true => rw [cl_inj ((key_cl.same _ _).1 h2)] at h; simp at h
theorem pP_erase (L : List (Int × Int)) (i : Nat) : (pP L).eraseIdx i = pP (L.eraseIdx i) := by unfold pP; rw [erase_map]
theorem pQ_erase (L : List (Int × Int)) (i : Nat) : (pQ L).eraseIdx i = pQ (L.eraseIdx i) := by unfold pQ; rw [erase_map]
theorem pP_get {L : List (Int × Int)} {i : Nat} {a : Int} {c : Cl} (h : (pP L)[i]? = some (a, c)) : ∃ b, L[i]? = some (a, b) ∧ c = cl b := by
  unfold pP at h; rw [List.getElem?_map] at h
  cases hl : L[i]? with
  | none => rw [hl] at h; simp at h
  | some p => rw [hl] at h; simp at h; obtain ⟨x, y⟩ := p; simp at h; exact ⟨y, by rw [h.1], h.2.symm⟩
theorem pQ_get {L : List (Int × Int)} {i : Nat} {a b : Int} (h : (pQ L)[i]? = some (cl a, b)) : L[i]? = some (a, b) := by
  unfold pQ at h; rw [List.getElem?_map] at h
  cases hl : L[i]? with
  | none => rw [hl] at h; simp at h
  | some p => rw [hl] at h; simp at h; obtain ⟨x, y⟩ := p; simp at h; rw [cl_inj h.1, h.2]
section
variable {w : World} {F : Nat → Prop} {B : Nat} {L : List (Int × Int)}
theorem tieP_L (h : TP w F B L) (a b : Int) : Calls Try.prog 7 #[.pointer (some ⟨B, 0, none⟩), .int .i64 a, (cl b).val] w fun x w' => x = .returned (.bool (tieR L a b)) ∧ TP w' F B (tieL L a b) ∧ Ext F w F w' := by
  refine (tieP_any w F B _ h a (cl b)).mono ?_
  rintro x w' ⟨r, ps', rfl, hT, hx, ⟨c', h1, rfl, rfl⟩ | ⟨h1, ⟨a', h2⟩, rfl, rfl⟩ | ⟨h1, h2, rfl, rfl⟩⟩
  · rw [pP_at] at h1
    cases hq : atI L a with
    | none => rw [hq] at h1; cases h1
    | some b' =>
      rw [hq] at h1; simp at h1; subst h1
      obtain ⟨e1, e2⟩ := tieL_a (b := b) hq
      rw [e1, e2, eqb_cl]; exact ⟨rfl, hT, hx⟩
  · rw [pP_at] at h1
    rw [pP_back] at h2
    have hq : atI L a = none := by simpa using h1
    obtain ⟨e1, e2⟩ := tieL_b hq h2
    rw [e1, e2]; exact ⟨rfl, hT, hx⟩
  · rw [pP_at] at h1
    rw [pP_back] at h2
    have hq : atI L a = none := by simpa using h1
    obtain ⟨e1, e2⟩ := tieL_yes hq h2
    rw [e1, e2]; exact ⟨rfl, by unfold TP; rw [show pP (L ++ [(a, b)]) = pP L ++ [(a, cl b)] by simp [pP]]; exact hT, hx⟩
theorem tieQ_L (h : TQ w F B L) (a b : Int) : Calls Try.prog 26 #[.pointer (some ⟨B, 0, none⟩), (cl a).val, .int .i64 b] w fun x w' => x = .returned (.bool (tieR L a b)) ∧ TQ w' F B (tieL L a b) ∧ Ext F w F w' := by
  refine (tieQ_any w F B _ h (cl a) b).mono ?_
  rintro x w' ⟨r, ps', rfl, hT, hx, ⟨c', h1, rfl, rfl⟩ | ⟨h1, ⟨a', h2⟩, rfl, rfl⟩ | ⟨h1, h2, rfl, rfl⟩⟩
  · rw [pQ_at] at h1
    obtain ⟨e1, e2⟩ := tieL_a (b := b) h1
    rw [e1, e2]; exact ⟨rfl, hT, hx⟩
  · rw [pQ_at] at h1
    rw [pQ_back] at h2
    cases hq : atI (sw L) b with
    | none => rw [hq] at h2; cases h2
    | some a'' =>
      obtain ⟨e1, e2⟩ := tieL_b h1 hq
      rw [e1, e2]; exact ⟨rfl, hT, hx⟩
  · rw [pQ_at] at h1
    rw [pQ_back] at h2
    have hq : atI (sw L) b = none := by simpa using h2
    obtain ⟨e1, e2⟩ := tieL_yes h1 hq
    rw [e1, e2]; exact ⟨rfl, by unfold TQ; rw [show pQ (L ++ [(a, b)]) = pQ L ++ [(cl a, b)] by simp [pQ]]; exact hT, hx⟩
theorem cutP_L (h : TP w F B L) (ht : Tight L) (a : Int) : Calls Try.prog 9 #[.pointer (some ⟨B, 0, none⟩), .int .i64 a] w fun x w' => x = .returned (.bool (atI L a).isSome) ∧ TP w' F B (cutL L a) ∧ Ext F w F w' := by
  refine (cutP_any w F B _ h a).mono ?_
  rintro x w' ⟨ps', rfl, hT, hx, ⟨h1, rfl⟩ | ⟨i, c, h1, rfl⟩⟩
  · rw [pP_at] at h1 ⊢
    have hq : atI L a = none := by simpa using h1
    rw [cutL_no hq]; exact ⟨by simp, hT, hx⟩
  · obtain ⟨b, h2, rfl⟩ := pP_get h1
    rw [cutL_yes ht.a h2, pP_at]
    refine ⟨by simp, ?_, hx⟩
    unfold TP; rw [← pP_erase]; exact hT
theorem cutQ_L (h : TQ w F B L) (ht : Tight L) (a : Int) : Calls Try.prog 28 #[.pointer (some ⟨B, 0, none⟩), (cl a).val] w fun x w' => x = .returned (.bool (atI L a).isSome) ∧ TQ w' F B (cutL L a) ∧ Ext F w F w' := by
  refine (cutQ_any w F B _ h (cl a)).mono ?_
  rw [pQ_at]
  rintro x w' ⟨ps', rfl, hT, hx, ⟨h1, rfl⟩ | ⟨i, b, h1, rfl⟩⟩
  · rw [cutL_no h1]; exact ⟨rfl, hT, hx⟩
  · have h2 := pQ_get h1
    rw [cutL_yes ht.a h2]
    refine ⟨rfl, ?_, hx⟩
    unfold TQ; rw [← pQ_erase]; exact hT
theorem toP_L (h : TP w F B L) (a : Int) : Calls Try.prog 14 #[.pointer (some ⟨B, 0, none⟩), .int .i64 a] w fun x w' => x = .returned (.tuple #[(((atI L a).map cl).getD Cl.zero).val, .bool (atI L a).isSome]) ∧ Below w.heap.size w w' := by
  have := toP_any w F B _ h a
  rw [pP_at] at this
  simpa using this
theorem backP_L (h : TP w F B L) (b : Int) : Calls Try.prog 33 #[.pointer (some ⟨B, 0, none⟩), (cl b).val] w fun x w' => x = .returned (.tuple #[.int .i64 ((atI (sw L) b).getD 0), .bool (atI (sw L) b).isSome]) ∧ Below w.heap.size w w' := by
  have := backP_any w F B _ h (cl b)
  rw [pP_back] at this
  exact this
theorem toQ_L (h : TQ w F B L) (a : Int) : Calls Try.prog 15 #[.pointer (some ⟨B, 0, none⟩), (cl a).val] w fun x w' => x = .returned (.tuple #[.int .i64 ((atI L a).getD 0), .bool (atI L a).isSome]) ∧ Below w.heap.size w w' := by
  have := toQ_any w F B _ h (cl a)
  rw [pQ_at] at this
  exact this
theorem backQ_L (h : TQ w F B L) (b : Int) : Calls Try.prog 16 #[.pointer (some ⟨B, 0, none⟩), .int .i64 b] w fun x w' => x = .returned (.tuple #[(((atI (sw L) b).map cl).getD Cl.zero).val, .bool (atI (sw L) b).isSome]) ∧ Below w.heap.size w w' := by
  have := backQ_any w F B _ h b
  rw [pQ_back] at this
  simpa using this
theorem lenP_L (h : TP w F B L) : Calls Try.prog 12 #[.pointer (some ⟨B, 0, none⟩)] w fun x w' => x = .returned (.int .i64 (L.length : Nat)) ∧ w' = w := by
  have := lenP_any w F B _ h
  rw [pP_len] at this
  exact this
theorem lenQ_L (h : TQ w F B L) : Calls Try.prog 11 #[.pointer (some ⟨B, 0, none⟩)] w fun x w' => x = .returned (.int .i64 (L.length : Nat)) ∧ w' = w := by
  have := lenQ_any w F B _ h
  rw [pQ_len] at this
  exact this
theorem turnP_L (h : TP w F B L) : Calls Try.prog 10 #[.pointer (some ⟨B, 0, none⟩)] w fun x w' => ∃ C F', x = .returned (.pointer (some ⟨C, 0, none⟩)) ∧ TQ w' F' C (sw L) ∧ (∀ x, F' x → w.heap.size ≤ x) ∧ Below w.heap.size w w' := by
  have := turnP_any w F B _ h
  rw [pP_sw] at this
  exact this
theorem turnQ_L (h : TQ w F B L) : Calls Try.prog 13 #[.pointer (some ⟨B, 0, none⟩)] w fun x w' => ∃ C F', x = .returned (.pointer (some ⟨C, 0, none⟩)) ∧ TP w' F' C (sw L) ∧ (∀ x, F' x → w.heap.size ≤ x) ∧ Below w.heap.size w w' := by
  have := turnQ_any w F B _ h
  rw [pQ_sw] at this
  exact this
end
end Go.Proofs.Ytdeilmllgbajbaa
