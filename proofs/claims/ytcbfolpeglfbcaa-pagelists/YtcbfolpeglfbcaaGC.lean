import Derived.Test.YtcbfolpeglfbcaaFA
namespace Go.Proofs.Ytcbfolpeglfbcaa
open Go.RowKit
theorem sc_extract (m : Nat → E) {k : Nat} (hk : k < 16) : (sc m).toArray.extract (k * 3) (k * 3 + 3) = #[.bool (m k).isSome, .int .i64 (sl (m k) : Nat), .bool (wb (m k))] := by
  have h0 := sc_get m hk (j := 0) (by omega)
  have h1 := sc_get m hk (j := 1) (by omega)
  have h2 := sc_get m hk (j := 2) (by omega)
  apply Array.ext_getElem?
  intro j
  have hs : (sc m).toArray.size = 48 := by simp [sc_len]
  match j with
  | 0 => simp; simpa [ent] using h0
  | 1 => simp; simpa [ent] using h1
  | 2 => simp; simpa [ent] using h2
  | j + 3 => rw [Array.getElem?_eq_none (by simp [sc_len]; omega), Array.getElem?_eq_none (by simp)]
theorem ent_beq (a b : E) : (a.isSome == b.isSome && (((sl a : Nat) : Int) == ((sl b : Nat) : Int) && wb a == wb b)) = decide (a = b) := by
  rcases a with _ | ⟨s, x⟩ <;> rcases b with _ | ⟨t, y⟩
  · simp
  · simp
  · simp
  · by_cases h : s = t
    · subst h; cases x <;> cases y <;> simp [sl, wb]
    · have h2 : ¬ (s : Int) = (t : Int) := by omega
      simp [sl, h, h2]
theorem eq33 (d : Nat) (a b : E) (w : World) : (Op.equalIn (d + 2) 33 (.agg #[.bool a.isSome, .int .i64 (sl a : Nat), .bool (wb a)]) (.agg #[.bool b.isSome, .int .i64 (sl b : Nat), .bool (wb b)])).run Try.prog w = .ok (decide (a = b)) w := by
  rw [← ent_beq]
  have ht : Try.prog.underlying 33 = some (.struct (Try.prog.fieldsOf 33)) := by kernel_rfl
  have hp : Try.prog.stoodInHeld 33 = false := by kernel_rfl
  rw [run_equalIn_agg w (d + 1) 33 _ _ ht hp]
  generalize a.isSome = p0
  generalize b.isSome = p1
  generalize ((sl a : Nat) : Int) = z0
  generalize ((sl b : Nat) : Int) = z1
  generalize wb a = q0
  generalize wb b = q1
  have hf : (Try.prog.fieldsOf 33).toList = (match Try.prog.underlying 33 with | some (.struct fs) => fs.toList | _ => []) := by rw [ht]
  rw [Try.underlying33] at hf
  rw [hf]
  simp [Op.eqFields, go_sem]
  by_cases h1 : p0 = p1 <;> by_cases h2 : z0 = z1 <;> by_cases h3 : q0 = q1 <;> simp [h1, h2, h3]
theorem eq35 (m m' : Nat → E) (w : World) : (Op.equalIn 10000 35 (.agg (sc m).toArray) (.agg (sc m').toArray)).run Try.prog w = .ok (same m m') w := by
  rw [show (10000 : Nat) = 9999 + 1 from rfl, Op.equalIn, same, List.range_eq_range']
  simp only [Sem.run_bind, run_underlying Try.underlying35, Result.andThen_ok, Try.sizeOf33, Std.Legacy.Range.forIn_eq_forIn_range', Std.Legacy.Range.size, Nat.sub_zero, Nat.add_sub_cancel, Nat.div_one]
  have hl : ∀ i ∈ List.range' 0 16 1, i < 16 := fun i hi => by simpa using (List.mem_range'_1.1 hi).2
  generalize List.range' 0 16 1 = l at hl ⊢
  induction l with
  | nil => simp
  | cons i l ih =>
    have hi : i < 16 := hl i (by simp)
    have px : ∀ r : Nat → E, (part 33 (sc r).toArray (i * 3)).run Try.prog w = .ok (.agg #[.bool (r i).isSome, .int .i64 (sl (r i) : Nat), .bool (wb (r i))]) w := by
      intro r
      have h1 : (isAgg 33).run Try.prog w = .ok true w := by
        unfold isAgg
        rw [Sem.run_bind, run_underlying Try.underlying33 w]
        simp
      simp only [part, Sem.run_bind, h1, Result.andThen_ok, if_true, Try.sizeOf33, Sem.run_pure, sc_extract r hi]
    have pe : (Op.equalIn 9999 33 (.agg #[.bool (m i).isSome, .int .i64 (sl (m i) : Nat), .bool (wb (m i))]) (.agg #[.bool (m' i).isSome, .int .i64 (sl (m' i) : Nat), .bool (wb (m' i))])).run Try.prog w = .ok (decide (m i = m' i)) w := eq33 9997 _ _ w
    simp only [List.forIn_cons, Sem.run_bind, px, pe, Result.andThen_ok, List.all_cons]
    cases hb : decide (m i = m' i)
    · simp
    · simp only [Bool.not_true, Bool.false_eq_true, if_false, Sem.run_pure, Result.andThen_ok, Bool.true_and]
      exact ih fun j hj => hl j (by simp [hj])
end Go.Proofs.Ytcbfolpeglfbcaa
