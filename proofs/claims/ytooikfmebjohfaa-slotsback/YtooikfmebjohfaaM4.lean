import Derived.Test.YtooikfmebjohfaaM3
namespace Go.Proofs.Ytooikfmebjohfaa
open Go.RowKit

theorem swap_keys {β : Type} (ps : List (Int × β)) : (ps.map Prod.swap).map Prod.fst = ps.map Prod.snd := by
  rw [List.map_map]; rfl
set_option maxHeartbeats 800000 in
theorem cutB_any (w : World) (F : Nat → Prop) (B : Nat) (ps : List (Int × Int)) (h : Tie 82 KI64 w F B ps) (a : Int) :
    Calls Try.prog 26 #[.pointer (some ⟨B, 0, none⟩), .int .i64 a] w fun x w' => ∃ ps' : List (Int × Int), x = .returned (.bool (atK KI64 ps a).isSome) ∧ Tie 82 KI64 w' F B ps' ∧ Ext F w F w' ∧
      ((atK KI64 ps a = none ∧ ps' = ps) ∨ ∃ (i : Nat) (b : Int), ps[i]? = some (a, b) ∧ atK KI64 ps a = some b ∧ ps' = ps.eraseIdx i) := by
  have HT := hide h
  obtain ⟨r1, r2, h⟩ := h
  obtain ⟨c0, c1⟩ := h.cells
  have hl : (Instr.lookup 80 (.map (some r1)) (.int .i64 a) true).run Try.prog w = _ := run_look key_int (E := fun a : Int => Value.int .i64 a) (K := KI64) Try.underlying80 zero3 h.to a
  cases hq : atK KI64 ps a with
  | none =>
    rw [hq] at hl
    simp only [Option.map_none, Option.getD_none, Option.isSome_none] at hl
    clear h hq
    go_enter Try.func26, Try.ntmps26
    go_wp2
    go_ret
    exact ⟨ps, rfl, HT.out, Ext.refl _ _, .inl ⟨by first | rfl | trivial, rfl⟩⟩
  | some b =>
    rw [hq] at hl
    simp only [Option.map_some, Option.getD_some, Option.isSome_some] at hl
    obtain ⟨i, hi⟩ := List.getElem?_of_mem (atK_some key_int hq)
    have i1 : (ps.map Prod.fst).findIdx? (KI64.eqb a) = some i := idx_of key_int _ i a h.nd1 (by simp [hi])
    have i2 : ((ps.map Prod.swap).map Prod.fst).findIdx? (KI64.eqb b) = some i := by rw [swap_keys]; exact idx_of key_int _ i b h.nd2 (by simp [hi])
    obtain ⟨w1, hu1, m1, u1⟩ := erase' key_int Try.underlying80 h.to a i i1 #[80, 3] rfl
    obtain ⟨w2, hu2, m2, u2⟩ := erase' key_int Try.underlying80 (h.back.keep (u1.block _ (fun e => h.n3 e.symm))) b i i2 #[80, 3] rfl
    have hu1' : ∀ ty, (Builtin.delete_ #[80, 3] ty #[.map (some r1), .int .i64 a]).run Try.prog w = .ok (.tuple #[]) w1 := hu1
    have hu2' : ∀ ty, (Builtin.delete_ #[80, 3] ty #[.map (some r2), .int .i64 b]).run Try.prog w1 = .ok (.tuple #[]) w2 := hu2
    have HP := hide (h.erase u1 m1 u2 m2)
    have d1 : w1.cell? ⟨B, 1, none⟩ = some (.map (some r2)) := by rw [World.cell?_of_block (u1.block B (fun e => h.n1 e.symm))]; exact c1
    have HI := hide hi
    clear h hq hu1 hu2 m1 m2 u1 u2 i1 i2 hi
    go_enter Try.func26, Try.ntmps26
    go_wp2
    go_ret
    exact ⟨_, rfl, ⟨_, _, HP.out.1⟩, HP.out.2, .inr ⟨i, b, HI.out, by first | rfl | trivial, rfl⟩⟩

/-- Cells as keys -/
def KCl : Cod Cl := ⟨28, Cl.val, fun c d => c.s.toList == d.s.toList && (c.a == d.a && c.b == d.b)⟩
theorem eq26' (a b x y : Int) (w : World) : (Op.equalIn 9999 26 (.agg #[.int .i64 a, .int .i64 b]) (.agg #[.int .i64 x, .int .i64 y])).run Try.prog w = .ok (a == x && b == y) w := by
  have u3 := Try.underlying3
  have a3 := Try.isAgg3
  have z3 := Try.sizeOf3
  rw [show (9999 : Nat) = 9998 + 1 from rfl, Op.equalIn]
  simp only [Sem.run_bind, run_underlying Try.underlying26, Result.andThen_ok]
  simp only [Std.Legacy.Range.forIn_eq_forIn_range', Std.Legacy.Range.size, Nat.sub_zero, Nat.add_sub_cancel, Nat.div_one, List.range'_succ, List.range'_zero, List.forIn_cons, List.forIn_nil]
  go_simp
  by_cases h1 : a = x <;> by_cases h2 : b = y <;> simp [h1, h2]
theorem eq28 (c d : Cl) (w : World) : (Op.equal 28 c.val d.val).run Try.prog w = .ok (KCl.eqb c d) w := by
  have h26 := eq26'
  have u9 := Try.underlying9
  simp only [Op.equal, Op.maxDepth, Cl.val, KCl]
  go_simp
  by_cases h1 : c.s.toList = d.s.toList <;> by_cases h2 : c.a = d.a <;> by_cases h3 : c.b = d.b <;> simp [h1, h2, h3]
theorem check26 (em : Bool) (n : Nat) (a b : Int) (w : World) : (Instr.checkKey em (n + 2) 26 (.agg #[.int .i64 a, .int .i64 b])).run Try.prog w = .ok () w := by
  have a3 := Try.isAgg3
  have z3 := Try.sizeOf3
  rw [Instr.checkKey]
  simp only [Sem.run_bind, run_underlying Try.underlying26, Result.andThen_ok]
  simp only [Std.Legacy.Range.forIn_eq_forIn_range', Std.Legacy.Range.size, Nat.sub_zero, Nat.add_sub_cancel, Nat.div_one, List.range'_succ, List.range'_zero, List.forIn_cons, List.forIn_nil]
  simp [part, Instr.checkKey, a3, z3, run_underlying Try.underlying3, go_sem]
theorem check28 (em : Bool) (c : Cl) (w : World) : (Instr.checkKey em 10000 28 c.val).run Try.prog w = .ok () w := by
  have h26 : ∀ (a b : Int) (w : World), (Instr.checkKey em 9999 26 (.agg #[.int .i64 a, .int .i64 b])).run Try.prog w = .ok () w := check26 em 9997
  have hs : ∀ (s : ByteArray) (w : World), (Instr.checkKey em 9999 9 (.string s)).run Try.prog w = .ok () w := by
    intro s w
    rw [show (9999 : Nat) = 9998 + 1 from rfl, Instr.checkKey]
    simp [run_underlying Try.underlying9]
  have a9 := Try.isAgg9
  have a26 := Try.isAgg26
  have z26 := Try.sizeOf26
  rw [show (10000 : Nat) = 9999 + 1 from rfl, Instr.checkKey]
  simp only [Cl.val, Sem.run_bind, run_underlying Try.underlying28, Result.andThen_ok]
  simp [part, a9, a26, z26, hs, h26, go_sem]
theorem ask28 (c : Cl) : ∀ (es : List MapEntry) (ks : List Cl) (i : Nat) (w : World), es.map (·.key) = ks.map Cl.val →
    (Instr.findAsking 28 c.val es i).run Try.prog w = .ok ((ks.findIdx? (KCl.eqb c)).map (fun j => (i + j, ((es[j]?).map (·.val)).getD undef))) w
  | [], [], i, w, _ => rfl
  | [], _ :: _, _, _, h => by simp at h
  | _ :: _, [], _, _, h => by simp at h
  | e :: es, k :: ks, i, w, h => by
    simp only [List.map_cons, List.cons.injEq] at h
    obtain ⟨h1, h2⟩ := h
    rw [Instr.findAsking, Sem.run_bind, h1, eq28, Result.andThen_ok, List.findIdx?_cons]
    cases hk : KCl.eqb c k with
    | true => simp
    | false =>
      simp only [Bool.false_eq_true, if_false, Option.map_map]
      rw [ask28 c es ks (i + 1) w h2]
      congr 1
      congr 1
      funext j
      simp [Nat.add_assoc, Nat.add_comm 1 j]
theorem now28 (c : Cl) (fs : Array Field) : ∀ (es : List MapEntry) (i : Nat), es ≠ [] → Instr.findNow (.struct fs) c.val es i = none
  | [], _, h => absurd rfl h
  | e :: es, i, _ => by rw [Instr.findNow]; simp [Instr.sameNow]
theorem key_cl : KeyOk KCl := by
  refine ⟨fun c d => ?_, check28, fun c es ks w h => ?_⟩
  · cases c with
    | mk s a b =>
      cases d with
      | mk s' a' b' =>
        have h : s.toList = s'.toList ↔ s = s' := by
          rw [ByteArray.toList_eq, ByteArray.toList_eq]
          cases s; cases s'
          simp [Array.toList_inj]
        simp [KCl, h]
  · have ha := ask28 c es ks 0 w h
    simp only [Nat.zero_add] at ha
    show (Instr.findKey 28 c.val es).run Try.prog w = _
    unfold Instr.findKey
    rw [Sem.run_bind, run_underlying Try.underlying28, Result.andThen_ok]
    cases es with
    | nil =>
      cases ks with
      | nil => rfl
      | cons _ _ => simp at h
    | cons e es =>
      rw [now28 _ _ _ _ (by simp)]
      exact ha
end Go.Proofs.Ytooikfmebjohfaa
