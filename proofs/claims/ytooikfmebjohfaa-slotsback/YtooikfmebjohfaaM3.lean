import Derived.Test.YtooikfmebjohfaaM2
namespace Go.Proofs.Ytooikfmebjohfaa
open Go.RowKit

/-- w1 is w but for the block r -/
structure Upd (w w1 : World) (r : Nat) : Prop where
  os : w1.os = w.os
  tape : w1.tape = w.tape
  output : w1.output = w.output
  size : w1.heap.size = w.heap.size
  block : ∀ b, b ≠ r → w1.heap[b]? = w.heap[b]?
theorem upd_put (w : World) (r : Nat) (o : Obj) : Upd w (w.putObj r o) r := ⟨rfl, rfl, rfl, by simp [World.putObj], fun _ hb => World.putObj_heap_other hb⟩
section
variable {α β γ : Type} {K : Cod α} {E : γ → Value} {w : World} {r : Nat} {qs : List (α × γ)}
theorem push' (hK : KeyOk K) {mt et : TypeId} (hm : Try.prog.underlying mt = some (.map K.t et)) (h : MapIs w r K E qs) (a : α) (b : γ) (hn : atK K qs a = none) :
    ∃ w1, (Instr.mapUpdate mt (.map (some r)) (K.enc a) (E b)).run Try.prog w = .ok () w1 ∧ MapIs w1 r K E (qs ++ [(a, b)]) ∧ Upd w w1 r := by
  obtain ⟨es, c, h1, h2⟩ := run_push hK hm h a b hn
  exact ⟨_, h1, h2, upd_put _ _ _⟩
theorem erase' (hK : KeyOk K) {mt et : TypeId} (hm : Try.prog.underlying mt = some (.map K.t et)) (h : MapIs w r K E qs) (a : α) (i : Nat) (hi : (qs.map Prod.fst).findIdx? (K.eqb a) = some i) (ats : Array TypeId) (hat : ats[0]? = some mt) :
    ∃ w1, (∀ ty, (Builtin.delete_ ats ty #[.map (some r), K.enc a]).run Try.prog w = .ok (.tuple #[]) w1) ∧ MapIs w1 r K E (qs.eraseIdx i) ∧ Upd w w1 r := by
  obtain ⟨es, c, h1, h2⟩ := run_erase hK hm h a i hi ats hat 0
  refine ⟨_, fun ty => ?_, h2, upd_put _ _ _⟩
  have : Builtin.delete_ ats ty #[.map (some r), K.enc a] = Builtin.delete_ ats 0 #[.map (some r), K.enc a] := rfl
  rw [this]; exact h1
theorem atK_none (hK : KeyOk K) {a : α} (h : atK K qs a = none) : a ∉ qs.map Prod.fst := by
  intro hm
  obtain ⟨p, hp, rfl⟩ := List.mem_map.1 hm
  unfold atK at h
  rw [Option.map_eq_none_iff, List.find?_eq_none] at h
  exact h p hp ((hK.same _ _).2 rfl)
theorem atK_some (hK : KeyOk K) {a : α} {b : γ} (h : atK K qs a = some b) : (a, b) ∈ qs := by
  unfold atK at h
  obtain ⟨p, hp, rfl⟩ := Option.map_eq_some_iff.1 h
  have h1 := List.find?_some hp
  have h2 := List.mem_of_find?_eq_some hp
  rw [hK.same] at h1
  subst h1
  exact h2
theorem idx_of (hK : KeyOk K) : ∀ (l : List α) (i : Nat) (a : α), l.Nodup → l[i]? = some a → l.findIdx? (K.eqb a) = some i
  | [], _, _, _, h => by simp at h
  | x :: l, 0, a, _, h => by
    simp at h; subst h
    rw [List.findIdx?_cons, (hK.same _ _).2 rfl]; rfl
  | x :: l, i + 1, a, hn, h => by
    simp at h
    have hx : K.eqb a x = false := by
      cases he : K.eqb a x with
      | false => rfl
      | true =>
        rw [hK.same] at he
        subst he
        exact absurd (List.mem_of_getElem? h) (List.nodup_cons.1 hn).1
    rw [List.findIdx?_cons, hx]
    simp [idx_of hK l i a (List.nodup_cons.1 hn).2 h]
end
section
variable {β : Type} {S : TypeId} {KB : Cod β} {w w1 w2 : World} {F : Nat → Prop} {B r1 r2 : Nat} {ps : List (Int × β)}
theorem TieAt.push (hB : KeyOk KB) (h : TieAt S KB w F B r1 r2 ps) {a : Int} {b : β} (ha : atK KI64 ps a = none) (hb : atK KB (ps.map Prod.swap) b = none) (u1 : Upd w w1 r1) (m1 : MapIs w1 r1 KI64 KB.enc (ps ++ [(a, b)]))
    (u2 : Upd w1 w2 r2) (m2 : MapIs w2 r2 KB (fun a : Int => Value.int .i64 a) (ps.map Prod.swap ++ [(b, a)])) : TieAt S KB w2 F B r1 r2 (ps ++ [(a, b)]) ∧ Ext F w F w2 := by
  refine ⟨⟨?_, m1.keep (u2.block _ h.n3), by simpa using m2, ?_, ?_, h.fB, h.f1, h.f2, h.n1, h.n2, h.n3, fun x hx => by rw [u2.size, u1.size]; exact h.lt x hx⟩, ⟨?_, ?_, ?_, ?_, ?_⟩, fun _ h => .inl h⟩
  · rw [u2.block _ (fun e => h.n2 e.symm), u1.block _ (fun e => h.n1 e.symm)]; exact h.top
  · rw [List.map_append]
    refine List.nodup_append.2 ⟨h.nd1, by simp, fun x hx y hy e => ?_⟩
    simp at hy
    subst e hy
    exact atK_none key_int ha hx
  · rw [List.map_append]
    refine List.nodup_append.2 ⟨h.nd2, by simp, fun x hx y hy e => ?_⟩
    simp at hy
    subst e hy
    refine atK_none hB hb ?_
    rw [List.map_map]; exact hx
  · rw [u2.os, u1.os]
  · rw [u2.tape, u1.tape]
  · rw [u2.output, u1.output]
  · rw [u2.size, u1.size]; exact Nat.le_refl _
  · intro x _ hx
    rw [u2.block x (fun e => hx (e ▸ h.f2)), u1.block x (fun e => hx (e ▸ h.f1))]
theorem TieAt.erase (h : TieAt S KB w F B r1 r2 ps) {i : Nat} (u1 : Upd w w1 r1) (m1 : MapIs w1 r1 KI64 KB.enc (ps.eraseIdx i))
    (u2 : Upd w1 w2 r2) (m2 : MapIs w2 r2 KB (fun a : Int => Value.int .i64 a) ((ps.map Prod.swap).eraseIdx i)) : TieAt S KB w2 F B r1 r2 (ps.eraseIdx i) ∧ Ext F w F w2 := by
  refine ⟨⟨?_, m1.keep (u2.block _ h.n3), by rw [← erase_map]; exact m2, ?_, ?_, h.fB, h.f1, h.f2, h.n1, h.n2, h.n3, fun x hx => by rw [u2.size, u1.size]; exact h.lt x hx⟩, ⟨?_, ?_, ?_, ?_, ?_⟩, fun _ h => .inl h⟩
  · rw [u2.block _ (fun e => h.n2 e.symm), u1.block _ (fun e => h.n1 e.symm)]; exact h.top
  · rw [← erase_map]; exact h.nd1.sublist (List.eraseIdx_sublist _ _)
  · rw [← erase_map]; exact h.nd2.sublist (List.eraseIdx_sublist _ _)
  · rw [u2.os, u1.os]
  · rw [u2.tape, u1.tape]
  · rw [u2.output, u1.output]
  · rw [u2.size, u1.size]; exact Nat.le_refl _
  · intro x _ hx
    rw [u2.block x (fun e => hx (e ▸ h.f2)), u1.block x (fun e => hx (e ▸ h.f1))]
end
theorem map_len {α γ : Type} {K : Cod α} {E : γ → Value} {w : World} {r : Nat} {qs : List (α × γ)} {mt kt et : TypeId} (hm : Try.prog.underlying mt = some (.map kt et)) (h : MapIs w r K E qs) (ty : TypeId) :
    (Builtin.len_ #[mt] ty #[.map (some r)]).run Try.prog w = .ok (.int .i64 (qs.length : Nat)) w := by
  obtain ⟨es, c, hb, hes⟩ := h
  have hl : es.size = qs.length := by have := congrArg List.length hes; simpa using this
  have hg : (getObj r).run Try.prog w = .ok (.map es c) w := MapKept.run_getObj_map hb
  simp [Builtin.len_, run_underlying hm, hg, goInt, hl]
set_option maxHeartbeats 400000 in
theorem lenB_any (w : World) (F : Nat → Prop) (B : Nat) (ps : List (Int × Int)) (h : Tie 82 KI64 w F B ps) :
    Calls Try.prog 22 #[.pointer (some ⟨B, 0, none⟩)] w fun x w' => x = .returned (.int .i64 (ps.length : Nat)) ∧ w' = w := by
  obtain ⟨r1, r2, h⟩ := h
  obtain ⟨c0, c1⟩ := h.cells
  have hl := map_len (mt := 80) Try.underlying80 h.to
  clear h
  generalize ps.length = n at *
  go_enter Try.func22, Try.ntmps22
  go_wp2
  go_ret
  exact ⟨rfl, rfl⟩
set_option maxHeartbeats 400000 in
theorem backB_any (w : World) (F : Nat → Prop) (B : Nat) (ps : List (Int × Int)) (h : Tie 82 KI64 w F B ps) (b : Int) :
    Calls Try.prog 24 #[.pointer (some ⟨B, 0, none⟩), .int .i64 b] w fun x w' => x = .returned (.tuple #[.int .i64 ((atK KI64 (ps.map Prod.swap) b).getD 0), .bool (atK KI64 (ps.map Prod.swap) b).isSome]) ∧ w' = w := by
  obtain ⟨r1, r2, h⟩ := h
  obtain ⟨c0, c1⟩ := h.cells
  have hl : (Instr.lookup 80 (.map (some r2)) (.int .i64 b) true).run Try.prog w = _ := run_look key_int (E := fun a : Int => Value.int .i64 a) (K := KI64) Try.underlying80 zero3 h.back b
  clear h
  cases hq : atK KI64 (ps.map Prod.swap) b with
  | none =>
    rw [hq] at hl
    simp only [Option.map_none, Option.getD_none, Option.isSome_none] at hl
    go_enter Try.func24, Try.ntmps24
    go_wp2
    go_ret2
    exact ⟨rfl, rfl⟩
  | some b =>
    rw [hq] at hl
    simp only [Option.map_some, Option.getD_some, Option.isSome_some] at hl
    go_enter Try.func24, Try.ntmps24
    go_wp2
    go_ret2
    exact ⟨rfl, rfl⟩
/-- what Tie answers and leaves -/
def Tied (ps : List (Int × Int)) (a b : Int) (r : Bool) (ps' : List (Int × Int)) : Prop :=
  (∃ b', atK KI64 ps a = some b' ∧ r = (b' == b) ∧ ps' = ps) ∨ (atK KI64 ps a = none ∧ (∃ a', atK KI64 (ps.map Prod.swap) b = some a') ∧ r = false ∧ ps' = ps) ∨ (atK KI64 ps a = none ∧ atK KI64 (ps.map Prod.swap) b = none ∧ r = true ∧ ps' = ps ++ [(a, b)])
set_option maxHeartbeats 800000 in
theorem tieB_any (w : World) (F : Nat → Prop) (B : Nat) (ps : List (Int × Int)) (h : Tie 82 KI64 w F B ps) (a b : Int) :
    Calls Try.prog 25 #[.pointer (some ⟨B, 0, none⟩), .int .i64 a, .int .i64 b] w fun x w' => ∃ (r : Bool) (ps' : List (Int × Int)), x = .returned (.bool r) ∧ Tie 82 KI64 w' F B ps' ∧ Ext F w F w' ∧ Tied ps a b r ps' := by
  have HT := hide h
  obtain ⟨r1, r2, h⟩ := h
  obtain ⟨c0, c1⟩ := h.cells
  have hl : (Instr.lookup 80 (.map (some r1)) (.int .i64 a) true).run Try.prog w = _ := run_look key_int (E := fun a : Int => Value.int .i64 a) (K := KI64) Try.underlying80 zero3 h.to a
  have hl2 : (Instr.lookup 80 (.map (some r2)) (.int .i64 b) true).run Try.prog w = _ := run_look key_int (E := fun a : Int => Value.int .i64 a) (K := KI64) Try.underlying80 zero3 h.back b
  cases hq : atK KI64 ps a with
  | some b' =>
    rw [hq] at hl
    simp only [Option.map_some, Option.getD_some, Option.isSome_some] at hl
    have HQ := hide hq
    clear h hl2 hq
    go_enter Try.func25, Try.ntmps25
    go_wp2
    go_ret
    exact ⟨_, ps, rfl, HT.out, Ext.refl _ _, .inl ⟨b', HQ.out, rfl, rfl⟩⟩
  | none =>
    rw [hq] at hl
    simp only [Option.map_none, Option.getD_none, Option.isSome_none] at hl
    cases hq2 : atK KI64 (ps.map Prod.swap) b with
    | some a' =>
      rw [hq2] at hl2
      simp only [Option.map_some, Option.getD_some, Option.isSome_some] at hl2
      have HQ := hide hq
      have HQ2 := hide hq2
      clear h hq hq2
      go_enter Try.func25, Try.ntmps25
      go_wp2
      go_ret
      exact ⟨_, ps, rfl, HT.out, Ext.refl _ _, .inr (.inl ⟨HQ.out, ⟨a', HQ2.out⟩, rfl, rfl⟩)⟩
    | none =>
      rw [hq2] at hl2
      simp only [Option.map_none, Option.getD_none, Option.isSome_none] at hl2
      obtain ⟨w1, hu1, m1, u1⟩ := push' key_int Try.underlying80 h.to a b hq
      obtain ⟨w2, hu2, m2, u2⟩ := push' key_int Try.underlying80 (h.back.keep (u1.block _ (fun e => h.n3 e.symm))) b a hq2
      have hu1' : (Instr.mapUpdate 80 (.map (some r1)) (.int .i64 a) (.int .i64 b)).run Try.prog w = .ok () w1 := hu1
      have hu2' : (Instr.mapUpdate 80 (.map (some r2)) (.int .i64 b) (.int .i64 a)).run Try.prog w1 = .ok () w2 := hu2
      have HP := hide (h.push key_int hq hq2 u1 m1 u2 m2)
      have d1 : w1.cell? ⟨B, 1, none⟩ = some (.map (some r2)) := by rw [World.cell?_of_block (u1.block B (fun e => h.n1 e.symm))]; exact c1
      have HQ := hide hq
      have HQ2 := hide hq2
      clear h hq hq2 hu1 hu2 m1 m2 u1 u2
      go_enter Try.func25, Try.ntmps25
      go_wp2
      go_ret
      exact ⟨_, _, rfl, ⟨_, _, HP.out.1⟩, HP.out.2, .inr (.inr ⟨HQ.out, HQ2.out, rfl, rfl⟩)⟩
end Go.Proofs.Ytooikfmebjohfaa
