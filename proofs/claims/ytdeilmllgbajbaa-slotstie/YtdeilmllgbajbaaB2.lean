import Derived.Test.YtdeilmllgbajbaaB1
import Derived.Shelf.SlMaps.Clone
namespace Go.Proofs.Ytdeilmllgbajbaa
open Go.RowKit

/-- a tie: its struct at B, its two maps at r1 and r2; the pairs in the order in which they came -/
structure TieAt {α β : Type} (S : TypeId) (KA : Cod α) (KB : Cod β) (w : World) (F : Nat → Prop) (B r1 r2 : Nat) (ps : List (α × β)) : Prop where
  top : w.heap[B]? = some (.cells #[.map (some r1), .map (some r2)] S (0, 0))
  to : MapIs w r1 KA KB.enc ps
  back : MapIs w r2 KB KA.enc (ps.map Prod.swap)
  nd1 : (ps.map Prod.fst).Nodup
  nd2 : (ps.map Prod.snd).Nodup
  fB : F B
  f1 : F r1
  f2 : F r2
  n1 : r1 ≠ B
  n2 : r2 ≠ B
  n3 : r1 ≠ r2
  lt : ∀ b, F b → b < w.heap.size
def Tie {α β : Type} (S : TypeId) (KA : Cod α) (KB : Cod β) (w : World) (F : Nat → Prop) (B : Nat) (ps : List (α × β)) : Prop := ∃ r1 r2, TieAt S KA KB w F B r1 r2 ps
section
variable {α β : Type} {S : TypeId} {KA : Cod α} {KB : Cod β} {w w' : World} {F : Nat → Prop} {B r1 r2 : Nat} {ps : List (α × β)}
theorem MapIs.keep {α γ : Type} {K : Cod α} {E : γ → Value} {r : Nat} {qs : List (α × γ)} (h : MapIs w r K E qs) (hk : w'.heap[r]? = w.heap[r]?) : MapIs w' r K E qs := by
  obtain ⟨es, c, h1, h2⟩ := h; exact ⟨es, c, by rw [hk]; exact h1, h2⟩
theorem TieAt.keep (h : TieAt S KA KB w F B r1 r2 ps) (hs : w.heap.size ≤ w'.heap.size) (hk : ∀ b, F b → w'.heap[b]? = w.heap[b]?) : TieAt S KA KB w' F B r1 r2 ps :=
  ⟨by rw [hk B h.fB]; exact h.top, h.to.keep (hk _ h.f1), h.back.keep (hk _ h.f2), h.nd1, h.nd2, h.fB, h.f1, h.f2, h.n1, h.n2, h.n3, fun b hb => Nat.lt_of_lt_of_le (h.lt b hb) hs⟩
theorem TieAt.cells (h : TieAt S KA KB w F B r1 r2 ps) : w.cell? ⟨B, 0, none⟩ = some (.map (some r1)) ∧ w.cell? ⟨B, 1, none⟩ = some (.map (some r2)) :=
  ⟨by rw [cell_of_row _ _ _ _ _ _ h.top]; rfl, by rw [cell_of_row _ _ _ _ _ _ h.top]; rfl⟩
/-- a new tie -/
theorem TieAt.fresh (S : TypeId) (KA : Cod α) (KB : Cod β) (w : World) :
    TieAt S KA KB (((w.alloc (.map #[] 0)).alloc (.map #[] 0)).alloc (.cells #[.map (some w.heap.size), .map (some (w.heap.size + 1))] S)) (fun b => b = w.heap.size ∨ b = w.heap.size + 1 ∨ b = w.heap.size + 2) (w.heap.size + 2) w.heap.size (w.heap.size + 1) [] := by
  refine ⟨?_, ⟨#[], 0, ?_, rfl⟩, ⟨#[], 0, ?_, rfl⟩, .nil, .nil, .inr (.inr rfl), .inl rfl, .inr (.inl rfl), by omega, by omega, by omega, ?_⟩
  · have := heap_alloc_new ((w.alloc (.map #[] 0)).alloc (.map #[] 0)) (.cells #[.map (some w.heap.size), .map (some (w.heap.size + 1))] S)
    simpa using this
  · rw [Below.heap_alloc _ _ _ (by simp; omega), Below.heap_alloc _ _ _ (by simp)]
    exact heap_alloc_new _ _
  · rw [Below.heap_alloc _ _ _ (by simp)]
    have := heap_alloc_new (w.alloc (.map #[] 0)) (.map #[] 0)
    simpa using this
  · intro b hb; simp; omega
end
/-- w1 is w but for the block r -/
structure Upd (w w1 : World) (r : Nat) : Prop where
  os : w1.os = w.os
  tape : w1.tape = w.tape
  output : w1.output = w.output
  size : w1.heap.size = w.heap.size
  block : ∀ b, b ≠ r → w1.heap[b]? = w.heap[b]?
theorem upd_put (w : World) (r : Nat) (o : Obj) : Upd w (w.putObj r o) r := ⟨rfl, rfl, rfl, by simp [World.putObj], fun _ hb => World.putObj_heap_other hb⟩
section
variable {α β γ : Type} {K : Cod α} {E : γ → Value} {w : World} {r : Nat} {qs : List (α × γ)}
theorem push' (hK : KeyOk K) {mt et : TypeId} (hm : Try.prog.underlying mt = some (.map K.t et)) (h : MapIs w r K E qs) (a : α) (b : γ) (hn : atK K qs a = none) :
    ∃ w1, (Instr.mapUpdate mt (.map (some r)) (K.enc a) (E b)).run Try.prog w = .ok () w1 ∧ MapIs w1 r K E (qs ++ [(a, b)]) ∧ Upd w w1 r := by
  obtain ⟨es, c, h1, h2⟩ := run_push hK hm h a b hn
  exact ⟨_, h1, h2, upd_put _ _ _⟩
theorem erase' (hK : KeyOk K) {mt et : TypeId} (hm : Try.prog.underlying mt = some (.map K.t et)) (h : MapIs w r K E qs) (a : α) (i : Nat) (hi : (qs.map Prod.fst).findIdx? (K.eqb a) = some i) (ats : Array TypeId) (hat : ats[0]? = some mt) :
    ∃ w1, (∀ ty, (Builtin.delete_ ats ty #[.map (some r), K.enc a]).run Try.prog w = .ok (.tuple #[]) w1) ∧ MapIs w1 r K E (qs.eraseIdx i) ∧ Upd w w1 r := by
  obtain ⟨es, c, h1, h2⟩ := run_erase hK hm h a i hi ats hat 0
  refine ⟨_, fun ty => ?_, h2, upd_put _ _ _⟩
  have : Builtin.delete_ ats ty #[.map (some r), K.enc a] = Builtin.delete_ ats 0 #[.map (some r), K.enc a] := rfl
  rw [this]; exact h1
theorem atK_none (hK : KeyOk K) {a : α} (h : atK K qs a = none) : a ∉ qs.map Prod.fst := by
  intro hm
  obtain ⟨p, hp, rfl⟩ := List.mem_map.1 hm
  unfold atK at h
  rw [Option.map_eq_none_iff, List.find?_eq_none] at h
  exact h p hp ((hK.same _ _).2 rfl)
theorem atK_some (hK : KeyOk K) {a : α} {b : γ} (h : atK K qs a = some b) : (a, b) ∈ qs := by
  unfold atK at h
  obtain ⟨p, hp, rfl⟩ := Option.map_eq_some_iff.1 h
  have h1 := List.find?_some hp
  have h2 := List.mem_of_find?_eq_some hp
  rw [hK.same] at h1
  subst h1
  exact h2
theorem idx_of (hK : KeyOk K) : ∀ (l : List α) (i : Nat) (a : α), l.Nodup → l[i]? = some a → l.findIdx? (K.eqb a) = some i
  | [], _, _, _, h => by simp at h
  | x :: l, 0, a, _, h => by
    simp at h; subst h
    rw [List.findIdx?_cons, (hK.same _ _).2 rfl]; rfl
  | x :: l, i + 1, a, hn, h => by
    simp at h
    have hx : K.eqb a x = false := by
      cases he : K.eqb a x with
      | false => rfl
      | true =>
        rw [hK.same] at he
        subst he
        exact absurd (List.mem_of_getElem? h) (List.nodup_cons.1 hn).1
    rw [List.findIdx?_cons, hx]
    simp [idx_of hK l i a (List.nodup_cons.1 hn).2 h]
end
section
variable {α β : Type} {S : TypeId} {KA : Cod α} {KB : Cod β} {w w1 w2 : World} {F : Nat → Prop} {B r1 r2 : Nat} {ps : List (α × β)}
theorem TieAt.push (hA : KeyOk KA) (hB : KeyOk KB) (h : TieAt S KA KB w F B r1 r2 ps) {a : α} {b : β} (ha : atK KA ps a = none) (hb : atK KB (ps.map Prod.swap) b = none) (u1 : Upd w w1 r1) (m1 : MapIs w1 r1 KA KB.enc (ps ++ [(a, b)]))
    (u2 : Upd w1 w2 r2) (m2 : MapIs w2 r2 KB KA.enc (ps.map Prod.swap ++ [(b, a)])) : TieAt S KA KB w2 F B r1 r2 (ps ++ [(a, b)]) ∧ Ext F w F w2 := by
  refine ⟨⟨?_, m1.keep (u2.block _ h.n3), by simpa using m2, ?_, ?_, h.fB, h.f1, h.f2, h.n1, h.n2, h.n3, fun x hx => by rw [u2.size, u1.size]; exact h.lt x hx⟩, ⟨?_, ?_, ?_, ?_, ?_⟩, fun _ h => .inl h⟩
  · rw [u2.block _ (fun e => h.n2 e.symm), u1.block _ (fun e => h.n1 e.symm)]; exact h.top
  · rw [List.map_append]
    refine List.nodup_append.2 ⟨h.nd1, by simp, fun x hx y hy e => ?_⟩
    simp at hy
    subst e hy
    exact atK_none hA ha hx
  · rw [List.map_append]
    refine List.nodup_append.2 ⟨h.nd2, by simp, fun x hx y hy e => ?_⟩
    simp at hy
    subst e hy
    refine atK_none hB hb ?_
    rw [List.map_map]; exact hx
  · rw [u2.os, u1.os]
  · rw [u2.tape, u1.tape]
  · rw [u2.output, u1.output]
  · rw [u2.size, u1.size]; exact Nat.le_refl _
  · intro x _ hx
    rw [u2.block x (fun e => hx (e ▸ h.f2)), u1.block x (fun e => hx (e ▸ h.f1))]
theorem TieAt.erase (h : TieAt S KA KB w F B r1 r2 ps) {i : Nat} (u1 : Upd w w1 r1) (m1 : MapIs w1 r1 KA KB.enc (ps.eraseIdx i))
    (u2 : Upd w1 w2 r2) (m2 : MapIs w2 r2 KB KA.enc ((ps.map Prod.swap).eraseIdx i)) : TieAt S KA KB w2 F B r1 r2 (ps.eraseIdx i) ∧ Ext F w F w2 := by
  refine ⟨⟨?_, m1.keep (u2.block _ h.n3), by rw [← erase_map]; exact m2, ?_, ?_, h.fB, h.f1, h.f2, h.n1, h.n2, h.n3, fun x hx => by rw [u2.size, u1.size]; exact h.lt x hx⟩, ⟨?_, ?_, ?_, ?_, ?_⟩, fun _ h => .inl h⟩
  · rw [u2.block _ (fun e => h.n2 e.symm), u1.block _ (fun e => h.n1 e.symm)]; exact h.top
  · rw [← erase_map]; exact h.nd1.sublist (List.eraseIdx_sublist _ _)
  · rw [← erase_map]; exact h.nd2.sublist (List.eraseIdx_sublist _ _)
  · rw [u2.os, u1.os]
  · rw [u2.tape, u1.tape]
  · rw [u2.output, u1.output]
  · rw [u2.size, u1.size]; exact Nat.le_refl _
  · intro x _ hx
    rw [u2.block x (fun e => hx (e ▸ h.f2)), u1.block x (fun e => hx (e ▸ h.f1))]
end
theorem map_len {α γ : Type} {K : Cod α} {E : γ → Value} {w : World} {r : Nat} {qs : List (α × γ)} {mt kt et : TypeId} (hm : Try.prog.underlying mt = some (.map kt et)) (h : MapIs w r K E qs) (ty : TypeId) :
    (Builtin.len_ #[mt] ty #[.map (some r)]).run Try.prog w = .ok (.int .i64 (qs.length : Nat)) w := by
  obtain ⟨es, c, hb, hes⟩ := h
  have hl : es.size = qs.length := by have := congrArg List.length hes; simpa using this
  have hg : (getObj r).run Try.prog w = .ok (.map es c) w := MapKept.run_getObj_map hb
  simp [Builtin.len_, run_underlying hm, hg, goInt, hl]

theorem swap_keys {α β : Type} (ps : List (α × β)) : (ps.map Prod.swap).map Prod.fst = ps.map Prod.snd := by
  rw [List.map_map]; rfl
section
variable {α β : Type} {S : TypeId} {KA : Cod α} {KB : Cod β} {w w' : World} {F : Nat → Prop} {B : Nat} {ps : List (α × β)}
theorem Tie.keep (h : Tie S KA KB w F B ps) (hs : w.heap.size ≤ w'.heap.size) (hk : ∀ b, F b → w'.heap[b]? = w.heap[b]?) : Tie S KA KB w' F B ps := by
  obtain ⟨r1, r2, h⟩ := h; exact ⟨r1, r2, h.keep hs hk⟩
theorem Tie.lt (h : Tie S KA KB w F B ps) : ∀ b, F b → b < w.heap.size := by obtain ⟨r1, r2, h⟩ := h; exact h.lt
theorem Tie.below (h : Tie S KA KB w F B ps) (hb : Below w.heap.size w w') : Tie S KA KB w' F B ps := h.keep hb.size (fun b hf => hb.block b (h.lt b hf))
theorem Tie.apart (h : Tie S KA KB w F B ps) {G G' : Nat → Prop} (hx : Ext G w G' w') (hd : ∀ b, F b → ¬ G b) : Tie S KA KB w' F B ps := h.keep hx.mod.size (fun b hb => hx.mod.block b (h.lt b hb) (hd b hb))
end
end Go.Proofs.Ytdeilmllgbajbaa
