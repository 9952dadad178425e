import Derived.Test.YtngmnlmagbfijabB0
namespace Go.Proofs.Ytngmnlmagbfijab
open Go.RowKit
/-- the keys of a map: their type, how they lie, when two are one -/
structure Cod (α : Type) where
  t : TypeId
  enc : α → Value
  eqb : α → α → Bool
/-- block r is a map with these pairs, in this order -/
def MapIs {α β : Type} (w : World) (r : Nat) (K : Cod α) (E : β → Value) (ps : List (α × β)) : Prop :=
  ∃ (es : Array MapEntry) (clock : Nat), w.heap[r]? = some (.map es clock) ∧ es.toList.map (fun e => (e.key, e.val)) = ps.map (fun p => (K.enc p.1, E p.2)) ∧ MapKept.Stamped es clock
/-- what a key's type must do -/
structure KeyOk {α : Type} (K : Cod α) : Prop where
  same : ∀ a b, K.eqb a b = true ↔ a = b
  check : ∀ (em : Bool) (a : α) (w : World), (Instr.checkKey em 10000 K.t (K.enc a)).run Try.prog w = .ok () w
  find : ∀ (a : α) (es : List MapEntry) (ks : List α) (w : World), es.map (·.key) = ks.map K.enc →
    (Instr.findKey K.t (K.enc a) es).run Try.prog w = .ok ((ks.findIdx? (K.eqb a)).map (fun i => (i, ((es[i]?).map (·.val)).getD undef))) w
def KU : Cod Int := ⟨3, fun a => .int .i64 a, fun a b => a == b⟩
theorem findNow_i (a : Int) : ∀ (es : List MapEntry) (ks : List Int) (i : Nat), es.map (·.key) = ks.map (fun a => Value.int .i64 a) →
    Instr.findNow (.int .i64) (.int .i64 a) es i = some ((ks.findIdx? (fun k => a == k)).map (fun j => (i + j, ((es[j]?).map (·.val)).getD undef)))
  | [], [], i, _ => rfl
  | [], _ :: _, _, h => by simp at h
  | _ :: _, [], _, h => by simp at h
  | e :: es, k :: ks, i, h => by
    simp only [List.map_cons, List.cons.injEq] at h
    obtain ⟨h1, h2⟩ := h
    rw [Instr.findNow, h1]
    simp only [Instr.sameNow, if_true]
    cases hk : (a == k) with
    | true => simp [List.findIdx?_cons, hk]
    | false =>
      rw [findNow_i a es ks (i + 1) h2, List.findIdx?_cons, hk]
      simp only [Bool.false_eq_true, if_false, Option.map_map]
      congr 1
      congr 1
      funext j
      simp [Nat.add_assoc, Nat.add_comm 1 j]
theorem key_i : KeyOk KU := by
  refine ⟨fun a b => by simp [KU], fun em a w => ?_, fun a es ks w h => ?_⟩
  · show (Instr.checkKey em (9999 + 1) 3 (.int .i64 a)).run Try.prog w = _
    unfold Instr.checkKey
    simp [run_underlying Try.underlying3]
  · have := findNow_i a es ks 0 h
    simp only [Nat.zero_add] at this
    simp only [Instr.findKey, KU, Sem.run_bind, run_underlying Try.underlying3, Result.andThen_ok, this]
    rfl
theorem erase_map {α β : Type} (f : α → β) : ∀ (l : List α) (i : Nat), (l.map f).eraseIdx i = (l.eraseIdx i).map f
  | [], _ => by simp
  | _ :: _, 0 => rfl
  | x :: t, i + 1 => by simp [erase_map f t i]
section
variable {α β : Type} {K : Cod α} {E : β → Value} {w : World} {r : Nat} {ps : List (α × β)}
/-- the element at a -/
def atK (K : Cod α) (ps : List (α × β)) (a : α) : Option β := (ps.find? (fun p => K.eqb a p.1)).map Prod.snd
theorem keys_of {l : List MapEntry} (h : l.map (fun e => (e.key, e.val)) = ps.map (fun p => (K.enc p.1, E p.2))) : l.map (·.key) = (ps.map Prod.fst).map K.enc := by
  have := congrArg (List.map Prod.fst) h
  rw [List.map_map, List.map_map] at this
  rw [List.map_map]
  exact this
theorem findIdx_at (a : α) : ∀ (ps : List (α × β)) (l : List MapEntry), l.map (fun e => (e.key, e.val)) = ps.map (fun p => (K.enc p.1, E p.2)) →
    ((ps.map Prod.fst).findIdx? (K.eqb a)).map (fun i => ((l[i]?).map (·.val)).getD undef) = (atK K ps a).map E
  | [], [], _ => rfl
  | [], _ :: _, h => by simp at h
  | _ :: _, [], h => by simp at h
  | p :: t, e :: l, h => by
    simp only [List.map_cons, List.cons.injEq, Prod.mk.injEq] at h
    obtain ⟨⟨h1, h2⟩, h3⟩ := h
    have ih := findIdx_at a t l h3
    unfold atK at ih ⊢
    rw [List.map_cons, List.findIdx?_cons, List.find?_cons]
    cases hp : K.eqb a p.1 with
    | true => simp [h2]
    | false =>
      simp only [Bool.false_eq_true, if_false, Option.map_map]
      rw [Option.map_map] at ih
      rw [← ih]
      congr 1
theorem run_look (hK : KeyOk K) {mt et : TypeId} {z : Value} (hm : Try.prog.underlying mt = some (.map K.t et)) (hz : ∀ w, (zeroValue et).run Try.prog w = .ok z w) (h : MapIs w r K E ps) (a : α) (c : Bool) :
    (Instr.lookup mt (.map (some r)) (K.enc a) c).run Try.prog w = .ok (if c then .tuple #[((atK K ps a).map E).getD z, .bool (atK K ps a).isSome] else ((atK K ps a).map E).getD z) w := by
  obtain ⟨es, clock, hb, hes, _⟩ := h
  have hf := hK.find a es.toList (ps.map Prod.fst) w (keys_of hes)
  have hi := findIdx_at (K := K) (E := E) a ps es.toList hes
  have hg : (getObj r).run Try.prog w = .ok (.map es clock) w := MapKept.run_getObj_map hb
  cases hx : (ps.map Prod.fst).findIdx? (K.eqb a) with
  | none =>
    rw [hx] at hf hi
    have hn : atK K ps a = none := by cases hq : atK K ps a with
      | none => rfl
      | some b => rw [hq] at hi; cases hi
    simp [Instr.lookup, run_underlying hm, hg, hK.check, hf, hz, hn]
  | some i =>
    rw [hx] at hf hi
    simp only [Option.map_some] at hf hi
    cases hq : atK K ps a with
    | none => rw [hq] at hi; cases hi
    | some b =>
      rw [hq] at hi
      simp only [Option.map_some, Option.some.injEq] at hi
      rw [hi] at hf
      simp [Instr.lookup, run_underlying hm, hg, hK.check, hf]
/-- a deletion of a key that is there -/
theorem run_erase (hK : KeyOk K) {mt et : TypeId} (hm : Try.prog.underlying mt = some (.map K.t et)) (h : MapIs w r K E ps) (a : α) (i : Nat) (hi : (ps.map Prod.fst).findIdx? (K.eqb a) = some i) (ats : Array TypeId) (hat : ats[0]? = some mt) (ty : TypeId) :
    ∃ es clock, (Builtin.delete_ ats ty #[.map (some r), K.enc a]).run Try.prog w = .ok (.tuple #[]) (w.putObj r (.map es clock)) ∧ MapIs (w.putObj r (.map es clock)) r K E (ps.eraseIdx i) := by
  obtain ⟨es, clock, hb, hes, hst⟩ := h
  have hg : (getObj r).run Try.prog w = .ok (.map es clock) w := MapKept.run_getObj_map hb
  have hf := hK.find a es.toList (ps.map Prod.fst) w (keys_of hes)
  rw [hi] at hf
  refine ⟨es.eraseIdxIfInBounds i, clock, ?_, es.eraseIdxIfInBounds i, clock, World.putObj_heap_same (Array.getElem?_eq_some_iff.1 hb).1, ?_, MapKept.stamped_erase hst i⟩
  · have hs := fun o => MapKept.run_setObj_map (P := Try.prog) o hb
    simp [Builtin.delete_, hat, run_underlying hm, hg, hK.check, hf, hs, World.putObj]
  · have hl : i < es.size := by
      have h1 := (List.findIdx?_eq_some_iff_findIdx_eq.1 hi).1
      have h2 := congrArg List.length hes
      simp at h1 h2
      omega
    rw [← erase_map, ← hes, erase_map]
    simp [Array.eraseIdxIfInBounds, hl]
theorem find_none (hK : KeyOk K) {a : α} (hn : atK K ps a = none) {l : List MapEntry} (hes : l.map (fun e => (e.key, e.val)) = ps.map (fun p => (K.enc p.1, E p.2))) (w : World) : (Instr.findKey K.t (K.enc a) l).run Try.prog w = .ok none w := by
  have hf := hK.find a l (ps.map Prod.fst) w (keys_of hes)
  have hi := findIdx_at (K := K) (E := E) a ps l hes
  rw [hn] at hi
  cases hx : (ps.map Prod.fst).findIdx? (K.eqb a) with
  | none => rw [hx] at hf; exact hf
  | some i => rw [hx] at hi; cases hi
/-- a store at a new key -/
theorem run_push (hK : KeyOk K) {mt et : TypeId} (hm : Try.prog.underlying mt = some (.map K.t et)) (h : MapIs w r K E ps) (a : α) (b : β) (hn : atK K ps a = none) (hinj : ∀ a b, K.enc a = K.enc b → a = b) :
    ∃ es clock, (Instr.mapUpdate mt (.map (some r)) (K.enc a) (E b)).run Try.prog w = .ok () (w.putObj r (.map es clock)) ∧ MapIs (w.putObj r (.map es clock)) r K E (ps ++ [(a, b)]) := by
  obtain ⟨es, clock, hb, hes, hst⟩ := h
  have hnk : ∀ x ∈ es.toList, x.key ≠ K.enc a := by
    intro x hx e
    have h1 := keys_of (K := K) (E := E) hes
    have h2 : x.key ∈ es.toList.map (·.key) := List.mem_map.2 ⟨x, hx, rfl⟩
    rw [h1, e, List.mem_map] at h2
    obtain ⟨k, hk, hk2⟩ := h2
    have h3 := hinj _ _ hk2
    subst h3
    obtain ⟨p, hp, rfl⟩ := List.mem_map.1 hk
    unfold atK at hn
    rw [Option.map_eq_none_iff, List.find?_eq_none] at hn
    exact hn p hp ((hK.same _ _).2 rfl)
  have hg : (getObj r).run Try.prog w = .ok (.map es clock) w := MapKept.run_getObj_map hb
  have hf := find_none (E := E) hK hn hes w
  refine ⟨es.push { key := K.enc a, val := E b, born := clock }, clock + 1, ?_, es.push { key := K.enc a, val := E b, born := clock }, clock + 1, World.putObj_heap_same (Array.getElem?_eq_some_iff.1 hb).1, ?_, MapKept.stamped_push hst hnk⟩
  · have hs := fun o => MapKept.run_setObj_map (P := Try.prog) o hb
    simp [Instr.mapUpdate, run_underlying hm, hg, hK.check, hf, hs, World.putObj]
  · simp [hes]
end
theorem atK_set {ps : List (Int × Int)} {a b : Int} : ∀ {i : Nat}, (ps.map Prod.fst).findIdx? (KU.eqb a) = some i → ∀ c, atK KU (ps.set i (a, b)) c = if c = a then some b else atK KU ps c := by
  induction ps with
  | nil => intro i h; simp at h
  | cons p t ih =>
    intro i h c
    rw [List.map_cons, List.findIdx?_cons] at h
    cases hp : KU.eqb a p.1 with
    | true =>
      rw [hp] at h
      simp only [if_true, Option.some.injEq] at h
      subst h
      have hp' : a = p.1 := by simpa [KU] using hp
      rw [List.set_cons_zero]
      unfold atK
      rw [List.find?_cons, List.find?_cons]
      by_cases hc : c = a
      · subst hc; simp [KU]
      · have h1 : KU.eqb c a = false := by simp [KU, hc]
        rw [← hp', h1, if_neg hc]
    | false =>
      rw [hp] at h
      simp only [Bool.false_eq_true, if_false] at h
      obtain ⟨j, hj, rfl⟩ := Option.map_eq_some_iff.1 h
      rw [List.set_cons_succ]
      have := ih hj c
      unfold atK at this ⊢
      rw [List.find?_cons, List.find?_cons]
      cases hc : KU.eqb c p.1 with
      | true =>
        have h1 : c ≠ a := by
          intro e
          subst e
          rw [hp] at hc
          cases hc
        simp [h1]
      | false => exact this
theorem atK_push {ps : List (Int × Int)} {a b : Int} (h : atK KU ps a = none) (c : Int) : atK KU (ps ++ [(a, b)]) c = if c = a then some b else atK KU ps c := by
  unfold atK at h ⊢
  rw [List.find?_append]
  by_cases hc : c = a
  · subst hc
    rw [Option.map_eq_none_iff] at h
    rw [h]
    simp [KU]
  · have h1 : KU.eqb c a = false := by simp [KU, hc]
    rw [if_neg hc]
    simp [h1]
theorem es_set {es : Array MapEntry} {ps : List (Int × Int)} {i : Nat} {a b : Int} (h : es.toList.map (fun e => (e.key, e.val)) = ps.map (fun p => (KU.enc p.1, Value.int .i64 p.2))) :
    (es.modify i fun e => { e with key := KU.enc a, val := .int .i64 b }).toList.map (fun e => (e.key, e.val)) = (ps.set i (a, b)).map (fun p => (KU.enc p.1, Value.int .i64 p.2)) := by
  rw [List.map_set, ← h]
  apply List.ext_getElem?
  intro j
  rw [List.getElem?_map, Array.getElem?_toList, Array.getElem?_modify, List.getElem?_set, List.getElem?_map, Array.getElem?_toList]
  by_cases hj : i = j
  · subst hj
    by_cases hl : i < es.size
    · simp [hl]
    · simp [hl]
  · simp [hj]
/-- a map of ints by ints, of at most n entries -/
def Mp (w : World) (r n : Nat) (f : Int → Option Int) : Prop := ∃ ps : List (Int × Int), MapIs w r KU (fun n : Int => Value.int .i64 n) ps ∧ (∀ a, atK KU ps a = f a) ∧ (ps.map Prod.fst).Nodup ∧ ps.length ≤ n
section
variable {w w' : World} {r n : Nat} {f : Int → Option Int}
theorem Mp.look (h : Mp w r n f) (a : Int) (c : Bool) : (Instr.lookup 53 (.map (some r)) (.int .i64 a) c).run Try.prog w = .ok (if c then .tuple #[.int .i64 ((f a).getD 0), .bool (f a).isSome] else .int .i64 ((f a).getD 0)) w := by
  obtain ⟨ps, h1, h2, _⟩ := h
  have := run_look (z := .int .i64 0) key_i Try.underlying53 (fun w => by kernel_rfl) h1 a c
  rw [h2] at this
  cases hf : f a with
  | none => rw [hf] at this; exact this
  | some n => rw [hf] at this; exact this
theorem Mp.look1 (h : Mp w r n f) (a : Int) : (Instr.lookup 53 (.map (some r)) (.int .i64 a) false).run Try.prog w = .ok (.int .i64 ((f a).getD 0)) w := h.look a false
theorem Mp.look2 (h : Mp w r n f) (a : Int) : (Instr.lookup 53 (.map (some r)) (.int .i64 a) true).run Try.prog w = .ok (.tuple #[.int .i64 ((f a).getD 0), .bool (f a).isSome]) w := h.look a true
theorem look_nil (w : World) (a : Int) : (Instr.lookup 53 (.map none) (.int .i64 a) false).run Try.prog w = .ok (.int .i64 0) w := by
  have hc := key_i.check true a w
  have hf := key_i.find a [] [] w rfl
  have hz : (zeroValue 3).run Try.prog w = .ok (.int .i64 0) w := by kernel_rfl
  have hu := Try.underlying53
  simp only [KU] at hc hf
  simp [Instr.lookup, run_underlying hu, hc, hf, hz]
theorem enc_inj (a b : Int) (h : KU.enc a = KU.enc b) : a = b := by simpa [KU] using h
theorem atK_mem {ps : List (Int × Int)} {a : Int} : (atK KU ps a).isSome = true ↔ a ∈ ps.map Prod.fst := by
  unfold atK
  induction ps with
  | nil => simp
  | cons p t ih =>
    rw [List.find?_cons]
    cases hq : KU.eqb a p.1 with
    | true => have : a = p.1 := by simpa [KU] using hq
              simp [this]
    | false =>
      have : ¬ a = p.1 := by simpa [KU] using hq
      simp only [ih, List.map_cons, List.mem_cons, this, false_or]
theorem atK_erase {ps : List (Int × Int)} {a : Int} : ∀ {i : Nat}, (ps.map Prod.fst).Nodup → (ps.map Prod.fst).findIdx? (KU.eqb a) = some i → ∀ c, atK KU (ps.eraseIdx i) c = if c = a then none else atK KU ps c := by
  induction ps with
  | nil => intro i _ h; simp at h
  | cons p t ih =>
    intro i hn h c
    rw [List.map_cons, List.nodup_cons] at hn
    rw [List.map_cons, List.findIdx?_cons] at h
    cases hp : KU.eqb a p.1 with
    | true =>
      rw [hp] at h
      simp only [if_true, Option.some.injEq] at h
      subst h
      have hp' : a = p.1 := by simpa [KU] using hp
      rw [List.eraseIdx_cons_zero]
      by_cases hc : c = a
      · rw [if_pos hc]
        have := mt atK_mem.1 (show c ∉ t.map Prod.fst by rw [hc, hp']; exact hn.1)
        simpa using this
      · rw [if_neg hc]
        have h1 : KU.eqb c p.1 = false := by rw [← hp']; simp [KU, hc]
        unfold atK
        rw [List.find?_cons, h1]
    | false =>
      rw [hp] at h
      simp only [Bool.false_eq_true, if_false] at h
      obtain ⟨j, hj, rfl⟩ := Option.map_eq_some_iff.1 h
      rw [List.eraseIdx_cons_succ]
      have := ih hn.2 hj c
      unfold atK at this ⊢
      rw [List.find?_cons, List.find?_cons]
      cases hc : KU.eqb c p.1 with
      | true =>
        have h1 : c ≠ a := by
          intro e
          subst e
          rw [hp] at hc
          cases hc
        simp [h1]
      | false => exact this
theorem Mp.put (h : Mp w r n f) (a b : Int) : ∃ es clock, (Instr.mapUpdate 53 (.map (some r)) (.int .i64 a) (.int .i64 b)).run Try.prog w = .ok () (w.putObj r (.map es clock)) ∧ Mp (w.putObj r (.map es clock)) r (n + 1) (fun c => if c = a then some b else f c) ∧ ((f a).isSome = true → Mp (w.putObj r (.map es clock)) r n (fun c => if c = a then some b else f c)) := by
  obtain ⟨ps, h1, h2, hnd, hlen⟩ := h
  cases hn : atK KU ps a with
  | none =>
    obtain ⟨es, clock, h3, h4⟩ := run_push (E := fun n : Int => Value.int .i64 n) key_i Try.underlying53 h1 a b hn enc_inj
    refine ⟨es, clock, h3, ⟨_, h4, fun c => by rw [atK_push hn, h2], ?_, by simp; omega⟩, fun hs => by rw [← h2, hn] at hs; cases hs⟩
    rw [List.map_append, List.nodup_append]
    refine ⟨hnd, by simp, fun x hx y hy e => ?_⟩
    simp at hy
    subst hy
    subst e
    have := atK_mem.2 hx
    rw [hn] at this
    cases this
  | some m =>
    obtain ⟨es, clock, hb, hes, hst⟩ := h1
    have hg : (getObj r).run Try.prog w = .ok (.map es clock) w := MapKept.run_getObj_map hb
    have hf := key_i.find a es.toList (ps.map Prod.fst) w (keys_of (K := KU) (E := fun n : Int => Value.int .i64 n) hes)
    cases hx : (ps.map Prod.fst).findIdx? (KU.eqb a) with
    | none =>
      have hi := findIdx_at (K := KU) (E := fun n : Int => Value.int .i64 n) a ps es.toList hes
      rw [hx, hn] at hi
      cases hi
    | some i =>
      rw [hx] at hf
      simp only [Option.map_some] at hf
      obtain ⟨h7, h8⟩ := List.findIdx?_eq_some_iff_getElem.1 hx
      rw [List.length_map] at h7
      have h9 : a = (ps[i]).1 := by simpa [KU] using h8.1
      have hkey : ((es[i]?).map (·.key)).getD (.int .i64 a) = .int .i64 a := by
        have h5 := keys_of (K := KU) (E := fun n : Int => Value.int .i64 n) hes
        have h6 := congrArg (fun l => l[i]?) h5
        simp only [List.getElem?_map, Array.getElem?_toList] at h6
        rw [h6]
        rw [List.getElem?_eq_getElem h7]
        simp [KU, ← h9]
      have hkk : ∀ e ∈ es.toList, es[i]? = some e → KU.enc a = e.key := fun e _ he => by
        rw [he] at hkey
        simp at hkey
        exact hkey.symm
      have hstay : (Instr.keyThatStays (.int .i64 a) (.int .i64 a)).run Try.prog w = .ok (.int .i64 a) w := by
        unfold Instr.keyThatStays
        simp [Instr.sameBits]
      have hM : ∀ k, ps.length ≤ k → Mp (w.putObj r (.map (es.modify i fun e => { e with key := KU.enc a, val := .int .i64 b }) clock)) r k (fun c => if c = a then some b else f c) := fun k hk =>
        ⟨ps.set i (a, b), ⟨_, _, World.putObj_heap_same (Array.getElem?_eq_some_iff.1 hb).1, es_set hes, MapKept.stamped_modify hst i _ (fun _ _ => rfl) hkk⟩, fun c => by rw [atK_set hx, h2], by
          rw [List.map_set]
          have : (ps.map Prod.fst).set i a = ps.map Prod.fst := by
            apply List.ext_getElem?
            intro j
            rw [List.getElem?_set]
            by_cases hj : i = j
            · subst hj; simp [h7, h9]
            · simp [hj]
          rw [this]; exact hnd, by simpa using hk⟩
      refine ⟨es.modify i fun e => { e with key := KU.enc a, val := .int .i64 b }, clock, ?_, hM _ (by omega), fun _ => hM _ hlen⟩
      have hs := fun o => MapKept.run_setObj_map (P := Try.prog) o hb
      have hck := key_i.check false a w
      have hu := Try.underlying53
      simp only [KU] at hf hck
      simp [Instr.mapUpdate, run_underlying hu, hg, hck, hf, hs, hkey, hstay, World.putObj, KU]
theorem Mp.del (h : Mp w r n f) (a : Int) (hs : (f a).isSome = true) (ty : TypeId) : ∃ es clock, (Builtin.delete_ #[53, 3] ty #[.map (some r), .int .i64 a]).run Try.prog w = .ok (.tuple #[]) (w.putObj r (.map es clock)) ∧ Mp (w.putObj r (.map es clock)) r n (fun c => if c = a then none else f c) := by
  obtain ⟨ps, h1, h2, hnd, hlen⟩ := h
  rw [← h2] at hs
  have hm := atK_mem.1 hs
  obtain ⟨i, hi⟩ : ∃ i, (ps.map Prod.fst).findIdx? (KU.eqb a) = some i := by
    cases hx : (ps.map Prod.fst).findIdx? (KU.eqb a) with
    | some i => exact ⟨i, rfl⟩
    | none =>
      rw [List.findIdx?_eq_none_iff] at hx
      have := hx a hm
      simp [KU] at this
  obtain ⟨es, clock, h3, h4⟩ := run_erase (E := fun n : Int => Value.int .i64 n) key_i Try.underlying53 h1 a i hi #[53, 3] rfl ty
  refine ⟨es, clock, h3, _, h4, fun c => by rw [atK_erase hnd hi, h2], ?_, ?_⟩
  · rw [← erase_map]; exact hnd.sublist (List.eraseIdx_sublist _ _)
  · have := List.length_eraseIdx_le ps i; omega
theorem Mp.keep (h : Mp w r n f) (hb : w'.heap[r]? = w.heap[r]?) : Mp w' r n f := by
  obtain ⟨ps, ⟨es, c, h1, h2⟩, h3⟩ := h
  exact ⟨ps, ⟨es, c, by rw [hb]; exact h1, h2⟩, h3⟩
theorem Mp.lt (h : Mp w r n f) : r < w.heap.size := by
  obtain ⟨ps, ⟨es, c, h1, h2⟩, h3⟩ := h
  exact (Array.getElem?_eq_some_iff.1 h1).1
theorem Mp.mono {m : Nat} (h : Mp w r n f) (hm : n ≤ m) : Mp w r m f := by
  obtain ⟨ps, h1, h2, h3, h4⟩ := h
  exact ⟨ps, h1, h2, h3, by omega⟩
end
theorem Mp.new (w : World) : Mp (w.alloc (.map #[] 0)) w.heap.size 0 (fun _ => none) := ⟨[], ⟨#[], 0, heap_alloc_last _ _, rfl, MapKept.stamped_empty 0⟩, fun _ => rfl, by simp, by simp⟩
end Go.Proofs.Ytngmnlmagbfijab
