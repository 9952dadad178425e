import Derived.Test.YtoddadohmnaolaaE4
namespace Go.Proofs.Ytoddadohmnaolaa
open Go.RowKit

/-- a table of environments -/
structure EtAt (w : World) (F : Nat → Prop) (T S : Nat) (G : Nat → Prop) (m : List (Option Nat)) (rs : List (Option Er)) (last : Int) : Prop where
  top : w.heap[T]? = some (.cells #[.pointer (some ⟨S, 0, none⟩), .int .i64 last] 77 (0, 0))
  tab : Tab KL w G S m
  len : m.length = 16
  rlen : rs.length = 16
  free : ∀ i : Nat, m[i]? = some none → rs[i]? = some none
  held : ∀ (i b : Nat), m[i]? = some (some b) → ∃ e, rs[i]? = some (some e) ∧ Rb w b e
  fT : F T
  fG : ∀ b, G b → F b ∧ b ≠ T
  own : ∀ i b : Nat, m[i]? = some (some b) → F b ∧ b ≠ T ∧ ¬ G b
  dis : ∀ i j b : Nat, m[i]? = some (some b) → m[j]? = some (some b) → i = j
  lt : ∀ b, F b → b < w.heap.size
def Et (w : World) (F : Nat → Prop) (T : Nat) (rs : List (Option Er)) (last : Int) : Prop := ∃ S G m, EtAt w F T S G m rs last
section
variable {w : World} {F : Nat → Prop} {T S : Nat} {G : Nat → Prop} {m : List (Option Nat)} {rs : List (Option Er)} {last : Int}
theorem EtAt.keep (h : EtAt w F T S G m rs last) {w' : World} (hs : w.heap.size ≤ w'.heap.size) (hk : ∀ b, F b → w'.heap[b]? = w.heap[b]?) : EtAt w' F T S G m rs last :=
  ⟨by rw [hk T h.fT]; exact h.top, h.tab.keep hs (fun b hb => hk b (h.fG b hb).1), h.len, h.rlen, h.free,
   fun i b hi => by obtain ⟨e, h1, h2⟩ := h.held i b hi; exact ⟨e, h1, h2.keep (hk b (h.own i b hi).1)⟩,
   h.fT, h.fG, h.own, h.dis, fun b hb => Nat.lt_of_lt_of_le (h.lt b hb) hs⟩
theorem Et.keep (h : Et w F T rs last) {w' : World} (hs : w.heap.size ≤ w'.heap.size) (hk : ∀ b, F b → w'.heap[b]? = w.heap[b]?) : Et w' F T rs last := by
  obtain ⟨S, G, m, h⟩ := h; exact ⟨S, G, m, h.keep hs hk⟩
theorem Et.lt (h : Et w F T rs last) : ∀ b, F b → b < w.heap.size := by obtain ⟨S, G, m, h⟩ := h; exact h.lt
theorem Et.below (h : Et w F T rs last) {w' : World} (hb : Below w.heap.size w w') : Et w' F T rs last :=
  h.keep hb.size (fun b hf => hb.block b (h.lt b hf))
theorem EtAt.below (h : EtAt w F T S G m rs last) {w' : World} (hb : Below w.heap.size w w') : EtAt w' F T S G m rs last :=
  h.keep hb.size (fun b hf => hb.block b (h.lt b hf))
theorem EtAt.cell (h : EtAt w F T S G m rs last) : w.cell? ⟨T, 0, none⟩ = some (.pointer (some ⟨S, 0, none⟩)) ∧ w.cell? ⟨T, 1, none⟩ = some (.int .i64 last) ∧ w.frozen? ⟨T, 1, none⟩ = false :=
  ⟨by rw [cell_of_row _ _ _ _ _ _ h.top]; rfl, by rw [cell_of_row _ _ _ _ _ _ h.top]; rfl, frozen_of_row _ _ _ _ _ h.top⟩
/-- a number that lives, or not -/
theorem EtAt.cases (h : EtAt w F T S G m rs last) (e : Int) : (look m e = none ∧ look rs e = none) ∨
    ∃ (k b : Nat) (r : Er), e = k ∧ m[k]? = some (some b) ∧ rs[k]? = some (some r) ∧ look m e = some b ∧ look rs e = some r ∧ Rb w b r := by
  rcases look_cases m e with ⟨h1, e1⟩ | ⟨k, rfl, hk, hm, e1⟩ | ⟨k, x, rfl, hk, hm, e1⟩
  · exact .inl ⟨e1, look_out rs e (by rw [h.rlen, ← h.len]; exact h1)⟩
  · exact .inl ⟨e1, by rw [look_nat, h.free k hm]; rfl⟩
  · obtain ⟨r, h1, h2⟩ := h.held k x hm
    exact .inr ⟨k, x, r, rfl, hm, h1, e1, by rw [look_nat, h1]; rfl, h2⟩
/-- one record is written -/
theorem EtAt.upd (h : EtAt w F T S G m rs last) {i b : Nat} (hi : m[i]? = some (some b)) {w' : World} {r' : Er} (hs : w.heap.size ≤ w'.heap.size) (hk : ∀ c, c < w.heap.size → c ≠ b → w'.heap[c]? = w.heap[c]?) (hr : Rb w' b r') : EtAt w' F T S G m (rs.set i (some r')) last := by
  have hil : i < rs.length := by rw [h.rlen, ← h.len]; exact (List.getElem?_eq_some_iff.1 hi).1
  obtain ⟨o1, o2, o3⟩ := h.own i b hi
  refine ⟨(hk T (h.lt T h.fT) (fun e => o2 e.symm)).trans h.top, h.tab.keep hs (fun c hc => hk c (h.lt c (h.fG c hc).1) (fun e => o3 (by rw [← e]; exact hc))), h.len, by simpa using h.rlen, fun j hj => ?_, fun j c hj => ?_, h.fT, h.fG, h.own, h.dis, fun c hc => Nat.lt_of_lt_of_le (h.lt c hc) hs⟩
  · rw [List.getElem?_set]
    split
    · rename_i e; subst e; rw [hi] at hj; cases hj
    · exact h.free j hj
  · by_cases e : j = i
    · subst e
      rw [hi] at hj; cases hj
      exact ⟨r', by rw [List.getElem?_set_self hil], hr⟩
    · obtain ⟨r, h1, h2⟩ := h.held j c hj
      refine ⟨r, by rw [List.getElem?_set_ne (fun e' => e e'.symm)]; exact h1, h2.keep (hk c h2.lt (fun e' => ?_))⟩
      subst e'
      exact e (h.dis j i c hj hi)
/-- a new record is laid at a free number -/
theorem EtAt.opn (h : EtAt w F T S G m rs last) {i b : Nat} (hi : m[i]? = some none) {w1 w2 : World} {r : Er} {G' : Nat → Prop} (hb : Below w.heap.size w w1) (hbn : w.heap.size ≤ b) (hr : Rb w1 b r) (ht : Tab KL w2 G' S (m.set i (some b))) (hx : Ext G w1 G' w2) :
    EtAt w2 (fun x => F x ∨ x = b ∨ G' x) T S G' (m.set i (some b)) (rs.set i (some r)) last ∧ Ext F w (fun x => F x ∨ x = b ∨ G' x) w2 := by
  have hil : i < rs.length := by rw [h.rlen, ← h.len]; exact (List.getElem?_eq_some_iff.1 hi).1
  have hg' : ∀ x, G' x → G x ∨ w1.heap.size ≤ x := hx.new
  have old : ∀ c, c < w.heap.size → ¬ G c → w2.heap[c]? = w.heap[c]? := fun c hc hg => (hx.mod.block c (Nat.lt_of_lt_of_le hc hb.size) hg).trans (hb.block c hc)
  have hbG : ¬ G b := fun hg => by have := h.lt b (h.fG b hg).1; omega
  have hbG' : ¬ G' b := fun hg => by
    rcases hg' b hg with h1 | h1
    · exact hbG h1
    · have := hr.lt; omega
  have ms : ∀ (j c : Nat), (m.set i (some b))[j]? = some (some c) → (j = i ∧ c = b) ∨ (j ≠ i ∧ m[j]? = some (some c)) := by
    intro j c hj
    rw [List.getElem?_set] at hj
    split at hj
    · rename_i e
      subst e
      split at hj
      · cases hj; exact .inl ⟨rfl, rfl⟩
      · cases hj
    · rename_i e; exact .inr ⟨fun e' => e e'.symm, hj⟩
  refine ⟨⟨?_, ht, by simpa using h.len, by simpa using h.rlen, fun j hj => ?_, fun j c hj => ?_, .inl h.fT, fun c hc => ?_, fun j c hj => ?_, fun j k c hj hk => ?_, fun c hc => ?_⟩, ⟨⟨hx.mod.os.trans hb.os, hx.mod.tape.trans hb.tape, hx.mod.output.trans hb.output, Nat.le_trans hb.size hx.mod.size, fun c hc hf => old c hc (fun hg => hf (h.fG c hg).1)⟩, fun c hc => ?_⟩⟩
  · rw [old T (h.lt T h.fT) (fun hg => (h.fG T hg).2 rfl)]; exact h.top
  · rw [List.getElem?_set] at hj ⊢
    split at hj
    · split at hj <;> cases hj
    · rename_i e; rw [if_neg e]; exact h.free j hj
  · rcases ms j c hj with ⟨rfl, rfl⟩ | ⟨hne, hj'⟩
    · exact ⟨r, by rw [List.getElem?_set_self hil], hr.keep (hx.mod.block c hr.lt hbG)⟩
    · obtain ⟨r2, h1, h2⟩ := h.held j c hj'
      exact ⟨r2, by rw [List.getElem?_set_ne (fun e => hne e.symm)]; exact h1, h2.keep (old c h2.lt (h.own j c hj').2.2)⟩
  · refine ⟨.inr (.inr hc), fun e => ?_⟩
    subst e
    rcases hg' c hc with h1 | h1
    · exact (h.fG c h1).2 rfl
    · have := h.lt c h.fT; have := hb.size; omega
  · rcases ms j c hj with ⟨rfl, rfl⟩ | ⟨hne, hj'⟩
    · exact ⟨.inr (.inl rfl), fun e => by have := h.lt T h.fT; omega, hbG'⟩
    · obtain ⟨o1, o2, o3⟩ := h.own j c hj'
      refine ⟨.inl o1, o2, fun hg => ?_⟩
      rcases hg' c hg with h1 | h1
      · exact o3 h1
      · have := h.lt c o1; have := hb.size; omega
  · rcases ms j c hj with ⟨rfl, rfl⟩ | ⟨hne, hj'⟩ <;> rcases ms k _ hk with ⟨rfl, e2⟩ | ⟨hne2, hk'⟩
    · rfl
    · have := h.lt _ (h.own k _ hk').1; omega
    · subst e2; have := h.lt _ (h.own j _ hj').1; omega
    · exact h.dis j k c hj' hk'
  · rcases hc with hc | rfl | hc
    · exact Nat.lt_of_lt_of_le (h.lt c hc) (Nat.le_trans hb.size hx.mod.size)
    · exact Nat.lt_of_lt_of_le hr.lt hx.mod.size
    · exact ht.lt c hc
  · rcases hc with hc | rfl | hc
    · exact .inl hc
    · exact .inr hbn
    · rcases hg' c hc with h1 | h1
      · exact .inl (h.fG c h1).1
      · exact .inr (Nat.le_trans hb.size h1)
end
end Go.Proofs.Ytoddadohmnaolaa
