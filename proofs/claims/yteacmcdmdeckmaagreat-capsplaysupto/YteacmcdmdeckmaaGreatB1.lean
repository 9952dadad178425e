import Derived.Test.YteacmcdmdeckmaaGreatTF
import Derived.Test.YteacmcdmdeckmaaGreatTE
namespace Go.Proofs.YteacmcdmdeckmaaGreat
open Go.RowKit

abbrev Lst := List (Option Rc)
structure BookAt (w : World) (F : Nat → Prop) (B T : Nat) (G : Nat → Prop) (m : List (Option Nat)) (fs : Nat → Nat → Prop) (bk : List (Option Lst)) : Prop where
  top : w.heap[B]? = some (.cells #[.pointer (some ⟨T, 0, none⟩)] 39 (0, 0))
  tab : Tab KL w G T m
  len : m.length = 16
  blen : bk.length = 16
  free : ∀ i : Nat, m[i]? = some none → bk[i]? = some none
  held : ∀ (i b : Nat), m[i]? = some (some b) → ∃ l, bk[i]? = some (some l) ∧ l.length = 48 ∧ Tab KR w (fs i) b l
  fB : F B
  fG : ∀ b, G b → F b ∧ b ≠ B
  own : ∀ i c b, m[i]? = some (some c) → fs i b → F b ∧ b ≠ B ∧ ¬ G b
  dis : ∀ i j c d b, m[i]? = some (some c) → m[j]? = some (some d) → fs i b → fs j b → i = j
  lt : ∀ b, F b → b < w.heap.size
/-- a book at block B, its blocks among F, with these lists -/
def Book (w : World) (F : Nat → Prop) (B : Nat) (bk : List (Option Lst)) : Prop := ∃ T G m fs, BookAt w F B T G m fs bk

section
variable {w : World} {F : Nat → Prop} {B T : Nat} {G : Nat → Prop} {m : List (Option Nat)} {fs : Nat → Nat → Prop} {bk : List (Option Lst)}
theorem BookAt.keep (h : BookAt w F B T G m fs bk) {w' : World} (hs : w.heap.size ≤ w'.heap.size) (hk : ∀ b, F b → w'.heap[b]? = w.heap[b]?) : BookAt w' F B T G m fs bk :=
  ⟨by rw [hk B h.fB]; exact h.top, h.tab.keep hs (fun b hb => hk b (h.fG b hb).1), h.len, h.blen, h.free,
   fun i b hi => by obtain ⟨l, h1, h2, h3⟩ := h.held i b hi; exact ⟨l, h1, h2, h3.keep hs (fun c hc => hk c (h.own i b c hi hc).1)⟩,
   h.fB, h.fG, h.own, h.dis, fun b hb => Nat.lt_of_lt_of_le (h.lt b hb) hs⟩
theorem Book.keep (h : Book w F B bk) {w' : World} (hs : w.heap.size ≤ w'.heap.size) (hk : ∀ b, F b → w'.heap[b]? = w.heap[b]?) : Book w' F B bk := by
  obtain ⟨T, G, m, fs, h⟩ := h; exact ⟨T, G, m, fs, h.keep hs hk⟩
theorem Book.lt (h : Book w F B bk) : ∀ b, F b → b < w.heap.size := by obtain ⟨T, G, m, fs, h⟩ := h; exact h.lt
theorem Book.blen (h : Book w F B bk) : bk.length = 16 := by obtain ⟨T, G, m, fs, h⟩ := h; exact h.blen
theorem Book.below (h : Book w F B bk) {w' : World} (hb : Below w.heap.size w w') : Book w' F B bk :=
  h.keep hb.size (fun b hf => hb.block b (h.lt b hf))
theorem BookAt.cell (h : BookAt w F B T G m fs bk) : w.cell? ⟨B, 0, none⟩ = some (.pointer (some ⟨T, 0, none⟩)) := by
  rw [cell_of_row _ _ _ _ _ _ h.top]; rfl
/-- lists are of 48 places -/
theorem BookAt.l48 (h : BookAt w F B T G m fs bk) {i : Nat} {l : Lst} (hi : bk[i]? = some (some l)) : l.length = 48 := by
  have hl : i < m.length := by rw [h.len, ← h.blen]; exact (List.getElem?_eq_some_iff.1 hi).1
  cases hm : m[i] with
  | none => have := h.free i (by rw [List.getElem?_eq_getElem hl, hm]); rw [hi] at this; cases this
  | some b => obtain ⟨l', h1, h2, _⟩ := h.held i b (by rw [List.getElem?_eq_getElem hl, hm]); rw [hi] at h1; cases h1; exact h2
theorem Book.l48 (h : Book w F B bk) {i : Nat} {l : Lst} (hi : bk[i]? = some (some l)) : l.length = 48 := by
  obtain ⟨T, G, m, fs, h⟩ := h; exact h.l48 hi
/-- a list that is open, or not -/
theorem BookAt.cases (h : BookAt w F B T G m fs bk) (e : Int) : (look m e = none ∧ look bk e = none) ∨
    ∃ (k b : Nat) (l : Lst), e = k ∧ m[k]? = some (some b) ∧ bk[k]? = some (some l) ∧ look m e = some b ∧ look bk e = some l ∧ l.length = 48 ∧ Tab KR w (fs k) b l := by
  rcases look_cases m e with ⟨h1, e1⟩ | ⟨k, rfl, hk, hm, e1⟩ | ⟨k, x, rfl, hk, hm, e1⟩
  · exact .inl ⟨e1, look_out bk e (by rw [h.blen, ← h.len]; exact h1)⟩
  · exact .inl ⟨e1, by rw [look_nat, h.free k hm]; rfl⟩
  · obtain ⟨l, h1, h2, h3⟩ := h.held k x hm
    exact .inr ⟨k, x, l, rfl, hm, h1, e1, by rw [look_nat, h1]; rfl, h2, h3⟩
/-- a call on one list -/
theorem BookAt.upd (h : BookAt w F B T G m fs bk) {i b : Nat} (hi : m[i]? = some (some b)) {l' : Lst} (hl : l'.length = 48) {F' : Nat → Prop} {w' : World} (ht : Tab KR w' F' b l') (hx : Ext (fs i) w F' w') :
    BookAt w' (fun x => F x ∨ F' x) B T G m (fun j => if j = i then F' else fs j) (bk.set i (some l')) ∧ Ext F w (fun x => F x ∨ F' x) w' := by
  have hbi : i < bk.length := by rw [h.blen, ← h.len]; exact (List.getElem?_eq_some_iff.1 hi).1
  have hnB : ¬ fs i B := fun hc => (h.own i b B hi hc).2.1 rfl
  have hf' : ∀ x, F' x → fs i x ∨ w.heap.size ≤ x := hx.new
  refine ⟨⟨?_, ?_, h.len, by simpa using h.blen, ?_, ?_, .inl h.fB, fun c hc => ⟨.inl (h.fG c hc).1, (h.fG c hc).2⟩, ?_, ?_, ?_⟩, ⟨?_, ?_⟩⟩
  · rw [hx.mod.block B (h.lt B h.fB) hnB]; exact h.top
  · exact h.tab.keep hx.mod.size (fun c hc => hx.mod.block c (h.tab.lt c hc) (fun hc' => (h.own i b c hi hc').2.2 hc))
  · intro j hj
    rw [List.getElem?_set]
    split
    · rename_i e; subst e; rw [hi] at hj; cases hj
    · exact h.free j hj
  · intro j c hj
    by_cases e : j = i
    · subst e
      rw [hi] at hj; cases hj
      exact ⟨l', by rw [List.getElem?_set]; simp [hbi], hl, by simpa using ht⟩
    · obtain ⟨l, h1, h2, h3⟩ := h.held j c hj
      refine ⟨l, by rw [List.getElem?_set]; rw [if_neg (fun e' => e e'.symm)]; exact h1, h2, ?_⟩
      simp only [if_neg e]
      exact h3.keep hx.mod.size (fun d hd => hx.mod.block d (h3.lt d hd) (fun hd' => e (h.dis j i c b d hj hi hd hd')))
  · intro j c d hj hd
    by_cases e : j = i
    · subst e
      simp only [if_true] at hd
      rcases hf' d hd with h1 | h1
      · exact ⟨.inl (h.own j b d hi h1).1, (h.own j b d hi h1).2⟩
      · exact ⟨.inr hd, fun e' => by subst e'; have := h.lt d h.fB; omega, fun hg => by have := h.tab.lt d hg; omega⟩
    · simp only [if_neg e] at hd
      exact ⟨.inl (h.own j c d hj hd).1, (h.own j c d hj hd).2⟩
  · intro j k c d x hj hk h1 h2
    have aux : ∀ j' c', m[j']? = some (some c') → j' ≠ i → fs j' x → F' x → False := by
      intro j' c' hj' hne h3 h4
      rcases hf' x h4 with h5 | h5
      · exact hne (h.dis j' i c' b x hj' hi h3 h5)
      · have := h.lt x (h.own j' c' x hj' h3).1; omega
    by_cases e1 : j = i <;> by_cases e2 : k = i
    · omega
    · subst e1; simp only [if_true] at h1; simp only [if_neg e2] at h2
      exact (aux k d hk e2 h2 h1).elim
    · subst e2; simp only [if_true] at h2; simp only [if_neg e1] at h1
      exact (aux j c hj e1 h1 h2).elim
    · simp only [if_neg e1] at h1; simp only [if_neg e2] at h2
      exact h.dis j k c d x hj hk h1 h2
  · intro c hc
    rcases hc with hc | hc
    · exact Nat.lt_of_lt_of_le (h.lt c hc) hx.mod.size
    · exact ht.lt c hc
  · exact ⟨hx.mod.os, hx.mod.tape, hx.mod.output, hx.mod.size, fun c hc hf => hx.mod.block c hc (fun h' => hf (h.own i b c hi h').1)⟩
  · intro c hc
    rcases hc with hc | hc
    · exact .inl hc
    · rcases hf' c hc with h1 | h1
      · exact .inl (h.own i b c hi h1).1
      · exact .inr h1
/-- a list is opened -/
theorem BookAt.opn (h : BookAt w F B T G m fs bk) {i b : Nat} (hi : m[i]? = some none) {N : Nat → Prop} {w1 w2 : World} {G' : Nat → Prop} (hN : ∀ x, N x → w.heap.size ≤ x) (hb : Below w.heap.size w w1) (ht : Tab KR w1 N b (List.replicate 48 none)) (hL : Tab KL w2 G' T (m.set i (some b))) (hx : Ext G w1 G' w2) :
    BookAt w2 (fun x => F x ∨ N x ∨ G' x) B T G' (m.set i (some b)) (fun j => if j = i then N else fs j) (bk.set i (some (List.replicate 48 none))) ∧ Ext F w (fun x => F x ∨ N x ∨ G' x) w2 := by
  have hbi : i < bk.length := by rw [h.blen, ← h.len]; exact (List.getElem?_eq_some_iff.1 hi).1
  have hmi : i < m.length := (List.getElem?_eq_some_iff.1 hi).1
  have hg' : ∀ x, G' x → G x ∨ w1.heap.size ≤ x := hx.new
  have old : ∀ c, c < w.heap.size → ¬ G c → w2.heap[c]? = w.heap[c]? := fun c hc hg => (hx.mod.block c (Nat.lt_of_lt_of_le hc hb.size) hg).trans (hb.block c hc)
  refine ⟨⟨?_, hL, by simpa using h.len, by simpa using h.blen, ?_, ?_, .inl h.fB, ?_, ?_, ?_, ?_⟩, ⟨?_, ?_⟩⟩
  · rw [old B (h.lt B h.fB) (fun hg => (h.fG B hg).2 rfl)]; exact h.top
  · intro j hj
    rw [List.getElem?_set] at hj ⊢
    split at hj
    · cases hj
    · rename_i e; rw [if_neg e]; exact h.free j hj
  · intro j c hj
    rw [List.getElem?_set] at hj
    split at hj
    · rename_i e
      subst e
      cases hj
      refine ⟨List.replicate 48 none, by rw [List.getElem?_set, if_pos rfl, if_pos hbi], List.length_replicate, ?_⟩
      simp only [if_true]
      exact ht.keep hx.mod.size (fun d hd => hx.mod.block d (ht.lt d hd) (fun hg => by have := hN d hd; have := h.tab.lt d hg; omega))
    · rename_i e
      obtain ⟨l, h1, h2, h3⟩ := h.held j c hj
      refine ⟨l, by rw [List.getElem?_set, if_neg e]; exact h1, h2, ?_⟩
      simp only [if_neg (fun e' : j = i => e e'.symm)]
      exact h3.keep (Nat.le_trans hb.size hx.mod.size) (fun d hd => old d (h3.lt d hd) (h.own j c d hj hd).2.2)
  · intro c hc
    refine ⟨.inr (.inr hc), fun e => ?_⟩
    subst e
    rcases hg' c hc with h1 | h1
    · exact (h.fG c h1).2 rfl
    · have := h.lt c h.fB; have := hb.size; omega
  · intro j c d hj hd
    rw [List.getElem?_set] at hj
    split at hj
    · rename_i e
      subst e
      simp only [if_true] at hd
      have h1 := hN d hd
      have h2 := ht.lt d hd
      refine ⟨.inr (.inl hd), fun e => by subst e; have := h.lt d h.fB; omega, fun hg => ?_⟩
      rcases hg' d hg with h3 | h3
      · have := h.tab.lt d h3; omega
      · omega
    · rename_i e
      simp only [if_neg (fun e' : j = i => e e'.symm)] at hd
      have h1 := h.own j c d hj hd
      refine ⟨.inl h1.1, h1.2.1, fun hg => ?_⟩
      rcases hg' d hg with h3 | h3
      · exact h1.2.2 h3
      · have := h.lt d h1.1; have := hb.size; omega
  · intro j k c d x hj hk h1 h2
    have aux : ∀ j' c', (m.set i (some b))[j']? = some (some c') → j' ≠ i → fs j' x → N x → False := by
      intro j' c' hj' hne h3 h4
      rw [List.getElem?_set, if_neg (fun e => hne e.symm)] at hj'
      have := hN x h4; have := h.lt x (h.own j' c' x hj' h3).1; omega
    by_cases e1 : j = i <;> by_cases e2 : k = i
    · omega
    · subst e1; simp only [if_true] at h1; simp only [if_neg e2] at h2
      exact (aux k d hk e2 h2 h1).elim
    · subst e2; simp only [if_true] at h2; simp only [if_neg e1] at h1
      exact (aux j c hj e1 h1 h2).elim
    · simp only [if_neg e1] at h1; simp only [if_neg e2] at h2
      rw [List.getElem?_set, if_neg (fun e => e1 e.symm)] at hj
      rw [List.getElem?_set, if_neg (fun e => e2 e.symm)] at hk
      exact h.dis j k c d x hj hk h1 h2
  · intro c hc
    rcases hc with hc | hc | hc
    · exact Nat.lt_of_lt_of_le (h.lt c hc) (Nat.le_trans hb.size hx.mod.size)
    · exact Nat.lt_of_lt_of_le (ht.lt c hc) hx.mod.size
    · exact hL.lt c hc
  · exact ⟨hx.mod.os.trans hb.os, hx.mod.tape.trans hb.tape, hx.mod.output.trans hb.output, Nat.le_trans hb.size hx.mod.size, fun c hc hf => old c hc (fun hg => hf (h.fG c hg).1)⟩
  · intro c hc
    rcases hc with hc | hc | hc
    · exact .inl hc
    · exact .inr (hN c hc)
    · rcases hg' c hc with h1 | h1
      · exact .inl (h.fG c h1).1
      · exact .inr (Nat.le_trans hb.size h1)
/-- a list is closed -/
theorem BookAt.sht (h : BookAt w F B T G m fs bk) {i : Nat} (hi : i < m.length) {w' : World} (hL : Tab KL w' G T (m.set i none)) (hx : Ext G w G w') :
    BookAt w' F B T G (m.set i none) fs (bk.set i none) ∧ Ext F w F w' := by
  have hbi : i < bk.length := by rw [h.blen, ← h.len]; exact hi
  have old : ∀ c, c < w.heap.size → ¬ G c → w'.heap[c]? = w.heap[c]? := fun c hc hg => hx.mod.block c hc hg
  have hs : ∀ (j : Nat) (c : Nat), (m.set i none)[j]? = some (some c) → m[j]? = some (some c) ∧ j ≠ i := by
    intro j c hj
    rw [List.getElem?_set] at hj
    split at hj
    · cases hj
    · rename_i e; exact ⟨hj, fun e' => e e'.symm⟩
  refine ⟨⟨?_, hL, by simpa using h.len, by simpa using h.blen, ?_, ?_, h.fB, h.fG, fun j c d hj hd => h.own j c d (hs j c hj).1 hd, fun j k c d x hj hk => h.dis j k c d x (hs j c hj).1 (hs k d hk).1, fun c hc => Nat.lt_of_lt_of_le (h.lt c hc) hx.mod.size⟩, ⟨?_, fun c hc => .inl hc⟩⟩
  · rw [old B (h.lt B h.fB) (fun hg => (h.fG B hg).2 rfl)]; exact h.top
  · intro j hj
    rw [List.getElem?_set] at hj ⊢
    split
    · rfl
    · rename_i e; rw [if_neg e] at hj; exact h.free j hj
  · intro j c hj
    obtain ⟨h1, h2⟩ := hs j c hj
    obtain ⟨l, h3, h4, h5⟩ := h.held j c h1
    exact ⟨l, by rw [List.getElem?_set, if_neg (fun e => h2 e.symm)]; exact h3, h4, h5.keep hx.mod.size (fun d hd => old d (h5.lt d hd) (h.own j c d h1 hd).2.2)⟩
  · exact ⟨hx.mod.os, hx.mod.tape, hx.mod.output, hx.mod.size, fun c hc hf => old c hc (fun hg => hf (h.fG c hg).1)⟩
end
end Go.Proofs.YteacmcdmdeckmaaGreat
