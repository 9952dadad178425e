import Derived.Test.YtbfagiofhakjnaaDoorMA13
namespace Go.Proofs.YtbfagiofhakjnaaDoor
open Go.RowKit
/-- a line, both ways -/
structure Rel (l : Ln) (d : Dl) : Prop where
  bad : l.wrong = d.bad
  label : l.label = d.label
  lab : d.lab = decide (d.label ≠ [])
  words : d.bad = false → l.words = d.words
  name : d.bad = false → l.name = useN d
  wr : d.bad = false → ∀ ps at', wrdT ps l at' = wD (fun f => ((atK KS ps f).getD (0, 0)).2) d.name d.fields at'
  ne : d.bad = false → ∀ f ∈ d.fields, f ≠ []
theorem flds_ne (a b : Int) : ∀ (ks : List Int) (fs : List Tx) (l l' : Ln), fldsT a b l ks fs = some l' → ∀ f ∈ fs, f ≠ []
  | _, [], _, _, _ => by simp
  | [], _ :: _, _, _, h => by simp [fldsT] at h
  | k :: ks, f :: fs, l, l', h => by
    rw [fldsT] at h
    obtain ⟨m, h1, h2⟩ := Option.bind_eq_some_iff.1 h
    intro g hg
    rcases List.mem_cons.1 hg with rfl | hg
    · intro e
      subst e
      unfold fldT immT at h1
      split at h1
      · simp [isLbl] at h1
        rw [show numT [] = none from rfl] at h1
        simp at h1
      · simp [regT] at h1
    · exact flds_ne a b ks fs m l' h2 g hg
theorem stm_ne {name : Tx} {fs : List Tx} {l : Ln} (h : stmT name fs = some l) : ∀ f ∈ fs, f ≠ [] := by
  unfold stmT at h
  split at h
  · match fs with
    | [] => simp
    | _ :: _ :: _ => simp at h
    | [f] =>
      intro g hg e
      simp at hg
      subst hg; subst e
      simp only [immT, isLbl] at h
      rw [show numT [] = none from rfl] at h
      simp at h
  · split at h
    · match fs with
      | [] => simp
      | _ :: _ :: _ => simp at h
      | [f] =>
        intro g hg e
        simp at hg
        subst hg; subst e
        simp only at h
        rw [show numT [] = none from rfl] at h
        simp at h
    · split at h
      · cases h
      · split at h
        · exact flds_ne _ _ _ _ _ _ h
        · cases h
theorem st_rel (s : Tx) : Rel (stT s) (stD s) ∧ (stT s).label = [] := by
  unfold stT stD
  by_cases hs : s = []
  · rw [if_pos hs, if_pos hs]
    exact ⟨⟨rfl, rfl, rfl, fun _ => rfl, fun _ => rfl, fun _ ps at' => rfl, fun _ => by simp [dl0]⟩, rfl⟩
  · rw [if_neg hs, if_neg hs]
    generalize (cutT [32, 9] s).getD (s, []) = p
    have k := stm_all p.1 (sfT p.2)
    simp only
    cases hm : stmT p.1 (sfT p.2) with
    | none =>
      have hb : (frm p.1 (sfT p.2)).2 = false := by rw [← k.ok, hm]; rfl
      rw [hb]
      exact ⟨⟨rfl, rfl, rfl, fun h => by simp at h, fun h => by simp at h, fun h => by simp at h, fun h => by simp at h⟩, rfl⟩
    | some l =>
      have hb : (frm p.1 (sfT p.2)).2 = true := by rw [← k.ok, hm]; rfl
      rw [hb]
      obtain ⟨h1, h2⟩ := k.pl l hm
      refine ⟨⟨h2, h1, rfl, fun _ => k.wd l hm, fun _ => ?_, fun _ => k.wr l hm, fun _ => stm_ne hm⟩, h1⟩
      rw [Option.getD_some, k.nm l hm]
      rfl
theorem st_lab (s : Tx) : (stD s).label = [] := by rw [← (st_rel s).1.label]; exact (st_rel s).2
theorem line_rel (s : Tx) : Rel (lineT s) (lineD s) := by
  unfold lineT lineD
  simp only
  generalize trimT ((cutT [59] s).getD (s, [])).1 = t
  cases cutT [58] t with
  | none => exact (st_rel t).1
  | some p =>
    obtain ⟨a, b⟩ := p
    simp only
    cases ha : isLbl a with
    | true =>
      have k := (st_rel (trimT b)).1
      exact ⟨k.bad, rfl, by simp [lbl_ne ha], k.words, k.name, k.wr, k.ne⟩
    | false => exact ⟨rfl, rfl, rfl, fun h => by simp at h, fun h => by simp at h, fun h => by simp at h, fun h => by simp at h⟩
/-- the first line with a label, in the labels' map -/
theorem lbs_at (ls : List Ln) {a : Tx} (ha : a ≠ []) : ∀ k, k ≤ ls.length → atK KS (lbs ls k) a = ((ls.take k).findIdx? fun l => l.label == a).map fun j => (j, ahd ls j)
  | 0, _ => by simp [lbs, atK]
  | k + 1, h => by
    have ih := lbs_at ls ha k (by omega)
    have hlen : (ls.take k).length = k := by simp; omega
    rw [lbs, List.getElem?_eq_getElem h, List.take_succ_eq_append_getElem h, List.findIdx?_append]
    simp only
    have hap : ∀ x : Tx × (Nat × Int), atK KS (lbs ls k ++ [x]) a = (atK KS (lbs ls k) a).or (if (a == x.1) = true then some x.2 else none) := by
      intro x
      unfold atK
      rw [List.find?_append]
      cases List.find? (fun p => KS.eqb a p.1) (lbs ls k) with
      | some z => rfl
      | none =>
        show ((List.find? (fun p => KS.eqb a p.1) [x])).map Prod.snd = _
        show (match (a == x.1) with | true => some x | false => List.find? (fun p => KS.eqb a p.1) []).map Prod.snd = _
        cases (a == x.1) <;> rfl
    cases hf : (ls.take k).findIdx? (fun l => l.label == a) with
    | some j =>
      rw [hf] at ih
      split
      · rw [hap, ih]; rfl
      · rw [ih]; rfl
    | none =>
      rw [hf] at ih
      simp only [Option.map_none] at ih
      by_cases he : ls[k].label = a
      · rw [if_pos ⟨by rw [he]; exact ha, by rw [he]; exact ih⟩, hap, ih, he]
        simp [List.findIdx?_cons, he, hlen]
      · have h1 : (a == ls[k].label) = false := beq_eq_false_iff_ne.2 (Ne.symm he)
        have h2 : (ls[k].label == a) = false := beq_eq_false_iff_ne.2 he
        have e : (List.findIdx? (fun l : Ln => l.label == a) [ls[k]]) = none := by simp [List.findIdx?_cons, h2]
        split
        · rw [hap, ih, h1, e]; rfl
        · rw [ih, e]; rfl
/-- the words ahead, as the document counts -/
def ahdD (ds : List Dl) (k : Nat) : Int := ((ds.take k).map (·.words)).sum
theorem ahdD_step {ds : List Dl} {k : Nat} (h : k < ds.length) : ahdD ds (k + 1) = ahdD ds k + ds[k].words := by
  unfold ahdD
  rw [List.take_succ_eq_append_getElem h, List.map_append, List.sum_append]
  simp
/-- the first line with a label -/
def fstD (ds : List Dl) (a : Tx) : Option Nat := ds.findIdx? fun d => d.lab && d.label == a
def adrD (ds : List Dl) (a : Tx) : Int := ((fstD ds a).map (ahdD ds)).getD (-1)
/-- does a line's last field name a label that stands nowhere -/
def misD (ds : List Dl) (d : Dl) : Bool := !(d.fields.isEmpty || (numT (lastF d.fields)).isSome || (isReg (lastF d.fields) && rgl d.name)) && (fstD ds (lastF d.fields)).isNone
def fltD (ds : List Dl) (d : Dl) (k : Nat) (ahead : Int) : Int :=
  if d.bad then 71
  else if (d.lab && (ds.take k).any fun e => e.lab && e.label == d.label) = true then 72
  else if misD ds d = true then 72
  else if 512 < ahead + d.words then 2 else 0
section
variable {ts : List Tx}
theorem rel_fst {a : Tx} (ha : a ≠ []) (ts : List Tx) : fstD (ts.map lineD) a = (ts.map lineT).findIdx? fun l => l.label == a := by
  unfold fstD
  induction ts with
  | nil => rfl
  | cons t r ih =>
    have k := line_rel t
    rw [List.map_cons, List.map_cons, List.findIdx?_cons, List.findIdx?_cons, ih]
    have : ((lineD t).lab && (lineD t).label == a) = ((lineT t).label == a) := by
      rw [k.label, k.lab]
      by_cases e : (lineD t).label = []
      · rw [e]; simp [ha]
      · simp [e]
    rw [this]
theorem rel_any {a : Tx} (ha : a ≠ []) (ts : List Tx) : (ts.map lineD).any (fun e => e.lab && e.label == a) = (ts.map lineT).any fun l => l.label == a := by
  induction ts with
  | nil => rfl
  | cons t r ih =>
    have k := line_rel t
    rw [List.map_cons, List.map_cons, List.any_cons, List.any_cons, ih]
    have : ((lineD t).lab && (lineD t).label == a) = ((lineT t).label == a) := by
      rw [k.label, k.lab]
      by_cases e : (lineD t).label = []
      · rw [e]; simp [ha]
      · simp [e]
    rw [this]
/-- the map of the labels of all lines -/
theorem at_all {a : Tx} (ha : a ≠ []) (ls : List Ln) : atK KS (lbs ls ls.length) a = (ls.findIdx? fun l => l.label == a).map fun j => (j, ahd ls j) := by
  rw [lbs_at ls ha _ (Nat.le_refl _), List.take_length]
theorem first_at (ls : List Ln) {k : Nat} (h : k < ls.length) : ∃ j, j ≤ k ∧ (ls.findIdx? fun l => l.label == ls[k].label) = some j ∧ ((ls.take k).any (fun l => l.label == ls[k].label) = true ↔ j ≠ k) := by
  have e : ls = ls.take k ++ ls[k] :: ls.drop (k + 1) := by rw [← List.drop_eq_getElem_cons h, List.take_append_drop]
  have hlen : (ls.take k).length = k := by simp; omega
  generalize hx : ls[k].label = x
  have hk : (ls.findIdx? fun l => l.label == x) = ((ls.take k).findIdx? fun l => l.label == x).or (some k) := by
    conv => lhs; rw [e]
    rw [List.findIdx?_append, List.findIdx?_cons, hx]
    simp [hlen]
  cases hf : (ls.take k).findIdx? (fun l => l.label == x) with
  | none =>
    refine ⟨k, Nat.le_refl _, by rw [hk, hf]; rfl, ?_⟩
    have := List.findIdx?_eq_none_iff.1 hf
    simp only [ne_eq, not_true_eq_false, iff_false, Bool.not_eq_true, List.any_eq_false]
    intro y hy
    simp [this y hy]
  | some j =>
    have hj := (List.findIdx?_eq_some_iff_getElem.1 hf)
    obtain ⟨h1, h2, _⟩ := hj
    refine ⟨j, by omega, by rw [hk, hf]; rfl, ⟨fun _ => by omega, fun _ => ?_⟩⟩
    rw [List.any_eq_true]
    exact ⟨_, List.getElem_mem h1, h2⟩
theorem flt_eq (ts : List Tx) {k : Nat} (h : k < ts.length) (a : Int) : fltD (ts.map lineD) (lineD ts[k]) k a = fltT (lbs (ts.map lineT) (ts.map lineT).length) (lineT ts[k]) k a := by
  have r := line_rel ts[k]
  unfold fltD fltT
  rw [r.bad]
  cases hb : (lineD ts[k]).bad with
  | true => rfl
  | false =>
    rw [r.words hb, r.name hb]
    simp only [Bool.false_eq_true, if_false]
    have c1 : ((lineD ts[k]).lab && ((ts.map lineD).take k).any fun e => e.lab && e.label == (lineD ts[k]).label) = true ↔ ((lineT ts[k]).label ≠ [] ∧ ((atK KS (lbs (ts.map lineT) (ts.map lineT).length) (lineT ts[k]).label).getD (0, 0)).1 ≠ k) := by
      rw [r.lab, ← r.label, ← List.map_take]
      by_cases hl : (lineT ts[k]).label = []
      · simp [hl]
      · rw [rel_any hl, List.map_take, at_all hl]
        have hk : k < (ts.map lineT).length := by simpa using h
        obtain ⟨j, h1, h2, h3⟩ := first_at (ts.map lineT) hk
        rw [List.getElem_map] at h2 h3
        rw [h2]
        simp only [hl, ne_eq, not_false_eq_true, decide_true, Bool.true_and, true_and, Option.map_some, Option.getD_some]
        exact h3
    have c2 : misD (ts.map lineD) (lineD ts[k]) = true ↔ (useN (lineD ts[k]) ≠ [] ∧ atK KS (lbs (ts.map lineT) (ts.map lineT).length) (useN (lineD ts[k])) = none) := by
      unfold misD useN
      cases hc : ((lineD ts[k]).fields.isEmpty || (numT (lastF (lineD ts[k]).fields)).isSome || (isReg (lastF (lineD ts[k]).fields) && rgl (lineD ts[k]).name)) with
      | true => simp
      | false =>
        have hn : lastF (lineD ts[k]).fields ≠ [] := by
          have hne := r.ne hb
          have he : (lineD ts[k]).fields ≠ [] := by
            intro e
            rw [e] at hc
            simp at hc
          unfold lastF
          rw [List.getLast?_eq_some_getLast he]
          exact hne _ (List.getLast_mem he)
        simp only [Bool.false_eq_true, if_false, Bool.not_false, Bool.true_and]
        rw [rel_fst hn, at_all hn]
        simp [hn]
    by_cases g1 : ((lineD ts[k]).lab && ((ts.map lineD).take k).any fun e => e.lab && e.label == (lineD ts[k]).label) = true
    · rw [if_pos g1, if_pos (c1.1 g1)]
    · rw [if_neg g1, if_neg (fun x => g1 (c1.2 x))]
      by_cases g2 : misD (ts.map lineD) (lineD ts[k]) = true
      · rw [if_pos g2, if_pos (c2.1 g2)]
      · rw [if_neg g2, if_neg (fun x => g2 (c2.2 x))]
end
end Go.Proofs.YtbfagiofhakjnaaDoor

namespace Go.Proofs.YtbfagiofhakjnaaDoor
open Go.RowKit
/-- the words of the first k lines -/
def wsU (ps : List (Tx × (Nat × Int))) (ls : List Ln) : Nat → List Nat
  | 0 => []
  | k + 1 => match ls[k]? with
    | none => wsU ps ls k
    | some l => wsU ps ls k ++ List.replicate l.words.toNat (wrdT ps l (wsU ps ls k).length)
theorem wsU_step {ps : List (Tx × (Nat × Int))} {ls : List Ln} {k : Nat} (h : k < ls.length) : wsU ps ls (k + 1) = wsU ps ls k ++ List.replicate ls[k].words.toNat (wrdT ps ls[k] (wsU ps ls k).length) := by
  rw [wsU, List.getElem?_eq_getElem h]
theorem wsU_len {ps : List (Tx × (Nat × Int))} {ls : List Ln} (hw : ∀ l ∈ ls, 0 ≤ l.words) : ∀ k, k ≤ ls.length → ((wsU ps ls k).length : Int) = ahd ls k
  | 0, _ => by simp [wsU, ahd]
  | k + 1, h => by
    have ih := wsU_len (ps := ps) hw k (by omega)
    have h2 := hw ls[k] (List.getElem_mem h)
    rw [wsU_step h, ahd_step h, List.length_append, List.length_replicate]
    omega
theorem asm_upto {ps : List (Tx × (Nat × Int))} {ls : List Ln} (hw : ∀ l ∈ ls, 0 ≤ l.words) : ∀ k, k ≤ ls.length → (∀ j (h : j < ls.length), j < k → fltT ps ls[j] j (ahd ls j) = 0) → asmL ps ls 0 [] = asmL ps (ls.drop k) k (wsU ps ls k)
  | 0, _, _ => rfl
  | k + 1, h, hf => by
    rw [asm_upto hw k (by omega) (fun j h h2 => hf j h (by omega)), asm_step (show k < ls.length from h), wsU_len hw k (by omega), if_pos (hf k h (by omega)), wsU_step h]
    rw [wsU_len hw k (by omega)]
theorem asm_fault {ps : List (Tx × (Nat × Int))} {ls : List Ln} (hw : ∀ l ∈ ls, 0 ≤ l.words) {k : Nat} (hk : k < ls.length) (hf : ∀ j (h : j < ls.length), j < k → fltT ps ls[j] j (ahd ls j) = 0) (h : fltT ps ls[k] k (ahd ls k) ≠ 0) : asmL ps ls 0 [] = ([], k + 1, fltT ps ls[k] k (ahd ls k)) := by
  rw [asm_upto hw k (by omega) hf, asm_step hk, wsU_len hw k (by omega), if_neg h]
theorem asm_fine {ps : List (Tx × (Nat × Int))} {ls : List Ln} (hw : ∀ l ∈ ls, 0 ≤ l.words) (hf : ∀ j (h : j < ls.length), fltT ps ls[j] j (ahd ls j) = 0) : asmL ps ls 0 [] = (wsU ps ls ls.length, 0, 0) := by
  rw [asm_upto hw _ (Nat.le_refl _) (fun j h _ => hf j h), List.drop_length]
  rfl
theorem ahd_eq (ts : List Tx) : ∀ k, k ≤ ts.length → (∀ j (h : j < ts.length), j < k → (lineD ts[j]).bad = false) → ahd (ts.map lineT) k = ahdD (ts.map lineD) k
  | 0, _, _ => rfl
  | k + 1, h, hb => by
    rw [ahd_step (by rw [List.length_map]; exact h), ahdD_step (by rw [List.length_map]; exact h), ahd_eq ts k (by omega) (fun j h h2 => hb j h (by omega)), List.getElem_map, List.getElem_map, (line_rel ts[k]).words (hb k h (by omega))]
theorem flt_fine {ds : List Dl} {d : Dl} {k : Nat} {a : Int} (h : fltD ds d k a = 0) : d.bad = false ∧ misD ds d = false ∧ a + d.words ≤ 512 := by
  unfold fltD at h
  split at h
  · simp at h
  · next h1 =>
    split at h
    · simp at h
    · split at h
      · simp at h
      · next h3 =>
        split at h
        · simp at h
        · exact ⟨by simpa using h1, by simpa using h3, by omega⟩
theorem wD_congr {f g : Tx → Int} {name : Tx} {fs : List Tx} (at' : Int) (h : ((fs.isEmpty || (numT (lastF fs)).isSome || (isReg (lastF fs) && rgl name)) = false) → f (lastF fs) = g (lastF fs)) : wD f name fs at' = wD g name fs at' := by
  cases hc : (fs.isEmpty || (numT (lastF fs)).isSome || (isReg (lastF fs) && rgl name)) with
  | false =>
    have e : nOf f fs = nOf g fs := by unfold nOf; rw [h hc]
    unfold wD
    rw [e]
  | true =>
    cases hn : fs.isEmpty with
    | true =>
      have e : nOf f fs = nOf g fs := by unfold nOf; rw [hn]; rfl
      unfold wD
      rw [e]
    | false =>
      cases hm : numT (lastF fs) with
      | some n =>
        have e : nOf f fs = nOf g fs := by unfold nOf; rw [hm]; rfl
        unfold wD
        rw [e]
      | none =>
        rw [hn, hm] at hc
        simp [rgl] at hc
        obtain ⟨_, h1, h2⟩ := hc
        unfold wD
        by_cases hw : name = [46, 119, 111, 114, 100]
        · subst hw; rw [op_word] at h1; omega
        by_cases hz : name = [46, 122, 101, 114, 111]
        · subst hz; rw [op_zero] at h1; omega
        rw [if_neg hw, if_neg hw, if_neg hz, if_neg hz, if_pos h2, if_pos h2]
/-- the word of a line of a text without a fault -/
theorem word_eq (ts : List Tx) (hb : ∀ j (h : j < ts.length), (lineD ts[j]).bad = false) {k : Nat} (hk : k < ts.length) (hm : misD (ts.map lineD) (lineD ts[k]) = false) (at' : Int) : wrdT (lbs (ts.map lineT) (ts.map lineT).length) (lineT ts[k]) at' = wD (adrD (ts.map lineD)) (lineD ts[k]).name (lineD ts[k]).fields at' := by
  have r := line_rel ts[k]
  rw [r.wr (hb k hk)]
  refine wD_congr at' fun hc => ?_
  have hn : lastF (lineD ts[k]).fields ≠ [] := by
    have hne := r.ne (hb k hk)
    have he : (lineD ts[k]).fields ≠ [] := by
      intro e
      rw [e] at hc
      simp at hc
    unfold lastF
    rw [List.getLast?_eq_some_getLast he]
    exact hne _ (List.getLast_mem he)
  unfold misD at hm
  rw [hc] at hm
  simp only [Bool.not_false, Bool.true_and, Option.isNone_eq_false_iff] at hm
  unfold adrD
  obtain ⟨j, hj⟩ := Option.isSome_iff_exists.1 hm
  rw [at_all hn, ← rel_fst hn, hj]
  have hjl : j < ts.length := by
    have := (List.findIdx?_eq_some_iff_getElem.1 hj)
    obtain ⟨h1, _⟩ := this
    simpa using h1
  simp only [Option.map_some, Option.getD_some]
  exact ahd_eq ts j (by omega) (fun i h _ => hb i h)
theorem st_frm (s : Tx) : (stD s).bad = false → (stD s).words = 0 ∨ frm (stD s).name (stD s).fields = ((stD s).words, true) := by
  unfold stD
  split
  · exact fun _ => .inl rfl
  · intro h
    simp only [Bool.not_eq_false'] at h
    exact .inr (Prod.ext rfl h)
theorem line_frm (s : Tx) : (lineD s).bad = false → (lineD s).words = 0 ∨ frm (lineD s).name (lineD s).fields = ((lineD s).words, true) := by
  unfold lineD
  generalize trimT ((cutT [59] s).getD (s, [])).1 = t
  cases cutT [58] t with
  | none => exact st_frm t
  | some p =>
    obtain ⟨a, b⟩ := p
    simp only
    cases isLbl a with
    | true => exact st_frm (trimT b)
    | false => intro h; simp at h
/-- the bounds of a line -/
theorem frm_words (name : Tx) (fs : List Tx) : 0 ≤ (frm name fs).1 ∧ (frm name fs).1 ≤ 512 := by
  unfold frm
  split
  · exact ⟨by simp, by simp⟩
  · split
    · split
      · next h =>
        simp only [Bool.and_eq_true] at h
        have h2 := h.2
        unfold fok at h2
        cases hn : numT (fs.getD 0 []) with
        | none => rw [hn] at h2; simp at h2
        | some n => rw [hn] at h2; simp at h2; simpa using h2
      · exact ⟨by simp, by simp⟩
    · split
      · exact ⟨by simp, by simp⟩
      · split
        · exact ⟨by simp, by simp⟩
        · exact ⟨by simp, by simp⟩
theorem line_words (s : Tx) : 0 ≤ (lineD s).words ∧ (lineD s).words ≤ 512 := by
  have k : ∀ t, 0 ≤ (stD t).words ∧ (stD t).words ≤ 512 := by
    intro t
    unfold stD
    split
    · exact ⟨by decide, by decide⟩
    · exact frm_words _ _
  unfold lineD
  generalize trimT ((cutT [59] s).getD (s, [])).1 = t
  cases cutT [58] t with
  | none => exact k t
  | some p =>
    obtain ⟨a, b⟩ := p
    simp only
    cases isLbl a with
    | true => exact k (trimT b)
    | false => exact (show (0 : Int) ≤ 0 ∧ (0 : Int) ≤ 512 by decide)
theorem ahdD_bound (ts : List Tx) : ∀ k, k ≤ ts.length → 0 ≤ ahdD (ts.map lineD) k ∧ ahdD (ts.map lineD) k ≤ 512 * k
  | 0, _ => by simp [ahdD]
  | k + 1, h => by
    have ih := ahdD_bound ts k (by omega)
    have h2 := line_words ts[k]
    rw [ahdD_step (by rw [List.length_map]; exact h), List.getElem_map]
    omega
end Go.Proofs.YtbfagiofhakjnaaDoor

namespace Go.Proofs.YtbfagiofhakjnaaDoor
open Go.RowKit
/-- the cells of a line: fo, c: where its fields lie -/
def dlL (d : Dl) (fo : Option Addr) (c : Nat) : List Value := [.string ⟨d.label.toArray⟩, .bool d.lab, .string ⟨d.name.toArray⟩, .slice fo d.fields.length c, .int .i64 d.words, .bool d.bad]
def DRow (W : World) (ao : Option Addr) (ds : List Dl) : Prop := ∀ k (h : k < ds.length), ∃ (a : Addr) (fo : Option Addr) (c : Nat), ao = some a ∧ (∀ j v, (dlL ds[k] fo c)[j]? = some v → W.cell? ((a.add (k * 6)).add j) = some v) ∧ SR W fo ds[k].fields
theorem fstD_none {ds : List Dl} {s : Tx} (h : ∀ j (hj : j < ds.length), (ds[j].lab && ds[j].label == s) = false) : fstD ds s = none := by
  unfold fstD
  rw [List.findIdx?_eq_none_iff]
  intro x hx
  obtain ⟨j, hj, rfl⟩ := List.getElem_of_mem hx
  exact h j hj
theorem fstD_at {ds : List Dl} {s : Tx} {k : Nat} (hk : k < ds.length) (h : ∀ j (hj : j < ds.length), j < k → (ds[j].lab && ds[j].label == s) = false) (h1 : (ds[k].lab && ds[k].label == s) = true) : fstD ds s = some k := by
  unfold fstD
  rw [List.findIdx?_eq_some_iff_getElem]
  exact ⟨hk, h1, fun j hj => by simpa using h j (by omega) hj⟩
theorem addr4 (x : Addr) : x.add 4 = ⟨x.block, x.off + 4, none⟩ := by simp [Addr.add]
section
variable (w : World)
set_option maxRecDepth 100000 in
theorem registerLast_any (name : Tx) (hNm : Nms w) : Calls Tryd.prog 38 #[.string ⟨name.toArray⟩] w fun e w' => e = .returned (.bool (rgl name)) ∧ w' = w := by
  have HOp := hide (opOf_any w name hNm)
  have HS := hide (shape_in w (opT name) (opT_lt name))
  have HG : Hid (rgl name = (decide (0 < opT name) && kd (opT name) == 0)) := hide rfl
  have h3 := kd_le (opT name)
  clear hNm
  generalize opT name = n at *
  by_cases h0 : n = 0
  · subst h0
    go_enter Tryd.func38, Tryd.ntmps38
    go_wp2_with fail
    refine HOp.out.mono ?_
    rintro e w1 ⟨rfl, rfl⟩
    go_wp2_with fail
    refine HS.out.mono ?_
    rintro e w1 ⟨rfl, rfl⟩
    go_wp2
    go_ret
    exact ⟨by rw [HG.out]; rfl, rfl⟩
  · have hp : (0 : Int) < (n : Int) := by omega
    have hq : decide (0 < n) = true := by simp; omega
    rw [hq, Bool.true_and] at HG
    rcases h3 with e3 | e3 | e3
    all_goals
      unfold kr at HS
      rw [e3] at HS HG
      simp only [if_true, if_false, Nat.reduceEqDiff] at HS
      clear e3 hq
      go_enter Tryd.func38, Tryd.ntmps38
      go_wp2_with fail
      refine HOp.out.mono ?_
      rintro e w1 ⟨rfl, rfl⟩
      go_wp2_with fail
      refine HS.out.mono ?_
      rintro e w1 ⟨rfl, rfl⟩
      go_wp2
      go_ret
      exact ⟨by rw [HG.out]; rfl, rfl⟩
set_option maxRecDepth 100000 in
theorem address_any (ds : List Dl) (ao : Option Addr) (cap : Nat) (s : Tx) (hl : ds.length ≤ 16385) (hw : ∀ k, k ≤ ds.length → 0 ≤ ahdD ds k ∧ ahdD ds k ≤ 512 * k) (hR : DRow w ao ds) : Calls Tryd.prog 24 #[.slice ao ds.length cap, .string ⟨s.toArray⟩] w fun e w' => e = .returned (.int .i64 (adrD ds s)) ∧ w' = w := by
  have HR := hide hR
  have HW := hide hw
  clear hR hw
  go_enter Tryd.func24, Tryd.ntmps24
  go_upto_region 3 with fail
  go_loopw [5, 6] (fun u v wr => ∃ k : Nat, u = .int .i64 (ahdD ds k) ∧ v = .int .i64 (k : Int) ∧ k ≤ ds.length ∧ wr = w ∧ ∀ j (hj : j < ds.length), j < k → (ds[j].lab && ds[j].label == s) = false) (fun _ v _ => ds.length - (intOf v).toNat)
  case atStart => exact ⟨0, rfl, rfl, by omega, rfl, fun j _ h => by omega⟩
  case round =>
  obtain ⟨k, rfl, rfl, hk, rfl, hno⟩ := hrel
  by_cases hlt : k < ds.length
  · obtain ⟨a, fo, c, rfl, ha, _⟩ := HR.out k hlt
    have hd : (k : Int) < (ds.length : Int) := by omega
    have HN := hide hno
    have HS := hide (ahdD_step hlt)
    have hb0 := HW.out k (by omega)
    have hb1 := HW.out (k + 1) (by omega)
    rw [HS.out] at hb1
    have HF : Hid ((ds[k].lab && ds[k].label == s) = true → adrD ds s = ahdD ds k) := hide fun h => by unfold adrD; rw [fstD_at hlt HN.out h]; rfl
    have HG : Hid ((ds[k].lab && ds[k].label == s) = false → ∀ j (hj : j < ds.length), j < k + 1 → (ds[j].lab && ds[j].label == s) = false) := hide fun h j hj h2 => by
      by_cases e : j = k
      · subst e; exact h
      · exact HN.out j hj (by omega)
    have q0 := ha 0 _ rfl
    have q1 := ha 1 _ rfl
    have q4 := ha 4 _ rfl
    clear ha hno HN
    generalize ds[k] = L at *
    generalize ahdD ds k = wd at *
    obtain ⟨label, lab, name, fields, words, bad⟩ := L
    simp only at q0 q1 q4 HF HG HS hb1
    rw [addr0] at q0
    rw [addr1] at q1
    rw [addr4] at q4
    cases lab with
    | false =>
      go_wp2
      refine ⟨⟨k + 1, by rw [HS.out], by simp, by omega, by trivial, HG.out rfl⟩, ?_⟩
      simp [intOf]
      omega
    | true =>
      by_cases he : label = s
      · subst he
        go_wp2
        go_ret
        exact ⟨by rw [HF.out (by simp)]; rfl, rfl⟩
      · have hq : (label == s) = false := by rw [beq_eq_false_iff_ne]; exact he
        go_wp2
        refine ⟨⟨k + 1, by rw [HS.out], by simp, by omega, by trivial, HG.out (by simp [hq])⟩, ?_⟩
        simp [intOf]
        omega
  · have hd : ¬ (k : Int) < (ds.length : Int) := by omega
    have HV : Hid (adrD ds s = -1) := hide (by unfold adrD; rw [fstD_none fun j hj => hno j hj (by omega)]; rfl)
    clear hno
    go_wp2
    go_ret
    exact ⟨by rw [HV.out]; rfl, rfl⟩
end
end Go.Proofs.YtbfagiofhakjnaaDoor
