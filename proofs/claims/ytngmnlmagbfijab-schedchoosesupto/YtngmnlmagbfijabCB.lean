import Derived.Test.YtngmnlmagbfijabCA0
namespace Go.Proofs.Ytngmnlmagbfijab
/-- a row of the document's plan -/
structure Rw where
  se : Int
  wt : Int
  ps : Int
  was : Bool
/-- what is kept of a serial -/
abbrev Kp := Int × Int × Bool
def Rw.kp (r : Rw) : Kp := (r.wt, r.ps, r.was)
/-- the rows are the map f, by serial -/
structure RelR (L : List Rw) (f : Int → Option Kp) : Prop where
  rise : L.Pairwise (fun a b => a.se < b.se)
  val : ∀ r ∈ L, f r.se = some r.kp
  all : ∀ k, (f k).isSome = true → ∃ r ∈ L, r.se = k
def oneF (f : Int → Option Kp) (k : Int) : Int → Option Kp := fun x => if x = k then some ((f x).getD (1, 0, false)) else f x
def setF (f : Int → Option Kp) (k : Int) (v : Kp) : Int → Option Kp := fun x => if x = k then some v else f x
theorem RelR.nil : RelR [] (fun _ => none) := ⟨.nil, fun r h => by simp at h, fun k h => by simp at h⟩
/-- where a serial stands, or would -/
def pos : List Rw → Int → Nat
  | [], _ => 0
  | r :: t, k => if r.se < k then pos t k + 1 else 0
theorem pos_le : ∀ (L : List Rw) (k : Int), pos L k ≤ L.length
  | [], _ => Nat.le_refl _
  | r :: t, k => by
    unfold pos
    split
    · have := pos_le t k; simp; omega
    · simp
theorem pos_before : ∀ (L : List Rw) (k : Int) (i : Nat) (r : Rw), i < pos L k → L[i]? = some r → r.se < k
  | [], _, i, r, h, _ => by simp [pos] at h
  | a :: t, k, i, r, h, hr => by
    unfold pos at h
    split at h
    · rename_i h1
      cases i with
      | zero => simp at hr; subst hr; exact h1
      | succ i => exact pos_before t k i r (by omega) (by simpa using hr)
    · omega
theorem pos_at : ∀ (L : List Rw) (k : Int) (r : Rw), L[pos L k]? = some r → k ≤ r.se
  | [], _, r, h => by simp at h
  | a :: t, k, r, h => by
    unfold pos at h
    split at h
    · exact pos_at t k r (by simpa using h)
    · rename_i h1
      simp at h; subst h; omega
theorem pos_eq (L : List Rw) (k : Int) (i : Nat) (h1 : ∀ j r, j < i → L[j]? = some r → r.se < k) (h2 : ∀ r, L[i]? = some r → k ≤ r.se) (h3 : i ≤ L.length) : i = pos L k := by
  rcases Nat.lt_trichotomy i (pos L k) with h | h | h
  · have hl := pos_le L k
    have hg : L[i]? = some L[i] := List.getElem?_eq_getElem (by omega)
    have a := pos_before L k i _ h hg
    have b := h2 _ hg
    omega
  · exact h
  · have hg : L[pos L k]? = some L[pos L k] := List.getElem?_eq_getElem (by omega)
    have a := h1 _ _ h hg
    have b := pos_at L k _ hg
    omega
def newR (k : Int) : Rw := ⟨k, 1, 0, false⟩
/-- the rows when a serial is known -/
def rowP (L : List Rw) (k : Int) : List Rw :=
  match L[pos L k]? with
  | some r => if r.se = k then L else L.take (pos L k) ++ newR k :: L.drop (pos L k)
  | none => L.take (pos L k) ++ newR k :: L.drop (pos L k)
theorem rowP_old {L : List Rw} {k : Int} {r : Rw} (h : L[pos L k]? = some r) (he : r.se = k) : rowP L k = L := by unfold rowP; rw [h]; simp [he]
theorem rowP_new {L : List Rw} {k : Int} (h : ∀ r, L[pos L k]? = some r → r.se ≠ k) : rowP L k = L.take (pos L k) ++ newR k :: L.drop (pos L k) := by
  unfold rowP
  cases hg : L[pos L k]? with
  | none => rfl
  | some r => simp [h r hg]
theorem rise_get {L : List Rw} (h : L.Pairwise (fun a b => a.se < b.se)) {i j : Nat} {a b : Rw} (hi : L[i]? = some a) (hj : L[j]? = some b) (hij : i < j) : a.se < b.se := by
  obtain ⟨h1, rfl⟩ := List.getElem?_eq_some_iff.1 hi
  obtain ⟨h2, rfl⟩ := List.getElem?_eq_some_iff.1 hj
  exact List.pairwise_iff_getElem.1 h i j h1 h2 hij
theorem rise_inj {L : List Rw} (h : L.Pairwise (fun a b => a.se < b.se)) {i j : Nat} {a b : Rw} (hi : L[i]? = some a) (hj : L[j]? = some b) (he : a.se = b.se) : i = j := by
  rcases Nat.lt_trichotomy i j with h9 | h9 | h9
  · have := rise_get h hi hj h9; omega
  · exact h9
  · have := rise_get h hj hi h9; omega
theorem oneF_same {f : Int → Option Kp} {k : Int} {v : Kp} (h : f k = some v) : oneF f k = f := by
  funext x
  unfold oneF
  by_cases hx : x = k
  · subst hx; rw [if_pos rfl, h]; rfl
  · rw [if_neg hx]
theorem RelR.row {L : List Rw} {f : Int → Option Kp} (h : RelR L f) (k : Int) : RelR (rowP L k) (oneF f k) ∧ ∃ r, (rowP L k)[pos L k]? = some r ∧ r.se = k := by
  by_cases he : ∃ r, L[pos L k]? = some r ∧ r.se = k
  · obtain ⟨r, hr, hk⟩ := he
    have hv := h.val r (List.mem_of_getElem? hr)
    rw [hk] at hv
    rw [rowP_old hr hk, oneF_same hv]
    exact ⟨h, r, hr, hk⟩
  · have hn : ∀ r, L[pos L k]? = some r → r.se ≠ k := fun r hr hk => he ⟨r, hr, hk⟩
    have hl := pos_le L k
    have hb : ∀ r ∈ L.take (pos L k), r.se < k := fun r hr => by
      obtain ⟨i, hi, rfl⟩ := List.getElem_of_mem hr
      rw [List.length_take] at hi
      exact pos_before L k i _ (by omega) (by rw [List.getElem_take]; exact List.getElem?_eq_getElem _)
    have ha : ∀ r ∈ L.drop (pos L k), k < r.se := fun r hr => by
      obtain ⟨i, hi, rfl⟩ := List.getElem_of_mem hr
      rw [List.length_drop] at hi
      have hg : L[pos L k]? = some (L[pos L k]'(by omega)) := List.getElem?_eq_getElem _
      have h1 := pos_at L k _ hg
      have h2 := hn _ hg
      rw [List.getElem_drop]
      by_cases hi0 : i = 0
      · subst hi0; simp only [Nat.add_zero]; omega
      · have := rise_get h.rise hg (List.getElem?_eq_getElem (i := pos L k + i) (by omega)) (by omega); omega
    have hf : f k = none := by
      cases hf : f k with
      | none => rfl
      | some v =>
        obtain ⟨r, hr, hrk⟩ := h.all k (by rw [hf]; rfl)
        rw [← List.take_append_drop (pos L k) L, List.mem_append] at hr
        rcases hr with hr | hr
        · have := hb r hr; omega
        · have := ha r hr; omega
    rw [rowP_new hn]
    refine ⟨⟨?_, fun r hr => ?_, fun x hx => ?_⟩, newR k, ?_, rfl⟩
    · rw [List.pairwise_append]
      refine ⟨h.rise.sublist (List.take_sublist _ _), ?_, fun a ha' b hb' => ?_⟩
      · rw [List.pairwise_cons]
        exact ⟨fun b hb' => ha b hb', h.rise.sublist (List.drop_sublist _ _)⟩
      · have h1 := hb a ha'
        rw [List.mem_cons] at hb'
        rcases hb' with rfl | hb'
        · exact h1
        · have := ha b hb'; omega
    · rw [List.mem_append, List.mem_cons] at hr
      unfold oneF
      rcases hr with hr | rfl | hr
      · have := hb r hr
        rw [if_neg (by omega)]
        exact h.val r (List.mem_of_mem_take hr)
      · show (if k = k then some ((f k).getD (1, 0, false)) else f k) = _
        rw [if_pos rfl, hf]; rfl
      · have := ha r hr
        rw [if_neg (by omega)]
        exact h.val r (List.mem_of_mem_drop hr)
    · unfold oneF at hx
      by_cases hxk : x = k
      · subst hxk
        exact ⟨newR x, by simp, rfl⟩
      · rw [if_neg hxk] at hx
        obtain ⟨r, hr, hrx⟩ := h.all x hx
        rw [← List.take_append_drop (pos L k) L, List.mem_append] at hr
        exact ⟨r, by rw [List.mem_append, List.mem_cons]; rcases hr with hr | hr <;> simp [hr], hrx⟩
    · rw [List.getElem?_append_right (by rw [List.length_take]; omega), List.length_take, Nat.min_eq_left hl, Nat.sub_self]; rfl
/-- a row's cells changed, its serial not -/
theorem RelR.set {L : List Rw} {f : Int → Option Kp} (h : RelR L f) {i : Nat} {r r' : Rw} (hi : L[i]? = some r) (he : r'.se = r.se) : RelR (L.set i r') (setF f r.se r'.kp) := by
  obtain ⟨hl, _⟩ := List.getElem?_eq_some_iff.1 hi
  have hg : ∀ j a, (L.set i r')[j]? = some a → (j = i ∧ a = r') ∨ (j ≠ i ∧ L[j]? = some a) := fun j a ha => by
    by_cases hj : j = i
    · subst hj
      rw [List.getElem?_set_self hl] at ha
      exact .inl ⟨rfl, (Option.some.inj ha).symm⟩
    · rw [List.getElem?_set_ne (fun e => hj e.symm)] at ha
      exact .inr ⟨hj, ha⟩
  refine ⟨?_, fun a ha => ?_, fun k hk => ?_⟩
  · rw [List.pairwise_iff_getElem]
    intro a b ha hb hab
    have e1 := hg a _ (List.getElem?_eq_getElem ha)
    have e2 := hg b _ (List.getElem?_eq_getElem hb)
    rcases e1 with ⟨h1, h2⟩ | ⟨h1, h2⟩
    · rcases e2 with ⟨h3, h4⟩ | ⟨h3, h4⟩
      · omega
      · rw [h2, he]; exact rise_get h.rise hi h4 (by omega)
    · rcases e2 with ⟨h3, h4⟩ | ⟨h3, h4⟩
      · rw [h4, he]; exact rise_get h.rise h2 hi (by omega)
      · exact rise_get h.rise h2 h4 hab
  · obtain ⟨j, hj, rfl⟩ := List.getElem_of_mem ha
    unfold setF
    rcases hg j _ (List.getElem?_eq_getElem hj) with ⟨h1, h2⟩ | ⟨h1, h2⟩
    · rw [h2, he, if_pos rfl]
    · rw [if_neg (fun e => h1 (rise_inj h.rise h2 hi e))]
      exact h.val _ (List.mem_of_getElem? h2)
  · unfold setF at hk
    by_cases hkr : k = r.se
    · exact ⟨r', List.mem_of_getElem? (List.getElem?_set_self hl), by rw [he, hkr]⟩
    · rw [if_neg hkr] at hk
      obtain ⟨a, ha, hak⟩ := h.all k hk
      obtain ⟨j, hj, rfl⟩ := List.getElem_of_mem ha
      refine ⟨_, List.mem_of_getElem? (i := j) (a := L[j]) ?_, hak⟩
      rw [List.getElem?_set_ne (fun e => hkr (by subst e; rw [List.getElem?_eq_getElem hj] at hi; cases hi; exact hak.symm))]
      exact List.getElem?_eq_getElem hj
end Go.Proofs.Ytngmnlmagbfijab
