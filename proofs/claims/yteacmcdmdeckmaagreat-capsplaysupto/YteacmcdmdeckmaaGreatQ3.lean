import Derived.Test.YteacmcdmdeckmaaGreatQ2
namespace Go.Proofs.YteacmcdmdeckmaaGreat
open Go.RowKit Go.Shelf
attribute [local go_sem] Oper.semAt_some

/-- the list of an environment -/
def lf (bk : List (Option Lst)) (i : Nat) : Lst := (look bk (i : Int)).getD []
/-- the places in one list of those that a test is for -/
def one (P : Rc → Bool) (bk : List (Option Lst)) (i : Nat) : List (Nat × Nat) := (fit P (prs (lf bk i) 0)).map (fun s => (i, s))
/-- the places in these lists -/
def plsI (P : Rc → Bool) (bk : List (Option Lst)) (is : List Nat) : List (Nat × Nat) := is.flatMap (one P bk)
def idx {α : Type} (m : List (Option α)) : List Nat := (prs m 0).map Prod.fst
/-- all places -/
def pls (P : Rc → Bool) (bk : List (Option Lst)) : List (Nat × Nat) := plsI P bk (idx bk)
def encP (p : Nat × Nat) : List Value := [.int .i64 (p.1 : Int), .int .i64 (p.2 : Int)]
def encPs (l : List (Nat × Nat)) : List Value := l.flatMap encP
theorem encPs_len (l : List (Nat × Nat)) : (encPs l).length = l.length * 2 := by
  induction l with
  | nil => rfl
  | cons a t ih => simp only [encPs, List.flatMap_cons, List.length_append, List.length_cons] at ih ⊢; rw [ih]; simp [encP]; omega
theorem encPs_snoc (l : List (Nat × Nat)) (p : Nat × Nat) : encPs (l ++ [p]) = encPs l ++ [.int .i64 (p.1 : Int), .int .i64 (p.2 : Int)] := by simp [encPs, encP]
theorem prsL_idx {α β : Type} : ∀ (l : List (Option α)) (l' : List (Option β)) (s : Nat), l.length = l'.length → (∀ i : Nat, (∃ x, l[i]? = some (some x)) ↔ ∃ x, l'[i]? = some (some x)) → (prsL s l).map Prod.fst = (prsL s l').map Prod.fst
  | [], [], _, _, _ => rfl
  | [], _ :: _, _, h, _ => by simp at h
  | _ :: _, [], _, h, _ => by simp at h
  | a :: t, b :: t', s, h, hi => by
    have ih := prsL_idx t t' (s + 1) (by simpa using h) (fun i => by have := hi (i + 1); simpa using this)
    have h0 := hi 0
    cases a <;> cases b
    · simpa [prsL] using ih
    · simp at h0
    · simp at h0
    · simpa [prsL] using ih
theorem idx_eq {α β : Type} {l : List (Option α)} {l' : List (Option β)} (h : l.length = l'.length) (hi : ∀ i : Nat, (∃ x, l[i]? = some (some x)) ↔ ∃ x, l'[i]? = some (some x)) : idx l = idx l' := by
  unfold idx prs; simpa using prsL_idx l l' 0 h hi
theorem BookAt.idx {w : World} {F : Nat → Prop} {B T : Nat} {G : Nat → Prop} {m : List (Option Nat)} {fs : Nat → Nat → Prop} {bk : List (Option Lst)} (h : BookAt w F B T G m fs bk) : idx m = YteacmcdmdeckmaaGreat.idx bk := by
  refine idx_eq (by rw [h.len, h.blen]) (fun i => ⟨fun ⟨b, hb⟩ => ?_, fun ⟨l, hl⟩ => ?_⟩)
  · obtain ⟨l, h1, _⟩ := h.held i b hb; exact ⟨l, h1⟩
  · have hi : i < m.length := by rw [h.len, ← h.blen]; exact (List.getElem?_eq_some_iff.1 hl).1
    cases hm : m[i] with
    | none => have := h.free i (by rw [List.getElem?_eq_getElem hi, hm]); rw [hl] at this; cases this
    | some b => exact ⟨b, by rw [List.getElem?_eq_getElem hi, hm]⟩
theorem rows_ne {w : World} {b1 b2 : Nat} {e1 e2 : TypeId} {z1 z2 : Nat} {v1 v2 : Value} {n1 n2 : Nat} {x1 x2 : List Value} (h1 : w.ownsRow b1 e1 z1 v1 n1 x1) (h2 : w.ownsRow b2 e2 z2 v2 n2 x2) (he : e1 ≠ e2) : v1.ownBlock = none ∨ v1.ownBlock ≠ v2.ownBlock := by
  obtain ⟨_, ⟨rfl, _⟩ | ⟨g, cap, cur, rfl, _, hg, _⟩⟩ := h1
  · exact .inl rfl
  · refine .inr (fun e => ?_)
    obtain ⟨_, ⟨rfl, _⟩ | ⟨g', cap', cur', rfl, _, hg', _⟩⟩ := h2
    · cases e
    · obtain rfl : g = g' := by simpa [Value.ownBlock] using e
      rw [hg] at hg'; cases hg'; exact he rfl
theorem info28' : ∃ i, Tryz.prog.info? 48 = some i ∧ i.zero = some (.agg #[.int .i64 0, .int .i64 0]) ∧ i.size = 2 ∧ i.bytes = 16 := info_parts (by kernel_rfl)
theorem cell_two_new (w : World) (a b : Value) (t : TypeId) : ∀ (j : Nat) (u : Value), [a, b][j]? = some u → (w.alloc (.cells #[a, b] t)).cell? ((⟨w.heap.size, 0, none⟩ : Addr).add j) = some u := by
  intro j u hu
  have h : (w.alloc (.cells #[a, b] t)).heap[w.heap.size]? = some (.cells #[a, b] t (0, 0)) := heap_alloc_new _ _
  rw [add0, cell_of_row _ _ _ _ _ _ h]
  simpa using hu
theorem plsI_snoc (P : Rc → Bool) (bk : List (Option Lst)) (is : List Nat) (i : Nat) : plsI P bk (is ++ [i]) = plsI P bk is ++ one P bk i := by simp [plsI]
theorem len_flat {α β : Type} (f : α → List β) (n : Nat) : ∀ (l : List α), (∀ x ∈ l, (f x).length ≤ n) → (l.flatMap f).length ≤ l.length * n
  | [], _ => by simp
  | x :: t, h => by
    have h1 := len_flat f n t (fun y hy => h y (by simp [hy]))
    have h2 := h x (by simp)
    simp only [List.flatMap_cons, List.length_append, List.length_cons, Nat.add_mul, Nat.one_mul]; omega
theorem one_le (P : Rc → Bool) (bk : List (Option Lst)) (i : Nat) (h : ∀ l, bk[i]? = some (some l) → l.length = 48) : (one P bk i).length ≤ 48 := by
  unfold one lf
  rw [List.length_map, look_nat]
  refine Nat.le_trans (fit_le _ _) ?_
  rw [prs_len]
  refine Nat.le_trans count_le ?_
  cases hb : bk[i]? with
  | none => simp
  | some o =>
    cases o with
    | none => simp
    | some l => simp [h l hb]
theorem idx_le {α : Type} (m : List (Option α)) : (idx m).length ≤ m.length := by unfold idx; rw [List.length_map, prs_len]; exact count_le
end Go.Proofs.YteacmcdmdeckmaaGreat
