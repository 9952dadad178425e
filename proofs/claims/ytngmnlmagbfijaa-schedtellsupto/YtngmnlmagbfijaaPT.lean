import Derived.Test.YtngmnlmagbfijaaM2
namespace Go.Proofs.Ytngmnlmagbfijaa
/-- the choices as the plan makes them: the plan ahead of each -/
structure Ch where
  s : Pl
  R : List Int
  c : Int
/-- one choice after the other, between which weights may be set -/
def Follows (a b : Ch) : Prop := ∃ l : List Og, (∀ o ∈ l, ¬ (o.k = 3 ∧ mayF (srt o.R) = 0)) ∧ b.s = runS (nextP a.s (srt a.R)) l
theorem stepS_kind (s : Pl) (o : Og) : (stepS s o).kind = s.kind := by
  unfold stepS
  split
  · split
    · rfl
    · rfl
  · split
    · split
      · exact nextP_kind _ _
      · rfl
    · rfl
theorem runS_kind : ∀ (l : List Og) (s : Pl), (runS s l).kind = s.kind
  | [], _ => rfl
  | o :: t, s => by rw [runS, runS_kind t, stepS_kind]
/-- what is the same behind steps that choose nothing -/
theorem still_last : ∀ (l : List Og) (s : Pl), (∀ o ∈ l, ¬ (o.k = 3 ∧ mayF (srt o.R) = 0)) → s.kind ≠ 2 → (runS s l).last = s.last ∧ (runS s l).ps = s.ps
  | [], _, _, _ => ⟨rfl, rfl⟩
  | o :: t, s, h, hk => by
    have h1 := h o (List.mem_cons_self ..)
    have e : (stepS s o).last = s.last ∧ (stepS s o).ps = s.ps := by
      unfold stepS
      split
      · split
        · rw [setP_eq hk]; exact ⟨rfl, rfl⟩
        · exact ⟨rfl, rfl⟩
      · split
        · split
          · exact absurd ⟨by assumption, by assumption⟩ h1
          · exact ⟨rfl, rfl⟩
        · exact ⟨rfl, rfl⟩
    have := still_last t (stepS s o) (fun x hx => h x (List.mem_cons_of_mem _ hx)) (by rw [stepS_kind]; exact hk)
    rw [runS, this.1, this.2]
    exact e
/-- a choice is one -/
def Okc (x : Ch) : Prop := srt x.R ≠ [] ∧ x.R.Nodup ∧ x.c = pick x.s (srt x.R)
/-- each follows the one ahead -/
def Chain (l : List Ch) : Prop := (∀ x ∈ l, Okc x) ∧ ∀ (i : Nat) (a b : Ch), l[i]? = some a → l[i + 1]? = some b → Follows a b
def czOf (x : Ch) (b : Bool) : Cz := ⟨x.R, x.c, b⟩
theorem chain_of : ∀ (l : List Og) (s : Pl) (b : Bool), ∃ L : List Ch, (runC s b l).map (fun c => (c.R, c.c)) = L.map (fun x => (x.R, x.c)) ∧ Chain L ∧ (∀ a, L[0]? = some a → ∃ l2 : List Og, (∀ o ∈ l2, ¬ (o.k = 3 ∧ mayF (srt o.R) = 0)) ∧ a.s = runS s l2) ∧ (∀ x ∈ L, x.s.kind = s.kind)
  | [], s, b => ⟨[], rfl, ⟨fun x h => by simp at h, fun i a b h => by simp at h⟩, fun a h => by simp at h, fun x h => by simp at h⟩
  | o :: t, s, b => by
    obtain ⟨L, h1, h2, h3, h4⟩ := chain_of t (stepS s o) (setsS b o)
    by_cases hc : o.k = 3 ∧ mayF (srt o.R) = 0
    · have hst : stepS s o = nextP s (srt o.R) := by unfold stepS; rw [if_neg (by omega), if_pos hc.1, if_pos hc.2]
      obtain ⟨g1, g2, _⟩ := mayF_ok hc.2
      refine ⟨⟨s, o.R, pick s (srt o.R)⟩ :: L, ?_, ⟨fun x hx => ?_, fun i a c ha hb => ?_⟩, fun a ha => ?_, fun x hx => ?_⟩
      · rw [runC, List.map_append, h1]
        unfold oneC
        rw [if_pos hc]
        rfl
      · rcases List.mem_cons.1 hx with rfl | hx
        · exact ⟨g1, (srt_perm _).nodup_iff.1 g2, rfl⟩
        · exact h2.1 x hx
      · cases i with
        | zero =>
          simp at ha
          subst ha
          simp only [Nat.zero_add, List.getElem?_cons_succ] at hb
          obtain ⟨l2, q1, q2⟩ := h3 c hb
          exact ⟨l2, q1, by rw [q2, hst]⟩
        | succ i =>
          simp only [List.getElem?_cons_succ] at ha hb
          exact h2.2 i a c ha hb
      · simp at ha
        subst ha
        exact ⟨[], fun o h => by simp at h, rfl⟩
      · rcases List.mem_cons.1 hx with rfl | hx
        · rfl
        · rw [h4 x hx, stepS_kind]
    · refine ⟨L, ?_, h2, fun a ha => ?_, fun x hx => by rw [h4 x hx, stepS_kind]⟩
      · rw [runC, List.map_append, h1]
        unfold oneC
        rw [if_neg hc]
        rfl
      · obtain ⟨l2, q1, q2⟩ := h3 a ha
        refine ⟨o :: l2, fun x hx => ?_, by rw [q2]; rfl⟩
        rcases List.mem_cons.1 hx with rfl | hx
        · exact hc
        · exact q1 x hx
end Go.Proofs.Ytngmnlmagbfijaa
