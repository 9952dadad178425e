import Derived.Test.YtimfgjndgfjjgaaXF
import Derived.Test.YtimfgjndgfjjgaaV1
namespace Go.Proofs.Ytimfgjndgfjjgaa
open Go.RowKit Go.Shelf

theorem Snd.congr {bk bk' : List (Option Lst)} {f : Int → Int → Nat} (h : Snd bk f) (hv : ∀ a b : Nat, atB bk' (a : Int) (b : Int) = atB bk (a : Int) (b : Int)) : Snd bk' f := by
  intro e s r hr
  obtain ⟨a, b, _, rfl, rfl, _, _, _⟩ := atB_some hr
  rw [hv] at hr
  obtain ⟨h1, h2 | ⟨p, h2, h3, h4⟩⟩ := h _ _ _ hr
  · exact ⟨h1, .inl h2⟩
  · obtain ⟨x, y, _, e1, e2, _, _, _⟩ := atB_some h2
    refine ⟨h1, .inr ⟨p, ?_, h3, h4⟩⟩
    rw [e1, e2] at h2 ⊢
    rw [hv]; exact h2
theorem shut_view {bk bk' : List (Option Lst)} {i : Nat} {l : Lst} (hl : bk[i]? = some (some l)) (hd : Drops (plc i (prs l 0)) bk bk') (a b : Nat) : atB (bk'.set i none) (a : Int) (b : Int) = atB bk' (a : Int) (b : Int) := by
  obtain ⟨l', hl'⟩ := shape_open hd.here.1 hl
  have hi : i < bk'.length := (List.getElem?_eq_some_iff.1 hl').1
  by_cases e : a = i
  · subst e
    have h0 : atB bk' (a : Int) (b : Int) = none := by
      cases hb : atB bk' (a : Int) (b : Int) with
      | none => rfl
      | some r =>
        have h1 := hd.here.2 a b
        rw [hb, atN_eq hl] at h1
        cases hx : l[b]? with
        | none => rw [hx] at h1; simp at h1
        | some o => cases o with
          | none => rw [hx] at h1; simp at h1
          | some q =>
            have h2 : (a, b) ∈ plc a (prs l 0) := List.mem_map.2 ⟨(b, q), prs_mem.2 hx, rfl⟩
            simp [h2] at h1
    rw [h0]
    unfold atB
    rw [look_nat, List.getElem?_set_self hi]; rfl
  · unfold atB
    rw [look_nat, look_nat, List.getElem?_set_ne (fun h => e h.symm)]
/-- a step keeps a book sound -/
theorem Step.snd {o : Opr} {bk bk' : List (Option Lst)} {f : Int → Int → Nat} (h : Snd bk f) (h48 : ∀ (i : Nat) (l : Lst), bk[i]? = some (some l) → l.length = 48) (hs : Step o bk bk') : ∃ f', Snd bk' f' := by
  cases hs using Step.ind with
  | none => exact ⟨f, h⟩
  | opn _ ho =>
    have ho' := ho
    rcases ho with ⟨k, hk, h1, rfl, rfl⟩ | ⟨_, rfl, _⟩
    · rw [hk] at ho'
      exact ⟨f, h.congr (open_view (List.getElem?_eq_some_iff.1 h1).1 (by rw [look_nat, h1]; rfl) ho').2.1⟩
    · exact ⟨f, h⟩
  | shut0 => exact ⟨f, h⟩
  | shut _ _ hl hd => exact ⟨f, (h.drops hd).congr (shut_view hl hd)⟩
  | mint _ hm =>
    rcases hm with ⟨_, _, _, rfl⟩ | ⟨_, _, _, _, rfl⟩ | ⟨i, l, l', _, hl, _, hb, hy, rfl⟩
    · exact ⟨f, h⟩
    · exact ⟨f, h⟩
    · rcases lay_view hl (h48 i l hl) hy with ⟨k, _, _, _, hf, _, _, _, hv⟩ | ⟨_, _, e, _⟩
      · exact h.lay hf hv ⟨hb.2.2.2.2.2.2.1, hb.2.2.2.2.2.2.2⟩ (.inl ⟨rfl, rfl⟩)
      · rw [e]; exact ⟨f, h⟩
  | derive _ hm =>
    rcases hm with ⟨_, _, _, rfl⟩ | ⟨_, _, _, _, rfl⟩ | ⟨_, _, _, _, _, rfl⟩ | ⟨_, _, _, _, _, _, rfl⟩ | ⟨i, l, l', r, _, hl, hr, hok, _, hrt, hy, rfl⟩
    · exact ⟨f, h⟩
    · exact ⟨f, h⟩
    · exact ⟨f, h⟩
    · exact ⟨f, h⟩
    · rcases lay_view hl (h48 i l hl) hy with ⟨k, _, _, _, hf, _, _, _, hv⟩ | ⟨_, _, e, _⟩
      · exact h.lay hf hv hrt (.inr ⟨r, hr, rfl, rfl, rfl, hok⟩)
      · rw [e]; exact ⟨f, h⟩
  | drop0 => exact ⟨f, h⟩
  | drop _ _ _ hr hd => exact ⟨f, h.drop hr hd⟩
  | revoke0 => exact ⟨f, h⟩
  | revoke _ _ _ _ hd _ hp => exact ⟨f, h.revoke hd hp⟩
  | purge => exact ⟨f, h.purge _ _⟩
end Go.Proofs.Ytimfgjndgfjjgaa
