import Derived.Test.YtngmnlmagbfijaaTB
import Derived.Test.YtngmnlmagbfijaaM7
namespace Go.Proofs.Ytngmnlmagbfijaa
open Go.RowKit
theorem cost_succ' {l : List Og} {k : Nat} {o : Og} (h : l[k]? = some o) : cost (l.take (k + 1)) = cost (l.take k) + (o.R.length + 1) := by
  obtain ⟨h1, h2⟩ := List.getElem?_eq_some_iff.1 h
  rw [List.take_succ_eq_append_getElem h1, h2, cost_app]
  rfl
/-- what the last choice tells of a plan -/
structure Lst (s : Pl) (c : Int) (R : List Int) : Prop where
  t : s.kind = 1 → s.last = c
  r : s.kind = 3 → ∀ x, (x = c ∨ x ∉ R) → val s.ps x = 0
theorem Lst.start (k : Nat) : Lst (start k) 0 [] := ⟨fun _ => rfl, fun _ _ _ => rfl⟩
theorem Lst.set {s : Pl} {c : Int} {R : List Int} (h : Lst s c R) (n m : Int) : Lst (setP s n m) c R := by
  refine ⟨fun e => h.t e, fun e x hx => ?_⟩
  have e' : s.kind = 3 := e
  unfold setP
  dsimp only
  rw [if_neg (by omega)]
  exact h.r e' x hx
theorem Lst.next (s : Pl) (R : List Int) : Lst (nextP s (srt R)) (pick s (srt R)) R := by
  refine ⟨fun e => ?_, fun e x hx => ?_⟩
  · unfold nextP at e ⊢
    by_cases h1 : s.kind = 1
    · rw [if_pos h1]
    · rw [if_neg h1] at e
      by_cases h2 : s.kind = 2
      · rw [if_pos h2] at e; exact absurd e h1
      · rw [if_neg h2] at e; exact absurd e h1
  · unfold nextP at e ⊢
    by_cases h1 : s.kind = 1
    · rw [if_pos h1] at e; have e' : s.kind = 3 := e; omega
    · rw [if_neg h1] at e ⊢
      by_cases h2 : s.kind = 2
      · rw [if_pos h2] at e; have e' : s.kind = 3 := e; omega
      · rw [if_neg h2] at e ⊢
        have : ¬ (x ∈ srt R ∧ x ≠ pick s (srt R)) := fun h => by
          rcases hx with h9 | h9
          · exact h.2 h9
          · exact h9 (srt_mem.1 h.1)
        unfold val
        dsimp only
        rw [if_neg this]; rfl
theorem nextP_wtR (s : Pl) (R : List Int) : (nextP s (srt R)).wt = admW s R := by
  rw [← admW_srt]
  unfold nextP
  by_cases h1 : s.kind = 1
  · rw [if_pos h1]
  · rw [if_neg h1]
    by_cases h2 : s.kind = 2
    · rw [if_pos h2]
    · rw [if_neg h2]
theorem stepS_set {s : Pl} {o : Og} (h : o.k = 2) (hg : goodS o = true) : stepS s o = setP s o.n o.m := by unfold stepS; rw [if_pos h, if_pos hg]
theorem stepS_bad' {s : Pl} {o : Og} (h : o.k = 2) (hg : goodS o = false) : stepS s o = s := by unfold stepS; rw [if_pos h, if_neg (by rw [hg]; simp)]
theorem stepS_next {s : Pl} {o : Og} (h : o.k = 3) (hm : mayF (srt o.R) = 0) : stepS s o = nextP s (srt o.R) := by unfold stepS; rw [if_neg (by omega), if_pos h, if_pos hm]
theorem stepS_none {s : Pl} {o : Og} (h : ¬ o.k = 2) (h2 : ¬ (o.k = 3 ∧ mayF (srt o.R) = 0)) : stepS s o = s := by
  unfold stepS
  rw [if_neg h]
  by_cases h3 : o.k = 3
  · rw [if_pos h3, if_neg (fun h4 => h2 ⟨h3, h4⟩)]
  · rw [if_neg h3]
theorem oneC_nil' {s : Pl} {b : Bool} {o : Og} (h : ¬ (o.k = 3 ∧ mayF (srt o.R) = 0)) : oneC s b o = [] := by unfold oneC; rw [if_neg h]
theorem oneC_one {s : Pl} {b : Bool} {o : Og} (h : o.k = 3) (hm : mayF (srt o.R) = 0) : oneC s b o = [⟨o.R, pick s (srt o.R), b⟩] := by unfold oneC; rw [if_pos ⟨h, hm⟩]
section
variable {w0 : World} {Z X : Nat → Prop} {g n : Nat} {s : Pl} {vK vW : Value} {K Wt : List Int}
/-- the choices of one step, handed in as a list of its own -/
theorem chosenT (W : World) (h : TlS w0 W Z X g n s vK vW K Wt) (o : Og) (u : Value) {S : Nat → Prop} (hR : Rd S W u o.R) (hS : ∀ b, S b → b < w0.heap.size) (hF : I64 o.n ∧ ∀ z ∈ o.R, I64 z) (hc : n + (o.R.length + 1) ≤ 2097152) (hc2 : o.R.length + 1 ≤ 1048576) :
    Calls Try.prog 10 #[.pointer (some ⟨g, 0, none⟩), .slice (some ⟨W.heap.size, 0, none⟩) 1 1] (W.alloc (.cells (opL o u).toArray 40)) fun e w' => ∃ (r : Value) (Z' X' : Nat → Prop), e = .returned (.tuple #[r, .bool true]) ∧ TlS w0 w' Z' X' g (n + (o.R.length + 1)) (stepS s o) vK vW K Wt ∧ ChR (fun b => Z' b ∧ W.heap.size ≤ b) w' r (oneC s false o) ∧ (∀ b, Z b → Z' b) ∧ ∀ b, Z b → w'.heap[b]? = W.heap[b]? := by
  have hb : Below W.heap.size W (W.alloc (.cells (opL o u).toArray 40)) := (Below.refl _ _).alloc (Nat.le_refl _) _
  obtain ⟨h1, h2⟩ := h.below hb
  have hws := h.bel.size
  have hO := lit1 (W := W) (o := o) hR (fun b hb => by have := hS b hb; omega)
  have hz : (W.alloc (.cells (opL o u).toArray 40)).heap.size = W.heap.size + 1 := by simp
  refine (chosen_any _ g n X _ s h1.pl _ [o] hO (fun b hb => ?_) (fun q hq => by simp at hq; subst hq; exact hF) hc hc2).mono ?_
  · rcases hb with hb | hb
    · have := hS b hb
      exact ⟨fun hx => by have := (h.low b hx).1; omega, by omega⟩
    · exact ⟨fun hx => by have := h.pl.lt b hx; omega, by omega⟩
  · rintro e w' ⟨r, X', rfl, g1, g2, g3⟩
    have g2' : OwC w' _ X' r (oneC s false o ++ []) := g2
    rw [List.append_nil] at g2'
    obtain ⟨h3, h4⟩ := h1.ext g1 g3
    exact ⟨r, _, X', rfl, h3, g2'.chr.mono (fun b hb => ⟨.inr hb, by have := hb.1; omega⟩), fun b hb => .inl (.inl hb), fun b hb => (h4 b (.inl hb)).trans (h2 b hb)⟩
end
end Go.Proofs.Ytngmnlmagbfijaa
