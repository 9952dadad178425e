import Derived.Test.YtimfgjndgfjjgaaRH
namespace Go.Proofs.Ytimfgjndgfjjgaa
open Go.RowKit Go.Shelf

theorem follow_any (w : World) (F : Nat → Prop) (B : Nat) (bk : List (Option Lst)) (hB : Book w F B bk) (f : Int → Int → Nat) (hf : Rk bk f) (n0 Mb : Nat) (v : Value) (M : List (Nat × Nat)) (hs : Ms n0 w F Mb v M) (hn0 : n0 ≤ w.heap.size) (hn : M.length ≤ 1999) (o : Ov) :
    Calls Try.prog 25 #[.pointer (some ⟨Mb, 0, none⟩), .pointer (some ⟨B, 0, none⟩), .agg o.cells.toArray, .agg #[.int .i64 1, .int .i64 40]] w fun x w' => x = .returned (.tuple #[]) ∧ ∃ F' bk' v' M', Book w' F' B bk' ∧ Ms n0 w' F' Mb v' M' ∧ Fol o.o bk M bk' M' ∧ Fr w F Mb v w' F' := by
  rw [ov_val]
  by_cases k4 : o.o.q = 4
  · exact follow_derive w F B bk hB n0 Mb v M hs hn0 hn o.o o.two _ k4
  · exact follow_rest w F B bk hB f hf n0 Mb v M hs hn0 hn o.o o.two o.ia o.il o.ic k4
/-- the root, and the four lists -/
def Rt0 (bk : List (Option Lst)) : Prop := atB bk 0 0 = some ⟨1, 5, 7, 15, -1, -1⟩ ∧ (∀ x : Nat, x < 4 → (look bk (x : Int)).isSome = true)
theorem rt0_lay {bk bk' : List (Option Lst)} {r : Rc} (h : Rt0 bk) {i k : Nat} (hsh : Shape bk bk') (hf : atB bk (i : Int) (k : Int) = none) (hv : ∀ x y : Nat, atB bk' (x : Int) (y : Int) = if x = i ∧ y = k then some r else atB bk (x : Int) (y : Int)) : Rt0 bk' := by
  refine ⟨?_, fun x hx => (hsh x).trans (h.2 x hx)⟩
  have h1 := hv 0 0
  rw [show ((0 : Nat) : Int) = 0 from rfl] at h1
  rw [h1, if_neg]
  · exact h.1
  · rintro ⟨rfl, rfl⟩
    rw [show ((0 : Nat) : Int) = 0 from rfl, h.1] at hf; cases hf
theorem rt0_step {o : Opr} {bk bk' : List (Option Lst)} (h48 : ∀ (i : Nat) (l : Lst), bk[i]? = some (some l) → l.length = 48) (h : Rt0 bk) (hS : Step o bk bk') (hq : o.q = 4 ∨ o.q = 3) : Rt0 bk' := by
  cases hS with
  | none => exact h
  | opn h1 => omega
  | shut0 h1 => omega
  | shut h1 => omega
  | mint _ hm =>
    rcases hm with ⟨_, _, _, rfl⟩ | ⟨_, _, _, _, rfl⟩ | ⟨i, l, l', _, hl, _, hb, hy, rfl⟩
    · exact h
    · exact h
    · rcases lay_view hl (h48 i l hl) hy with ⟨k, _, _, _, hfr, _, _, hsh, hv⟩ | ⟨_, _, e, _⟩
      · exact rt0_lay h hsh hfr hv
      · rw [e]; exact h
  | @derive v c _ _ hm =>
    by_cases hc : c = 0
    · subst hc
      obtain ⟨i, k, p, _, _, _, _, _, _, hsh, hfr, hv⟩ := derive_lay h48 hm
      exact rt0_lay h hsh hfr hv
    · rw [derive_no h48 hm hc]; exact h
  | drop0 h1 => omega
  | drop h1 => omega
  | revoke0 h1 => omega
  | revoke h1 => omega
  | purge h1 => omega
theorem begun_rt0 {bk : List (Option Lst)} (h : Begun bk 1 5 7 15) : Rt0 bk := by
  refine ⟨?_, fun x hx => by rw [h.four]; simpa using hx⟩
  have := h.at0 0 0
  simpa using this
/-- the watched one is laid, or its slot is taken -/
theorem first_derive {bk bk' : List (Option Lst)} {f : Int → Int → Nat} {v c : Int} (h : Rt0 bk) (hs : Snd bk f) (h48 : ∀ (i : Nat) (l : Lst), bk[i]? = some (some l) → l.length = 48) (hD : DeriveR bk 0 0 1 40 15 v c bk') :
    c = 31 ∨ (v = 40 ∧ c = 0 ∧ Rt0 bk' ∧ (∃ f', Snd bk' f') ∧ atB bk' 1 40 = some ⟨1, 5, 7, 15, 0, 0⟩ ∧ ∀ q, ¬ Desc bk' (1, 40) q) := by
  have hok : okR 15 ⟨1, 5, 7, 15, -1, -1⟩ = true := by decide
  obtain ⟨l1, hl1, hlk⟩ := look_len (i := 1) (h.2 1 (by omega))
  rw [show ((1 : Nat) : Int) = 1 from rfl] at hlk
  by_cases hc : c = 0
  · subst hc
    obtain ⟨i, k, p, e1, e2, hp, hokp, r0, r1, hsh, hfr, hv⟩ := derive_lay h48 hD
    obtain rfl : i = 1 := by omega
    rw [h.1] at hp
    cases hp
    have hk : k = 40 := by
      rcases hD with ⟨h1, _⟩ | ⟨_, h1, _⟩ | ⟨_, _, h1, _⟩ | ⟨_, ⟨q, h1, h2⟩, _⟩ | ⟨i, l, l', q, hi, h3, h4, _, _, _, h6, _⟩
      · rw [hlk] at h1; cases h1
      · rw [h.1] at h1; cases h1
      · omega
      · rw [h.1] at h1; cases h1; rw [hok] at h2; cases h2
      · obtain rfl : 1 = i := by omega
        rcases lay_view h3 (h48 1 l h3) h6 with ⟨k', _, h7, _, _, _, h8, _⟩ | ⟨h7, _⟩
        · have := h8 (by omega); omega
        · omega
    subst hk
    refine .inr ⟨by omega, rfl, rt0_lay h hsh hfr hv, ?_, ?_, fun q hq => ?_⟩
    · exact (Step.derive (o := ⟨4, 0, 0, 1, 40, 15, 0, 0, 0, 0⟩) rfl hD).snd hs h48
    · have := hv 1 40
      simpa using this
    · rw [desc_lay hs hfr hv (.inr ⟨_, h.1⟩)] at hq
      have hno : ∀ q, ¬ Desc bk (1, 40) q := by
        intro q hq
        induction hq with
        | child h1 h2 h3 =>
          rcases (hs _ _ _ h1).2 with h4 | ⟨y, h4, _⟩
          · simp at h2; omega
          · rw [h2, h3] at h4
            simp only at h4
            rw [hfr] at h4; cases h4
        | step _ _ _ _ ih => exact ih
      rcases hq with hq | ⟨_, ⟨hq, _⟩ | ⟨q', hq, _⟩⟩
      · exact hno q hq
      · simp at hq
      · exact hno q' hq
  · left
    rcases hD with ⟨h1, _⟩ | ⟨_, h1, _⟩ | ⟨_, _, h1, _⟩ | ⟨_, ⟨q, h1, h2⟩, _⟩ | ⟨i, l, l', q, hi, h3, h4, _, _, _, h6, _⟩
    · rw [hlk] at h1; cases h1
    · rw [h.1] at h1; cases h1
    · omega
    · rw [h.1] at h1; cases h1; rw [hok] at h2; cases h2
    · have h48' := h48 i l h3
      rcases h6 with ⟨k, _, _, _, h7, _⟩ | ⟨_, _, h7⟩
      · exact (hc h7).elim
      · rcases h7 with ⟨h8, _⟩ | ⟨h8, h9, h10⟩ | ⟨_, _, h10⟩
        · omega
        · omega
        · exact h10
/-- its first child is laid, or there is no room -/
theorem second_derive {bk bk' : List (Option Lst)} {f : Int → Int → Nat} {v c : Int} (h : Rt0 bk) (hs : Snd bk f) (h48 : ∀ (i : Nat) (l : Lst), bk[i]? = some (some l) → l.length = 48) (hw : atB bk 1 40 = some ⟨1, 5, 7, 15, 0, 0⟩) (hno : ∀ q, ¬ Desc bk (1, 40) q) (hD : DeriveR bk 1 40 2 (-1) 7 v c bk') :
    c = 2 ∨ (c = 0 ∧ ∃ k : Nat, v = k ∧ MInv bk' [(2, k)] ∧ (look bk' 1).isSome = true ∧ ∃ r, atB bk' 1 40 = some r) := by
  have hok : okR 7 ⟨1, 5, 7, 15, 0, 0⟩ = true := by decide
  obtain ⟨l1, hl1, hlk⟩ := look_len (i := 2) (h.2 2 (by omega))
  rw [show ((2 : Nat) : Int) = 2 from rfl] at hlk
  by_cases hc : c = 0
  · subst hc
    obtain ⟨i, k, p, e1, e2, hp, hokp, r0, r1, hsh, hfr, hv⟩ := derive_lay h48 hD
    obtain rfl : i = 2 := by omega
    refine .inr ⟨rfl, k, e2, ⟨?_, by simp, fun q => ?_⟩, ?_, ?_⟩
    · exact (Step.derive (o := ⟨4, 1, 40, 2, -1, 7, 0, 0, 0, 0⟩) rfl hD).snd hs h48
    · rw [desc_lay hs hfr hv (.inr ⟨p, hp⟩)]
      constructor
      · intro hq
        simp at hq
        exact .inr ⟨hq, .inl ⟨rfl, rfl⟩⟩
      · rintro (hq | ⟨rfl, _⟩)
        · exact (hno q hq).elim
        · simp
    · exact (hsh 1).trans (h.2 1 (by omega))
    · have := hv 1 40
      rw [show ((1 : Nat) : Int) = 1 from rfl, show ((40 : Nat) : Int) = 40 from rfl, if_neg (by omega), hw] at this
      exact ⟨_, this⟩
  · left
    rcases hD with ⟨h1, _⟩ | ⟨_, h1, _⟩ | ⟨_, _, h1, _⟩ | ⟨_, ⟨q, h1, h2⟩, _⟩ | ⟨i, l, l', q, hi, h3, h4, _, _, _, h6, _⟩
    · rw [hlk] at h1; cases h1
    · rw [hw] at h1; cases h1
    · omega
    · rw [hw] at h1; cases h1; rw [hok] at h2; cases h2
    · rcases h6 with ⟨k, _, _, _, h7, _⟩ | ⟨_, _, h7⟩
      · exact (hc h7).elim
      · rcases h7 with ⟨_, _, h10⟩ | ⟨h8, _⟩ | ⟨h8, _⟩
        · exact h10
        · omega
        · omega
/-- what the lists hold behind a revoking -/
theorem hl_rmv {bk : List (Option Lst)} {ps : List (Nat × Nat)} (hb : bk.length = 16) (hn : ps.Nodup) (hex : ∀ p ∈ ps, ∃ r, atB bk (p.1 : Int) (p.2 : Int) = some r) : (hl (rmv bk ps) 16).length + ps.length = (hl bk 16).length ∧ ∀ y ∈ hl (rmv bk ps) 16, ∃ i : Nat, y.1 = i ∧ atB bk (i : Int) (y.2.1 : Int) = some y.2.2 ∧ (i, y.2.1) ∉ ps := by
  obtain ⟨_, hat⟩ := rmv_at ps bk hn hex
  have hmem : ∀ y ∈ hl (rmv bk ps) 16, ∃ i : Nat, i < 16 ∧ y.1 = i ∧ atB bk (i : Int) (y.2.1 : Int) = some y.2.2 ∧ (i, y.2.1) ∉ ps := by
    intro y hy
    obtain ⟨i, hi, e1, e2⟩ := mem_hl hy
    rw [hat] at e2
    split at e2
    · cases e2
    · rename_i h; exact ⟨i, hi, e1, e2, h⟩
  refine ⟨?_, fun y hy => by obtain ⟨i, _, h1, h2, h3⟩ := hmem y hy; exact ⟨i, h1, h2, h3⟩⟩
  have hnd : ∀ b : List (Option Lst), (hl b 16).Nodup := fun b => (List.nodup_iff_pairwise_ne.2 ((List.pairwise_map.1 (List.nodup_iff_pairwise_ne.1 (places_nodup b 16))).imp (fun h e => h (by rw [e]))))
  have hperm : List.Perm (hl (rmv bk ps) 16 ++ heldOf bk ps) (hl bk 16) := by
    refine (List.perm_ext_iff_of_nodup ?_ (hnd bk)).2 fun y => ?_
    · rw [List.nodup_append]
      refine ⟨hnd _, ?_, fun a ha b hb' e => ?_⟩
      · unfold heldOf
        refine List.Pairwise.map _ (fun a b h e => h ?_) hn
        have e1 : (a.1 : Int) = (b.1 : Int) := congrArg Prod.fst e
        have e2 : a.2 = b.2 := congrArg (fun z : Hd => z.2.1) e
        exact Prod.ext (by omega) e2
      · subst e
        obtain ⟨i, _, h1, _, h3⟩ := hmem a ha
        obtain ⟨p, hp, rfl⟩ := List.mem_map.1 hb'
        have h1' : (p.1 : Int) = (i : Int) := h1
        exact h3 (by rw [show (i, p.2) = p from Prod.ext (by show i = p.1; omega) rfl]; exact hp)
    · rw [List.mem_append]
      constructor
      · rintro (h | h)
        · obtain ⟨i, hi, h1, h2, _⟩ := hmem y h
          have := hl_mem hi h2
          rw [← h1] at this
          exact this
        · obtain ⟨p, hp, rfl⟩ := List.mem_map.1 h
          obtain ⟨r, hr⟩ := hex p hp
          obtain ⟨i, j, l, e1, e2, h3, _⟩ := atB_some hr
          have hi : p.1 < 16 := by have := (List.getElem?_eq_some_iff.1 h3).1; omega
          have := hl_mem hi hr
          rw [hr]; exact this
      · intro h
        obtain ⟨i, hi, e1, e2⟩ := mem_hl h
        by_cases hin : (i, y.2.1) ∈ ps
        · refine .inr (List.mem_map.2 ⟨_, hin, ?_⟩)
          simp only
          rw [e2]
          exact Prod.ext e1.symm rfl
        · left
          have := hl_mem (bk := rmv bk ps) hi (j := y.2.1) (r := y.2.2) (by rw [hat, if_neg hin]; exact e2)
          rw [← e1] at this
          exact this
  have := hperm.length_eq
  rw [List.length_append] at this
  simpa [heldOf] using this
theorem mlen {bk : List (Option Lst)} {M ps : List (Nat × Nat)} {n : Nat} (h : MInv bk M) (hd : Dep n bk (1, 40)) (hp : List.Perm ps (bel n bk (1, 40))) : ps.Nodup ∧ ps.length = M.length ∧ ∀ q, q ∈ ps ↔ q ∈ M := by
  obtain ⟨f, hf⟩ := h.snd
  have hn := hp.nodup_iff.2 (bel_nodup hf.rk n (1, 40))
  have hm : ∀ q, q ∈ ps ↔ q ∈ M := fun q => by
    rw [hp.mem_iff, h.mem]
    exact ⟨bel_desc n, desc_bel hd⟩
  exact ⟨hn, ((List.perm_ext_iff_of_nodup hn h.nd).2 hm).length_eq, hm⟩
end Go.Proofs.Ytimfgjndgfjjgaa
