import Derived.Test.YteacmcdmdeckmaaGreatX8
import Derived.Test.YteacmcdmdeckmaaGreatU1
namespace Go.Proofs.YteacmcdmdeckmaaGreat
open Go.RowKit Go.Shelf

theorem nodup_le {α : Type} [BEq α] [LawfulBEq α] : ∀ (l m : List α), l.Nodup → (∀ x ∈ l, x ∈ m) → l.length ≤ m.length
  | [], _, _, _ => Nat.zero_le _
  | x :: l, m, hn, hs => by
    obtain ⟨h1, h2⟩ := List.nodup_cons.1 hn
    have hx : x ∈ m := hs x List.mem_cons_self
    have h3 := nodup_le l (m.erase x) h2 (fun y hy => (List.mem_erase_of_ne (by rintro rfl; exact h1 hy)).2 (hs y (List.mem_cons_of_mem _ hy)))
    rw [List.length_erase_of_mem hx] at h3
    have := List.length_pos_of_mem hx
    rw [List.length_cons]
    omega
variable {bk : List (Option Lst)} {f : Int → Int → Nat}
theorem child_at {p c : Nat × Nat} (h : c ∈ pls (chP p.1 p.2) bk) : ∃ r, atB bk (c.1 : Int) (c.2 : Int) = some r ∧ r.e = (p.1 : Int) ∧ r.t = (p.2 : Int) := by
  obtain ⟨r, h1, h2⟩ := mem_pls.1 (show (c.1, c.2) ∈ _ from h)
  simp [chP] at h2
  exact ⟨r, h1, h2.1, h2.2⟩
theorem child_lt (hf : Rk bk f) {p c : Nat × Nat} (h : c ∈ pls (chP p.1 p.2) bk) : f p.1 p.2 < f c.1 c.2 := by
  obtain ⟨r, h1, h2, h3⟩ := child_at h
  rcases hf _ _ _ h1 with ⟨e1, _⟩ | ⟨_, h4⟩
  · omega
  · rw [h2, h3] at h4; exact h4
/-- what is below is there, and its parent is the place or below it -/
theorem bel_up : ∀ (n : Nat) {p x : Nat × Nat}, x ∈ bel n bk p → ∃ (r : Rc) (q : Nat × Nat), atB bk (x.1 : Int) (x.2 : Int) = some r ∧ r.e = (q.1 : Int) ∧ r.t = (q.2 : Int) ∧ (q = p ∨ q ∈ bel n bk p)
  | 0, _, _, h => by cases h
  | n + 1, p, x, h => by
    obtain ⟨c, hc, hx⟩ := List.mem_flatMap.1 h
    rcases List.mem_cons.1 hx with rfl | hx
    · obtain ⟨r, h1, h2, h3⟩ := child_at hc
      exact ⟨r, p, h1, h2, h3, .inl rfl⟩
    · obtain ⟨r, q, h1, h2, h3, h4⟩ := bel_up n hx
      refine ⟨r, q, h1, h2, h3, .inr (List.mem_flatMap.2 ⟨c, hc, ?_⟩)⟩
      rcases h4 with rfl | h4
      · exact List.mem_cons_self
      · exact List.mem_cons_of_mem _ h4
theorem bel_lt (hf : Rk bk f) : ∀ (n : Nat) {p x : Nat × Nat}, x ∈ bel n bk p → f p.1 p.2 < f x.1 x.2
  | 0, _, _, h => by cases h
  | n + 1, p, x, h => by
    obtain ⟨c, hc, hx⟩ := List.mem_flatMap.1 h
    have h1 := child_lt hf hc
    rcases List.mem_cons.1 hx with rfl | hx
    · exact h1
    · have := bel_lt hf n hx; omega
/-- two children of one place have nothing below them in common -/
theorem bel_apart (hf : Rk bk f) (n : Nat) {p c d : Nat × Nat} (hc : c ∈ pls (chP p.1 p.2) bk) (hd : d ∈ pls (chP p.1 p.2) bk) (hne : c ≠ d) : ∀ (k : Nat) (x : Nat × Nat), f x.1 x.2 = k → x ∈ c :: bel n bk c → x ∈ d :: bel n bk d → False := by
  intro k
  induction k using Nat.strongRecOn with
  | _ k ih =>
    intro x hk h1 h2
    have up : ∀ {a b : Nat × Nat}, b ∈ pls (chP p.1 p.2) bk → a ∈ pls (chP p.1 p.2) bk → a ∈ bel n bk b → False := by
      intro a b hb ha h
      obtain ⟨r, q, e1, e2, e3, e4⟩ := bel_up n h
      obtain ⟨r', g1, g2, g3⟩ := child_at ha
      rw [e1] at g1; cases g1
      have eq : q = p := Prod.ext (by omega) (by omega)
      have l1 := child_lt hf hb
      rcases e4 with e4 | e4
      · rw [← eq, e4] at l1; omega
      · have := bel_lt hf n e4
        rw [eq] at this; omega
    rcases List.mem_cons.1 h1 with rfl | h1
    · rcases List.mem_cons.1 h2 with rfl | h2
      · exact hne rfl
      · exact up hd hc h2
    · rcases List.mem_cons.1 h2 with rfl | h2
      · exact up hc hd h1
      · obtain ⟨r, q, e1, e2, e3, e4⟩ := bel_up n h1
        obtain ⟨r', q', g1, g2, g3, g4⟩ := bel_up n h2
        rw [e1] at g1; cases g1
        have eq : q' = q := Prod.ext (by omega) (by omega)
        subst eq
        have hl : f q'.1 q'.2 < k := by
          rcases hf _ _ _ e1 with ⟨z1, _⟩ | ⟨_, z⟩
          · omega
          · rw [e2, e3] at z; omega
        exact ih _ hl q' rfl (List.mem_cons.2 e4) (List.mem_cons.2 g4)
theorem bel_nodup (hf : Rk bk f) : ∀ (n : Nat) (p : Nat × Nat), (bel n bk p).Nodup
  | 0, _ => List.nodup_nil
  | n + 1, p => by
    show List.Pairwise _ (List.flatMap _ _)
    rw [List.pairwise_flatMap]
    refine ⟨fun c hc => ?_, ?_⟩
    · exact List.nodup_cons.2 ⟨fun h => by have := bel_lt hf n h; omega, bel_nodup hf n c⟩
    · refine List.Pairwise.imp_of_mem (fun {c d} hc hd hne x hx y hy e => ?_) (pls_nodup (chP p.1 p.2) bk)
      subst e
      exact bel_apart hf n hc hd hne _ x rfl hx hy
theorem bel_mem (n : Nat) {p x : Nat × Nat} (h : x ∈ bel n bk p) : ∃ r, atB bk (x.1 : Int) (x.2 : Int) = some r := by
  obtain ⟨r, _, h1, _⟩ := bel_up n h
  exact ⟨r, h1⟩
theorem bel_le {w : World} {F : Nat → Prop} {B : Nat} (h : Book w F B bk) (hf : Rk bk f) (n : Nat) (p : Nat × Nat) : (bel n bk p).length ≤ 768 := by
  refine Nat.le_trans (nodup_le _ (pls (fun _ => true) bk) (bel_nodup hf n p) (fun x hx => ?_)) (pls_le h _)
  obtain ⟨r, hr⟩ := bel_mem n hx
  exact mem_pls.2 ⟨r, hr, rfl⟩
/-- the greatest number -/
theorem rk_top (bk : List (Option Lst)) (f : Int → Int → Nat) : ∃ M, ∀ p ∈ pls (fun _ => true) bk, f p.1 p.2 ≤ M := by
  generalize pls (fun _ => true) bk = l
  induction l with
  | nil => exact ⟨0, fun p hp => by cases hp⟩
  | cons q l ih =>
    obtain ⟨M, hM⟩ := ih
    refine ⟨max M (f q.1 q.2), fun p hp => ?_⟩
    rcases List.mem_cons.1 hp with rfl | hp
    · omega
    · have := hM p hp; omega
theorem dep_of (hf : Rk bk f) {M : Nat} (hM : ∀ p ∈ pls (fun _ => true) bk, f p.1 p.2 ≤ M) : ∀ (n : Nat) (p : Nat × Nat), M - f p.1 p.2 < n → Dep n bk p
  | 0, _, h => by omega
  | n + 1, p, h => fun c hc => by
    have h1 := child_lt hf hc
    obtain ⟨r, h2, _⟩ := child_at hc
    have h3 := hM c (mem_pls.2 ⟨r, h2, rfl⟩)
    exact dep_of hf hM n c (by omega)
end Go.Proofs.YteacmcdmdeckmaaGreat
