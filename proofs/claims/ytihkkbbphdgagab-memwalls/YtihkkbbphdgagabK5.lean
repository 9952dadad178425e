import Derived.Test.YtihkkbbphdgagabK3
import Derived.Test.YtihkkbbphdgagabK4
namespace Go.Proofs.Ytihkkbbphdgagab
open Go.RowKit

/-- steps that came in -/
def IsOps (w : World) (a : Option Addr) (len : Nat) (O : Nat → Ost) : Prop :=
  ∀ k, k < len → ∃ x, a = some x ∧ ∀ (j : Nat) (v : Value), (O k).cells[j]? = some v → w.cell? ((x.add (k * 37)).add j) = some v
theorem IsOps.below {w w' : World} {a : Option Addr} {len : Nat} {O : Nat → Ost} (h : IsOps w a len O) (hb : Below w.heap.size w w') : IsOps w' a len O := by
  intro k hk
  obtain ⟨x, h1, h2⟩ := h k hk
  refine ⟨x, h1, fun j v hv => ?_⟩
  have h3 := h2 j v hv
  rw [hb.cell (World.block_lt_of_cell? w _ h3)]; exact h3
/-- frame 0 held once, frame 1 in use; the dirty bit and the mark of frame 0 -/
structure Tw (m : Nat → Fr) (d : Bool) (mk : Int) : Prop where
  h0 : (m 0).h = 1
  h1 : 0 < (m 1).h
  d : (m 0).d = d
  k : (m 0).k = mk
  b : ∀ j, (m j).h < 4611686018427387904
theorem Tw.on0 {m : Nat → Fr} {d : Bool} {mk : Int} (h : Tw m d mk) : On m 2 0 := ⟨by omega, by rw [h.h0]; omega⟩
theorem Tw.on1 {m : Nat → Fr} {d : Bool} {mk : Int} (h : Tw m d mk) : On m 2 1 := ⟨by omega, h.h1⟩
theorem off_not {m : Nat → Fr} {n k : Nat} (h : On m n k) {f : Int} (hf : f = k) : ¬ Off m n f := fun h2 => by
  have := h2 k hf h.1; have := h.2; omega
theorem Tw.step {m m' : Nat → Fr} {d : Bool} {mk : Int} {o : Ost} (h : Tw m d mk) (he : Eff 2 m o m') (n2 : o.kd ≠ 2) (n3 : o.kd ≠ 3) (n10 : ¬ (o.kd = 10 ∧ o.fa = 0)) : Tw m' (d || wrB o) mk := by
  have key : ∀ (t : Nat) (f : Fr), f.h = (m t).h → (t = 0 → f.k = (m 0).k ∧ f.d = (d || wrB o)) → (t ≠ 0 → wrB o = false) → Tw (upd m t f) (d || wrB o) mk := by
    intro t f hh h1 h2
    refine ⟨?_, ?_, ?_, ?_, ?_⟩
    · unfold upd; split
      · rename_i e; rw [hh, ← e]; exact h.h0
      · exact h.h0
    · unfold upd; split
      · rename_i e; rw [hh, ← e]; exact h.h1
      · exact h.h1
    · unfold upd; split
      · rename_i e; exact (h1 e.symm).2
      · rename_i e; rw [h2 (fun e2 => e e2.symm), Bool.or_false]; exact h.d
    · unfold upd; split
      · rename_i e; rw [(h1 e.symm).1]; exact h.k
      · exact h.k
    · intro j; unfold upd; split
      · rw [hh]; exact h.b t
      · exact h.b j
  cases he using Eff.ind with
  | taken q hk hq hz =>
    have : q = 0 ∨ q = 1 := by omega
    rcases this with rfl | rfl
    · have := h.h0; omega
    · have := h.h1; omega
  | held k hk => exact absurd hk n2
  | less k hk => exact absurd hk n3
  | gone k hk => exact absurd hk n3
  | stored k i hk hf hu hi hn =>
    refine key k _ rfl (fun e => ?_) (fun e => ?_)
    · subst e; refine ⟨rfl, ?_⟩
      rw [wr_yes (.inl ⟨hk, hf, by omega, by omega⟩), Bool.or_true]
    · exact wr_no (by unfold Wr; omega)
  | paged k hk hf hu =>
    refine key k _ rfl (fun e => ?_) (fun e => ?_)
    · subst e; refine ⟨rfl, ?_⟩
      rw [wr_yes (.inr (.inl ⟨hk, hf⟩)), Bool.or_true]
    · exact wr_no (by unfold Wr; omega)
  | copied k t hk hf hg hu ht =>
    refine key t _ rfl (fun e => ?_) (fun e => ?_)
    · subst e; refine ⟨rfl, ?_⟩
      have := hu.1
      rw [wr_yes (.inr (.inr ⟨hk, hg, by omega⟩)), Bool.or_true]
    · exact wr_no (by unfold Wr; omega)
  | cleaned k hk hf hu =>
    refine key k _ rfl (fun e => ?_) (fun e => ?_)
    · subst e; exact absurd ⟨hk, hf⟩ n10
    · exact wr_no (by unfold Wr; omega)
  | same h5 h7 h8 =>
    have : wrB o = false := by
      refine wr_no (fun hw => ?_)
      rcases hw with ⟨a, b, c, e⟩ | ⟨a, b⟩ | ⟨a, b, c⟩
      · rcases h5 a with x | x
        · exact off_not h.on0 b x
        · omega
      · exact off_not h.on0 b (h7 a)
      · rcases h8 a with x | x
        · rcases c with c | c
          · exact off_not h.on0 c x
          · exact off_not h.on1 c x
        · exact off_not h.on0 b x
    rw [this, Bool.or_false]; exact h
theorem Tw.clean {m : Nat → Fr} {d : Bool} {mk : Int} (h : Tw m d mk) (z : Int) : Tw (upd m 0 { m 0 with d := false, k := z }) false z :=
  ⟨by simp [upd, h.h0], by simp [upd, h.h1], by simp [upd], by simp [upd], fun j => by unfold upd; split; exact h.b 0; exact h.b j⟩
theorem Tw.two : Tw two true 0 := ⟨rfl, by simp [Go.Proofs.Ytihkkbbphdgagab.two, upd, Fr.new], rfl, rfl, fun j => by simp only [Go.Proofs.Ytihkkbbphdgagab.two, upd]; split; simp [Fr.new]; split; simp [Fr.new]; simp [Fr.nil]⟩
end Go.Proofs.Ytihkkbbphdgagab
