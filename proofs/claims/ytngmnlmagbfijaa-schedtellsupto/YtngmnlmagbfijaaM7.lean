import Derived.Test.YtngmnlmagbfijaaM6
namespace Go.Proofs.Ytngmnlmagbfijaa
open Go.RowKit
/-- three plans beside each other, and beside the blocks N -/
def P3N (w0 w : World) (N : Nat → Prop) (g1 g2 g3 n1 n2 n3 : Nat) (s1 s2 s3 : Pl) : Prop :=
  ∃ X1 X2 X3 : Nat → Prop, PlAt w X1 g1 n1 s1 ∧ PlAt w X2 g2 n2 s2 ∧ PlAt w X3 g3 n3 s3 ∧ (∀ b, X1 b → ¬ X2 b ∧ ¬ X3 b) ∧ (∀ b, X2 b → ¬ X3 b) ∧ (∀ b, X1 b ∨ X2 b ∨ X3 b → w0.heap.size ≤ b ∧ ¬ N b) ∧ (∀ b, N b → b < w.heap.size) ∧ Below w0.heap.size w0 w
section
variable {w0 w w' : World} {N : Nat → Prop} {g1 g2 g3 n1 n2 n3 : Nat} {s1 s2 s3 : Pl}
theorem P3N.of (h : P3 w0 w g1 g2 g3 n1 n2 n3 s1 s2 s3) : P3N w0 w (fun b => b < w0.heap.size) g1 g2 g3 n1 n2 n3 s1 s2 s3 := by
  obtain ⟨X1, X2, X3, h1, h2, h3, d1, d2, hl, hb⟩ := h
  exact ⟨X1, X2, X3, h1, h2, h3, d1, d2, fun b hb => ⟨hl b hb, by have := hl b hb; omega⟩, fun b h => Nat.lt_of_lt_of_le h hb.size, hb⟩
theorem P3N.rot (h : P3N w0 w N g1 g2 g3 n1 n2 n3 s1 s2 s3) : P3N w0 w N g2 g3 g1 n2 n3 n1 s2 s3 s1 := by
  obtain ⟨X1, X2, X3, h1, h2, h3, d1, d2, hl, hn, hb⟩ := h
  exact ⟨X2, X3, X1, h2, h3, h1, fun b hb => ⟨d2 b hb, fun h => (d1 b h).1 hb⟩, fun b hb h => (d1 b h).2 hb, fun b hb => hl b (by rcases hb with h | h | h <;> simp [h]), hn, hb⟩
theorem P3N.bel (h : P3N w0 w N g1 g2 g3 n1 n2 n3 s1 s2 s3) : Below w0.heap.size w0 w := by
  obtain ⟨X1, X2, X3, h1, h2, h3, d1, d2, hl, hn, hb⟩ := h; exact hb
theorem P3N.lt (h : P3N w0 w N g1 g2 g3 n1 n2 n3 s1 s2 s3) : ∀ b, N b → b < w.heap.size := by
  obtain ⟨X1, X2, X3, h1, h2, h3, d1, d2, hl, hn, hb⟩ := h; exact hn
theorem P3N.ok (h : P3N w0 w N g1 g2 g3 n1 n2 n3 s1 s2 s3) : Okp n1 s1 := by
  obtain ⟨X1, X2, X3, h1, h2, h3, d1, d2, hl, hn, hb⟩ := h; exact h1.ok
theorem P3N.sub {N' : Nat → Prop} (h : P3N w0 w N g1 g2 g3 n1 n2 n3 s1 s2 s3) (hs : ∀ b, N' b → N b) : P3N w0 w N' g1 g2 g3 n1 n2 n3 s1 s2 s3 := by
  obtain ⟨X1, X2, X3, h1, h2, h3, d1, d2, hl, hn, hb⟩ := h
  exact ⟨X1, X2, X3, h1, h2, h3, d1, d2, fun b hb => ⟨(hl b hb).1, fun h => (hl b hb).2 (hs b h)⟩, fun b h => hn b (hs b h), hb⟩
theorem P3N.fresh (h : P3N w0 w N g1 g2 g3 n1 n2 n3 s1 s2 s3) (hb : Below w.heap.size w w') : P3N w0 w' (fun b => N b ∨ (w.heap.size ≤ b ∧ b < w'.heap.size)) g1 g2 g3 n1 n2 n3 s1 s2 s3 := by
  obtain ⟨X1, X2, X3, h1, h2, h3, d1, d2, hl, hn, hb0⟩ := h
  have hz := hb.size
  refine ⟨X1, X2, X3, h1.below hb, h2.below hb, h3.below hb, d1, d2, fun b hx => ⟨(hl b hx).1, fun h => ?_⟩, fun b h => ?_, hb0.trans (hb.mono hb0.size)⟩
  · rcases h with h | h
    · exact (hl b hx).2 h
    · rcases hx with hx | hx | hx
      · have := h1.lt b hx; omega
      · have := h2.lt b hx; omega
      · have := h3.lt b hx; omega
  · rcases h with h | h
    · have := hn b h; omega
    · omega
theorem P3N.fst (h : P3N w0 w N g1 g2 g3 n1 n2 n3 s1 s2 s3) : ∃ X, PlAt w X g1 n1 s1 ∧ (∀ b, N b → ¬ X b ∧ b < w.heap.size) ∧ ∀ (w' : World) (X' : Nat → Prop) (n' : Nat) (s' : Pl), PlAt w' X' g1 n' s' → Ext X w X' w' → P3N w0 w' (fun b => N b ∨ (w.heap.size ≤ b ∧ ¬ X' b ∧ b < w'.heap.size)) g1 g2 g3 n' n2 n3 s' s2 s3 := by
  obtain ⟨X1, X2, X3, h1, h2, h3, d1, d2, hl, hn, hb⟩ := h
  refine ⟨X1, h1, fun b hb => ⟨fun h => (hl b (.inl h)).2 hb, hn b hb⟩, fun w' X' n' s' h' hE => ?_⟩
  have hz := hE.mod.size
  refine ⟨X', X2, X3, h', h2.keep hE.mod.size (fun b hb => hE.mod.block b (h2.lt b hb) (fun h => (d1 b h).1 hb)), h3.keep hE.mod.size (fun b hb => hE.mod.block b (h3.lt b hb) (fun h => (d1 b h).2 hb)), fun b hb => ?_, d2, fun b hb' => ?_, fun b hb' => ?_, ?_⟩
  · rcases hE.new b hb with h | h
    · exact d1 b h
    · exact ⟨fun h9 => by have := h2.lt b h9; omega, fun h9 => by have := h3.lt b h9; omega⟩
  · rcases hb' with h | h | h
    · refine ⟨?_, fun h9 => ?_⟩
      · rcases hE.new b h with h | h
        · exact (hl b (.inl h)).1
        · have := hb.size; omega
      · rcases h9 with h9 | h9
        · rcases hE.new b h with h | h
          · exact (hl b (.inl h)).2 h9
          · have := hn b h9; omega
        · exact h9.2.1 h
    · refine ⟨(hl b (.inr (.inl h))).1, fun h9 => ?_⟩
      rcases h9 with h9 | h9
      · exact (hl b (.inr (.inl h))).2 h9
      · have := h2.lt b h; omega
    · refine ⟨(hl b (.inr (.inr h))).1, fun h9 => ?_⟩
      rcases h9 with h9 | h9
      · exact (hl b (.inr (.inr h))).2 h9
      · have := h3.lt b h; omega
  · rcases hb' with h | h
    · have := hn b h; omega
    · exact h.2.2
  · exact hb.trans ⟨hE.mod.os, hE.mod.tape, hE.mod.output, hE.mod.size, fun b hb9 => hE.mod.block b (Nat.lt_of_lt_of_le hb9 hb.size) (fun h => by have := (hl b (.inl h)).1; omega)⟩
theorem P3N.set (h : P3N w0 w N g1 g2 g3 n1 n2 n3 s1 s2 s3) {B o : Nat} (hB : N B) (hB0 : w0.heap.size ≤ B) (v : Value) : P3N w0 (w.setCell ⟨B, o, none⟩ v) N g1 g2 g3 n1 n2 n3 s1 s2 s3 := by
  obtain ⟨X1, X2, X3, h1, h2, h3, d1, d2, hl, hn, hb⟩ := h
  have hm : Mod (fun b => b = B) w (w.setCell ⟨B, o, none⟩ v) := (Mod.refl (fun b => b = B) w).setCell (p := ⟨B, o, none⟩) (.inl rfl) v
  have hk : ∀ b, X1 b ∨ X2 b ∨ X3 b → b < w.heap.size → (w.setCell ⟨B, o, none⟩ v).heap[b]? = w.heap[b]? := fun b hx hlt => hm.block b hlt (fun e => (hl b hx).2 (e ▸ hB))
  exact ⟨X1, X2, X3, h1.keep hm.size (fun b hx => hk b (.inl hx) (h1.lt b hx)), h2.keep hm.size (fun b hx => hk b (.inr (.inl hx)) (h2.lt b hx)), h3.keep hm.size (fun b hx => hk b (.inr (.inr hx)) (h3.lt b hx)), d1, d2, hl, fun b hx => Nat.lt_of_lt_of_le (hn b hx) hm.size, hb.trans (hm.below (fun b e => by subst e; exact hB0) hb.size)⟩
end
/-- the row of one step -/
def opL (o : Og) (u : Value) : List Value := [.int .i64 o.k, .int .i64 o.t, .int .i64 o.n, .int .i64 o.m, u]
section
variable {w0 W : World} {N : Nat → Prop} {g1 g2 g3 n1 n2 n3 : Nat} {s1 s2 s3 : Pl}
theorem lit1 {S : Nat → Prop} {o : Og} {u : Value} (hR : Rd S W u o.R) (hS : ∀ b, S b → b < W.heap.size) : OpR (fun b => S b ∨ b = W.heap.size) (W.alloc (.cells (opL o u).toArray 40)) (.slice (some ⟨W.heap.size, 0, none⟩) 1 1) [o] := by
  refine ⟨_, 1, rfl, Nat.le_refl _, fun i o' ho => ?_⟩
  have hi : i = 0 := by have := (List.getElem?_eq_some_iff.1 ho).1; simp at this; exact this
  subst hi
  simp at ho
  subst ho
  have hc : ∀ j v, (opL o u)[j]? = some v → (W.alloc (.cells (opL o u).toArray 40)).cell? ((⟨W.heap.size, 0, none⟩ : Addr).add j) = some v := fun j v hv => by
    have := cell_row_new W (opL o u).toArray 40 j v (by simpa using hv)
    rwa [add0] at this ⊢
  exact ⟨_, u, rfl, .inr rfl, hc 0 _ rfl, hc 1 _ rfl, hc 2 _ rfl, hc 3 _ rfl, hc 4 _ rfl, (hR.keep (fun b hb => Below.heap_alloc _ _ _ (hS b hb))).mono (fun b h => .inl h)⟩
/-- the choices of one step, handed in as a list of its own -/
theorem chosenLit (W : World) (hP : P3N w0 W N g1 g2 g3 n1 n2 n3 s1 s2 s3) (o : Og) (u : Value) (hR : Rd N W u o.R) (hF : I64 o.n ∧ ∀ z ∈ o.R, I64 z) (hc : n1 + (o.R.length + 1) ≤ 2097152) (hc2 : o.R.length + 1 ≤ 1048576) :
    Calls Try.prog 10 #[.pointer (some ⟨g1, 0, none⟩), .slice (some ⟨W.heap.size, 0, none⟩) 1 1] (W.alloc (.cells (opL o u).toArray 40)) fun e w' => ∃ (r : Value) (N' : Nat → Prop), e = .returned (.tuple #[r, .bool true]) ∧ P3N w0 w' N' g1 g2 g3 (n1 + (o.R.length + 1)) n2 n3 (stepS s1 o) s2 s3 ∧ ChR (fun b => N' b ∧ W.heap.size ≤ b) w' r (oneC s1 false o) ∧ (∀ b, N b → N' b) ∧ (∀ b, N b → w'.heap[b]? = W.heap[b]?) ∧ W.heap.size ≤ w'.heap.size := by
  have hb : Below W.heap.size W (W.alloc (.cells (opL o u).toArray 40)) := (Below.refl _ _).alloc (Nat.le_refl _) _
  obtain ⟨X, h1, h2, h3⟩ := (hP.fresh hb).fst
  have hO := lit1 (W := W) (o := o) hR hP.lt
  have hz : (W.alloc (.cells (opL o u).toArray 40)).heap.size = W.heap.size + 1 := by simp
  refine (chosen_any _ g1 n1 X _ s1 h1 _ [o] hO (fun b hb => h2 b ?_) (fun q hq => by simp at hq; subst hq; exact hF) hc hc2).mono ?_
  · rcases hb with hb | hb
    · exact .inl hb
    · exact .inr (by omega)
  · rintro e w' ⟨r, X', rfl, g1, g2, g3⟩
    have g2' : OwC w' _ X' r (oneC s1 false o ++ []) := g2
    rw [List.append_nil] at g2'
    refine ⟨r, _, rfl, h3 _ _ _ _ g1 g3, g2'.chr.mono (fun b hb => ⟨.inr hb, by have := hb.1; omega⟩), fun b hb => .inl (.inl hb), fun b hb => ?_, by have := g3.mod.size; omega⟩
    have hlt := hP.lt b hb
    rw [g3.mod.block b (by omega) (h2 b (.inl hb)).1]
    exact Below.heap_alloc _ _ _ hlt
/-- what the first of three plans tells -/
theorem toldN (W : World) (hP : P3N w0 W N g1 g2 g3 n1 n2 n3 s1 s2 s3) (hn : n1 ≤ 4194304) :
    Calls Try.prog 13 #[.pointer (some ⟨g1, 0, none⟩)] W fun e w' => ∃ (v : Value) (ks : List Int) (N' : Nat → Prop), e = .returned v ∧ P3N w0 w' N' g1 g2 g3 n1 n2 n3 s1 s2 s3 ∧ ShR N' w' v (told s1 ks) ∧ (ks.Pairwise (fun a b => a < b) ∧ ∀ k, k ∈ ks ↔ (s1.wt k).isSome = true) ∧ ks.length ≤ n1 ∧ (∀ b, N b → N' b) ∧ (∀ b, N b → w'.heap[b]? = W.heap[b]?) ∧ W.heap.size ≤ w'.heap.size := by
  obtain ⟨X, h1, _, _⟩ := hP.fst
  refine (Told_any W g1 n1 X s1 h1 hn).mono ?_
  rintro e w' ⟨v, ks, rfl, ho, hpw, hks, hlen, hb⟩
  exact ⟨v, ks, _, rfl, hP.fresh hb, ho.shr.mono (fun b h => .inr h), ⟨hpw, hks⟩, hlen, fun b h => .inl h, fun b h => hb.block b (hP.lt b h), hb.size⟩
end
theorem ks_eq {k1 k2 : List Int} {f : Int → Option Int} (h1 : k1.Pairwise (fun a b => a < b) ∧ ∀ k, k ∈ k1 ↔ (f k).isSome = true) (h2 : k2.Pairwise (fun a b => a < b) ∧ ∀ k, k ∈ k2 ↔ (f k).isSome = true) : k1 = k2 := by
  have n1 : k1.Nodup := h1.1.imp (fun h => by omega)
  have n2 : k2.Nodup := h2.1.imp (fun h => by omega)
  have hp : k1.Perm k2 := (List.perm_ext_iff_of_nodup n1 n2).2 (fun a => by rw [h1.2, h2.2])
  exact List.Perm.eq_of_pairwise (le := fun a b : Int => a ≤ b) (fun a b _ _ h1 h2 => by omega) (h1.1.imp (fun h => by omega)) (h2.1.imp (fun h => by omega)) hp
theorem srt_rev (R : List Int) : srt R.reverse = srt R := srt_eq (R.reverse_perm.trans (srt_perm R).symm) (srt_le R)
def revO (o : Og) : Og := ⟨o.k, o.t, o.n, o.m, o.R.reverse⟩
theorem stepS_rev (s : Pl) (o : Og) : stepS s (revO o) = stepS s o := by
  unfold stepS revO goodS
  dsimp only
  rw [srt_rev]
theorem oneC_rev (s : Pl) (b : Bool) (o : Og) : (oneC s b (revO o)).length = (oneC s b o).length ∧ ∀ c, (oneC s b o)[0]? = some c → ∃ c', (oneC s b (revO o))[0]? = some c' ∧ c'.c = c.c := by
  unfold oneC revO
  dsimp only
  rw [srt_rev]
  split
  · exact ⟨rfl, fun c hc => by simp at hc; subst hc; exact ⟨_, rfl, rfl⟩⟩
  · exact ⟨rfl, fun c hc => by simp at hc⟩
/-- a step that is refused -/
def badO (b : Og) : Og := ⟨b.k, b.t, b.n, if b.k = 2 ∧ 1 ≤ b.n ∧ 1 ≤ b.m ∧ b.m ≤ 8 then 9 + b.m else b.m, if b.k = 3 ∧ prB b.R = true then b.R ++ [0] else b.R⟩
theorem stepS_bad (s : Pl) (b : Og) : stepS s (badO b) = s := by
  unfold stepS
  by_cases h2 : b.k = 2
  · rw [if_pos (show (badO b).k = 2 from h2)]
    have : goodS (badO b) = false := by
      unfold goodS badO
      dsimp only
      by_cases h : b.k = 2 ∧ 1 ≤ b.n ∧ 1 ≤ b.m ∧ b.m ≤ 8
      · rw [if_pos h]; simp; omega
      · rw [if_neg h]; simp; omega
    rw [this]
    rfl
  · rw [if_neg (show ¬ (badO b).k = 2 from h2)]
    by_cases h3 : b.k = 3
    · rw [if_pos (show (badO b).k = 3 from h3)]
      have : mayF (srt (badO b).R) ≠ 0 := by
        have hp : prB (badO b).R = false := by
          unfold badO
          dsimp only
          by_cases h : prB b.R = true
          · rw [if_pos ⟨h3, h⟩]; unfold prB; simp
          · rw [if_neg (fun hh => h hh.2)]; simpa using h
        rw [mayF_prB, hp]
        simp
      rw [if_neg this]
    · rw [if_neg (show ¬ (badO b).k = 3 from h3)]
end Go.Proofs.Ytngmnlmagbfijaa
