import Derived.Test.YtngmnlmagbfijaaM9
namespace Go.Proofs.Ytngmnlmagbfijaa
open Go.RowKit
/-- v is a list of lists of shares of the call's own, beside X -/
def OwT (w : World) (base : Nat) (X : Nat → Prop) (v : Value) (l : List (List Sh)) : Prop :=
  ∃ us : List Value, us.length = l.length ∧ w.ownsRow base 33 1 v l.length us ∧ (∀ b, v.ownBlock = some b → ¬ X b) ∧ ∀ (i : Nat) (u : Value) (T : List Sh), us[i]? = some u → l[i]? = some T → Os w base u T ∧ ∀ b, u.ownBlock = some b → ¬ X b
section
variable {w w' : World} {base : Nat} {X X' : Nat → Prop} {v : Value} {l : List (List Sh)}
theorem OwT.ext (h : OwT w base X v l) (hE : Ext X w X' w') : OwT w' base X' v l := by
  obtain ⟨us, h1, h2, h3, h4⟩ := h
  have hn : ∀ b, b < w.heap.size → ¬ X b → ¬ X' b := fun b hb hx h9 => by
    rcases hE.new b h9 with h | h
    · exact hx h
    · omega
  refine ⟨us, h1, ownsRow_keepB h2 (fun b hb => hE.mod.block b (World.ownsRow.lt h2 b hb).2 (h3 b hb)), fun b hb => hn b (World.ownsRow.lt h2 b hb).2 (h3 b hb), fun i u c hu hc => ?_⟩
  obtain ⟨h5, h6⟩ := h4 i u c hu hc
  exact ⟨ownsRow_keepB h5 (fun b hb => hE.mod.block b (World.ownsRow.lt h5 b hb).2 (h6 b hb)), fun b hb => hn b (World.ownsRow.lt h5 b hb).2 (h6 b hb)⟩
theorem OwT.below (h : OwT w base X v l) (hb : Below w.heap.size w w') : OwT w' base X v l := by
  obtain ⟨us, h1, h2, h3, h4⟩ := h
  refine ⟨us, h1, ownsRow_keepB h2 (fun b hb' => hb.block b (World.ownsRow.lt h2 b hb').2), h3, fun i u c hu hc => ?_⟩
  obtain ⟨h5, h6⟩ := h4 i u c hu hc
  exact ⟨ownsRow_keepB h5 (fun b hb' => hb.block b (World.ownsRow.lt h5 b hb').2), h6⟩
theorem OwT.start (w : World) (base : Nat) (X : Nat → Prop) : OwT w base X (.slice none 0 0) [] := ⟨[], rfl, ⟨rfl, .inl ⟨rfl, rfl⟩⟩, fun b hb => by simp [Value.ownBlock] at hb, fun i u c hu => by simp at hu⟩
/-- behind an append to a row of choices -/
theorem OwT.kept (h : OwT w base X v l) {b0 : Nat} {v0 : Value} {n0 : Nat} {xs0 : List Value} (h0 : w.ownsRow b0 30 3 v0 n0 xs0) (hg : w.grownBy w' v0.ownBlock) : OwT w' base X v l := by
  obtain ⟨us, h1, h2, h3, h4⟩ := h
  refine ⟨us, h1, h2.kept hg (ownsRow_apart h2 h0 (by decide)), h3, fun i u c hu hc => ?_⟩
  obtain ⟨h5, h6⟩ := h4 i u c hu hc
  exact ⟨World.ownsRow.kept h5 hg (ownsRow_apart h5 h0 (by decide)), h6⟩
theorem OwT.grow {us : List Value} {v' u : Value} {T : List Sh} (h1 : us.length = l.length) (h2 : w.ownsRow base 33 1 v l.length us) (h3 : ∀ b, v.ownBlock = some b → ¬ X b) (h4 : ∀ (i : Nat) (u : Value) (T : List Sh), us[i]? = some u → l[i]? = some T → Os w base u T ∧ ∀ b, u.ownBlock = some b → ¬ X b)
    (hu : Os w base u T) (hux : ∀ b, u.ownBlock = some b → ¬ X b) (hX : ∀ b, X b → b < w.heap.size) (hO : w'.ownsRow base 33 1 v' (l.length + 1) (us ++ [u])) (hg : w.grownBy w' v.ownBlock) (hown : v'.ownBlock = v.ownBlock ∨ v'.ownBlock = some w.heap.size) : OwT w' base X v' (l ++ [T]) := by
  have hk : ∀ {u : Value} {T : List Sh}, Os w base u T → Os w' base u T := fun h => World.ownsRow.kept h hg (ownsRow_apart h h2 (by decide))
  refine ⟨us ++ [u], by simp [h1], by simpa using hO, fun b hb => ?_, fun i x y hx hy => ?_⟩
  · rcases hown with e | e
    · exact h3 b (by rw [← e]; exact hb)
    · rw [e] at hb
      cases hb
      exact fun h => by have := hX _ h; omega
  · by_cases hi : i < us.length
    · rw [List.getElem?_append_left hi] at hx
      rw [List.getElem?_append_left (by omega)] at hy
      obtain ⟨h5, h6⟩ := h4 i x y hx hy
      exact ⟨hk h5, h6⟩
    · have hiu : i = us.length := by
        rcases Nat.lt_or_ge us.length i with h | h
        · rw [List.getElem?_eq_none (by simp; omega)] at hx; cases hx
        · omega
      subst hiu
      simp at hx
      rw [h1] at hy
      simp at hy
      subst hx
      subst hy
      exact ⟨hk hu, hux⟩
/-- the row of lists as it is read -/
theorem OwT.at (h : OwT w base X v l) {i : Nat} {T : List Sh} (hT : l[i]? = some T) : ∃ x u cap, v = .slice (some x) l.length cap ∧ l.length ≤ cap ∧ (base ≤ x.block ∧ x.block < w.heap.size) ∧ w.cell? (x.add i) = some u ∧ ShR (fun b => base ≤ b ∧ b < w.heap.size) w u T := by
  obtain ⟨us, h1, h2, h3, h4⟩ := h
  have hi : i < us.length := by rw [h1]; exact (List.getElem?_eq_some_iff.1 hT).1
  have hu : us[i]? = some us[i] := List.getElem?_eq_getElem hi
  have h2' := h2
  obtain ⟨hl, ⟨rfl, h0⟩ | ⟨g, cap, cur, rfl, hb, hg, hn, hm, hs, ht⟩⟩ := h2
  · rw [h1, h0] at hi; omega
  · exact ⟨_, us[i], cap, rfl, hn, ⟨(World.ownsRow.lt h2' g rfl).1, (World.ownsRow.lt h2' g rfl).2⟩, World.ownsRow.cells h2' rfl _ _ hu, (h4 i _ T hu hT).1.shr⟩
end
theorem OwC.kept {w w' : World} {base : Nat} {X : Nat → Prop} {v : Value} {l : List Cz} (h : OwC w base X v l) {b0 : Nat} {v0 : Value} {n0 : Nat} {xs0 : List Value} (h0 : w.ownsRow b0 33 1 v0 n0 xs0) (hg : w.grownBy w' v0.ownBlock) : OwC w' base X v l := by
  obtain ⟨us, h1, h2, h3, h4⟩ := h
  refine ⟨us, h1, h2.kept hg (ownsRow_apart h2 h0 (by decide)), h3, fun i u c hu hc => ?_⟩
  obtain ⟨h5, h6⟩ := h4 i u c hu hc
  exact ⟨World.ownsRow.kept h5 hg (ownsRow_apart h5 h0 (by decide)), h6⟩
/-- the first loop's state: a plan, the choices and what was told behind each -/
structure ShS (w0 w : World) (X : Nat → Prop) (g n : Nat) (s : Pl) (vl vt : Value) (cs : List Cz) (ts : List (List Sh)) : Prop where
  pl : PlAt w X g n s
  low : ∀ b, X b → w0.heap.size ≤ b
  bel : Below w0.heap.size w0 w
  ch : OwC w w0.heap.size X vl cs
  tl : OwT w w0.heap.size X vt ts
section
variable {w0 w w' : World} {X : Nat → Prop} {g n : Nat} {s : Pl} {vl vt : Value} {cs : List Cz} {ts : List (List Sh)}
theorem ShS.ext {X' : Nat → Prop} {n' : Nat} {s' : Pl} (h : ShS w0 w X g n s vl vt cs ts) (hp : PlAt w' X' g n' s') (hE : Ext X w X' w') : ShS w0 w' X' g n' s' vl vt cs ts := by
  refine ⟨hp, hE.low h.low h.bel.size, h.bel.trans (hE.mod.below h.low h.bel.size), h.ch.ext hE, h.tl.ext hE⟩
theorem ShS.below (h : ShS w0 w X g n s vl vt cs ts) (hb : Below w.heap.size w w') : ShS w0 w' X g n s vl vt cs ts :=
  ⟨h.pl.below hb, h.low, h.bel.trans (hb.mono h.bel.size), h.ch.below hb, h.tl.below hb⟩
theorem grown_keep {row : Option Nat} (hg : w.grownBy w' row) {k : Nat} (hk : k < w.heap.size) (hr : row ≠ some k) : w'.heap[k]? = w.heap[k]? := hg.block k hk (fun e => hr e.symm)
theorem ShS.addC (h : ShS w0 w X g n s vl vt cs ts) {us : List Value} (h1 : us.length = cs.length) (h2 : w.ownsRow w0.heap.size 30 3 vl cs.length (czs us cs)) (h3 : ∀ b, vl.ownBlock = some b → ¬ X b) (h4 : ∀ (i : Nat) (u : Value) (c : Cz), us[i]? = some u → cs[i]? = some c → Oi w w0.heap.size u c.R ∧ ∀ b, u.ownBlock = some b → ¬ X b)
    {v' u : Value} {c : Cz} (hu : Oi w w0.heap.size u c.R) (hux : ∀ b, u.ownBlock = some b → ¬ X b) (hO : w'.ownsRow w0.heap.size 30 3 v' (cs.length + 1) (czs us cs ++ [u, .int .i64 c.c, .bool c.b])) (hg : w.grownBy w' vl.ownBlock) (hown : v'.ownBlock = vl.ownBlock ∨ v'.ownBlock = some w.heap.size) : ShS w0 w' X g n s v' vt (cs ++ [c]) ts := by
  refine ⟨h.pl.keep hg.size (fun b hb => grown_keep hg (h.pl.lt b hb) (fun e => h3 b e hb)), h.low, h.bel.grown hg h.bel.size (fun j hj => (World.ownsRow.lt h2 j hj).1), OwC.grow h1 h2 h3 h4 hu hux h.pl.lt hO hg hown, h.tl.kept h2 hg⟩
theorem ShS.addT (h : ShS w0 w X g n s vl vt cs ts) {us : List Value} (h1 : us.length = ts.length) (h2 : w.ownsRow w0.heap.size 33 1 vt ts.length us) (h3 : ∀ b, vt.ownBlock = some b → ¬ X b) (h4 : ∀ (i : Nat) (u : Value) (T : List Sh), us[i]? = some u → ts[i]? = some T → Os w w0.heap.size u T ∧ ∀ b, u.ownBlock = some b → ¬ X b)
    {v' u : Value} {T : List Sh} (hu : Os w w0.heap.size u T) (hux : ∀ b, u.ownBlock = some b → ¬ X b) (hO : w'.ownsRow w0.heap.size 33 1 v' (ts.length + 1) (us ++ [u])) (hg : w.grownBy w' vt.ownBlock) (hown : v'.ownBlock = vt.ownBlock ∨ v'.ownBlock = some w.heap.size) : ShS w0 w' X g n s vl v' cs (ts ++ [T]) := by
  refine ⟨h.pl.keep hg.size (fun b hb => grown_keep hg (h.pl.lt b hb) (fun e => h3 b e hb)), h.low, h.bel.grown hg h.bel.size (fun j hj => (World.ownsRow.lt h2 j hj).1), h.ch.kept h2 hg, OwT.grow h1 h2 h3 h4 hu hux h.pl.lt hO hg hown⟩
end
end Go.Proofs.Ytngmnlmagbfijaa
