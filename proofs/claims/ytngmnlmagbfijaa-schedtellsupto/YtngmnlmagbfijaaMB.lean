import Derived.Test.YtngmnlmagbfijaaMA
namespace Go.Proofs.Ytngmnlmagbfijaa
open Go.RowKit
/-- an entry: a choice, or a mark where something was set -/
structure En where
  c : Cz
  s : Pl
  t : Pl
  ks : List Int
  n : Nat
def EnOk (e : En) : Prop := (e.c.b = true ∧ e.c.R = []) ∨ (e.c.b = false ∧ e.s.kind = 2 ∧ Okp e.n e.s ∧ mayF (srt e.c.R) = 0 ∧ (∀ z ∈ e.c.R, I64 z) ∧ e.c.R.length ≤ 1048576 ∧ e.c.c = pick e.s (srt e.c.R) ∧ e.t = nextP e.s (srt e.c.R) ∧ (∀ k, k ∈ e.ks ↔ (e.t.wt k).isSome = true) ∧ e.ks.length ≤ 4194304)
def tlE (e : En) : List Sh := if e.c.b = true then [] else told e.t e.ks
def markE (s : Pl) : En := ⟨⟨[], 0, true⟩, s, s, [], 0⟩
structure Ghost (G : List En) (s : Pl) : Prop where
  each : ∀ e ∈ G, EnOk e
  chain : ∀ (i : Nat) (a b : En), G[i]? = some a → G[i + 1]? = some b → a.c.b = false → b.c.b = false → b.s = a.t
  last : ∀ a, G.getLast? = some a → a.c.b = false → a.t = s
theorem Ghost.nil (s : Pl) : Ghost [] s := ⟨fun e he => by simp at he, fun i a b h => by simp at h, fun a h => by simp at h⟩
theorem ghost_snoc {G : List En} {s s' : Pl} (h : Ghost G s) {e : En} (he : EnOk e) (hs : e.c.b = false → e.s = s) (hl : e.c.b = false → e.t = s') : Ghost (G ++ [e]) s' := by
  refine ⟨fun x hx => ?_, fun i a b ha hb ea eb => ?_, fun a ha ea => ?_⟩
  · rcases List.mem_append.1 hx with h1 | h1
    · exact h.each x h1
    · simp at h1; subst h1; exact he
  · by_cases hi : i + 1 < G.length
    · rw [List.getElem?_append_left (by omega)] at ha
      rw [List.getElem?_append_left hi] at hb
      exact h.chain i a b ha hb ea eb
    · have hi2 : i + 1 = G.length := by
        rcases Nat.lt_or_ge G.length (i + 1) with h1 | h1
        · rw [List.getElem?_eq_none (by simp; omega)] at hb; cases hb
        · omega
      rw [hi2] at hb
      simp at hb
      subst hb
      rw [List.getElem?_append_left (by omega)] at ha
      rw [hs eb]
      exact (h.last a (by rw [List.getLast?_eq_getElem?, ← hi2]; exact ha) ea).symm
  · simp at ha
    subst ha
    exact hl ea
theorem Ghost.mark {G : List En} {s : Pl} (h : Ghost G s) (s' : Pl) : Ghost (G ++ [markE s]) s' :=
  ghost_snoc h (.inl ⟨rfl, rfl⟩) (fun e => by cases e) (fun e => by cases e)
theorem OwC.at {w : World} {base : Nat} {X : Nat → Prop} {v : Value} {l : List Cz} (h : OwC w base X v l) {i : Nat} {c : Cz} (hc : l[i]? = some c) :
    ∃ x u cap, v = .slice (some x) l.length cap ∧ l.length ≤ cap ∧ w.cell? (x.add (i * 3)) = some u ∧ w.cell? ⟨(x.add (i * 3)).block, (x.add (i * 3)).off + 1, none⟩ = some (.int .i64 c.c) ∧ w.cell? ⟨(x.add (i * 3)).block, (x.add (i * 3)).off + 2, none⟩ = some (.bool c.b) ∧ Oi w base u c.R ∧ ∀ b, u.ownBlock = some b → ¬ X b := by
  obtain ⟨us, h1, h2, h3, h4⟩ := h
  have hi : i < us.length := by rw [h1]; exact (List.getElem?_eq_some_iff.1 hc).1
  have hu : us[i]? = some us[i] := List.getElem?_eq_getElem hi
  have h2' := h2
  obtain ⟨hl, ⟨rfl, h0⟩ | ⟨g, cap, cur, rfl, hb, hg, hn, hm, hs, ht⟩⟩ := h2
  · rw [h1, h0] at hi; omega
  · obtain ⟨d0, d1, d2⟩ := czs_get us l i _ c hu hc
    have ea : ∀ j, (⟨g, 0, none⟩ : Addr).add (i * 3 + (j + 1)) = (⟨((⟨g, 0, none⟩ : Addr).add (i * 3)).block, ((⟨g, 0, none⟩ : Addr).add (i * 3)).off + (j + 1), none⟩ : Addr) := fun j => by rw [← Addr.add_add]; simp [Addr.add]
    have c1 := World.ownsRow.cells h2' rfl _ _ d1
    have c2 := World.ownsRow.cells h2' rfl _ _ d2
    rw [ea 0] at c1
    rw [ea 1] at c2
    exact ⟨_, us[i], cap, rfl, hn, World.ownsRow.cells h2' rfl _ _ d0, c1, c2, h4 i _ c hu hc⟩
section
variable {w0 w : World} {X : Nat → Prop} {g n gl : Nat} {s : Pl} {vl vt : Value} {cs : List Cz} {ts : List (List Sh)}
theorem ShS.addC1 (h : ShS w0 w X g n s vl vt cs ts) (hn : cs.length = gl) : ∃ xs, w.ownsRow w0.heap.size 30 3 vl gl xs ∧ ∀ (ob : Obj) (w' : World) (v' u : Value) (c : Cz), Oi w w0.heap.size u c.R → (∀ b, u.ownBlock = some b → ¬ X b) → w'.ownsRow w0.heap.size 30 3 v' (gl + 1) (xs ++ [u, .int .i64 c.c, .bool c.b]) → (w.alloc ob).grownBy w' vl.ownBlock → (v'.ownBlock = vl.ownBlock ∨ v'.ownBlock = some (w.alloc ob).heap.size) → ShS w0 w' X g n s v' vt (cs ++ [c]) ts := by
  subst hn
  obtain ⟨us, h1, h2, h3, h4⟩ := h.ch
  refine ⟨_, h2, fun ob w' v' u c hu hux hO hg hown => ?_⟩
  have hb : Below w.heap.size w (w.alloc ob) := (Below.refl _ _).alloc (Nat.le_refl _) _
  exact (h.below hb).addC h1 (World.ownsRow.alloc h2 _) h3 (fun i u c h5 h6 => ⟨World.ownsRow.alloc (h4 i u c h5 h6).1 _, (h4 i u c h5 h6).2⟩) (World.ownsRow.alloc hu _) hux hO hg hown
theorem ShS.addT1 (h : ShS w0 w X g n s vl vt cs ts) (hn : ts.length = gl) : ∃ xs, w.ownsRow w0.heap.size 33 1 vt gl xs ∧ ∀ (ob : Obj) (w' : World) (v' u : Value) (T : List Sh), Os w w0.heap.size u T → (∀ b, u.ownBlock = some b → ¬ X b) → w'.ownsRow w0.heap.size 33 1 v' (gl + 1) (xs ++ [u]) → (w.alloc ob).grownBy w' vt.ownBlock → (v'.ownBlock = vt.ownBlock ∨ v'.ownBlock = some (w.alloc ob).heap.size) → ShS w0 w' X g n s vl v' cs (ts ++ [T]) := by
  subst hn
  obtain ⟨us, h1, h2, h3, h4⟩ := h.tl
  refine ⟨_, h2, fun ob w' v' u c hu hux hO hg hown => ?_⟩
  have hb : Below w.heap.size w (w.alloc ob) := (Below.refl _ _).alloc (Nat.le_refl _) _
  exact (h.below hb).addT h1 (World.ownsRow.alloc h2 _) h3 (fun i u c h5 h6 => ⟨World.ownsRow.alloc (h4 i u c h5 h6).1 _, (h4 i u c h5 h6).2⟩) (World.ownsRow.alloc hu _) hux hO hg hown
end
theorem info33 : ∃ i, Try.prog.info? 33 = some i ∧ i.zero = some (.slice none 0 0) ∧ i.size = 1 ∧ i.bytes = 24 := info_parts (by kernel_rfl)
end Go.Proofs.Ytngmnlmagbfijaa
