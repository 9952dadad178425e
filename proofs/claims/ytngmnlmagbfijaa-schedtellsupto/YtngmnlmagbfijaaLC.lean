import Derived.Test.YtngmnlmagbfijaaLB
namespace Go.Proofs.Ytngmnlmagbfijaa
open Go.RowKit
section
variable (w : World)
set_option maxHeartbeats 1000000 in
theorem plan_any (k : Nat) (hk : k = 1 ∨ k = 2 ∨ k = 3) : Calls Try.prog 9 #[.int .i64 (k : Nat)] w fun e w' => ∃ (g : Nat) (X : Nat → Prop), e = .returned (.pointer (some ⟨g, 0, none⟩)) ∧ PlAt w' X g 0 (start k) ∧ (∀ b, X b → w.heap.size ≤ b) ∧ Below w.heap.size w w' := by
  go_enter Try.func9, Try.ntmps9
  go_wp2_with fail
  refine (fixed_any _).mono ?_
  rintro e w1 ⟨rfl, hb1⟩
  have HB := hide hb1
  clear hb1
  go_wp2_with fail
  refine (New_any _ k hk).mono ?_
  rintro e w2 ⟨g, X, rfl, h1, h2, h3⟩
  have H := hide (And.intro h1 (And.intro h2 h3))
  clear h1 h2 h3
  go_wp2
  go_ret
  have hs := HB.out.size
  exact ⟨g, X, rfl, H.out.1, fun b hb => Nat.le_trans hs (H.out.2.1 b hb), HB.out.trans (H.out.2.2.mono hs)⟩
end
/-- a step of a script -/
structure Og where
  k : Int
  t : Int
  n : Int
  m : Int
  R : List Int
/-- a choice -/
structure Cz where
  R : List Int
  c : Int
  b : Bool
/-- v is a slice of steps, in blocks of S -/
def OpR (S : Nat → Prop) (w : World) (v : Value) (l : List Og) : Prop :=
  ∃ ao cap, v = .slice ao l.length cap ∧ l.length ≤ cap ∧ ∀ i o, l[i]? = some o → ∃ x u, ao = some x ∧ S x.block ∧ w.cell? (x.add (i * 5)) = some (.int .i64 o.k) ∧ w.cell? (x.add (i * 5 + 1)) = some (.int .i64 o.t) ∧ w.cell? (x.add (i * 5 + 2)) = some (.int .i64 o.n) ∧ w.cell? (x.add (i * 5 + 3)) = some (.int .i64 o.m) ∧ w.cell? (x.add (i * 5 + 4)) = some u ∧ Rd S w u o.R
/-- v is a slice of choices, in blocks of S -/
def ChR (S : Nat → Prop) (w : World) (v : Value) (l : List Cz) : Prop :=
  ∃ ao cap, v = .slice ao l.length cap ∧ l.length ≤ cap ∧ ∀ i c, l[i]? = some c → ∃ x u, ao = some x ∧ S x.block ∧ w.cell? (x.add (i * 3)) = some u ∧ w.cell? (x.add (i * 3 + 1)) = some (.int .i64 c.c) ∧ w.cell? (x.add (i * 3 + 2)) = some (.bool c.b) ∧ Rd S w u c.R
theorem cell_keep {w w' : World} {x : Addr} {i : Nat} {v : Value} (h : w.cell? (x.add i) = some v) (hb : w'.heap[x.block]? = w.heap[x.block]?) : w'.cell? (x.add i) = some v := by
  unfold World.cell? at h ⊢
  rw [blk_add] at h ⊢
  rw [hb]; exact h
section
variable {S S' : Nat → Prop} {w w' : World} {v : Value}
theorem OpR.keep {l : List Og} (h : OpR S w v l) (hb : ∀ b, S b → w'.heap[b]? = w.heap[b]?) : OpR S w' v l := by
  obtain ⟨ao, cap, h1, h2, h3⟩ := h
  refine ⟨ao, cap, h1, h2, fun i o ho => ?_⟩
  obtain ⟨x, u, e, hS, c0, c1, c2, c3, c4, c5⟩ := h3 i o ho
  have hx := hb _ hS
  exact ⟨x, u, e, hS, cell_keep c0 hx, cell_keep c1 hx, cell_keep c2 hx, cell_keep c3 hx, cell_keep c4 hx, c5.keep hb⟩
theorem ChR.keep {l : List Cz} (h : ChR S w v l) (hb : ∀ b, S b → w'.heap[b]? = w.heap[b]?) : ChR S w' v l := by
  obtain ⟨ao, cap, h1, h2, h3⟩ := h
  refine ⟨ao, cap, h1, h2, fun i o ho => ?_⟩
  obtain ⟨x, u, e, hS, c0, c1, c2, c5⟩ := h3 i o ho
  have hx := hb _ hS
  exact ⟨x, u, e, hS, cell_keep c0 hx, cell_keep c1 hx, cell_keep c2 hx, c5.keep hb⟩
theorem ChR.mono {l : List Cz} (h : ChR S w v l) (hb : ∀ b, S b → S' b) : ChR S' w v l := by
  obtain ⟨ao, cap, h1, h2, h3⟩ := h
  refine ⟨ao, cap, h1, h2, fun i o ho => ?_⟩
  obtain ⟨x, u, e, hS, c0, c1, c2, c5⟩ := h3 i o ho
  exact ⟨x, u, e, hb _ hS, c0, c1, c2, c5.mono hb⟩
theorem OpR.mono {l : List Og} (h : OpR S w v l) (hb : ∀ b, S b → S' b) : OpR S' w v l := by
  obtain ⟨ao, cap, h1, h2, h3⟩ := h
  refine ⟨ao, cap, h1, h2, fun i o ho => ?_⟩
  obtain ⟨x, u, e, hS, c0, c1, c2, c3, c4, c5⟩ := h3 i o ho
  exact ⟨x, u, e, hb _ hS, c0, c1, c2, c3, c4, c5.mono hb⟩
/-- a part of it -/
theorem OpR.sub {ao : Option Addr} {n cap : Nat} {l : List Og} (h : OpR S w (.slice ao n cap) l) {x : Addr} (hx : ao = some x) {i j c : Nat} (hij : i ≤ j) (hj : j ≤ l.length) (hc : j - i ≤ c) : OpR S w (.slice (some (x.add (i * 5))) (j - i) c) ((l.drop i).take (j - i)) := by
  obtain ⟨ao', cap', h1, h2, h3⟩ := h
  cases h1
  have hl : ((l.drop i).take (j - i)).length = j - i := by rw [List.length_take, List.length_drop]; omega
  refine ⟨_, c, by rw [hl], by rw [hl]; exact hc, fun k o ho => ?_⟩
  have ho2 : l[i + k]? = some o := by
    have hk : k < j - i := by
      rcases Nat.lt_or_ge k (j - i) with h | h
      · exact h
      · rw [List.getElem?_take_eq_none h] at ho; cases ho
    rw [List.getElem?_take_of_lt hk, List.getElem?_drop] at ho
    exact ho
  obtain ⟨x', u, e, hS, c0, c1, c2, c3, c4, c5⟩ := h3 _ o ho2
  rw [hx] at e
  cases e
  have e5 : ∀ r, (x.add (i * 5)).add (k * 5 + r) = x.add ((i + k) * 5 + r) := fun r => by rw [Addr.add_add]; congr 1; rw [Nat.add_mul]; omega
  refine ⟨_, u, rfl, by rw [blk_add]; exact hS, ?_, ?_, ?_, ?_, ?_, c5⟩
  · have := e5 0; simp only [Nat.add_zero] at this; rw [this]; exact c0
  · rw [e5]; exact c1
  · rw [e5]; exact c2
  · rw [e5]; exact c3
  · rw [e5]; exact c4
/-- a tail of it -/
theorem ChR.tail {ao : Option Addr} {n cap : Nat} {l : List Cz} (h : ChR S w (.slice ao n cap) l) {x : Addr} (hx : ao = some x) {i c : Nat} (hc : l.length - i ≤ c) : ChR S w (.slice (some (x.add (i * 3))) (l.length - i) c) (l.drop i) := by
  obtain ⟨ao', cap', h1, h2, h3⟩ := h
  cases h1
  refine ⟨_, c, by rw [List.length_drop], by rw [List.length_drop]; exact hc, fun k o ho => ?_⟩
  rw [List.getElem?_drop] at ho
  obtain ⟨x', u, e, hS, c0, c1, c2, c5⟩ := h3 _ o ho
  rw [hx] at e
  cases e
  have e3 : ∀ r, (x.add (i * 3)).add (k * 3 + r) = x.add ((i + k) * 3 + r) := fun r => by rw [Addr.add_add]; congr 1; rw [Nat.add_mul]; omega
  refine ⟨_, u, rfl, by rw [blk_add]; exact hS, ?_, ?_, ?_, c5⟩
  · have := e3 0; simp only [Nat.add_zero] at this; rw [this]; exact c0
  · rw [e3]; exact c1
  · rw [e3]; exact c2
end
/-- the cells of a row of choices -/
def czs : List Value → List Cz → List Value
  | u :: us, c :: cs => u :: .int .i64 c.c :: .bool c.b :: czs us cs
  | _, _ => []
theorem czs_snoc : ∀ (us : List Value) (cs : List Cz) (u : Value) (c : Cz), us.length = cs.length → czs (us ++ [u]) (cs ++ [c]) = czs us cs ++ [u, .int .i64 c.c, .bool c.b]
  | [], [], _, _, _ => rfl
  | [], _ :: _, _, _, h => by simp at h
  | _ :: _, [], _, _, h => by simp at h
  | a :: us, b :: cs, u, c, h => by
    simp only [List.cons_append, czs, czs_snoc us cs u c (by simpa using h)]
theorem czs_get : ∀ (us : List Value) (cs : List Cz) (i : Nat) (u : Value) (c : Cz), us[i]? = some u → cs[i]? = some c → (czs us cs)[i * 3]? = some u ∧ (czs us cs)[i * 3 + 1]? = some (.int .i64 c.c) ∧ (czs us cs)[i * 3 + 2]? = some (.bool c.b)
  | [], _, _, _, _, h, _ => by simp at h
  | _ :: _, [], _, _, _, _, h => by simp at h
  | a :: us, b :: cs, 0, u, c, h1, h2 => by
    simp at h1 h2; subst h1; subst h2; exact ⟨rfl, rfl, rfl⟩
  | a :: us, b :: cs, i + 1, u, c, h1, h2 => by
    have := czs_get us cs i u c (by simpa using h1) (by simpa using h2)
    rw [show (i + 1) * 3 = i * 3 + 3 by omega, show i * 3 + 3 + 1 = i * 3 + 1 + 3 by omega, show i * 3 + 3 + 2 = i * 3 + 2 + 3 by omega]
    simpa [czs] using this
/-- v is a list of choices of the call's own, beside X -/
def OwC (w : World) (base : Nat) (X : Nat → Prop) (v : Value) (l : List Cz) : Prop :=
  ∃ us : List Value, us.length = l.length ∧ w.ownsRow base 30 3 v l.length (czs us l) ∧ (∀ b, v.ownBlock = some b → ¬ X b) ∧ ∀ (i : Nat) (u : Value) (c : Cz), us[i]? = some u → l[i]? = some c → Oi w base u c.R ∧ ∀ b, u.ownBlock = some b → ¬ X b
section
variable {w w' : World} {base : Nat} {X X' : Nat → Prop} {v : Value} {l : List Cz}
theorem ownsRow_keepB {w w' : World} {base e size n : Nat} {v : Value} {xs : List Value} (h : w.ownsRow base e size v n xs) (hk : ∀ b, v.ownBlock = some b → w'.heap[b]? = w.heap[b]?) : w'.ownsRow base e size v n xs := by
  obtain ⟨hl, ⟨rfl, h0⟩ | ⟨g, cap, cur, rfl, hb, hg, r⟩⟩ := h
  · exact ⟨hl, .inl ⟨rfl, h0⟩⟩
  · exact ⟨hl, .inr ⟨g, cap, cur, rfl, hb, by rw [hk g rfl]; exact hg, r⟩⟩
theorem OwC.ext (h : OwC w base X v l) (hE : Ext X w X' w') : OwC w' base X' v l := by
  obtain ⟨us, h1, h2, h3, h4⟩ := h
  have hn : ∀ b, b < w.heap.size → ¬ X b → ¬ X' b := fun b hb hx h9 => by
    rcases hE.new b h9 with h | h
    · exact hx h
    · omega
  refine ⟨us, h1, ownsRow_keepB h2 (fun b hb => hE.mod.block b (World.ownsRow.lt h2 b hb).2 (h3 b hb)), fun b hb => hn b (World.ownsRow.lt h2 b hb).2 (h3 b hb), fun i u c hu hc => ?_⟩
  obtain ⟨h5, h6⟩ := h4 i u c hu hc
  exact ⟨h5.keep1 (fun b hb => hE.mod.block b (h5.lt b hb).2 (h6 b hb)), fun b hb => hn b (h5.lt b hb).2 (h6 b hb)⟩
theorem OwC.below (h : OwC w base X v l) (hb : Below w.heap.size w w') : OwC w' base X v l := by
  obtain ⟨us, h1, h2, h3, h4⟩ := h
  refine ⟨us, h1, ownsRow_keepB h2 (fun b hb' => hb.block b (World.ownsRow.lt h2 b hb').2), h3, fun i u c hu hc => ?_⟩
  obtain ⟨h5, h6⟩ := h4 i u c hu hc
  exact ⟨h5.keep hb (Nat.le_refl _), h6⟩
theorem OwC.start (w : World) (base : Nat) (X : Nat → Prop) : OwC w base X (.slice none 0 0) [] := ⟨[], rfl, ⟨rfl, .inl ⟨rfl, rfl⟩⟩, fun b hb => by simp [Value.ownBlock] at hb, fun i u c hu => by simp at hu⟩
/-- the row as it is read -/
theorem OwC.chr (h : OwC w base X v l) : ChR (fun b => base ≤ b ∧ ¬ X b ∧ b < w.heap.size) w v l := by
  obtain ⟨us, h1, h2, h3, h4⟩ := h
  have h2' := h2
  obtain ⟨hl, ⟨rfl, h0⟩ | ⟨g, cap, cur, rfl, hb, hg, hn, hm, hs, ht⟩⟩ := h2
  · have : l = [] := List.eq_nil_of_length_eq_zero h0
    subst this
    exact ⟨none, 0, rfl, Nat.le_refl _, fun i c hc => by simp at hc⟩
  · refine ⟨_, cap, rfl, hn, fun i c hc => ?_⟩
    have hi : i < us.length := by rw [h1]; exact (List.getElem?_eq_some_iff.1 hc).1
    have hu : us[i]? = some us[i] := List.getElem?_eq_getElem hi
    obtain ⟨d0, d1, d2⟩ := czs_get us l i _ c hu hc
    obtain ⟨h5, h6⟩ := h4 i _ c hu hc
    refine ⟨_, us[i], rfl, ⟨(World.ownsRow.lt h2' g rfl).1, h3 g rfl, (World.ownsRow.lt h2' g rfl).2⟩, World.ownsRow.cells h2' rfl _ _ d0, World.ownsRow.cells h2' rfl _ _ d1, World.ownsRow.cells h2' rfl _ _ d2, h5.rd.mono (fun b hb => ⟨hb.1, h6 b hb.2.2, hb.2.1⟩)⟩
/-- behind an append -/
theorem OwC.grow {us : List Value} {v' u : Value} {c : Cz} (h1 : us.length = l.length) (h2 : w.ownsRow base 30 3 v l.length (czs us l)) (h3 : ∀ b, v.ownBlock = some b → ¬ X b) (h4 : ∀ (i : Nat) (u : Value) (c : Cz), us[i]? = some u → l[i]? = some c → Oi w base u c.R ∧ ∀ b, u.ownBlock = some b → ¬ X b)
    (hu : Oi w base u c.R) (hux : ∀ b, u.ownBlock = some b → ¬ X b) (hX : ∀ b, X b → b < w.heap.size) (hO : w'.ownsRow base 30 3 v' (l.length + 1) (czs us l ++ [u, .int .i64 c.c, .bool c.b])) (hg : w.grownBy w' v.ownBlock) (hown : v'.ownBlock = v.ownBlock ∨ v'.ownBlock = some w.heap.size) : OwC w' base X v' (l ++ [c]) := by
  have hk : ∀ {u : Value} {R : List Int}, Oi w base u R → Oi w' base u R := fun h => h.kept hg (ownsRow_apart h h2 (by decide))
  refine ⟨us ++ [u], by simp [h1], by rw [czs_snoc us l u c h1]; simpa using hO, fun b hb => ?_, fun i x y hx hy => ?_⟩
  · rcases hown with e | e
    · exact h3 b (by rw [← e]; exact hb)
    · rw [e] at hb
      cases hb
      exact fun h => by have := hX _ h; omega
  · by_cases hi : i < us.length
    · rw [List.getElem?_append_left hi] at hx
      rw [List.getElem?_append_left (by omega)] at hy
      obtain ⟨h5, h6⟩ := h4 i x y hx hy
      exact ⟨hk h5, h6⟩
    · have hiu : i = us.length := by
        rcases Nat.lt_or_ge us.length i with h | h
        · rw [List.getElem?_eq_none (by simp; omega)] at hx; cases hx
        · omega
      subst hiu
      simp at hx
      rw [h1] at hy
      simp at hy
      subst hx
      subst hy
      exact ⟨hk hu, hux⟩
end
end Go.Proofs.Ytngmnlmagbfijaa
