import Derived.Test.YtnpklhjndominaaW2
import Derived.Deep.RegionHeld
import Derived.BigQuiet
import Derived.Deep.Cut
import Derived.Deep.DeepCutAuto
import Derived.WalkSmall
namespace Go.Proofs.Ytnpklhjndominaa
open Go.RowKit

/-- only block b is written -/
structure At (w : World) (b : Nat) (w' : World) : Prop where
  os : w'.os = w.os
  tape : w'.tape = w.tape
  output : w'.output = w.output
  size : w.heap.size ≤ w'.heap.size
  block : ∀ c, c < w.heap.size → c ≠ b → w'.heap[c]? = w.heap[c]?
theorem At.refl (w : World) (b : Nat) : At w b w := ⟨rfl, rfl, rfl, Nat.le_refl _, fun _ _ _ => rfl⟩
theorem At.drew {w w' : World} {b : Nat} (h : At w b w') : At w b w'.drew := ⟨h.os, h.tape, h.output, h.size, h.block⟩
theorem At.set {w w' : World} {b : Nat} (h : At w b w') (j : Nat) (u : Value) : At w b (w'.setCell ⟨b, j, none⟩ u) :=
  ⟨h.os, h.tape, h.output, by simpa [World.setCell] using h.size, fun c hc hne => by rw [heap_setCell_other _ _ _ _ hne]; exact h.block c hc hne⟩
theorem At.below {w w1 w2 : World} {b : Nat} (h : At w b w1) (hb : Below w1.heap.size w1 w2) : At w b w2 :=
  ⟨hb.os.trans h.os, hb.tape.trans h.tape, hb.output.trans h.output, Nat.le_trans h.size hb.size, fun c hc hne => (hb.block c (Nat.lt_of_lt_of_le hc h.size)).trans (h.block c hc hne)⟩
theorem At.of_below {w w1 : World} {b : Nat} (hb : Below w.heap.size w w1) : At w b w1 := (At.refl w b).below hb
theorem At.mod {w w' : World} {b : Nat} (h : At w b w') {F : Nat → Prop} (hf : F b) : Mod F w w' :=
  ⟨h.os, h.tape, h.output, h.size, fun c hc hn => h.block c hc (fun e => hn (by rw [e]; exact hf))⟩
abbrev tp (T : Nat) : Value := .pointer (some ⟨T, 0, none⟩)
section
variable {P : Program} {ops : Array Oper} {Q : Exit → Act → World → Prop} {S : World → Prop} {fuel : Nat} {listed : Array Bool} {a : Act} {w : World}
/-- the one operation that may come up -/
theorem hd_call (i : Nat) {o : Oper} (hr : Region.ready .any ops listed = [i]) (ho : ops[i]? = some o) (hw : Region.wanted o (yielded ops a.tmps) = true)
    (h : ∀ K : Act → World → Prop, (∀ a w, S w → wpAnyH P .any ops Q S fuel (listed.setIfInBounds i true) a w → K a w) → Oper.wp P o a w K Q) : wpAnyH P .any ops Q S (fuel + 1) listed a w := by
  refine wpAnyH_ready hr (by simp) (AllReadyH.cons ho (fun K hK => ?_) AllReadyH.nil)
  rw [if_pos hw]
  exact h K (fun a w hS hh => hK.out a w hS (fun _ => hh))
/-- what yields in whatever world that meets S -/
theorem hd_take (i : Nat) {o : Oper} (v : Value) (hs : Region.noSelect ops = true) (hf : Region.free .any ops listed i = true) (hr : (Region.ready .any ops listed).contains i = true) (ho : ops[i]? = some o) (hw : Region.wanted o (yielded ops a.tmps) = true)
    (hy : ∀ w, S w → (execOp a.eval o).run P w = .ok (.value v) w)
    (hQ : ∀ c a w, Q (.panic c) (a.put o.dst v) w → Q (.panic c) a w) (h0 : S w) (h : wpAnyH P .any ops Q S fuel (listed.setIfInBounds i true) (a.put o.dst v) w) : wpAnyH P .any ops Q S (fuel + 1) listed a w :=
  wpAnyH_take ho hs hf hr hQ (Or.inl ⟨hw, hy⟩) h0 h
/-- what its guard leaves out -/
theorem hd_skip (i : Nat) {o : Oper} (hs : Region.noSelect ops = true) (hf : Region.free .any ops listed i = true) (hr : (Region.ready .any ops listed).contains i = true) (ho : ops[i]? = some o) (hw : Region.wanted o (yielded ops a.tmps) = false)
    (hQ : ∀ c a w, Q (.panic c) (a.put o.dst undef) w → Q (.panic c) a w) (h0 : S w) (h : wpAnyH P .any ops Q S fuel (listed.setIfInBounds i true) (a.put o.dst undef) w) : wpAnyH P .any ops Q S (fuel + 1) listed a w :=
  wpAnyH_take ho hs hf hr hQ (Or.inr ⟨hw, rfl⟩) h0 h
end
section
variable {P : Program} {ops : Array Oper} {Q : Exit → Act → World → Prop} {S : World → Prop} {fuel : Nat} {listed : Array Bool} {a : Act} {w : World}
/-- the two operations that may come up -/
theorem hd_both (i j : Nat) {o1 o2 : Oper} (hr : Region.ready .any ops listed = [i, j]) (ho1 : ops[i]? = some o1) (ho2 : ops[j]? = some o2) (hw1 : Region.wanted o1 (yielded ops a.tmps) = true) (hw2 : Region.wanted o2 (yielded ops a.tmps) = true)
    (h1 : ∀ K : Act → World → Prop, (∀ a w, S w → wpAnyH P .any ops Q S fuel (listed.setIfInBounds i true) a w → K a w) → Oper.wp P o1 a w K Q)
    (h2 : ∀ K : Act → World → Prop, (∀ a w, S w → wpAnyH P .any ops Q S fuel (listed.setIfInBounds j true) a w → K a w) → Oper.wp P o2 a w K Q) : wpAnyH P .any ops Q S (fuel + 1) listed a w := by
  refine wpAnyH_ready hr (by simp) (AllReadyH.cons ho1 (fun K hK => ?_) (AllReadyH.cons ho2 (fun K hK => ?_) AllReadyH.nil))
  · rw [if_pos hw1]; exact h1 K (fun a w hS hh => hK.out a w hS (fun _ => hh))
  · rw [if_pos hw2]; exact h2 K (fun a w hS hh => hK.out a w hS (fun _ => hh))
end
theorem own_shape {w : World} {base : Nat} {e : TypeId} {size : Nat} {v : Value} {n : Nat} {xs : List Value} (h : w.ownsRow base e size v n xs) : ∃ a c, v = .slice a n c := by
  obtain ⟨h1, ⟨h2, h3⟩ | ⟨g, cap, cur, h2, _⟩⟩ := h
  · exact ⟨none, 0, by rw [h2, h3]⟩
  · exact ⟨_, _, h2⟩
theorem cell_three_new (w : World) (t : TypeId) (a b c : Value) : ∀ j v, [a, b, c][j]? = some v → (w.alloc (.cells #[a, b, c] t)).cell? ((⟨w.heap.size, 0, none⟩ : Addr).add j) = some v := by
  intro j v hj
  rw [add0, cell_of_row _ _ _ _ _ _ (heap_alloc_new w _)]
  simpa using hj
theorem cell_belowN {w w' : World} (hb : Below w.heap.size w w') {p : Addr} {v : Value} (h : w.cell? p = some v) : w'.cell? p = some v := by
  have hl : p.block < w.heap.size := by
    unfold World.cell? at h
    cases hq : w.heap[p.block]? with
    | none => simp [hq] at h
    | some o => exact (Array.getElem?_eq_some_iff.1 hq).1
  have := hb.block p.block hl
  unfold World.cell? at h ⊢
  rw [this]; exact h
theorem play_at (c : List (Nat × List Nat)) (s : Nat) : ∀ (M M' : Nat → List Nat), M s = M' s → play M c s = play M' c s := by
  induction c with
  | nil => intro M M' h; exact h
  | cons x r ih =>
    intro M M' h
    refine ih (upd M x.1 x.2) (upd M' x.1 x.2) ?_
    unfold upd; split
    · rfl
    · exact h
def zro : Nat → List Nat := fun _ => List.replicate 128 0
theorem zro_sec (s : Nat) : Sec (zro s) := ⟨by simp [zro], fun x hx => by rw [(List.mem_replicate.1 hx).2]; omega⟩
/-- a record of the document's disk: the sector, the place, the bytes -/
abbrev Rc := Nat × Nat × List Nat
def Rcs (x : Rc) : Prop := x.2.1 + x.2.2.length ≤ 128 ∧ ∀ z ∈ x.2.2, z < 256
/-- writes of whole sectors as records -/
def lf (c : List (Nat × List Nat)) : List Rc := c.map (fun x => (x.1, 0, x.2))
theorem lf_len (c : List (Nat × List Nat)) : (lf c).length = c.length := by simp [lf]
theorem lf_get {c : List (Nat × List Nat)} {i : Nat} {x : Nat × List Nat} (h : c[i]? = some x) : (lf c)[i]? = some (x.1, 0, x.2) := by simp [lf, h]
theorem lf_app (c d : List (Nat × List Nat)) : lf (c ++ d) = lf c ++ lf d := by simp [lf]
theorem lf_got {c : List (Nat × List Nat)} {i : Nat} {x : Rc} (h : (lf c)[i]? = some x) : ∃ y, c[i]? = some y ∧ x = (y.1, 0, y.2) := by
  unfold lf at h; rw [List.getElem?_map] at h
  cases hy : c[i]? with
  | none => rw [hy] at h; cases h
  | some y => rw [hy] at h; exact ⟨y, rfl, (Option.some.inj h).symm⟩
def playR (M : Nat → List Nat) (rl : List Rc) : Nat → List Nat := rl.foldl (fun M x => upd M x.1 (splice (M x.1) x.2.1 x.2.2)) M
theorem playR_snoc (M : Nat → List Nat) (c : List Rc) (x : Rc) : playR M (c ++ [x]) = upd (playR M c) x.1 (splice (playR M c x.1) x.2.1 x.2.2) := by simp [playR]
theorem playR_append (M : Nat → List Nat) (c d : List Rc) : playR M (c ++ d) = playR (playR M c) d := by simp [playR]
theorem splice_len {L X : List Nat} {a : Nat} (h : a + X.length ≤ L.length) : (splice L a X).length = L.length := by simp [splice]; omega
theorem splice_mem {L X : List Nat} {a z : Nat} (h : z ∈ splice L a X) : z ∈ L ∨ z ∈ X := by
  unfold splice at h
  simp only [List.mem_append] at h
  rcases h with h | h | h
  · exact .inl (List.mem_of_mem_take h)
  · exact .inr h
  · exact .inl (List.mem_of_mem_drop h)
theorem splice_secR {L : List Nat} {x : Rc} (hL : Sec L) (hx : Rcs x) : Sec (splice L x.2.1 x.2.2) :=
  ⟨by rw [splice_len (by rw [hL.1]; exact hx.1)]; exact hL.1, fun z hz => (splice_mem hz).elim (hL.2 z) (hx.2 z)⟩
theorem playR_sec {M : Nat → List Nat} {rl : List Rc} (hM : ∀ s, Sec (M s)) (hc : ∀ x ∈ rl, Rcs x) : ∀ s, Sec (playR M rl s) := by
  induction rl generalizing M with
  | nil => exact hM
  | cons x r ih =>
    intro s
    refine ih (M := upd M x.1 (splice (M x.1) x.2.1 x.2.2)) (fun s => ?_) (fun y hy => hc y (List.mem_cons_of_mem _ hy)) s
    unfold upd; split
    · exact splice_secR (hM _) (hc x (List.mem_cons_self ..))
    · exact hM s
theorem playR_at (c : List Rc) (s : Nat) : ∀ (M M' : Nat → List Nat), M s = M' s → playR M c s = playR M' c s := by
  induction c with
  | nil => intro M M' h; exact h
  | cons x r ih =>
    intro M M' h
    refine ih (upd M x.1 (splice (M x.1) x.2.1 x.2.2)) (upd M' x.1 (splice (M' x.1) x.2.1 x.2.2)) ?_
    unfold upd; split
    · rename_i e; rw [← e, h]
    · exact h
/-- whole sectors: the elder play -/
theorem playR_lf (c : List (Nat × List Nat)) (hc : ∀ x ∈ c, Sec x.2) (s : Nat) : ∀ M : Nat → List Nat, (M s).length = 128 → playR M (lf c) s = play M c s := by
  induction c with
  | nil => intro M _; rfl
  | cons x r ih =>
    intro M hM
    show playR (upd M x.1 (splice (M x.1) 0 x.2)) (lf r) s = play (upd M x.1 x.2) r s
    rw [ih (fun y hy => hc y (List.mem_cons_of_mem _ hy)) _ (by
      unfold upd; split
      · rename_i e; rw [← e, splice_len (by rw [hM, (hc x (List.mem_cons_self ..)).1]; omega)]; exact hM
      · exact hM)]
    refine play_at r s _ _ ?_
    unfold upd; split
    · rename_i e; rw [← e]; exact splice_full (by rw [hM, (hc x (List.mem_cons_self ..)).1])
    · rfl
end Go.Proofs.Ytnpklhjndominaa
