import Derived.Test.YtclbgmkodjiapaaA8
namespace Go.Proofs.Ytclbgmkodjiapaa
open Go.RowKit Go.Shelf

section
variable {F : Fence} {n : Nat} {P : Program}
theorem range_turnN {α : Type} {g : Operand} {ps : Array Tmp} {assign body : Code} {Q : Exit → Act → World → Prop} {a : Act} {w : World}
    {l₀ : Nat} {r₀ : Loop} (hro : F.round = some l₀) (hl₀ : w.heap[l₀]? = some (.loop r₀)) (h1 : 1 ≤ n) {gf : Nat} {lb : Array Value} (hg : a.eval g = .func (.func gf) #[] lb) (hFg : F.fn gf) (eg : ∀ args w, (callFunc gf args).run P w = .ok (.enter gf args) w)
    {encs : α → Array Value} (hps : ∀ x, (encs x).size = ps.size) (R : List α → α → Prop) (E : List α → Prop) (I : List α → World → Prop) (Ix : Code → List α → World → Prop)
    (hseq : ∀ (l : Nat) (J Jx : List α → World → Prop), (∀ pre W, J pre W → I pre W) →
      (∀ pre x W, J pre W → R pre x → YieldAt F (n - 1 - 1) P l (encs x) W fun e W' => (e = .returned (.bool true) ∧ J (pre ++ [x]) W') ∨ (e = .returned (.bool false) ∧ Jx (pre ++ [x]) W')) →
      ∀ W, J [] W → CallsIn F (n - 1) P gf (#[.func (.yield l) #[] #[]] ++ lb) W fun e W' => (∃ v, e = .returned v) ∧ ((∃ xs, E xs ∧ J xs W') ∨ ∃ pre, Jx pre W'))
    (hI : OwnFrom w.heap.size I) (hIx : ∀ c, OwnFrom w.heap.size (Ix c)) (h0 : I [] w) (a₁ : α → Act)
    (hassign : ∀ (l : Nat) (x : α) (W : World) (K : Act → World → Prop), K (a₁ x) W →
      assign.wpIn (F.inRound l) (n - 1 - 1) P (Exit.then K (fun _ _ _ => False)) { tmps := (ps.zip (encs x)).foldl (fun t (p, v) => t.setIfInBounds p v) a.tmps, defers := [] } W)
    (hbody : ∀ (pre : List α) (x : α) (W : World) (r : Loop), W.heap[w.heap.size]? = some (.loop r) → I pre W → R pre x → body.wpIn (F.inRound (w.heap.size)) (n - 1 - 1) P (wPost (w.heap.size) w.heap.size I Ix (pre ++ [x]) W) (a₁ x) W)
    (hdone : ∀ (xs : List α) (W : World), E xs → I xs W → Q .normal a W)
    (hstop : ∀ (c : Code) (pre : List α) (W : World), Ix c pre W → c.wpIn F n P Q a W) :
    (Code.rangeFunc g ps assign body).wpIn F n P Q a w := by
  refine wpIn_rangeFunc fun fn hfn => ?_
  rw [hro]
  generalize hD : w.heap.size = D at *
  obtain ⟨rc, hrc⟩ : ∃ rc : Loop, rc = { state := .ready, pending := none, fn := fn, tmps := a.tmps, params := ps, assign := assign, body := body, defers := r₀.defers } := ⟨_, rfl⟩
  have hst : rc.state = .ready := by rw [hrc]
  have hassign2 : ∀ (l : Nat) (x : α) (W : World) (K : Act → World → Prop), K (a₁ x) W →
      rc.assign.wpIn (F.inRound l) (n - 1 - 1) P (Exit.then K (fun _ _ _ => False)) { tmps := (rc.params.zip (encs x)).foldl (fun t (p, v) => t.setIfInBounds p v) rc.tmps, defers := [] } W := by rw [hrc]; exact hassign
  have hbody2 : ∀ (pre : List α) (x : α) (W : World) (r : Loop), W.heap[D]? = some (.loop r) → I pre W → R pre x → rc.body.wpIn (F.inRound (D)) (n - 1 - 1) P (wPost (D) D I Ix (pre ++ [x]) W) (a₁ x) W := by rw [hrc]; exact hbody
  obtain ⟨W1, hW1⟩ : ∃ W1, w.alloc (.loop rc) = W1 := ⟨_, rfl⟩
  have hL : W1.heap[D]? = some (.loop rc) := by
    have h := heap_alloc_new w (.loop rc)
    rw [hD, hW1] at h; exact h
  have hI1 : I [] W1 := by rw [← hW1]; exact hI.alloc _ h0
  refine ⟨D, [], W1, { target := .fn (.func gf) lb, args := #[.func (.yield (D)) #[] #[]] }, W1, gf, #[.func (.yield (D)) #[] #[]] ++ lb, W1, ?_, ?_, ?_, ?_, fun _ => h1, ?_⟩
  · rw [← hW1, hrc, ← hD]; exact run_enterLoop_inner hl₀ _ _ _ _ _
  · simp only [resolve, hg]
    simp [go_sem]
  · intro f' hf'; simp [Target.leads] at hf'; subst hf'; exact hFg
  · simp [invoke, go_sem, eg]
  refine (hseq (D) (fun pre W => I pre W ∧ W.heap[D]? = some (.loop rc))
    (fun pre W => ∃ c, Ix c pre W ∧ W.heap[D]? = some (.loop { rc with state := .done, pending := some c })) (fun _ _ h => h.1) ?_ W1 ⟨hI1, hL⟩).mono ?_
  · rintro pre x W ⟨hi, hl⟩ hR
    have hlt : D < W.heap.size := (Array.getElem?_eq_some_iff.1 hl).1
    refine yield_turn hl hst (by rw [hrc]; exact hfn) (by rw [hrc]; exact hps x) ?_
    refine hassign2 (D) x W _ ⟨rfl, ?_⟩
    have hb1 : (W.putObj (D) (.loop { rc with state := .busy })).heap[D]? = some (.loop { rc with state := .busy }) := World.putObj_heap_same hlt
    refine wpIn_mono (hbody2 pre x _ _ hb1 (hI.putObj _ hi (Nat.le_refl _) hl rfl) hR) ?_
    have leaves : ∀ (c : Code) (W3 : World), W3.heap[D]? = (W.putObj (D) (.loop { rc with state := .busy })).heap[D]? → W3.heap[D]? = (W.putObj (D) (.loop { rc with state := .busy })).heap[D]? → Ix c (pre ++ [x]) W3 →
        W3.heap[D]? = some (.loop { rc with state := .busy }) ∧ ((Ending.returned (.bool false) = .returned (.bool true) ∧ I (pre ++ [x]) (W3.putObj (D) (.loop { rc with state := .done, pending := some c })) ∧ (W3.putObj (D) (.loop { rc with state := .done, pending := some c })).heap[D]? = some (.loop rc)) ∨
          (Ending.returned (.bool false) = .returned (.bool false) ∧ ∃ c', Ix c' (pre ++ [x]) (W3.putObj (D) (.loop { rc with state := .done, pending := some c })) ∧ (W3.putObj (D) (.loop { rc with state := .done, pending := some c })).heap[D]? = some (.loop { rc with state := .done, pending := some c' }))) := fun c W3 hk3 _ hx3 => by
      have h3 := hk3.trans hb1
      exact ⟨h3, .inr ⟨rfl, c, (hIx c).putObj _ hx3 (Nat.le_refl _) h3 rfl, World.putObj_heap_same (Array.getElem?_eq_some_iff.1 h3).1⟩⟩
    rintro e a3 W3 hp
    cases e with
    | normal =>
      obtain ⟨hk3, _, hi3⟩ := hp
      have h3 := hk3.trans hb1
      have e5 : ({ rc with state := .ready, pending := none } : Loop) = rc := by rw [hrc]
      refine ⟨none, rfl, h3, .inl ⟨rfl, hI.putObj _ hi3 (Nat.le_refl _) h3 rfl, ?_⟩⟩
      have := World.putObj_heap_same (o := .loop { rc with state := .ready, pending := none }) (Array.getElem?_eq_some_iff.1 h3).1
      rw [e5] at this
      simp only [Option.isNone_none, if_true]
      rw [e5]; exact this
    | ret => exact ⟨some .ret, rfl, leaves _ _ hp.1 hp.2.1 hp.2.2⟩
    | exit id => exact ⟨some (.exit id), rfl, leaves _ _ hp.1 hp.2.1 hp.2.2⟩
    | goto t => exact ⟨some (.goto t), rfl, leaves _ _ hp.1 hp.2.1 hp.2.2⟩
    | panic ch => exact hp.elim
    | outgrown => exact hp.elim
  · rintro e W2 ⟨⟨v, rfl⟩, ⟨xs, hE, hi, hl⟩ | ⟨pre, c, hx, hl⟩⟩
    · exact ⟨rc.pending, _, run_endLoop hl (by rw [hrc]; simp), by
        have : rc.pending = none := by rw [hrc]
        rw [this]
        exact hdone xs _ hE (hI.putObj _ hi (Nat.le_refl _) hl rfl)⟩
    · exact ⟨some c, _, run_endLoop hl (by simp), hstop c pre _ ((hIx c).putObj _ hx (Nat.le_refl _) hl rfl)⟩
end
/-- the marks that ranges leave on the activation, on the way out -/
def mk (D : Nat) : Deferred := { target := .collected D, args := #[] }
theorem leave_marks {fn : Func} {tmps : Array Value} {v : Value} {w : World} {P : Program} {n : Nat} (hres : ∀ W, (results fn tmps).run P W = .ok v W) : ∀ (ds : List Nat) (W : World), ds.Nodup → (∀ D ∈ ds, w.heap.size ≤ D ∧ W.heap[D]? = some (.deferred (some []))) → Below w.heap.size w W →
    LeavesInM Fence.wide n P fn tmps (fun e W' => e = .returned v ∧ Below w.heap.size w W') (ds.map mk) .returning W
  | [], W, _, _, hb => ⟨v, hres W, rfl, hb⟩
  | D :: r, W, hn, hd, hb => by
    obtain ⟨h1, h2⟩ := hd D (by simp)
    refine ⟨by simp, .inl ⟨D, _, rfl, run_takeDeferred h2, ?_⟩⟩
    refine leave_marks hres r _ (List.nodup_cons.1 hn).2 (fun E hE => ?_) (hb.trans ((Below.refl _ W).grown (grownBy_putObj' W D _) hb.size (fun k e => by cases e; exact h1)))
    obtain ⟨h3, h4⟩ := hd E (by simp [hE])
    exact ⟨h3, (World.putObj_heap_other (fun e => (List.nodup_cons.1 hn).1 (by rw [← e]; exact hE))).trans h4⟩
theorem rnd_none (Z : Nat → Int × Int × Int × Int) (m : List (Option Int)) : ∀ j, rnd Z 0 m j = m
  | 0 => rfl
  | j + 1 => by unfold rnd; rw [rnd_none Z m j]; rfl

/-! the tables beside boxes of the law's own -/
theorem Ref.own {W W' : World} {G : Nat → Prop} {R : Nat} {m : List (Option Int)} (h : Ref W G R m) {row : Option Nat} (hg : W.grownBy W' row) (hr : ∀ r, row = some r → ∃ o : Obj, W.heap[r]? = some o ∧ o.isCells = false) : Ref W' G R m := by
  have key : ∀ (b : Nat) (cs : Array Value) (t : TypeId) (fr : Nat × Nat), W.heap[b]? = some (Obj.cells cs t fr) → W'.heap[b]? = some (Obj.cells cs t fr) := fun b cs t fr hb => by
    rw [hg.block b (Array.getElem?_eq_some_iff.1 hb).1 (fun e => by obtain ⟨o, h1, h2⟩ := hr b e.symm; rw [hb] at h1; cases h1; cases h2)]
    exact hb
  obtain ⟨p, q, h⟩ := h
  exact ⟨p, q, key _ _ _ _ h.top, key _ _ _ _ h.has, key _ _ _ _ h.val, h.npq, h.npR, h.nqR, h.fR, h.fp, h.fq, fun b hb => Nat.lt_of_lt_of_le (h.lt b hb) hg.size, h.cap⟩
theorem Tab.ownI {W W' : World} {F : Nat → Prop} {B : Nat} {m : List (Option Int)} (h : Tab KI W F B m) {row : Option Nat} (hg : W.grownBy W' row) (hr : ∀ r, row = some r → ∃ o : Obj, W.heap[r]? = some o ∧ o.isCells = false) : Tab KI W' F B m := by
  obtain ⟨p, ps, h⟩ := h
  exact ⟨p, ps, (h.raw.own hg hr).tab rfl⟩
structure St (w W : World) (F : Nat → Prop) (B : Nat) (m : List (Option Int)) (G : Nat → Prop) (R : Nat) (m2 : List (Option Int)) (bs : List (Nat × Obj)) : Prop where
  duo : Duo w W F B m G R m2
  bx : ∀ p ∈ bs, W.heap[p.1]? = some p.2 ∧ ¬ F p.1 ∧ ¬ G p.1 ∧ w.heap.size ≤ p.1
section
variable {w W W' : World} {F F' G : Nat → Prop} {B R : Nat} {m m' m2 m2' : List (Option Int)} {bs bs' : List (Nat × Obj)}
theorem St.lt (h : St w W F B m G R m2 bs) {p : Nat × Obj} (hp : p ∈ bs) : p.1 < W.heap.size := (Array.getElem?_eq_some_iff.1 (h.bx p hp).1).1
theorem St.left (h : St w W F B m G R m2 bs) (hT : Tab KI W' F' B m') (hx : Ext F W F' W') : St w W' F' B m' G R m2 bs :=
  ⟨h.duo.left hT hx, fun p hp => ⟨(hx.mod.block _ (h.lt hp) (h.bx p hp).2.1).trans (h.bx p hp).1, fun hf => (hx.new _ hf).elim (h.bx p hp).2.1 (fun h3 => by have := h.lt hp; omega), (h.bx p hp).2.2⟩⟩
theorem St.right (h : St w W F B m G R m2 bs) (hT : Ref W' G R m2') (hx : Ext G W G W') : St w W' F B m G R m2' bs :=
  ⟨h.duo.right hT hx, fun p hp => ⟨(hx.mod.block _ (h.lt hp) (h.bx p hp).2.2.1).trans (h.bx p hp).1, (h.bx p hp).2⟩⟩
theorem St.below (h : St w W F B m G R m2 bs) (hb : Below W.heap.size W W') : St w W' F B m G R m2 bs :=
  ⟨h.duo.below hb, fun p hp => ⟨(hb.block _ (h.lt hp)).trans (h.bx p hp).1, (h.bx p hp).2⟩⟩
theorem St.sub (h : St w W F B m G R m2 bs) (hs : ∀ p ∈ bs', p ∈ bs) : St w W F B m G R m2 bs' := ⟨h.duo, fun p hp => h.bx p (hs p hp)⟩
theorem St.push (h : St w W F B m G R m2 bs) (o : Obj) : St w (W.alloc o) F B m G R m2 ((W.heap.size, o) :: bs) := by
  have h1 := h.below ((Below.refl W.heap.size W).alloc (Nat.le_refl _) o)
  refine ⟨h1.duo, fun p hp => ?_⟩
  rcases List.mem_cons.1 hp with rfl | hp
  · exact ⟨heap_alloc_new W o, fun hf => Nat.lt_irrefl _ (h.duo.tab.lt _ hf), fun hf => Nat.lt_irrefl _ (h.duo.ref.lt _ hf), h.duo.bel.size⟩
  · exact h1.bx p hp
/-- a block that came with a call, put among the boxes -/
theorem St.join (h : St w W F B m G R m2 bs) (hb : ∀ p ∈ bs', W.heap[p.1]? = some p.2 ∧ ¬ F p.1 ∧ ¬ G p.1 ∧ w.heap.size ≤ p.1) : St w W F B m G R m2 (bs' ++ bs) :=
  ⟨h.duo, fun p hp => (List.mem_append.1 hp).elim (hb p) (h.bx p)⟩
theorem St.set {c : Nat} {v0 : Value} {t : TypeId} (h : St w W F B m G R m2 ((c, .cells #[v0] t (0, 0)) :: bs)) (hd : ∀ p ∈ bs, p.1 ≠ c) (v : Value) : St w (W.setCell ⟨c, 0, none⟩ v) F B m G R m2 ((c, .cells #[v] t (0, 0)) :: bs) := by
  obtain ⟨h1, h2, h3, h4⟩ := h.bx (c, .cells #[v0] t (0, 0)) (by simp)
  have hg := grownBy_setCell' W c v
  have hk : ∀ b, b ≠ c → b < W.heap.size → (W.setCell ⟨c, 0, none⟩ v).heap[b]? = W.heap[b]? := fun b hb hl => hg.block b hl (fun e => hb (by cases e; rfl))
  refine ⟨⟨h.duo.tab.keep hg.size (fun b hb => hk b (fun e => h2 (by rw [← e]; exact hb)) (h.duo.tab.lt b hb)), h.duo.ref.keep hg.size (fun b hb => hk b (fun e => h3 (by rw [← e]; exact hb)) (h.duo.ref.lt b hb)), h.duo.dis, h.duo.loF, h.duo.loG, h.duo.bel.trans ((Below.refl _ W).grown hg h.duo.bel.size (fun k e => by cases e; exact h4))⟩, fun p hp => ?_⟩
  rcases List.mem_cons.1 hp with rfl | hp
  · refine ⟨?_, h2, h3, h4⟩
    have := heap_setCell_same W c 0 _ _ v h1
    simpa using this
  · exact ⟨(hk p.1 (hd p hp) (h.lt (by simp [hp]))).trans (h.bx p (by simp [hp])).1, (h.bx p (by simp [hp])).2⟩
theorem St.own {row : Option Nat} {base : Nat} (h : St w W F B m G R m2 bs) (hbase : w.heap.size ≤ base) (hc : ∀ p ∈ bs, p.2.isCells = true ∨ p.1 < base) (hg : W.grownBy W' row) (hr : ∀ r, row = some r → base ≤ r ∧ ∃ o : Obj, W.heap[r]? = some o ∧ o.isCells = false) : St w W' F B m G R m2 bs := by
  refine ⟨⟨h.duo.tab.ownI hg (fun r e => (hr r e).2), h.duo.ref.own hg (fun r e => (hr r e).2), h.duo.dis, h.duo.loF, h.duo.loG, h.duo.bel.grown hg h.duo.bel.size (fun k e => by have := (hr k e).1; omega)⟩, fun p hp => ⟨?_, (h.bx p hp).2⟩⟩
  refine (hg.block _ (h.lt hp) (fun e => ?_)).trans (h.bx p hp).1
  obtain ⟨h1, o, h2, h3⟩ := hr _ e.symm
  rcases hc p hp with h4 | h4
  · rw [(h.bx p hp).1] at h2; cases h2; rw [h3] at h4; cases h4
  · omega
end
/-- what an own row's block is, whatever else happens -/
theorem own_box {W : World} {e size n : Nat} {v : Value} {xs : List Value} (h : W.ownsRow 0 e size v n xs) : ∃ bw : List (Nat × Obj), (∀ p ∈ bw, W.heap[p.1]? = some p.2 ∧ p.2.isCells = true ∧ v.ownBlock = some p.1) ∧ ∀ W' : World, (∀ p ∈ bw, W'.heap[p.1]? = some p.2) → W'.ownsRow 0 e size v n xs := by
  obtain ⟨hl, ⟨rfl, h0⟩ | ⟨g, cap, cur, rfl, hb, hg, r⟩⟩ := h
  · exact ⟨[], by simp, fun W' _ => ⟨hl, .inl ⟨rfl, h0⟩⟩⟩
  · exact ⟨[(g, _)], fun p hp => by rw [List.mem_singleton.1 hp]; exact ⟨hg, rfl, rfl⟩, fun W' hW => ⟨hl, .inr ⟨g, cap, cur, rfl, hb, hW (g, _) (List.mem_singleton.2 rfl), r⟩⟩⟩
end Go.Proofs.Ytclbgmkodjiapaa
