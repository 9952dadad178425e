import Derived.Test.YtclbgmkodjiapaaA6
namespace Go.Proofs.Ytclbgmkodjiapaa
open Go.RowKit Go.Shelf

/-! a range whose iterator tells the body what is so at the yield: the iterator's contract is given for invariants that imply I -/
/-- what a round's way out leaves behind as its jump -/
def wayOut : Exit → Option (Option Code)
  | .normal => some none
  | .ret => some (some .ret)
  | .exit id => some (some (.exit id))
  | .goto t => some (some (.goto t))
  | .panic _ => none
  | .outgrown => none
/-- how a round's body may be left: the loop's two blocks lie as they lay -/
def wPost {α : Type} (l D : Nat) (I : List α → World → Prop) (Ix : Code → List α → World → Prop) (ys : List α) (W : World) : Exit → Act → World → Prop
  | .normal, _, W' => W'.heap[l]? = W.heap[l]? ∧ W'.heap[D]? = W.heap[D]? ∧ I ys W'
  | .ret, _, W' => W'.heap[l]? = W.heap[l]? ∧ W'.heap[D]? = W.heap[D]? ∧ Ix .ret ys W'
  | .exit id, _, W' => W'.heap[l]? = W.heap[l]? ∧ W'.heap[D]? = W.heap[D]? ∧ Ix (.exit id) ys W'
  | .goto t, _, W' => W'.heap[l]? = W.heap[l]? ∧ W'.heap[D]? = W.heap[D]? ∧ Ix (.goto t) ys W'
  | .panic _, _, _ => False
  | .outgrown, _, _ => False
section
variable {F : Fence} {n : Nat} {P : Program}
theorem yield_turn {l : Nat} {r : Loop} {W : World} {args : Array Value} {Rp : Ending → World → Prop} (hl : W.heap[l]? = some (.loop r)) (hr : r.state = .ready) (hfn : F.fn r.fn) (hs : args.size = r.params.size)
    (h : r.assign.wpIn (F.inRound l) n P (Exit.then (fun a₁ W₁ => W₁ = W ∧ r.body.wpIn (F.inRound l) n P (fun e _ W' => ∃ jump, wayOut e = some jump ∧ W'.heap[l]? = some (.loop { r with state := .busy }) ∧
        Rp (.returned (.bool jump.isNone)) (W'.putObj l (.loop { r with state := if jump.isNone then .ready else .done, pending := jump }))) a₁ (W.putObj l (.loop { r with state := .busy }))) (fun _ _ _ => False))
      { tmps := (r.params.zip args).foldl (fun t (p, v) => t.setIfInBounds p v) r.tmps, defers := [] } W) : YieldAt F n P l args W Rp := by
  refine ⟨r.fn, _, r.assign, r.body, run_yield hl hs, roundIn_of_wpIn hfn (wpIn_mono h ?_)⟩
  intro e a' W' hp
  cases e with
  | normal =>
    obtain ⟨rfl, hp⟩ := hp
    refine ⟨_, run_beginRound hl hr, wpIn_mono hp ?_⟩
    rintro e a2 W2 ⟨jump, he, hl2, hR⟩
    have hend := run_endRound (P := P) jump hl2
    cases e <;> simp only [wayOut, Option.some.injEq, reduceCtorEq] at he <;> subst he <;> exact ⟨_, _, hend, hR⟩
  | _ => exact hp.elim
theorem range_turn {α : Type} {g : Operand} {ps : Array Tmp} {assign body : Code} {Q : Exit → Act → World → Prop} {a : Act} {w : World}
    (hro : F.round = none) (h1 : 1 ≤ n) {gf : Nat} {lb : Array Value} (hg : a.eval g = .func (.func gf) #[] lb) (hFg : F.fn gf) (eg : ∀ args w, (callFunc gf args).run P w = .ok (.enter gf args) w)
    {encs : α → Array Value} (hps : ∀ x, (encs x).size = ps.size) (R : List α → α → Prop) (E : List α → Prop) (I : List α → World → Prop) (Ix : Code → List α → World → Prop)
    (hseq : ∀ (l : Nat) (J Jx : List α → World → Prop), (∀ pre W, J pre W → I pre W) →
      (∀ pre x W, J pre W → R pre x → YieldAt F (n - 1 - 1) P l (encs x) W fun e W' => (e = .returned (.bool true) ∧ J (pre ++ [x]) W') ∨ (e = .returned (.bool false) ∧ Jx (pre ++ [x]) W')) →
      ∀ W, J [] W → CallsIn F (n - 1) P gf (#[.func (.yield l) #[] #[]] ++ lb) W fun e W' => (∃ v, e = .returned v) ∧ ((∃ xs, E xs ∧ J xs W') ∨ ∃ pre, Jx pre W'))
    (hI : OwnFrom w.heap.size I) (hIx : ∀ c, OwnFrom w.heap.size (Ix c)) (h0 : I [] w) (a₁ : α → Act)
    (hassign : ∀ (l : Nat) (x : α) (W : World) (K : Act → World → Prop), K (a₁ x) W →
      assign.wpIn (F.inRound l) (n - 1 - 1) P (Exit.then K (fun _ _ _ => False)) { tmps := (ps.zip (encs x)).foldl (fun t (p, v) => t.setIfInBounds p v) a.tmps, defers := [] } W)
    (hbody : ∀ (pre : List α) (x : α) (W : World) (r : Loop), W.heap[w.heap.size + 1]? = some (.loop r) → W.heap[w.heap.size]? = some (.deferred (some [])) → I pre W → R pre x → body.wpIn (F.inRound (w.heap.size + 1)) (n - 1 - 1) P (wPost (w.heap.size + 1) w.heap.size I Ix (pre ++ [x]) W) (a₁ x) W)
    (hdone : ∀ (D : Nat) (xs : List α) (W : World), D = w.heap.size → E xs → I xs W → W.heap[D]? = some (.deferred (some [])) → Q .normal { a with defers := { target := .collected D, args := #[] } :: a.defers } W)
    (hstop : ∀ (D : Nat) (c : Code) (pre : List α) (W : World), D = w.heap.size → Ix c pre W → W.heap[D]? = some (.deferred (some [])) → c.wpIn F n P Q { a with defers := { target := .collected D, args := #[] } :: a.defers } W) :
    (Code.rangeFunc g ps assign body).wpIn F n P Q a w := by
  refine wpIn_rangeFunc fun fn hfn => ?_
  rw [hro]
  generalize hD : w.heap.size = D at *
  obtain ⟨rc, hrc⟩ : ∃ rc : Loop, rc = { state := .ready, pending := none, fn := fn, tmps := a.tmps, params := ps, assign := assign, body := body, defers := D } := ⟨_, rfl⟩
  have hst : rc.state = .ready := by rw [hrc]
  have hassign2 : ∀ (l : Nat) (x : α) (W : World) (K : Act → World → Prop), K (a₁ x) W →
      rc.assign.wpIn (F.inRound l) (n - 1 - 1) P (Exit.then K (fun _ _ _ => False)) { tmps := (rc.params.zip (encs x)).foldl (fun t (p, v) => t.setIfInBounds p v) rc.tmps, defers := [] } W := by rw [hrc]; exact hassign
  have hbody2 : ∀ (pre : List α) (x : α) (W : World) (r : Loop), W.heap[D + 1]? = some (.loop r) → W.heap[D]? = some (.deferred (some [])) → I pre W → R pre x → rc.body.wpIn (F.inRound (D + 1)) (n - 1 - 1) P (wPost (D + 1) D I Ix (pre ++ [x]) W) (a₁ x) W := by rw [hrc]; exact hbody
  obtain ⟨W1, hW1⟩ : ∃ W1, (w.alloc (.deferred (some []))).alloc (.loop rc) = W1 := ⟨_, rfl⟩
  have hL : W1.heap[D + 1]? = some (.loop rc) := by
    have h := heap_alloc_new (w.alloc (.deferred (some []))) (.loop rc)
    rw [World.size_alloc, hD, hW1] at h; exact h
  have hK : W1.heap[D]? = some (.deferred (some [])) := by
    rw [← hW1, Below.heap_alloc _ _ _ (by simp; omega), ← hD]; exact heap_alloc_new w _
  have hI1 : I [] W1 := by rw [← hW1]; exact hI.alloc _ (hI.alloc _ h0)
  refine ⟨D + 1, [{ target := .collected D, args := #[] }], W1, { target := .fn (.func gf) lb, args := #[.func (.yield (D + 1)) #[] #[]] }, W1, gf, #[.func (.yield (D + 1)) #[] #[]] ++ lb, W1, ?_, ?_, ?_, ?_, fun _ => h1, ?_⟩
  · rw [← hW1, hrc, ← hD]; exact run_enterLoop_outer _ _ _ _ _
  · simp only [resolve, hg]
    simp [go_sem]
  · intro f' hf'; simp [Target.leads] at hf'; subst hf'; exact hFg
  · simp [invoke, go_sem, eg]
  refine (hseq (D + 1) (fun pre W => I pre W ∧ W.heap[D + 1]? = some (.loop rc) ∧ W.heap[D]? = some (.deferred (some [])))
    (fun pre W => ∃ c, Ix c pre W ∧ W.heap[D + 1]? = some (.loop { rc with state := .done, pending := some c }) ∧ W.heap[D]? = some (.deferred (some []))) (fun _ _ h => h.1) ?_ W1 ⟨hI1, hL, hK⟩).mono ?_
  · rintro pre x W ⟨hi, hl, hk⟩ hR
    have hlt : D + 1 < W.heap.size := (Array.getElem?_eq_some_iff.1 hl).1
    refine yield_turn hl hst (by rw [hrc]; exact hfn) (by rw [hrc]; exact hps x) ?_
    refine hassign2 (D + 1) x W _ ⟨rfl, ?_⟩
    have hb1 : (W.putObj (D + 1) (.loop { rc with state := .busy })).heap[D + 1]? = some (.loop { rc with state := .busy }) := World.putObj_heap_same hlt
    have hb2 : (W.putObj (D + 1) (.loop { rc with state := .busy })).heap[D]? = some (.deferred (some [])) := (World.putObj_heap_other (by omega)).trans hk
    refine wpIn_mono (hbody2 pre x _ _ hb1 hb2 (hI.putObj _ hi (by omega) hl rfl) hR) ?_
    have leaves : ∀ (c : Code) (W3 : World), W3.heap[D + 1]? = (W.putObj (D + 1) (.loop { rc with state := .busy })).heap[D + 1]? → W3.heap[D]? = (W.putObj (D + 1) (.loop { rc with state := .busy })).heap[D]? → Ix c (pre ++ [x]) W3 →
        W3.heap[D + 1]? = some (.loop { rc with state := .busy }) ∧ ((Ending.returned (.bool false) = .returned (.bool true) ∧ I (pre ++ [x]) (W3.putObj (D + 1) (.loop { rc with state := .done, pending := some c })) ∧ (W3.putObj (D + 1) (.loop { rc with state := .done, pending := some c })).heap[D + 1]? = some (.loop rc) ∧ (W3.putObj (D + 1) (.loop { rc with state := .done, pending := some c })).heap[D]? = some (.deferred (some []))) ∨
          (Ending.returned (.bool false) = .returned (.bool false) ∧ ∃ c', Ix c' (pre ++ [x]) (W3.putObj (D + 1) (.loop { rc with state := .done, pending := some c })) ∧ (W3.putObj (D + 1) (.loop { rc with state := .done, pending := some c })).heap[D + 1]? = some (.loop { rc with state := .done, pending := some c' }) ∧ (W3.putObj (D + 1) (.loop { rc with state := .done, pending := some c })).heap[D]? = some (.deferred (some [])))) := fun c W3 hk3 hk4 hx3 => by
      have h3 := hk3.trans hb1
      exact ⟨h3, .inr ⟨rfl, c, (hIx c).putObj _ hx3 (by omega) h3 rfl, World.putObj_heap_same (Array.getElem?_eq_some_iff.1 h3).1, (World.putObj_heap_other (by omega)).trans (hk4.trans hb2)⟩⟩
    rintro e a3 W3 hp
    cases e with
    | normal =>
      obtain ⟨hk3, hk4, hi3⟩ := hp
      have h3 := hk3.trans hb1
      have e5 : ({ rc with state := .ready, pending := none } : Loop) = rc := by rw [hrc]
      refine ⟨none, rfl, h3, .inl ⟨rfl, hI.putObj _ hi3 (by omega) h3 rfl, ?_, (World.putObj_heap_other (by omega)).trans (hk4.trans hb2)⟩⟩
      have := World.putObj_heap_same (o := .loop { rc with state := .ready, pending := none }) (Array.getElem?_eq_some_iff.1 h3).1
      rw [e5] at this
      simp only [Option.isNone_none, if_true]
      rw [e5]; exact this
    | ret => exact ⟨some .ret, rfl, leaves _ _ hp.1 hp.2.1 hp.2.2⟩
    | exit id => exact ⟨some (.exit id), rfl, leaves _ _ hp.1 hp.2.1 hp.2.2⟩
    | goto t => exact ⟨some (.goto t), rfl, leaves _ _ hp.1 hp.2.1 hp.2.2⟩
    | panic ch => exact hp.elim
    | outgrown => exact hp.elim
  · rintro e W2 ⟨⟨v, rfl⟩, ⟨xs, hE, hi, hl, hk⟩ | ⟨pre, c, hx, hl, hk⟩⟩
    · exact ⟨rc.pending, _, run_endLoop hl (by rw [hrc]; simp), by
        have : rc.pending = none := by rw [hrc]
        rw [this]
        exact hdone D xs _ rfl hE (hI.putObj _ hi (by omega) hl rfl) ((World.putObj_heap_other (by omega)).trans hk)⟩
    · exact ⟨some c, _, run_endLoop hl (by simp), hstop D c pre _ rfl ((hIx c).putObj _ hx (by omega) hl rfl) ((World.putObj_heap_other (by omega)).trans hk)⟩
end
end Go.Proofs.Ytclbgmkodjiapaa
