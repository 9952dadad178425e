import Derived.Test.YtjpnjgbcmodnoaaRows
import Derived.WalkKit
import Derived.ProofKit
import Derived.OpenShut
import Derived.Deep.Slices
import Derived.BigQuiet
import Derived.WalkSmall
import Derived.Test.YtjpnjgbcmodnoaaMX
namespace Go.Proofs.Ytjpnjgbcmodnoaa
open Go.RowKit Go.Shelf

/-- what is in the second book lies in the first, but for its parent -/
def Subk (bk bk' : List (Option Lst)) : Prop := ∀ (a b : Nat) (q : Rc), atB bk' (a : Int) (b : Int) = some q → ∃ p, atB bk (a : Int) (b : Int) = some p ∧ p.k = q.k ∧ p.o = q.o ∧ p.s = q.s ∧ p.r = q.r
theorem Subk.refl (bk : List (Option Lst)) : Subk bk bk := fun _ _ q h => ⟨q, h, rfl, rfl, rfl, rfl⟩
theorem Subk.trans {x y z : List (Option Lst)} (h : Subk x y) (k : Subk y z) : Subk x z := by
  intro a b q hq
  obtain ⟨p, h1, e1, e2, e3, e4⟩ := k a b q hq
  obtain ⟨p', h2, g1, g2, g3, g4⟩ := h a b p h1
  exact ⟨p', h2, g1.trans e1, g2.trans e2, g3.trans e3, g4.trans e4⟩
theorem Subk.congr {bk bk' : List (Option Lst)} (hv : ∀ a b : Nat, atB bk' (a : Int) (b : Int) = atB bk (a : Int) (b : Int)) : Subk bk bk' := fun a b q h => ⟨q, by rw [← hv]; exact h, rfl, rfl, rfl, rfl⟩
theorem subk_drop {bk bk' : List (Option Lst)} {i j : Nat} {r : Rc} (hd : DropR bk i j r bk') : Subk bk bk' := by
  intro a b q hq
  rw [hd.2] at hq
  split at hq
  · cases hq
  · obtain ⟨p, hp, rfl⟩ := Option.map_eq_some_iff.1 hq
    obtain ⟨e1, e2, e3, e4⟩ := rp_same i j r p
    exact ⟨p, hp, e1.symm, e2.symm, e3.symm, e4.symm⟩
theorem subk_drops {bk bk' : List (Option Lst)} {ps : List (Nat × Nat)} (hd : Drops ps bk bk') : Subk bk bk' := by
  induction hd using Drops.ind with
  | nil => exact Subk.refl _
  | snoc _ hr hd ih => exact ih.trans (subk_drop hd)
theorem subk_rmv {bk : List (Option Lst)} {ps : List (Nat × Nat)} (hn : ps.Nodup) (hex : ∀ p ∈ ps, ∃ r, atB bk (p.1 : Int) (p.2 : Int) = some r) : Subk bk (rmv bk ps) := by
  intro a b q hq
  rw [(rmv_at ps bk hn hex).2] at hq
  split at hq
  · cases hq
  · exact ⟨q, hq, rfl, rfl, rfl, rfl⟩
/-- one more was laid -/
def Laid (bk bk' : List (Option Lst)) (r : Rc) : Prop := ∃ i k : Nat, atB bk (i : Int) (k : Int) = none ∧ ∀ a b : Nat, atB bk' (a : Int) (b : Int) = if a = i ∧ b = k then some r else atB bk (a : Int) (b : Int)
theorem derive_eff {bk bk' : List (Option Lst)} {e s t a rt v c : Int} (h48 : ∀ (i : Nat) (l : Lst), bk[i]? = some (some l) → l.length = 48) (hm : DeriveR bk e s t a rt v c bk') : bk' = bk ∨ ∃ p, atB bk e s = some p ∧ okR rt p = true ∧ 0 ≤ rt ∧ rt ≤ 15 ∧ Laid bk bk' ⟨p.k, p.o, p.s, rt, e, s⟩ := by
  rcases hm with ⟨_, _, _, rfl⟩ | ⟨_, _, _, _, rfl⟩ | ⟨_, _, _, _, _, rfl⟩ | ⟨_, _, _, _, _, _, rfl⟩ | ⟨i, l, l', r, _, hl, hr, hok, _, hrt, hy, rfl⟩
  · exact .inl rfl
  · exact .inl rfl
  · exact .inl rfl
  · exact .inl rfl
  · rcases lay_view hl (h48 i l hl) hy with ⟨k, _, _, _, hf, _, _, _, hv⟩ | ⟨_, _, e, _⟩
    · exact .inr ⟨r, hr, hok, hrt.1, hrt.2, i, k, hf, hv⟩
    · exact .inl e
theorem Step.eff {o : Opr} {bk bk' : List (Option Lst)} {f : Int → Int → Nat} (hf : Rk bk f) (h48 : ∀ (i : Nat) (l : Lst), bk[i]? = some (some l) → l.length = 48) (hs : Step o bk bk') (hq : o.q ≠ 3) :
    Subk bk bk' ∨ ∃ p, atB bk o.e o.s = some p ∧ okR o.r p = true ∧ 0 ≤ o.r ∧ o.r ≤ 15 ∧ Laid bk bk' ⟨p.k, p.o, p.s, o.r, o.e, o.s⟩ := by
  cases hs using Step.ind with
  | none => exact .inl (Subk.refl _)
  | opn _ ho =>
    have ho' := ho
    rcases ho with ⟨k, hk, h1, rfl, rfl⟩ | ⟨_, rfl, _⟩
    · rw [hk] at ho'
      exact .inl (Subk.congr (open_view (List.getElem?_eq_some_iff.1 h1).1 (by rw [look_nat, h1]; rfl) ho').2.1)
    · exact .inl (Subk.refl _)
  | shut0 => exact .inl (Subk.refl _)
  | shut _ _ hl hd => exact .inl ((subk_drops hd).trans (Subk.congr (shut_view hl hd)))
  | mint h _ => exact (hq h).elim
  | derive _ hm =>
    rcases derive_eff h48 hm with rfl | h
    · exact .inl (Subk.refl _)
    · exact .inr h
  | drop0 => exact .inl (Subk.refl _)
  | drop _ _ _ hr hd => exact .inl (subk_drop hd)
  | revoke0 => exact .inl (Subk.refl _)
  | revoke _ _ _ _ hd _ hp => exact .inl (subk_rmv (hp.nodup_iff.2 (bel_nodup hf _ _)) (fun p hq => bel_mem _ (hp.mem_iff.1 hq)))
  | purge => exact .inl (subk_rmv (pls_nodup _ _) (fun p hp => by obtain ⟨r, hr, _⟩ := mem_pls.1 (show (p.1, p.2) ∈ _ from hp); exact ⟨r, hr⟩))
/-- nothing has grown -/
def Ng (r : Int) (bk : List (Option Lst)) : Prop := ∀ (a b : Nat) (q : Rc), atB bk (a : Int) (b : Int) = some q →
  (q.k = 2 ∧ q.o = 3 ∧ q.s = 11 ∧ bits .and .i64 q.r r = q.r ∧ Rt q) ∧ ((bits .and .i64 r 4 == 0) = true → a = 0 ∧ b = 0)
theorem ng16 : ∀ x p r : Fin 16, (bits .andNot .i64 (bits .or .i64 (x.val : Int) 4) (p.val : Int) == 0) = true → bits .and .i64 (p.val : Int) (r.val : Int) = (p.val : Int) → bits .and .i64 (x.val : Int) (r.val : Int) = (x.val : Int) ∧ (bits .and .i64 (r.val : Int) 4 == 0) = false := by decide
theorem ng_bits {x r : Int} {p : Rc} (hx : 0 ≤ x ∧ x ≤ 15) (hp : Rt p) (hr : 0 ≤ r ∧ r ≤ 15) (h1 : okR x p = true) (h2 : bits .and .i64 p.r r = p.r) : bits .and .i64 x r = x ∧ (bits .and .i64 r 4 == 0) = false := by
  have h := ng16 ⟨x.toNat, by omega⟩ ⟨p.r.toNat, by have := hp.1; have := hp.2; omega⟩ ⟨r.toNat, by omega⟩
  have e1 : ((x.toNat : Nat) : Int) = x := by omega
  have e2 : ((p.r.toNat : Nat) : Int) = p.r := by have := hp.1; omega
  have e3 : ((r.toNat : Nat) : Int) = r := by omega
  simp only [e1, e2, e3] at h
  exact h h1 h2
theorem Ng.sub {r : Int} {bk bk' : List (Option Lst)} (h : Ng r bk) (hs : Subk bk bk') : Ng r bk' := by
  intro a b q hq
  obtain ⟨p, hp, e1, e2, e3, e4⟩ := hs a b q hq
  obtain ⟨⟨g1, g2, g3, g4, g5⟩, g6⟩ := h a b p hp
  unfold Rt at g5 ⊢
  rw [e1] at g1
  rw [e2] at g2
  rw [e3] at g3
  rw [e4] at g4 g5
  exact ⟨⟨g1, g2, g3, g4, g5⟩, g6⟩
theorem Ng.laid {r x : Int} (hr : 0 ≤ r ∧ r ≤ 15) {bk bk' : List (Option Lst)} (h : Ng r bk) {e s : Int} {p : Rc} (hp : atB bk e s = some p) (hok : okR x p = true) (hx : 0 ≤ x ∧ x ≤ 15) (hl : Laid bk bk' ⟨p.k, p.o, p.s, x, e, s⟩) : Ng r bk' := by
  obtain ⟨i, k, hf, hv⟩ := hl
  obtain ⟨a', b', _, rfl, rfl, _, _, _⟩ := atB_some hp
  obtain ⟨⟨g1, g2, g3, g4, g5⟩, _⟩ := h a' b' p hp
  obtain ⟨n1, n2⟩ := ng_bits hx g5 hr hok g4
  intro a b q hq
  rw [hv] at hq
  split at hq
  · cases hq
    exact ⟨⟨g1, g2, g3, n1, hx⟩, fun e => by rw [n2] at e; cases e⟩
  · exact h a b q hq
theorem Ng.step {r : Int} (hr : 0 ≤ r ∧ r ≤ 15) {o : Opr} {bk bk' : List (Option Lst)} {f : Int → Int → Nat} (h : Ng r bk) (hf : Rk bk f) (h48 : ∀ (i : Nat) (l : Lst), bk[i]? = some (some l) → l.length = 48) (hs : Step o bk bk') (hq : o.q ≠ 3) : Ng r bk' := by
  rcases hs.eff hf h48 hq with h1 | ⟨p, h1, h2, h3, h4, h5⟩
  · exact h.sub h1
  · exact h.laid hr h1 h2 ⟨h3, h4⟩ h5
theorem and_self16 : ∀ r : Fin 16, bits .and .i64 (r.val : Int) (r.val : Int) = (r.val : Int) := by decide
theorem Begun.ng {bk : List (Option Lst)} {r : Int} (hr : 0 ≤ r ∧ r ≤ 15) (h : Begun bk 2 3 11 r) : Ng r bk := by
  intro a b q hq
  rw [h.at0] at hq
  split at hq
  · rename_i e
    cases hq
    have h2 := and_self16 ⟨r.toNat, by omega⟩
    have e1 : ((r.toNat : Nat) : Int) = r := by omega
    simp only [e1] at h2
    exact ⟨⟨rfl, rfl, rfl, h2, hr⟩, fun _ => e⟩
  · cases hq
theorem Begun.snd {bk : List (Option Lst)} {k o s r : Int} (hr : 0 ≤ r ∧ r ≤ 15) (h : Begun bk k o s r) : Snd bk (fun _ _ => 0) := by
  intro e s q hq
  obtain ⟨a, b, _, rfl, rfl, _, _, _⟩ := atB_some hq
  rw [h.at0] at hq
  split at hq
  · cases hq; exact ⟨hr, .inl ⟨rfl, rfl⟩⟩
  · cases hq
theorem mem_hl {bk : List (Option Lst)} {n : Nat} {y : Int × (Nat × Rc)} (h : y ∈ hl bk n) : ∃ i : Nat, i < n ∧ y.1 = i ∧ atB bk (i : Int) (y.2.1 : Int) = some y.2.2 := by
  obtain ⟨i, hi, hy⟩ := List.mem_flatMap.1 h
  obtain ⟨x, hx, rfl⟩ := List.mem_map.1 hy
  refine ⟨i, List.mem_range.1 hi, rfl, ?_⟩
  have h2 := prs_mem.1 (show (x.1, x.2) ∈ _ from hx)
  unfold lf at h2
  cases hl : look bk (i : Int) with
  | none => rw [hl] at h2; simp at h2
  | some l =>
    rw [hl] at h2
    unfold atB
    rw [hl]
    show look l (x.1 : Int) = some x.2
    rw [look_nat]
    simp at h2
    rw [h2]; rfl
theorem Ng.one {r : Int} {bk : List (Option Lst)} (h : Ng r bk) (hr : (bits .and .i64 r 4 == 0) = true) : ∀ n, (hl bk n).length ≤ 1 := by
  have h0 : ∀ i, 0 < i → prs (lf bk i) 0 = [] := by
    intro i hi
    refine List.eq_nil_iff_forall_not_mem.2 fun x hx => ?_
    have hm : ((i : Int), x) ∈ hl bk (i + 1) := by rw [hl_succ]; exact List.mem_append_right _ (List.mem_map.2 ⟨x, hx, rfl⟩)
    obtain ⟨j, _, e1, e2⟩ := mem_hl hm
    obtain rfl : i = j := by have e2 : (i : Int) = j := e1; omega
    have := (h i x.1 x.2 e2).2 hr
    omega
  have h1 : (prs (lf bk 0) 0).length ≤ 1 := by
    have hs := prsL_sorted (lf bk 0) 0
    have hz : ∀ x ∈ prs (lf bk 0) 0, x.1 = 0 := by
      intro x hx
      have hm : ((0 : Int), x) ∈ hl bk 1 := by rw [hl_succ]; exact List.mem_append_right _ (List.mem_map.2 ⟨x, hx, rfl⟩)
      obtain ⟨j, _, e1, e2⟩ := mem_hl hm
      obtain rfl : 0 = j := by simp at e1; omega
      exact ((h 0 x.1 x.2 e2).2 hr).2
    have e : prs (lf bk 0) 0 = prsL 0 (lf bk 0) := rfl
    rw [e] at hz ⊢
    match hq : prsL 0 (lf bk 0) with
    | [] => simp
    | [x] => simp
    | x :: y :: t =>
      rw [hq] at hs hz
      have h2 := (List.pairwise_cons.1 hs).1 y (by simp)
      have h3 := hz x (by simp)
      have h4 := hz y (by simp)
      omega
  intro n
  cases n with
  | zero => simp [hl]
  | succ n =>
    have : ∀ n, hl bk (n + 1) = hl bk 1 := by
      intro n
      induction n with
      | zero => rfl
      | succ n ih => rw [hl_succ, ih, h0 (n + 1) (by omega)]; simp
    rw [this]
    simpa [hl] using h1
/-- the first Derive of CapsNeverGrow -/
theorem derive_ng {bk bk' : List (Option Lst)} {r v c : Int} (hr : 0 ≤ r ∧ r ≤ 15) (h : Begun bk 2 3 11 r) (h48 : ∀ (i : Nat) (l : Lst), bk[i]? = some (some l) → l.length = 48) (hD : DeriveR bk 0 0 1 (-1) r v c bk') :
    ((bits .and .i64 r 4 == 0) = true ∧ v = -1 ∧ c = 81 ∨ (bits .and .i64 r 4 == 0) = false ∧ v = 0 ∧ c = 0) ∧ Ng r bk' ∧ ∃ f, Snd bk' f := by
  have h0 : atB bk 0 0 = some ⟨2, 3, 11, r, -1, -1⟩ := by have := h.at0 0 0; simpa using this
  obtain ⟨l0, hl0, hlk⟩ := look_len (i := 1) (by rw [h.four]; rfl)
  rw [show ((1 : Nat) : Int) = 1 from rfl] at hlk
  have hstep : Step ⟨4, 0, 0, 1, -1, r, 0, 0, 0, 0⟩ bk bk' := .derive rfl hD
  have hfin : Ng r bk' ∧ ∃ f, Snd bk' f := ⟨(h.ng hr).step hr (h.snd hr).rk h48 hstep (show (4 : Int) ≠ 3 by decide), hstep.snd (h.snd hr) h48⟩
  refine ⟨?_, hfin⟩
  rcases hD with ⟨h1, _⟩ | ⟨_, h1, _⟩ | ⟨_, _, h1, _⟩ | ⟨_, ⟨q, h1, h2⟩, _, _, rfl, rfl, _⟩ | ⟨i, l, l', q, hi, h3, h4, h5, _, _, h6, rfl⟩
  · rw [hlk] at h1; cases h1
  · rw [h0] at h1; cases h1
  · omega
  · rw [h0] at h1; cases h1
    refine .inl ⟨?_, rfl, rfl⟩
    cases hg : (bits .and .i64 r 4 == 0)
    · rw [okR_self r hr.1 hr.2 hg _ rfl] at h2; cases h2
    · rfl
  · obtain rfl : i = 1 := by omega
    rw [h0] at h4; cases h4
    have hg := (ng_bits hr (p := ⟨2, 3, 11, r, -1, -1⟩) hr hr h5 (((h.ng hr) 0 0 _ h0).1.2.2.2.1)).2
    refine .inr ⟨hg, ?_⟩
    rcases lay_view h3 (h48 1 l h3) h6 with ⟨p, hp, rfl, rfl, _, hlow, _, hsh, hat⟩ | ⟨_, _, _, h7⟩
    · have hp0 : p = 0 := by
        rcases Nat.eq_zero_or_pos p with e | e
        · exact e
        · refine (hlow (by omega) 0 e ?_).elim
          have := h.at0 1 0; simpa using this
      subst hp0
      exact ⟨rfl, rfl⟩
    · rcases h7 with ⟨_, h8⟩ | h8 | ⟨h8, _⟩
      · refine (h8 0 (by omega) ?_).elim
        have := h.at0 1 0; simpa using this
      · omega
      · omega
end Go.Proofs.Ytjpnjgbcmodnoaa

namespace Go.Proofs.Ytjpnjgbcmodnoaa
open Go.ChangeShapes Go.WideShapes Go.ChangeAt Go.RowKit Go.Deep
section
variable {H : Type} {enc : TypeId × Value → H} {P : Program} {w : World} {base : Nat} {spare : Nat → Bool} {held : Bool}
theorem int_cell {t : TypeId} {n : Nat} {v : Value} {y : DataW H × List MemPlace} (ht : P.underlying t = some (.int .i64)) (h : DataW.trod enc P w base spare held n t [v] = some y) : ∃ z : Int, v = .int .i64 z := by
  obtain ⟨z, h1, _⟩ := DataW.trod_int ht h
  exact ⟨z, by simpa using h1⟩
theorem open_ints {t e : TypeId} {fuel : Nat} {cs : List Value} {x : DataW H × List MemPlace} (ht : P.underlying t = some (.slice e)) (he : P.underlying e = some (.int .i64)) (ce : P.cellsOf e = 1)
    (h : DataW.trod enc P w base spare held fuel t cs = some x) : ∃ (a : Option Addr) (len cap : Nat) (I : Nat → Int), cs = [.slice a len cap] ∧ len ≤ maxLen ∧ IsInts' w a len I := by
  rcases open_slice1 ht ce h with ⟨rfl, _⟩ | ⟨a, len, cap, m, n, V, D, Pl, rfl, hb, hl, hm, hmm, rfl, hx⟩
  · exact ⟨none, 0, 0, fun _ => 0, rfl, Nat.zero_le _, fun k hk => by omega⟩
  have hlm : len ≤ m := by rw [hmm]; split <;> omega
  have each : ∀ i, i < len → ∃ z : Int, V i = .int .i64 z := fun i hi => int_cell he (hx i (by omega)).2
  obtain ⟨Z, hZ⟩ := choose_lt each
  refine ⟨some a, len, cap, Z, rfl, Nat.le_trans hl hm, fun k hk => ⟨a, rfl, ?_⟩⟩
  rw [(hx k (by omega)).1, hZ k hk]
end
end Go.Proofs.Ytjpnjgbcmodnoaa

namespace Go.Proofs.Ytjpnjgbcmodnoaa
open Go.ChangeShapes Go.WideShapes Go.ChangeAt Go.RowKit Go.Deep

/-- a step that came in, with what 'play' does not ask -/
structure Ov where
  o : Opr
  two : Bool
  ia : Option Addr
  il : Nat
  ic : Nat
def Ov.cells (v : Ov) : List Value := [.bool v.two, .int .i64 v.o.q, .int .i64 v.o.e, .int .i64 v.o.s, .int .i64 v.o.t, .int .i64 v.o.a, .int .i64 v.o.r, .int .i64 v.o.ck, .int .i64 v.o.co, .int .i64 v.o.cs, .int .i64 v.o.cr, .slice v.ia v.il v.ic]
def Ov.nil : Ov := ⟨⟨0, 0, 0, 0, 0, 0, 0, 0, 0, 0⟩, false, none, 0, 0⟩
theorem ov_len (v : Ov) : v.cells.length = 12 := rfl
theorem ov_one (v : Ov) : ∀ u ∈ v.cells, u.oneCell' = true := by
  intro u hu
  simp [Ov.cells] at hu
  rcases hu with rfl | rfl | rfl | rfl | rfl | rfl | rfl | rfl | rfl | rfl | rfl | rfl <;> rfl
theorem ov_val (v : Ov) : .agg v.cells.toArray = v.o.val v.two (.slice v.ia v.il v.ic) := rfl
theorem infoOp : (Try.prog.info? 30).map (·.size) = some 12 := by kernel_rfl
/-- a step of the law's own -/
structure Ob (w : World) (N : Nat) (o : Ov) : Prop where
  out : w.heap[N]? = some (.cells o.cells.toArray 30 (0, 0))
section
variable {w w' wr : World} {N : Nat} {o : Ov}
theorem Ob.get (h : Ob w N o) {j : Nat} {v : Value} (hv : o.cells[j]? = some v) : w.cell? ⟨N, j, none⟩ = some v := by
  rw [cell_of_row _ _ _ _ _ _ h.out]; simpa using hv
theorem Ob.lt (h : Ob w N o) : N < w.heap.size := (Array.getElem?_eq_some_iff.1 h.out).1
theorem Ob.up (h : Ob w N o) (hb : Below w.heap.size w w') : Ob w' N o := ⟨by rw [hb.block N h.lt]; exact h.out⟩
theorem Ob.mod (h : Ob w N o) {F : Nat → Prop} (hm : Mod F w w') (hF : ¬ F N) : Ob w' N o := ⟨by rw [hm.block N h.lt hF]; exact h.out⟩
theorem Ob.new (w : World) (o : Ov) : Ob (w.alloc (.cells o.cells.toArray 30)) w.heap.size o := ⟨heap_alloc_new _ _⟩
end
theorem heap_setCells_other (b k : Nat) (hk : k ≠ b) : ∀ (vs : List Value) (o : Nat) (w : World), (w.setCells b o vs).heap[k]? = w.heap[k]?
  | [], _, _ => rfl
  | v :: r, o, w => by
    rw [World.setCells, heap_setCells_other b k hk r (o + 1) _, heap_setCell_other _ _ _ _ hk]
theorem setCells_rest (b : Nat) : ∀ (vs : List Value) (o : Nat) (w : World), (w.setCells b o vs).os = w.os ∧ (w.setCells b o vs).tape = w.tape ∧ (w.setCells b o vs).output = w.output ∧ (w.setCells b o vs).heap.size = w.heap.size
  | [], _, _ => ⟨rfl, rfl, rfl, rfl⟩
  | v :: r, o, w => by
    obtain ⟨h1, h2, h3, h4⟩ := setCells_rest b r (o + 1) (w.setCell ⟨b, o, none⟩ v)
    rw [World.setCells]
    exact ⟨h1, h2, h3, by rw [h4]; simp [World.setCell]⟩
theorem heap_setCells (b t : Nat) : ∀ (vs : List Value) (o : Nat) (w : World) (cs : Array Value), w.heap[b]? = some (.cells cs t (0, 0)) →
    ∃ cs', (w.setCells b o vs).heap[b]? = some (.cells cs' t (0, 0)) ∧ cs'.size = cs.size ∧ ∀ j, j < cs.size → cs'[j]? = if o ≤ j ∧ j < o + vs.length then vs[j - o]? else cs[j]?
  | [], o, w, cs, h => ⟨cs, h, rfl, fun j _ => by rw [if_neg (by simp)]⟩
  | v :: r, o, w, cs, h => by
    obtain ⟨cs', h1, h2, h3⟩ := heap_setCells b t r (o + 1) (w.setCell ⟨b, o, none⟩ v) (cs.setIfInBounds o v) (heap_setCell_same w b o cs t v h)
    refine ⟨cs', by rw [World.setCells]; exact h1, by simpa using h2, fun j hj => ?_⟩
    rw [h3 j (by simpa using hj)]
    by_cases e : j = o
    · subst e
      rw [if_neg (by omega), if_pos (by simp)]
      simp [hj]
    · by_cases e2 : o + 1 ≤ j ∧ j < o + 1 + r.length
      · rw [if_pos e2, if_pos (by simp; omega)]
        rw [show j - o = (j - (o + 1)) + 1 by omega, List.getElem?_cons_succ]
      · rw [if_neg e2, if_neg (by simp; omega)]
        rw [Array.getElem?_setIfInBounds_ne (by omega)]
theorem Mod.setCells {F : Nat → Prop} {a w : World} (h : Mod F a w) {b : Nat} (hp : F b ∨ a.heap.size ≤ b) (o : Nat) (vs : List Value) : Mod F a (w.setCells b o vs) := by
  obtain ⟨h1, h2, h3, h4⟩ := setCells_rest b vs o w
  refine ⟨h1.trans h.os, h2.trans h.tape, h3.trans h.output, by rw [h4]; exact h.size, fun k hk hf => ?_⟩
  rw [heap_setCells_other b k (fun e => by subst e; rcases hp with hp | hp; exact hf hp; omega)]; exact h.block k hk hf
/-- a new step, and o laid into it -/
def freshO (w : World) (o : Ov) : World := (w.alloc (.cells Ov.nil.cells.toArray 30)).setCells w.heap.size 0 o.cells
theorem freshO_ob (w : World) (o : Ov) : Ob (freshO w o) w.heap.size o := by
  obtain ⟨cs', h1, h2, h3⟩ := heap_setCells w.heap.size 30 o.cells 0 _ _ (heap_alloc_new w (.cells Ov.nil.cells.toArray 30))
  have hs : Ov.nil.cells.toArray.size = 12 := rfl
  have hc : cs' = o.cells.toArray := by
    apply Array.ext_getElem?
    intro j
    by_cases hj : j < 12
    · rw [h3 j (by rw [hs]; exact hj), if_pos (by rw [ov_len]; omega)]; simp
    · rw [Array.getElem?_eq_none (by rw [h2, hs]; omega), Array.getElem?_eq_none (by simp [ov_len]; omega)]
  unfold freshO
  exact ⟨by rw [h1, hc]⟩
theorem freshO_below (w : World) (o : Ov) : Below w.heap.size w (freshO w o) := by
  have h := (Mod.refl (fun _ => False) w).alloc (.cells Ov.nil.cells.toArray 30)
  exact (h.setCells (b := w.heap.size) (.inr (Nat.le_refl _)) 0 o.cells).below (fun b hb => hb.elim) (Nat.le_refl _)
/-- a struct loaded out of whatever address -/
theorem loadOp {ops : Array Oper} {rest : List Oper} {op : Oper} {a : Act} {w : World} {Q : Exit → Act → World → Prop} (hw : Region.wanted op (yielded ops a.tmps) = true) (x : Operand) (ho : op.op = .load 30 x) (ad : Addr)
    (hx : a.eval x = .pointer (some ad)) (o : Ov) (hc : ∀ (j : Nat) (v : Value), o.cells[j]? = some v → w.cell? (ad.add j) = some v) (h : wpList Try.prog ops Q rest (a.put op.dst (.agg o.cells.toArray)) w) : wpList Try.prog ops Q (op :: rest) a w :=
  BigFrame.wpList_want hw fun _ hK => by
    have hl : (loadCells ad o.cells.length).run Try.prog w = .ok o.cells.toArray w := run_loadCells_list w ad o.cells hc
    have hv : (loadVar 30 ad).run Try.prog w = .ok (.agg o.cells.toArray) w := by
      cases hq : Try.prog.info? 30 with
      | none => have := infoOp; simp [hq] at this
      | some i =>
        have hs : i.size = o.cells.length := by have := infoOp; simp [hq] at this; rw [this, ov_len]
        have hagg : (isAgg 30).run Try.prog w = .ok true w := by
          unfold isAgg
          rw [Sem.run_bind, run_underlying Try.underlying30 w]
          simp
        simp [loadVar, Sem.run_bind, hagg, sizeOf, typeInfo, hq, hs, hl]
    unfold Oper.wp execOp
    simp only [ho, hx, Instr.loadAt, Instr.sureAddr, Sem.run_bind, Sem.run_pure, Result.andThen_ok, hv]
    exact hK _ _ h
theorem storeOp {ops : Array Oper} {rest : List Oper} {op : Oper} {a : Act} {w : World} {Q : Exit → Act → World → Prop} (hw : Region.wanted op (yielded ops a.tmps) = true) (x y : Operand) (ho : op.op = .store 30 x y) (N : Nat) (o q : Ov)
    (hx : a.eval x = .pointer (some ⟨N, 0, none⟩)) (hy : a.eval y = .agg o.cells.toArray) (hc : Ob w N q) (h : wpList Try.prog ops Q rest (a.put op.dst undef) (w.setCells N 0 o.cells)) : wpList Try.prog ops Q (op :: rest) a w :=
  BigFrame.wpList_want hw fun _ hK => wp_store_mid 30 x y ho N 0 o.cells.toArray hx hy (fun j hj => by
    rw [List.size_toArray, ov_len] at hj
    refine ⟨?_, frozen_of_row _ _ _ _ _ hc.out⟩
    rw [Nat.zero_add, hc.get (List.getElem?_eq_getElem (by rw [ov_len]; exact hj))]; rfl) (by rw [List.size_toArray, ov_len]; exact infoOp) (all_oneCell_toArray (ov_one o)) (hK _ _ h)
/-- steps that came in -/
def IsOps (w : World) (a : Option Addr) (len : Nat) (O : Nat → Ov) : Prop :=
  ∀ k, k < len → ∃ x, a = some x ∧ ∀ (j : Nat) (v : Value), (O k).cells[j]? = some v → w.cell? ((x.add (k * 12)).add j) = some v
theorem IsOps.below {w w' : World} {a : Option Addr} {len : Nat} {O : Nat → Ov} (h : IsOps w a len O) (hb : Below w.heap.size w w') : IsOps w' a len O := by
  intro k hk
  obtain ⟨x, h1, h2⟩ := h k hk
  refine ⟨x, h1, fun j v hv => ?_⟩
  have h3 := h2 j v hv
  rw [hb.cell (World.block_lt_of_cell? w _ h3)]; exact h3
section
variable {H : Type} {enc : TypeId × Value → H} {w : World} {base : Nat} {spare : Nat → Bool} {held : Bool}
theorem bool_cell {t : TypeId} {n : Nat} {v : Value} {y : DataW H × List MemPlace} (ht : Try.prog.underlying t = some .bool) (h : DataW.trod enc Try.prog w base spare held n t [v] = some y) : ∃ z : Bool, v = .bool z := by
  obtain ⟨z, h1, _⟩ := DataW.trod_bool ht h
  exact ⟨z, by simpa using h1⟩
theorem slice_cell {t e : TypeId} {n : Nat} {v : Value} {y : DataW H × List MemPlace} (ht : Try.prog.underlying t = some (.slice e)) (h : DataW.trod enc Try.prog w base spare held n t [v] = some y) : ∃ a l c, v = .slice a l c := by
  rcases open_slice ht h with ⟨h1, _⟩ | ⟨a, len, cap, m, k, D, Pl, h1, _⟩
  · exact ⟨_, _, _, by simpa using h1⟩
  · exact ⟨_, _, _, by simpa using h1⟩
set_option maxRecDepth 20000 in
theorem open_op {n : Nat} {cs : List Value} {y : DataW H × List MemPlace} (hl : cs.length = 12) (h : DataW.trod enc Try.prog w base spare held n 30 cs = some y) : ∃ o : Ov, cs = o.cells := by
  obtain ⟨xs, k, hk, hxy, _, hxl, hf⟩ := DataW.trod_struct Try.underlying30 h
  match xs, hxl with
  | [y0, y1, y2, y3, y4, y5, y6, y7, y8], _ =>
    have g0 := hf 0 _ rfl
    have g1 := hf 1 _ rfl
    have g2 := hf 2 _ rfl
    have g3 := hf 3 _ rfl
    have g4 := hf 4 _ rfl
    have g5 := hf 5 _ rfl
    have g6 := hf 6 _ rfl
    have g7 := hf 7 _ rfl
    have g8 := hf 8 _ rfl
    have e1 : Try.prog.cellsOf 3 = 1 := by kernel_rfl
    have e2 : Try.prog.cellsOf 4 = 1 := by kernel_rfl
    have e3 : Try.prog.cellsOf 26 = 4 := by kernel_rfl
    have e4 : Try.prog.cellsOf 28 = 1 := by kernel_rfl
    match cs, hl with
    | [v0, v1, v2, v3, v4, v5, v6, v7, v8, v9, va, vb], _ =>
      simp [e1, e2, e3, e4] at g0 g1 g2 g3 g4 g5 g6 g7 g8
      obtain ⟨b, rfl⟩ := bool_cell Try.underlying4 g0
      obtain ⟨z1, rfl⟩ := int_cell Try.underlying3 g1
      obtain ⟨z2, rfl⟩ := int_cell Try.underlying3 g2
      obtain ⟨z3, rfl⟩ := int_cell Try.underlying3 g3
      obtain ⟨z4, rfl⟩ := int_cell Try.underlying3 g4
      obtain ⟨z5, rfl⟩ := int_cell Try.underlying3 g5
      obtain ⟨z6, rfl⟩ := int_cell Try.underlying3 g6
      obtain ⟨a, l, c, rfl⟩ := slice_cell Try.underlying28 g8
      obtain ⟨xs, k, hk, hxy, _, hxl, hf⟩ := DataW.trod_struct Try.underlying26 g7
      match xs, hxl with
      | [y0, y1, y2, y3], _ =>
        have g0 := hf 0 _ rfl
        have g1 := hf 1 _ rfl
        have g2 := hf 2 _ rfl
        have g3 := hf 3 _ rfl
        simp [e1] at g0 g1 g2 g3
        obtain ⟨z7, rfl⟩ := int_cell Try.underlying3 g0
        obtain ⟨z8, rfl⟩ := int_cell Try.underlying3 g1
        obtain ⟨z9, rfl⟩ := int_cell Try.underlying3 g2
        obtain ⟨za, rfl⟩ := int_cell Try.underlying3 g3
        exact ⟨⟨⟨z1, z2, z3, z4, z5, z6, z7, z8, z9, za⟩, b, a, l, c⟩, rfl⟩
theorem open_ops {fuel : Nat} {cs : List Value} {x : DataW H × List MemPlace} (h : DataW.trod enc Try.prog w base spare held fuel 22 cs = some x) :
    ∃ (a : Option Addr) (len cap : Nat) (O : Nat → Ov), cs = [.slice a len cap] ∧ len ≤ maxLen ∧ IsOps w a len O := by
  rcases open_slice Try.underlying22 h with ⟨rfl, _⟩ | ⟨a, len, cap, m, n, D, Pl, rfl, hb, hl, hm, hmm, rfl, hx⟩
  · exact ⟨none, 0, 0, fun _ => Ov.nil, rfl, Nat.zero_le _, fun k hk => by omega⟩
  have hlm : len ≤ m := by rw [hmm]; split <;> omega
  have ce : Try.prog.cellsOf 30 = 12 := by kernel_rfl
  have each : ∀ i, i < len → ∃ o : Ov, ∀ (j : Nat) (v : Value), o.cells[j]? = some v → w.cell? ((a.add (i * 12)).add j) = some v := by
    intro i hi
    obtain ⟨cs', h1, h2⟩ := hx i (by omega)
    rw [ce] at h1
    obtain ⟨_, hlen, hcell⟩ := World.cells?_some h1
    obtain ⟨o, rfl⟩ := open_op hlen h2
    refine ⟨o, fun j v hv => ?_⟩
    have hj : j < 12 := by have := (List.getElem?_eq_some_iff.1 hv).1; rwa [ov_len] at this
    rw [hcell j hj]; exact hv
  haveI : Inhabited Ov := ⟨Ov.nil⟩
  obtain ⟨O, hO⟩ := choose_lt each
  exact ⟨some a, len, cap, O, rfl, Nat.le_trans hl hm, fun k hk => ⟨a, rfl, hO k hk⟩⟩
end
end Go.Proofs.Ytjpnjgbcmodnoaa

namespace Go.Proofs.Ytjpnjgbcmodnoaa
open Go.RowKit Go.Shelf

/-- a book of the law's own, with a fact on its lists that hangs on nothing else -/
structure SgAt (P : List (Option Lst) → Prop) (w wr : World) (B : Nat) (F : Nat → Prop) (bk : List (Option Lst)) (f : Int → Int → Nat) : Prop where
  book : Book wr F B bk
  inv : P bk
  snd : Snd bk f
  lo : ∀ b, F b → w.heap.size ≤ b
  bel : Below w.heap.size w wr
def Sg (P : List (Option Lst) → Prop) (w wr : World) (B : Nat) : Prop := ∃ F bk f, SgAt P w wr B F bk f
section
variable {P : List (Option Lst) → Prop} {w wr : World} {B : Nat}
theorem SgAt.turn {F F' : Nat → Prop} {bk bk' : List (Option Lst)} {f f' : Int → Int → Nat} (h : SgAt P w wr B F bk f) {w' : World} (hB : Book w' F' B bk') (hE : Ext F wr F' w') (hP : P bk') (hS : Snd bk' f') : SgAt P w w' B F' bk' f' := by
  refine ⟨hB, hP, hS, fun b hb => ?_, h.bel.trans (hE.mod.below h.lo h.bel.size)⟩
  rcases hE.new b hb with h1 | h1
  · exact h.lo b h1
  · exact Nat.le_trans h.bel.size h1
theorem Sg.bel (h : Sg P w wr B) : Below w.heap.size w wr := by obtain ⟨F, bk, f, h⟩ := h; exact h.bel
theorem Sg.below (h : Sg P w wr B) {w' : World} (hb : Below wr.heap.size wr w') : Sg P w w' B := by
  obtain ⟨F, bk, f, h⟩ := h
  exact ⟨F, bk, f, h.turn (h.book.below hb) (Ext.of_below hb) h.inv h.snd⟩
theorem Sg.play (h : Sg P w wr B) (o : Ov) (hst : ∀ bk f bk', Snd bk f → (∀ (i : Nat) (l : Lst), bk[i]? = some (some l) → l.length = 48) → P bk → Step o.o bk bk' → P bk') :
    Calls Try.prog 5 #[.pointer (some ⟨B, 0, none⟩), .agg o.cells.toArray] wr fun x w' => x = .returned (.tuple #[]) ∧ Sg P w w' B := by
  obtain ⟨F, bk, f, h⟩ := h
  rw [ov_val]
  refine (play_any wr F B bk h.book f h.snd.rk o.o o.two _).mono ?_
  rintro x w' ⟨rfl, bk', F', hB, hE, hS⟩
  have h48 : ∀ (i : Nat) (l : Lst), bk[i]? = some (some l) → l.length = 48 := fun i l hl => h.book.l48 hl
  obtain ⟨f', hf'⟩ := hS.snd h.snd h48
  exact ⟨rfl, F', bk', f', h.turn hB hE (hst bk f bk' h.snd h48 h.inv hS) hf'⟩
theorem Sg.all (h : Sg P w wr B) : Calls Try.prog 6 #[.pointer (some ⟨B, 0, none⟩)] wr fun x w' => ∃ v bk, x = .returned v ∧ w'.ownsRow wr.heap.size 38 6 v (hl bk 16).length (encA (hl bk 16)) ∧ Below wr.heap.size wr w' ∧ P bk ∧ (hl bk 16).length ≤ 768 ∧ ∃ F f, SgAt P w w' B F bk f := by
  obtain ⟨F, bk, f, h⟩ := h
  refine (all_any wr F B bk h.book).mono ?_
  rintro x w' ⟨v, rfl, hr, hb⟩
  exact ⟨v, bk, rfl, hr, hb, h.inv, hl_len h.book 16, F, f, h.turn (h.book.below hb) (Ext.of_below hb) h.inv h.snd⟩
end
theorem encA_len (l : List (Int × (Nat × Rc))) : (encA l).length = l.length * 6 := by
  induction l with
  | nil => rfl
  | cons x t ih => simp only [encA, List.flatMap_cons, List.length_append, List.length_cons] at ih ⊢; rw [ih]; simp [encH]; omega
theorem encA_at : ∀ {l : List (Int × (Nat × Rc))} {k : Nat} (hk : k < l.length) (j : Nat) (_ : j < 6), (encA l)[k * 6 + j]? = (encH l[k].1 l[k].2)[j]?
  | x :: t, 0, _, j, hj => by
    simp only [encA, List.flatMap_cons, Nat.zero_mul, Nat.zero_add, List.getElem_cons_zero]
    rw [List.getElem?_append_left (by simp [encH]; omega)]
  | x :: t, k + 1, hk, j, hj => by
    have := encA_at (l := t) (k := k) (by simpa using hk) j hj
    simp only [encA, List.flatMap_cons, List.getElem_cons_succ] at this ⊢
    rw [← this, List.getElem?_append_right (by simp [encH]; omega)]
    congr 1
    simp [encH]; omega
/-- a slice whose elements are these -/
def HeldAt (w : World) (v : Value) (l : List (Int × (Nat × Rc))) : Prop :=
  ∃ a c, v = .slice a l.length c ∧ ∀ k (hk : k < l.length), ∃ g, a = some ⟨g, 0, none⟩ ∧ g < w.heap.size ∧ w.cell? ⟨g, k * 6, none⟩ = some (.int .i64 l[k].1) ∧ w.cell? ⟨g, k * 6 + 1, none⟩ = some (.int .i64 (l[k].2.1 : Int)) ∧ w.cell? ⟨g, k * 6 + 2, none⟩ = some (.int .i64 l[k].2.2.k) ∧ w.cell? ⟨g, k * 6 + 3, none⟩ = some (.int .i64 l[k].2.2.o) ∧ w.cell? ⟨g, k * 6 + 4, none⟩ = some (.int .i64 l[k].2.2.s) ∧ w.cell? ⟨g, k * 6 + 5, none⟩ = some (.int .i64 l[k].2.2.r)
theorem HeldAt.below {w w' : World} {v : Value} {l : List (Int × (Nat × Rc))} (h : HeldAt w v l) (hb : Below w.heap.size w w') : HeldAt w' v l := by
  obtain ⟨a, c, rfl, h⟩ := h
  refine ⟨a, c, rfl, fun k hk => ?_⟩
  obtain ⟨g, h1, h2, h3, h4, h5, h6, h7, h8⟩ := h k hk
  have hc : ∀ j, w'.cell? ⟨g, j, none⟩ = w.cell? ⟨g, j, none⟩ := fun j => hb.cell h2
  exact ⟨g, h1, Nat.lt_of_lt_of_le h2 hb.size, by rw [hc]; exact h3, by rw [hc]; exact h4, by rw [hc]; exact h5, by rw [hc]; exact h6, by rw [hc]; exact h7, by rw [hc]; exact h8⟩
theorem HeldAt.of_row {w : World} {base : Nat} {v : Value} {l : List (Int × (Nat × Rc))} (h : w.ownsRow base 38 6 v l.length (encA l)) : HeldAt w v l := by
  obtain ⟨a, c, rfl⟩ := own_shape h
  refine ⟨a, c, rfl, fun k hk => ?_⟩
  have h' := h
  obtain ⟨_, ⟨h0, h00⟩ | ⟨g0, cap, cur, hv0, hgb, hg0, _⟩⟩ := h
  · omega
  · cases hv0
    have hq : ∀ j, j < 6 → w.cell? ⟨g0, k * 6 + j, none⟩ = (encH l[k].1 l[k].2)[j]? := fun j hj => by
      rw [h'.cellAt (k * 6 + j) (by omega), encA_at hk j hj]
    exact ⟨g0, rfl, (Array.getElem?_eq_some_iff.1 hg0).1, hq 0 (by omega), hq 1 (by omega), hq 2 (by omega), hq 3 (by omega), hq 4 (by omega), hq 5 (by omega)⟩
theorem Ob.setq {w : World} {N : Nat} {o : Ov} (h : Ob w N o) (z : Int) : Ob (w.setCell ⟨N, 1, none⟩ (.int .i64 z)) N { o with o := { o.o with q := z } } := by
  obtain ⟨⟨q, e, s, t, a, r, ck, co, cs, cr⟩, two, ia, il, ic⟩ := o
  refine ⟨?_⟩
  have h1 := heap_setCell_same _ N 1 _ _ (.int .i64 z) h.out
  rw [h1]
  rfl
end Go.Proofs.Ytjpnjgbcmodnoaa

namespace Go.Proofs.Ytjpnjgbcmodnoaa
open Go.RowKit Go.Shelf

/-- the first of these at a place -/
def fnd (e s : Int) (y : Int × (Nat × Rc)) : Bool := decide (y.1 = e) && decide ((y.2.1 : Int) = s)
set_option maxRecDepth 8000 in
set_option maxHeartbeats 4000000 in
theorem hasH_any (w : World) (v : Value) (l : List (Int × (Nat × Rc))) (h : HeldAt w v l) (hn : l.length ≤ 768) (e s : Int) :
    Calls Try.prog 10 #[v, .agg #[.int .i64 e, .int .i64 s]] w fun x w' => ((∃ y, l.find? (fnd e s) = some y ∧ x = .returned (.tuple #[.agg #[.int .i64 y.1, .int .i64 (y.2.1 : Int), .int .i64 y.2.2.k, .int .i64 y.2.2.o, .int .i64 y.2.2.s, .int .i64 y.2.2.r], .bool true])) ∨
      (l.find? (fnd e s) = none ∧ x = .returned (.tuple #[.agg #[.int .i64 0, .int .i64 0, .int .i64 0, .int .i64 0, .int .i64 0, .int .i64 0], .bool false]))) ∧ Below w.heap.size w w' := by
  obtain ⟨a, c, rfl, hc⟩ := h
  obtain ⟨W, hW⟩ : ∃ W, W = (w.alloc (.cells #[.int .i64 e, .int .i64 s] 45)).alloc (.cells #[.int .i64 0, .int .i64 0, .int .i64 0, .int .i64 0, .int .i64 0, .int .i64 0] 38) := ⟨_, rfl⟩
  have hb0 := ((Below.refl w.heap.size w).alloc (Nat.le_refl _) (.cells #[.int .i64 e, .int .i64 s] 45))
  have hp0 := heap_alloc_new w (.cells #[.int .i64 e, .int .i64 s] 45)
  have hb1 := hb0.alloc hb0.size (.cells #[.int .i64 0, .int .i64 0, .int .i64 0, .int .i64 0, .int .i64 0, .int .i64 0] 38)
  have hp := (Below.heap_alloc (w.alloc (.cells #[.int .i64 e, .int .i64 s] 45)) (.cells #[.int .i64 0, .int .i64 0, .int .i64 0, .int .i64 0, .int .i64 0, .int .i64 0] 38) w.heap.size (by simp)).trans hp0
  have hR := heap_alloc_new (w.alloc (.cells #[.int .i64 e, .int .i64 s] 45)) (.cells #[.int .i64 0, .int .i64 0, .int .i64 0, .int .i64 0, .int .i64 0, .int .i64 0] 38)
  rw [← hW] at hp hR hb1
  have hsz : (w.alloc (.cells #[.int .i64 e, .int .i64 s] 45)).heap.size = w.heap.size + 1 := by simp
  rw [hsz] at hR
  have HW := hide hW
  have HC : Hid (∀ wr, Below W.heap.size W wr → Below w.heap.size w wr ∧ wr.heap[w.heap.size]? = some (.cells #[.int .i64 e, .int .i64 s] 45 (0, 0)) ∧ wr.heap[w.heap.size + 1]? = some (.cells #[.int .i64 0, .int .i64 0, .int .i64 0, .int .i64 0, .int .i64 0, .int .i64 0] 38 (0, 0)) ∧ ∀ k (hk : k < l.length), ∃ g, a = some ⟨g, 0, none⟩ ∧ wr.cell? ⟨g, k * 6, none⟩ = some (.int .i64 l[k].1) ∧ wr.cell? ⟨g, k * 6 + 1, none⟩ = some (.int .i64 (l[k].2.1 : Int)) ∧ wr.cell? ⟨g, k * 6 + 2, none⟩ = some (.int .i64 l[k].2.2.k) ∧ wr.cell? ⟨g, k * 6 + 3, none⟩ = some (.int .i64 l[k].2.2.o) ∧ wr.cell? ⟨g, k * 6 + 4, none⟩ = some (.int .i64 l[k].2.2.s) ∧ wr.cell? ⟨g, k * 6 + 5, none⟩ = some (.int .i64 l[k].2.2.r)) := by
    refine hide fun wr hbr => ?_
    have hbw := hb1.trans (hbr.mono hb1.size)
    refine ⟨hbw, (hbr.block _ (Array.getElem?_eq_some_iff.1 hp).1).trans hp, (hbr.block _ (Array.getElem?_eq_some_iff.1 hR).1).trans hR, fun k hk => ?_⟩
    obtain ⟨g, h1, h2, h3, h4, h5, h6, h7, h8⟩ := hc k hk
    have hq : ∀ j, wr.cell? ⟨g, j, none⟩ = w.cell? ⟨g, j, none⟩ := fun j => hbw.cell h2
    exact ⟨g, h1, by rw [hq]; exact h3, by rw [hq]; exact h4, by rw [hq]; exact h5, by rw [hq]; exact h6, by rw [hq]; exact h7, by rw [hq]; exact h8⟩
  clear hc hb0 hp0 hb1 hp hR hW hsz
  obtain ⟨L, hL⟩ : ∃ L, l.length = L := ⟨_, rfl⟩
  rw [hL] at hn
  rw [hL]
  have HL := hide hL
  clear hL
  go_enter Try.func10, Try.ntmps10
  go_upto_region 1 with fail
  rw [← HW.out]
  go_wp2_with fail
  go_loopw [6] (fun x wr => ∃ k : Nat, k ≤ L ∧ x = .int .i64 (k : Int) ∧ Hid ((l.take k).find? (fnd e s) = none) ∧ Hid (Below W.heap.size W wr)) (fun x _ => L - (intOf x).toNat)
  case atStart => exact ⟨0, by omega, rfl, hide rfl, Below.refl _ _⟩
  case round =>
  obtain ⟨k, hk, rfl, K1, K2⟩ := hrel
  obtain ⟨hbw, hp, hR, hq⟩ := HC.out wr K2.out
  have HB := hide hbw
  have p0 : wr.cell? ⟨w.heap.size, 0, none⟩ = some (.int .i64 e) := by rw [cell_of_row _ _ _ _ _ _ hp]; rfl
  have p1 : wr.cell? ⟨w.heap.size, 1, none⟩ = some (.int .i64 s) := by rw [cell_of_row _ _ _ _ _ _ hp]; rfl
  clear hp hbw
  by_cases hlt : k < L
  · have hlt' : k < l.length := by rw [HL.out]; exact hlt
    obtain ⟨g, rfl, q0, q1, q2, q3, q4, q5⟩ := hq k hlt'
    clear hq
    have hkl : (k : Int) < (L : Int) := by omega
    have hwk : k * 6 + 5 < L * 6 := by omega
    have HT : Hid ((l.take (k + 1)).find? (fnd e s) = if fnd e s l[k] then some l[k] else none) := by
      refine hide ?_
      rw [List.take_add_one, List.getElem?_eq_getElem hlt', List.find?_append, K1.out]
      cases hq : fnd e s l[k] <;> simp [hq]
    have HF : Hid (fnd e s l[k] = true → l.find? (fnd e s) = some l[k]) := by
      refine hide fun hq => ?_
      have e1 : l.find? (fnd e s) = (l.take (k + 1) ++ l.drop (k + 1)).find? (fnd e s) := by rw [List.take_append_drop]
      rw [e1, List.find?_append, HT.out, hq]
      simp
    generalize l[k] = y at *
    by_cases c1 : y.1 = e
    · have k1 : (y.1 == e) = true := by simp [c1]
      by_cases c2 : (y.2.1 : Int) = s
      · have k2 : ((y.2.1 : Int) == s) = true := by simp [c2]
        have L1 := hide (HF.out (by simp [fnd, c1, c2]))
        have HB' := hide (fun a b c d e f => below_six HB.out (show w.heap.size ≤ w.heap.size + 1 by omega) a b c d e f)
        have hd1 : decide (y.1 = e) = true := by simp [c1]
        have hd2 : decide ((y.2.1 : Int) = s) = true := by simp [c2]
        have HR := hide hR
        clear HT HF K1 HC HL hR K2 c1 c2
        go_upto_region 4 with fail
        go_quiet (fail)
        have HB2 := hide (below_drewN HB.out nq)
        have hR2 : (wr.drewN nq).heap[w.heap.size + 1]? = some (.cells #[.int .i64 0, .int .i64 0, .int .i64 0, .int .i64 0, .int .i64 0, .int .i64 0] 38 (0, 0)) := HR.out
        have q0' : (wr.drewN nq).cell? ⟨g, k * 6, none⟩ = some (.int .i64 y.1) := q0
        have q1' : (wr.drewN nq).cell? ⟨g, k * 6 + 1, none⟩ = some (.int .i64 (y.2.1 : Int)) := q1
        have q2' : (wr.drewN nq).cell? ⟨g, k * 6 + 2, none⟩ = some (.int .i64 y.2.2.k) := q2
        have q3' : (wr.drewN nq).cell? ⟨g, k * 6 + 3, none⟩ = some (.int .i64 y.2.2.o) := q3
        have q4' : (wr.drewN nq).cell? ⟨g, k * 6 + 4, none⟩ = some (.int .i64 y.2.2.s) := q4
        have q5' : (wr.drewN nq).cell? ⟨g, k * 6 + 5, none⟩ = some (.int .i64 y.2.2.r) := q5
        clear q0 q1 q2 q3 q4 q5 HB HR p0 p1 HB'
        generalize wr.drewN nq = wr2 at *
        have HS := hide (fun a b c d e f => set6 hR2 a b c d e f)
        obtain ⟨d0, d1, d2, d3, d4, d5, f0, f1, f2, f3, f4, f5⟩ := blk6 hR2
        have HB' := hide (fun a b c d e f => below_six HB2.out (show w.heap.size ≤ w.heap.size + 1 by omega) a b c d e f)
        clear hR2 HB2
        go_wp2
        refine bodyPost_ret (results_row2 rfl _ _ (w.heap.size + 1) 38 #[.int .i64 y.1, .int .i64 (y.2.1 : Int), .int .i64 y.2.2.k, .int .i64 y.2.2.o, .int .i64 y.2.2.s, .int .i64 y.2.2.r] (0, 0) _ rfl (HS.out _ _ _ _ _ _) Try.underlying38 rfl (by kernel_rfl)) rfl ?_
        exact ⟨.inl ⟨y, L1.out, rfl⟩, HB'.out _ _ _ _ _ _⟩
      · have k2 : ((y.2.1 : Int) == s) = false := by simp [c2]
        have L1 : Hid ((l.take (k + 1)).find? (fnd e s) = none) := by
          refine hide ?_
          rw [HT.out]; simp [fnd, c2]
        have L2' := hide (fun n => below_drewN K2.out n)
        have hd1 : decide (y.1 = e) = true := by simp [c1]
        have hd2 : decide ((y.2.1 : Int) = s) = false := by simp [c2]
        clear HT HF K1 HC HL hR K2 c1 c2
        go_upto_region 4 with fail
        go_quiet (fail)
        have L2 := hide (L2'.out nq)
        go_wp2
        go_roundw
        case rel =>
          first
            | exact ⟨k + 1, by omega, by go_num, L1, L2⟩
            | ((repeat apply Exists.intro); refine ⟨?_, rfl⟩; exact ⟨k + 1, by omega, by go_num, L1, L2⟩)
        case measure => simp [intOf]; omega
    · have k1 : (y.1 == e) = false := by simp [c1]
      have L1 : Hid ((l.take (k + 1)).find? (fnd e s) = none) := by
        refine hide ?_
        rw [HT.out]; simp [fnd, c1]
      have L2' := hide (fun n => below_drewN K2.out n)
      have hd1 : decide (y.1 = e) = false := by simp [c1]
      clear HT HF K1 HC HL hR K2 c1
      go_upto_region 4 with fail
      go_quiet (fail)
      have L2 := hide (L2'.out nq)
      go_wp2
      go_roundw
      case rel =>
        first
          | exact ⟨k + 1, by omega, by go_num, L1, L2⟩
          | ((repeat apply Exists.intro); refine ⟨?_, rfl⟩; exact ⟨k + 1, by omega, by go_num, L1, L2⟩)
      case measure => simp [intOf]; omega
  · have hd : decide ((k : Int) < (L : Int)) = false := by simp; omega
    have L1 : Hid (l.find? (fnd e s) = none) := by
      have h1 := K1.out
      rw [List.take_of_length_le (by rw [HL.out]; omega)] at h1
      exact hide h1
    have HB' := hide (fun a b c d e f => below_six HB.out (show w.heap.size ≤ w.heap.size + 1 by omega) a b c d e f)
    have HS := hide (fun a b c d e f => set6 hR a b c d e f)
    obtain ⟨d0, d1, d2, d3, d4, d5, f0, f1, f2, f3, f4, f5⟩ := blk6 hR
    clear K1 HC HL hR
    go_wp2
    refine bodyPost_ret (results_row2 rfl _ _ (w.heap.size + 1) 38 #[.int .i64 0, .int .i64 0, .int .i64 0, .int .i64 0, .int .i64 0, .int .i64 0] (0, 0) _ rfl (HS.out _ _ _ _ _ _) Try.underlying38 rfl (by kernel_rfl)) rfl ?_
    exact ⟨.inr ⟨L1.out, rfl⟩, HB'.out _ _ _ _ _ _⟩
end Go.Proofs.Ytjpnjgbcmodnoaa
