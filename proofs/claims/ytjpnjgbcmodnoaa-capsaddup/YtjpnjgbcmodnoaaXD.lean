import Derived.Test.YtjpnjgbcmodnoaaXC
namespace Go.Proofs.Ytjpnjgbcmodnoaa
open Go.RowKit Go.Shelf

/-- a step that may change something -/
structure Opr where
  q : Int
  e : Int
  s : Int
  t : Int
  a : Int
  r : Int
  ck : Int
  co : Int
  cs : Int
  cr : Int
def Opr.val (o : Opr) (two : Bool) (ins : Value) : Value := .agg #[.bool two, .int .i64 o.q, .int .i64 o.e, .int .i64 o.s, .int .i64 o.t, .int .i64 o.a, .int .i64 o.r, .int .i64 o.ck, .int .i64 o.co, .int .i64 o.cs, .int .i64 o.cr, ins]
def Step (o : Opr) (bk : List (Option Lst)) : List (Option Lst) → Prop := fun z0 => ∀ M : List (Option Lst) → Prop, ((∀ k : Nat, 1 ≤ k → k ≤ 7 → o.q ≠ k) → M bk) → (∀ {c : Int} {bk' : List (Option Lst)}, o.q = 1 → OpenR bk o.e c bk' → M bk') → (o.q = 2 → look bk o.e = .none → M bk) → (∀ {i : Nat} {l : Lst} {bk' : List (Option Lst)}, o.q = 2 → o.e = i → bk[i]? = some (some l) → Drops (plc i (prs l 0)) bk bk' → M (bk'.set i .none)) → (∀ {v c : Int} {bk' : List (Option Lst)}, o.q = 3 → MintR bk o.e o.a o.ck o.co o.cs o.cr v c bk' → M bk') → (∀ {v c : Int} {bk' : List (Option Lst)}, o.q = 4 → DeriveR bk o.e o.s o.t o.a o.r v c bk' → M bk') → (o.q = 5 → atB bk o.e o.s = .none → M bk) → (∀ {i j : Nat} {r : Rc} {bk' : List (Option Lst)}, o.q = 5 → o.e = i → o.s = j → atB bk (i : Int) (j : Int) = some r → DropR bk i j r bk' → M bk') → (o.q = 6 → atB bk o.e o.s = .none → M bk) → (∀ {i j : Nat} {r : Rc} {n : Nat} {ps : List (Nat × Nat)}, o.q = 6 → o.e = i → o.s = j → atB bk (i : Int) (j : Int) = some r → Dep n bk (i, j) → ps.Pairwise PLt → List.Perm ps (bel n bk (i, j)) → M (rmv bk ps)) → (o.q = 7 → M (rmv bk (pls (fun r => decide (r.k = o.ck) && decide (r.o = o.co)) bk))) → M z0
theorem Step.none {o : Opr} {bk : List (Option Lst)} (h0 : (∀ k : Nat, 1 ≤ k → k ≤ 7 → o.q ≠ k)) : Step o bk bk := fun _ c0 _ _ _ _ _ _ _ _ _ _ => c0 h0
theorem Step.opn {o : Opr} {bk : List (Option Lst)} {c : Int} {bk' : List (Option Lst)} (h0 : o.q = 1) (h1 : OpenR bk o.e c bk') : Step o bk bk' := fun _ _ c1 _ _ _ _ _ _ _ _ _ => c1 h0 h1
theorem Step.shut0 {o : Opr} {bk : List (Option Lst)} (h0 : o.q = 2) (h1 : look bk o.e = .none) : Step o bk bk := fun _ _ _ c2 _ _ _ _ _ _ _ _ => c2 h0 h1
theorem Step.shut {o : Opr} {bk : List (Option Lst)} {i : Nat} {l : Lst} {bk' : List (Option Lst)} (h0 : o.q = 2) (h1 : o.e = i) (h2 : bk[i]? = some (some l)) (h3 : Drops (plc i (prs l 0)) bk bk') : Step o bk (bk'.set i .none) := fun _ _ _ _ c3 _ _ _ _ _ _ _ => c3 h0 h1 h2 h3
theorem Step.mint {o : Opr} {bk : List (Option Lst)} {v c : Int} {bk' : List (Option Lst)} (h0 : o.q = 3) (h1 : MintR bk o.e o.a o.ck o.co o.cs o.cr v c bk') : Step o bk bk' := fun _ _ _ _ _ c4 _ _ _ _ _ _ => c4 h0 h1
theorem Step.derive {o : Opr} {bk : List (Option Lst)} {v c : Int} {bk' : List (Option Lst)} (h0 : o.q = 4) (h1 : DeriveR bk o.e o.s o.t o.a o.r v c bk') : Step o bk bk' := fun _ _ _ _ _ _ c5 _ _ _ _ _ => c5 h0 h1
theorem Step.drop0 {o : Opr} {bk : List (Option Lst)} (h0 : o.q = 5) (h1 : atB bk o.e o.s = .none) : Step o bk bk := fun _ _ _ _ _ _ _ c6 _ _ _ _ => c6 h0 h1
theorem Step.drop {o : Opr} {bk : List (Option Lst)} {i j : Nat} {r : Rc} {bk' : List (Option Lst)} (h0 : o.q = 5) (h1 : o.e = i) (h2 : o.s = j) (h3 : atB bk (i : Int) (j : Int) = some r) (h4 : DropR bk i j r bk') : Step o bk bk' := fun _ _ _ _ _ _ _ _ c7 _ _ _ => c7 h0 h1 h2 h3 h4
theorem Step.revoke0 {o : Opr} {bk : List (Option Lst)} (h0 : o.q = 6) (h1 : atB bk o.e o.s = .none) : Step o bk bk := fun _ _ _ _ _ _ _ _ _ c8 _ _ => c8 h0 h1
theorem Step.revoke {o : Opr} {bk : List (Option Lst)} {i j : Nat} {r : Rc} {n : Nat} {ps : List (Nat × Nat)} (h0 : o.q = 6) (h1 : o.e = i) (h2 : o.s = j) (h3 : atB bk (i : Int) (j : Int) = some r) (h4 : Dep n bk (i, j)) (h5 : ps.Pairwise PLt) (h6 : List.Perm ps (bel n bk (i, j))) : Step o bk (rmv bk ps) := fun _ _ _ _ _ _ _ _ _ _ c9 _ => c9 h0 h1 h2 h3 h4 h5 h6
theorem Step.purge {o : Opr} {bk : List (Option Lst)} (h0 : o.q = 7) : Step o bk (rmv bk (pls (fun r => decide (r.k = o.ck) && decide (r.o = o.co)) bk)) := fun _ _ _ _ _ _ _ _ _ _ _ c10 => c10 h0
theorem Step.ind {o : Opr} {bk : List (Option Lst)} {motive : ∀ (z0 : List (Option Lst)), Step o bk z0 → Prop} (none : ∀ (h0 : (∀ k : Nat, 1 ≤ k → k ≤ 7 → o.q ≠ k)), motive bk (Step.none h0)) (opn : ∀ {c : Int} {bk' : List (Option Lst)} (h0 : o.q = 1) (h1 : OpenR bk o.e c bk'), motive bk' (Step.opn h0 h1)) (shut0 : ∀ (h0 : o.q = 2) (h1 : look bk o.e = .none), motive bk (Step.shut0 h0 h1)) (shut : ∀ {i : Nat} {l : Lst} {bk' : List (Option Lst)} (h0 : o.q = 2) (h1 : o.e = i) (h2 : bk[i]? = some (some l)) (h3 : Drops (plc i (prs l 0)) bk bk'), motive (bk'.set i .none) (Step.shut h0 h1 h2 h3)) (mint : ∀ {v c : Int} {bk' : List (Option Lst)} (h0 : o.q = 3) (h1 : MintR bk o.e o.a o.ck o.co o.cs o.cr v c bk'), motive bk' (Step.mint h0 h1)) (derive : ∀ {v c : Int} {bk' : List (Option Lst)} (h0 : o.q = 4) (h1 : DeriveR bk o.e o.s o.t o.a o.r v c bk'), motive bk' (Step.derive h0 h1)) (drop0 : ∀ (h0 : o.q = 5) (h1 : atB bk o.e o.s = .none), motive bk (Step.drop0 h0 h1)) (drop : ∀ {i j : Nat} {r : Rc} {bk' : List (Option Lst)} (h0 : o.q = 5) (h1 : o.e = i) (h2 : o.s = j) (h3 : atB bk (i : Int) (j : Int) = some r) (h4 : DropR bk i j r bk'), motive bk' (Step.drop h0 h1 h2 h3 h4)) (revoke0 : ∀ (h0 : o.q = 6) (h1 : atB bk o.e o.s = .none), motive bk (Step.revoke0 h0 h1)) (revoke : ∀ {i j : Nat} {r : Rc} {n : Nat} {ps : List (Nat × Nat)} (h0 : o.q = 6) (h1 : o.e = i) (h2 : o.s = j) (h3 : atB bk (i : Int) (j : Int) = some r) (h4 : Dep n bk (i, j)) (h5 : ps.Pairwise PLt) (h6 : List.Perm ps (bel n bk (i, j))), motive (rmv bk ps) (Step.revoke h0 h1 h2 h3 h4 h5 h6)) (purge : ∀ (h0 : o.q = 7), motive (rmv bk (pls (fun r => decide (r.k = o.ck) && decide (r.o = o.co)) bk)) (Step.purge h0)) {z0 : List (Option Lst)} (h : Step o bk z0) : motive z0 h := by
  refine Exists.elim (h (fun z0 => ∃ h : Step o bk z0, motive z0 h) ?_ ?_ ?_ ?_ ?_ ?_ ?_ ?_ ?_ ?_ ?_) (fun _ p => p)
  · rintro h0; exact ⟨Step.none h0, none h0⟩
  · rintro c bk' h0 h1; exact ⟨Step.opn h0 h1, opn h0 h1⟩
  · rintro h0 h1; exact ⟨Step.shut0 h0 h1, shut0 h0 h1⟩
  · rintro i l bk' h0 h1 h2 h3; exact ⟨Step.shut h0 h1 h2 h3, shut h0 h1 h2 h3⟩
  · rintro v c bk' h0 h1; exact ⟨Step.mint h0 h1, mint h0 h1⟩
  · rintro v c bk' h0 h1; exact ⟨Step.derive h0 h1, derive h0 h1⟩
  · rintro h0 h1; exact ⟨Step.drop0 h0 h1, drop0 h0 h1⟩
  · rintro i j r bk' h0 h1 h2 h3 h4; exact ⟨Step.drop h0 h1 h2 h3 h4, drop h0 h1 h2 h3 h4⟩
  · rintro h0 h1; exact ⟨Step.revoke0 h0 h1, revoke0 h0 h1⟩
  · rintro i j r n ps h0 h1 h2 h3 h4 h5 h6; exact ⟨Step.revoke h0 h1 h2 h3 h4 h5 h6, revoke h0 h1 h2 h3 h4 h5 h6⟩
  · rintro h0; exact ⟨Step.purge h0, purge h0⟩
theorem look_open {bk : List (Option Lst)} {e : Int} {l : Lst} (h : look bk e = some l) : ∃ i : Nat, e = i ∧ bk[i]? = some (some l) := by
  unfold look at h
  split at h
  · cases h
  · refine ⟨e.toNat, by omega, ?_⟩
    cases hb : bk[e.toNat]? with
    | none => rw [hb] at h; cases h
    | some o => rw [hb] at h; simp at h; rw [h]
theorem cells12 {w : World} {b : Nat} {x0 x1 x2 x3 x4 x5 x6 x7 x8 x9 xa xb : Value} {t : TypeId} (h : w.heap[b]? = some (.cells #[x0, x1, x2, x3, x4, x5, x6, x7, x8, x9, xa, xb] t (0, 0))) :
    w.cell? ⟨b, 1, none⟩ = some x1 ∧ w.cell? ⟨b, 2, none⟩ = some x2 ∧ w.cell? ⟨b, 3, none⟩ = some x3 ∧ w.cell? ⟨b, 4, none⟩ = some x4 ∧ w.cell? ⟨b, 5, none⟩ = some x5 ∧ w.cell? ⟨b, 6, none⟩ = some x6 ∧ w.cell? ⟨b, 7, none⟩ = some x7 ∧ w.cell? ⟨b, 8, none⟩ = some x8 ∧ w.cell? ⟨b, 9, none⟩ = some x9 ∧ w.cell? ⟨b, 10, none⟩ = some xa := by
  simp [World.cell?, h]
set_option maxHeartbeats 8000000 in
theorem play_any (w : World) (F : Nat → Prop) (B : Nat) (bk : List (Option Lst)) (h : Book w F B bk) (f : Int → Int → Nat) (hf : Rk bk f) (o : Opr) (two : Bool) (ins : Value) :
    Calls Try.prog 5 #[.pointer (some ⟨B, 0, none⟩), o.val two ins] w fun x w' => x = .returned (.tuple #[]) ∧ ∃ (bk' : List (Option Lst)) (F' : Nat → Prop), Book w' F' B bk' ∧ Ext F w F' w' ∧ Step o bk bk' := by
  have hb0 := (Below.refl w.heap.size w).alloc (Nat.le_refl _) (.cells #[.bool two, .int .i64 o.q, .int .i64 o.e, .int .i64 o.s, .int .i64 o.t, .int .i64 o.a, .int .i64 o.r, .int .i64 o.ck, .int .i64 o.co, .int .i64 o.cs, .int .i64 o.cr, ins] 30)
  have hN := heap_alloc_new w (.cells #[.bool two, .int .i64 o.q, .int .i64 o.e, .int .i64 o.s, .int .i64 o.t, .int .i64 o.a, .int .i64 o.r, .int .i64 o.ck, .int .i64 o.co, .int .i64 o.cs, .int .i64 o.cr, ins] 30)
  have HB := hide (h.below hb0)
  have HE := hide (Ext.of_below (F := F) hb0)
  have HF := hide hf
  clear h hb0 hf
  unfold Opr.val
  go_enter Try.func5, Try.ntmps5
  go_upto_region 1 with fail
  generalize w.alloc (.cells #[.bool two, .int .i64 o.q, .int .i64 o.e, .int .i64 o.s, .int .i64 o.t, .int .i64 o.a, .int .i64 o.r, .int .i64 o.ck, .int .i64 o.co, .int .i64 o.cs, .int .i64 o.cr, ins] 30) = w0 at *
  obtain ⟨c1, c2, c3, c4, c5, c6, c7, c8, c9, ca⟩ := cells12 hN
  clear hN
  by_cases k1 : o.q = 1
  · rw [k1] at c1
    go_wp2_with fail
    refine (open_any w0 F B bk HB.out o.e).mono ?_
    rintro e1 w1 ⟨c, bk', F', rfl, h1, h2, h3⟩
    have L := hide (show ∃ (bk' : List (Option Lst)) (F' : Nat → Prop), Book w1 F' B bk' ∧ Ext F w F' w1 ∧ Step o bk bk' from ⟨bk', F', h1, HE.out.trans h2, .opn k1 h3⟩)
    clear h1 h2 h3 c1 c2 c3 c4 c5 c6 c7 c8 c9 ca
    go_wp2
    go_end0
    exact ⟨rfl, L.out⟩
  by_cases k2 : o.q = 2
  · rw [k2] at c1
    rcases Option.eq_none_or_eq_some (look bk o.e) with hl | ⟨l, hl⟩
    · have HL := hide (shut_none w0 F B bk HB.out o.e hl)
      go_wp2_with fail
      refine HL.out.mono ?_
      rintro e1 w1 ⟨rfl, h2⟩
      have L := hide (show ∃ (bk' : List (Option Lst)) (F' : Nat → Prop), Book w1 F' B bk' ∧ Ext F w F' w1 ∧ Step o bk bk' from ⟨bk, F, HB.out.below h2, HE.out.trans (Ext.of_below h2), .shut0 k2 hl⟩)
      clear h2 c1 c2 c3 c4 c5 c6 c7 c8 c9 ca
      go_wp2
      go_end0
      exact ⟨rfl, L.out⟩
    · obtain ⟨i, ei, hi⟩ := look_open hl
      have HL := hide (shut_some w0 F B bk HB.out i l hi)
      rw [ei] at c2
      go_wp2_with fail
      refine HL.out.mono ?_
      rintro e1 w1 ⟨v, bk', rfl, h1, h2, h3, h4⟩
      have L := hide (show ∃ (bk' : List (Option Lst)) (F' : Nat → Prop), Book w1 F' B bk' ∧ Ext F w F' w1 ∧ Step o bk bk' from ⟨bk'.set i .none, F, h2, HE.out.trans h3, .shut k2 ei hi h4⟩)
      clear h1 h2 h3 h4 c1 c2 c3 c4 c5 c6 c7 c8 c9 ca
      go_wp2
      go_end0
      exact ⟨rfl, L.out⟩
  by_cases k3 : o.q = 3
  · rw [k3] at c1
    go_wp2_with fail
    refine (mint_any w0 F B bk HB.out o.e o.a o.ck o.co o.cs o.cr).mono ?_
    rintro e1 w1 ⟨v, c, bk', F', rfl, h1, h2, h3⟩
    have L := hide (show ∃ (bk' : List (Option Lst)) (F' : Nat → Prop), Book w1 F' B bk' ∧ Ext F w F' w1 ∧ Step o bk bk' from ⟨bk', F', h1, HE.out.trans h2, .mint k3 h3⟩)
    clear h1 h2 h3 c1 c2 c3 c4 c5 c6 c7 c8 c9 ca
    go_wp2
    go_end0
    exact ⟨rfl, L.out⟩
  by_cases k4 : o.q = 4
  · rw [k4] at c1
    go_wp2_with fail
    refine (derive_any w0 F B bk HB.out o.e o.s o.t o.a o.r).mono ?_
    rintro e1 w1 ⟨v, c, bk', F', rfl, h1, h2, h3⟩
    have L := hide (show ∃ (bk' : List (Option Lst)) (F' : Nat → Prop), Book w1 F' B bk' ∧ Ext F w F' w1 ∧ Step o bk bk' from ⟨bk', F', h1, HE.out.trans h2, .derive k4 h3⟩)
    clear h1 h2 h3 c1 c2 c3 c4 c5 c6 c7 c8 c9 ca
    go_wp2
    go_end0
    exact ⟨rfl, L.out⟩
  by_cases k5 : o.q = 5
  · rw [k5] at c1
    rcases Option.eq_none_or_eq_some (atB bk o.e o.s) with hl | ⟨r, hl⟩
    · have HL := hide (dropNone_any w0 F B bk HB.out o.e o.s hl)
      go_wp2_with fail
      refine HL.out.mono ?_
      rintro e1 w1 ⟨rfl, h2⟩
      have L := hide (show ∃ (bk' : List (Option Lst)) (F' : Nat → Prop), Book w1 F' B bk' ∧ Ext F w F' w1 ∧ Step o bk bk' from ⟨bk, F, HB.out.below h2, HE.out.trans (Ext.of_below h2), .drop0 k5 hl⟩)
      clear h2 c1 c2 c3 c4 c5 c6 c7 c8 c9 ca
      go_wp2
      go_end0
      exact ⟨rfl, L.out⟩
    · obtain ⟨i, j, l, ei, ej, -, -, -⟩ := atB_some hl
      rw [ei, ej] at hl
      have HL := hide (dropSome_any w0 F B bk HB.out i j r hl)
      rw [ei] at c2
      rw [ej] at c3
      go_wp2_with fail
      refine HL.out.mono ?_
      rintro e1 w1 ⟨rfl, bk', h2, h3, h4⟩
      have L := hide (show ∃ (bk' : List (Option Lst)) (F' : Nat → Prop), Book w1 F' B bk' ∧ Ext F w F' w1 ∧ Step o bk bk' from ⟨bk', F, h2, HE.out.trans h3, .drop k5 ei ej hl h4⟩)
      clear h2 h3 h4 c1 c2 c3 c4 c5 c6 c7 c8 c9 ca
      go_wp2
      go_end0
      exact ⟨rfl, L.out⟩
  by_cases k6 : o.q = 6
  · rw [k6] at c1
    rcases Option.eq_none_or_eq_some (atB bk o.e o.s) with hl | ⟨r, hl⟩
    · have HL := hide (revokeNone_any w0 F B bk HB.out o.e o.s hl)
      go_wp2_with fail
      refine HL.out.mono ?_
      rintro e1 w1 ⟨rfl, h2⟩
      have L := hide (show ∃ (bk' : List (Option Lst)) (F' : Nat → Prop), Book w1 F' B bk' ∧ Ext F w F' w1 ∧ Step o bk bk' from ⟨bk, F, HB.out.below h2, HE.out.trans (Ext.of_below h2), .revoke0 k6 hl⟩)
      clear h2 c1 c2 c3 c4 c5 c6 c7 c8 c9 ca
      go_wp2
      go_end0
      exact ⟨rfl, L.out⟩
    · obtain ⟨i, j, l, ei, ej, -, -, -⟩ := atB_some hl
      rw [ei, ej] at hl
      have HL := hide (revokeSome_any w0 F B bk HB.out f HF.out i j r hl)
      rw [ei] at c2
      rw [ej] at c3
      go_wp2_with fail
      refine HL.out.mono ?_
      rintro e1 w1 ⟨v, ps, n, rfl, h1, h2, h3, h4, h5, h6⟩
      have L := hide (show ∃ (bk' : List (Option Lst)) (F' : Nat → Prop), Book w1 F' B bk' ∧ Ext F w F' w1 ∧ Step o bk bk' from ⟨rmv bk ps, F, h5, HE.out.trans h6, .revoke k6 ei ej hl h1 h2 h3⟩)
      clear h1 h2 h3 h4 h5 h6 c1 c2 c3 c4 c5 c6 c7 c8 c9 ca
      go_wp2
      go_end0
      exact ⟨rfl, L.out⟩
  by_cases k7 : o.q = 7
  · rw [k7] at c1
    have HL := hide (purge_any w0 F B bk HB.out o.ck o.co)
    go_wp2_with fail
    refine HL.out.mono ?_
    rintro e1 w1 ⟨v, rfl, h1, h2, h3⟩
    have L := hide (show ∃ (bk' : List (Option Lst)) (F' : Nat → Prop), Book w1 F' B bk' ∧ Ext F w F' w1 ∧ Step o bk bk' from ⟨rmv bk (pls (fun r => decide (r.k = o.ck) && decide (r.o = o.co)) bk), F, h2, HE.out.trans h3, .purge k7⟩)
    clear h1 h2 h3 c1 c2 c3 c4 c5 c6 c7 c8 c9 ca
    go_wp2
    go_end0
    exact ⟨rfl, L.out⟩
  have L := hide (show ∃ (bk' : List (Option Lst)) (F' : Nat → Prop), Book w0 F' B bk' ∧ Ext F w F' w0 ∧ Step o bk bk' from ⟨bk, F, HB.out, HE.out, .none (fun k h1 h2 => by
    rcases (by omega : k = 1 ∨ k = 2 ∨ k = 3 ∨ k = 4 ∨ k = 5 ∨ k = 6 ∨ k = 7) with rfl | rfl | rfl | rfl | rfl | rfl | rfl <;> simpa using by assumption)⟩)
  generalize o.q = q at *
  go_wp2
  go_end0
  exact ⟨rfl, L.out⟩
end Go.Proofs.Ytjpnjgbcmodnoaa
