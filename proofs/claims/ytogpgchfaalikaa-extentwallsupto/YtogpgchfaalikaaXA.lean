import Derived.Test.YtogpgchfaalikaaX9
namespace Go.Proofs.Ytogpgchfaalikaa
open Go.RowKit

section
variable {P : Program} {ops : Array Oper} {Q : Exit → Act → World → Prop} {S : World → Prop} {fuel : Nat} {listed : Array Bool} {a : Act} {w : World}
/-- the two operations that may come up -/
theorem hd_two (i j : Nat) {o1 o2 : Oper} (hr : Region.ready .any ops listed = [i, j]) (ho1 : ops[i]? = some o1) (ho2 : ops[j]? = some o2) (hw1 : Region.wanted o1 (yielded ops a.tmps) = true) (hw2 : Region.wanted o2 (yielded ops a.tmps) = true)
    (h1 : ∀ K : Act → World → Prop, (∀ a w, S w → wpAnyH P .any ops Q S fuel (listed.setIfInBounds i true) a w → K a w) → Oper.wp P o1 a w K Q)
    (h2 : ∀ K : Act → World → Prop, (∀ a w, S w → wpAnyH P .any ops Q S fuel (listed.setIfInBounds j true) a w → K a w) → Oper.wp P o2 a w K Q) : wpAnyH P .any ops Q S (fuel + 1) listed a w := by
  refine wpAnyH_ready hr (by simp) (AllReadyH.cons ho1 (fun K hK => ?_) (AllReadyH.cons ho2 (fun K hK => ?_) AllReadyH.nil))
  · rw [if_pos hw1]; exact h1 K (fun a w hS hh => hK.out a w hS (fun _ => hh))
  · rw [if_pos hw2]; exact h2 K (fun a w hS hh => hK.out a w hS (fun _ => hh))
theorem held_load (i : Nat) {o : Oper} (hs : Region.noSelect ops = true) (hf : Region.free .any ops listed i = true) (hr : (Region.ready .any ops listed).contains i = true) (ho : ops[i]? = some o) (hw : Region.wanted o (yielded ops a.tmps) = true) {ty : TypeId} {x : Operand} (hop : o.op = .load ty x)
    {b off : Nat} (cs : List Value) {d : TypeDesc} (hx : a.eval x = .pointer (some ⟨b, off, none⟩)) (hS : ∀ w, S w → w.rangeAt b off cs) (hu : P.underlying ty = some d) (hd : d.isRow = true) (hi : (P.info? ty).map (·.size) = some cs.length)
    (hQ : ∀ c a w, Q (.panic c) (a.put o.dst (.agg cs.toArray)) w → Q (.panic c) a w) (h0 : S w) (h : wpAnyH P .any ops Q S fuel (listed.setIfInBounds i true) (a.put o.dst (.agg cs.toArray)) w) : wpAnyH P .any ops Q S (fuel + 1) listed a w :=
  wpAnyH_take ho hs hf hr hQ (yieldsIf_load_mid hw ty x hop b off hx cs d hS hu hd hi) h0 h
end
theorem clS_free {C : Nat → Cl} {L n : Nat} {s : Int} (hs : 1 ≤ s ∧ s ≤ 4611686018427387903) (hn : n < 32) (h : (C n).ho = 0) : clr C L (n : Int) s = ((n : Int), 0) := by
  have h1 : ¬ (n : Int) = -1 := by omega
  have h2 : (0 : Int) ≤ n ∧ (n : Int) < 32 := by omega
  have h3 : isCl C (n : Int) = false := by rw [isCl_nat C hn]; simp [h]
  unfold clr chr
  rw [if_neg (by omega), if_neg h1, if_neg (by simpa using h2), h3]; rfl
theorem clS_taken {C : Nat → Cl} {L n : Nat} {s : Int} (hs : 1 ≤ s ∧ s ≤ 4611686018427387903) (hn : n < 32) (h : 0 < (C n).ho) : clr C L (n : Int) s = (-1, 101) := by
  have h1 : ¬ (n : Int) = -1 := by omega
  have h2 : (0 : Int) ≤ n ∧ (n : Int) < 32 := by omega
  have h3 : isCl C (n : Int) = true := by rw [isCl_nat C hn]; simp [h]
  unfold clr chr
  rw [if_neg (by omega), if_neg h1, if_neg (by simpa using h2), h3]; rfl
theorem clS_no {C : Nat → Cl} {L : Nat} {z s a b : Int} (h : clr C L z s = (a, b)) (hb : b ≠ 0) : clC C L z s = C := by unfold clC; rw [h, if_neg hb]
theorem clS_yes {C : Nat → Cl} {L n : Nat} {z s : Int} (h : clr C L z s = ((n : Int), 0)) : clC C L z s = put C n ⟨s, 1⟩ := by unfold clC; rw [h, if_pos rfl]; rfl
/-- the law's own marks of what it claimed -/
structure Mi (w : World) (B : Nat) (C : Nat → Cl) : Prop where
  out : ∃ A : Array Value, w.heap[B]? = some (.cells A 52 (0, 0)) ∧ A.size = 32 ∧ ∀ n, n < 32 → A[n]? = some (.bool (decide (0 < (C n).ho)))
theorem Mi.get {w : World} {B : Nat} {C : Nat → Cl} (h : Mi w B C) {n : Nat} (hn : n < 32) : w.cell? ⟨B, n, none⟩ = some (.bool (decide (0 < (C n).ho))) := by
  obtain ⟨A, h1, h2, h3⟩ := h.out; rw [cell_of_row _ _ _ _ _ _ h1]; exact h3 n hn
theorem Mi.frz {w : World} {B : Nat} {C : Nat → Cl} (h : Mi w B C) (n : Nat) : w.frozen? ⟨B, n, none⟩ = false := by
  obtain ⟨A, h1, h2, h3⟩ := h.out; exact frozen_of_row _ _ _ _ _ h1
theorem Mi.lt {w : World} {B : Nat} {C : Nat → Cl} (h : Mi w B C) : B < w.heap.size := by
  obtain ⟨A, h1, h2, h3⟩ := h.out; exact (Array.getElem?_eq_some_iff.1 h1).1
theorem Mi.keep {w w' : World} {B : Nat} {C : Nat → Cl} (h : Mi w B C) (hk : w'.heap[B]? = w.heap[B]?) : Mi w' B C := by
  obtain ⟨A, h1, h2, h3⟩ := h.out; exact ⟨A, hk.trans h1, h2, h3⟩
theorem Mi.set {w : World} {B : Nat} {C C' : Nat → Cl} (h : Mi w B C) {k : Nat} (hk : k < 32) (h0 : 0 < (C' k).ho) (hs : ∀ n, n ≠ k → C' n = C n) : Mi (w.setCell ⟨B, k, none⟩ (.bool true)) B C' := by
  obtain ⟨A, h1, h2, h3⟩ := h.out
  refine ⟨_, heap_setCell_same _ _ _ _ _ _ h1, by simpa using h2, fun n hn => ?_⟩
  by_cases e : n = k
  · subst e; rw [Array.getElem?_setIfInBounds_self_of_lt (by omega)]; simp [h0]
  · rw [Array.getElem?_setIfInBounds_ne (by omega), hs n e]; exact h3 n hn
/-- what the law has in its hands -/
structure Wd (w wr : World) (B T M : Nat) (C : Nat → Cl) (D : Dsk) (F : Nat → Prop) : Prop where
  dk : DkA B D wr F
  tab : Tb wr T (dvB B) C
  mi : Mi wr M C
  nT : ¬ F T
  nM : ¬ F M
  ne : M ≠ T
  lF : ∀ b, F b → w.heap.size ≤ b
  lT : w.heap.size ≤ T
  lM : w.heap.size ≤ M
  bel : Below w.heap.size w wr
  up : D.down = false
  na : D.armed = false
section
variable {w wr w2 : World} {B T M : Nat} {C : Nat → Cl} {D : Dsk} {F : Nat → Prop}
theorem Wd.below (h : Wd w wr B T M C D F) (hb : Below wr.heap.size wr w2) : Wd w w2 B T M C D F :=
  ⟨(good_dk _ _).below h.dk hb, h.tab.below hb, h.mi.keep (hb.block M h.mi.lt), h.nT, h.nM, h.ne, h.lF, h.lT, h.lM, h.bel.trans (hb.mono h.bel.size), h.up, h.na⟩
theorem Wd.drewN (h : Wd w wr B T M C D F) (n : Nat) : Wd w (wr.drewN n) B T M C D F :=
  h.below ⟨rfl, rfl, rfl, Nat.le_refl _, fun _ _ => rfl⟩
theorem Wd.bel2 (h : Wd w wr B T M C D F) (ha : At wr T w2) : Below w.heap.size w w2 :=
  h.bel.trans ⟨ha.os, ha.tape, ha.output, ha.size, fun k hk => by
    have h1 := h.bel.size; have h2 := h.lT
    exact ha.block k (by omega) (by omega)⟩
/-- a claim, and its mark -/
theorem Wd.claim (h : Wd w wr B T M C D F) (ha : At wr T w2) {C' : Nat → Cl} (ht : Tb w2 T (dvB B) C') {k : Nat} (hk : k < 32) (h0 : 0 < (C' k).ho) (hs : ∀ n, n ≠ k → C' n = C n) : Wd w (w2.setCell ⟨M, k, none⟩ (.bool true)) B T M C' D F := by
  have hd : DkA B D w2 F := (good_dk _ _).keep h.dk ha.size (fun b hb => ha.block b ((good_dk _ _).lt h.dk b hb) (fun e => h.nT (e ▸ hb)))
  refine ⟨(good_dk _ _).keep hd (by simp [World.setCell]) (fun b hb => heap_setCell_other _ _ _ _ (fun e => h.nM (by have e' : b = M := e; rw [e'] at hb; exact hb))), ht.keep (heap_setCell_other _ _ _ _ (fun e => h.ne e.symm)), (h.mi.keep (ha.block M h.mi.lt h.ne)).set hk h0 hs, h.nT, h.nM, h.ne, h.lF, h.lT, h.lM, (h.bel2 ha).setCell (p := ⟨M, k, none⟩) h.lM _, h.up, h.na⟩
/-- a write to the disk -/
theorem Wd.write (h : Wd w wr B T M C D F) {D' : Dsk} {F' : Nat → Prop} (hd : DkA B D' w2 F') (hx : Ext F wr F' w2) (hu : D'.down = false) (hn : D'.armed = false) : Wd w w2 B T M C D' F' :=
  ⟨hd, h.tab.keep (hx.mod.block T h.tab.lt h.nT), h.mi.keep (hx.mod.block M h.mi.lt h.nM), fun hf => (hx.new T hf).elim h.nT (fun e => by have := h.tab.lt; omega), fun hf => (hx.new M hf).elim h.nM (fun e => by have := h.mi.lt; omega),
   h.ne, hx.low h.lF h.bel.size, h.lT, h.lM, h.bel.trans (hx.mod.below h.lF h.bel.size), hu, hn⟩
end
/-- and the sectors' bytes that it keeps in its list v -/
structure We (w wr : World) (B T M : Nat) (C : Nat → Cl) (v : Value) (N : Nat) : Prop where
  out : ∃ D F H, Wd w wr B T M C D F ∧ RowsA v (seens D 1024) wr H ∧ (∀ b, H b → ¬ F b ∧ b ≠ T ∧ b ≠ M ∧ w.heap.size ≤ b) ∧ D.acts ≤ N ∧ D.c.length ≤ N
theorem We.below {w wr w2 : World} {B T M : Nat} {C : Nat → Cl} {v : Value} {N : Nat} (h : We w wr B T M C v N) (hb : Below wr.heap.size wr w2) : We w w2 B T M C v N := by
  obtain ⟨D, F, H, h1, h2, h3, h4, h5⟩ := h.out
  exact ⟨D, F, H, h1.below hb, (good_rows _ _).below h2 hb, h3, h4, h5⟩
theorem We.mono {w wr : World} {B T M : Nat} {C : Nat → Cl} {v : Value} {N N' : Nat} (h : We w wr B T M C v N) (hN : N ≤ N') : We w wr B T M C v N' := by
  obtain ⟨D, F, H, h1, h2, h3, h4, h5⟩ := h.out
  exact ⟨D, F, H, h1, h2, h3, Nat.le_trans h4 hN, Nat.le_trans h5 hN⟩
theorem We.bel {w wr : World} {B T M : Nat} {C : Nat → Cl} {v : Value} {N : Nat} (h : We w wr B T M C v N) : Below w.heap.size w wr := by
  obtain ⟨D, F, H, h1, _⟩ := h.out; exact h1.bel
theorem put_seen {D : Dsk} {p s : Nat} {zs : List Nat} : (D.acted.put p zs).seen s = if s = p then zs else D.seen s := by
  show play D.M (D.c ++ [(p, zs)]) s = _
  rw [play_snoc]; rfl
theorem seens_put {D : Dsk} {p : Nat} {zs : List Nat} (hp : p < 1024) : seens (D.acted.put p zs) 1024 = (seens D 1024).set p zs := by
  apply List.ext_getElem?
  intro i
  rw [List.getElem?_set]
  by_cases hi : i < 1024
  · rw [seens_get _ hi, put_seen, seens_len]
    by_cases e : p = i
    · subst e; simp [hp]
    · rw [if_neg (fun e' => e e'.symm), if_neg e, seens_get _ hi]
  · rw [List.getElem?_eq_none (by rw [seens_len]; omega), if_neg (by omega), List.getElem?_eq_none (by rw [seens_len]; omega)]
/-- a row of the list is laid anew -/
theorem rows_set {v r : Value} {L : List (List Nat)} {zs : List Nat} {W : World} {H : Nat → Prop} {g k cap n : Nat} (hv : v = .slice (some ⟨g, 0, none⟩) n cap) (h : RowsA v L W H) (hk : k < L.length) (hr : Ow W 0 r zs) :
    RowsA v (L.set k zs) (W.setCell ⟨g, k, none⟩ r) (fun b => H b ∨ r.ownBlock = some b) := by
  subst hv
  obtain ⟨rs, h1, h2, h3, h4, h5⟩ := h
  have hg : ∀ {q : Value} {ys : List Nat}, Ow W 0 q ys → Ow (W.setCell ⟨g, k, none⟩ r) 0 q ys := fun {q ys} hq => ownsRow_keep hq (fun b hb => by
    have hne : b ≠ g := fun e => own_type hq h2 (by decide) hb (by rw [e]; rfl)
    exact heap_setCell_other _ _ _ _ hne)
  refine ⟨rs.set k r, by simpa using h1, ?_, fun i ys hy => ?_, fun b hb => .inl (h4 b hb), fun b hb => ?_⟩
  · obtain ⟨hl, ⟨h0, _⟩ | ⟨g', cap', cur, hv', hb', hg', hn', hm', hs', ht'⟩⟩ := h2
    · cases h0
    · cases hv'
      refine ⟨by simp, .inr ⟨g, cap, cur.setIfInBounds k r, by simp, hb', heap_setCell_same _ _ _ _ _ _ hg', by simpa using hn', hm', by simpa using hs', ?_⟩⟩
      rw [List.length_set, Array.toList_setIfInBounds, List.take_set, ht']
  · rw [List.getElem?_set] at hy
    by_cases e : k = i
    · subst e
      simp [hk] at hy
      subst hy
      exact ⟨r, by rw [List.getElem?_set_self (by omega)], hg hr, fun b hb => .inr hb⟩
    · rw [if_neg e] at hy
      obtain ⟨q, q1, q2, q3⟩ := h3 i ys hy
      exact ⟨q, by rw [List.getElem?_set_ne e]; exact q1, hg q2, fun b hb => .inl (q3 b hb)⟩
  · have : (W.setCell ⟨g, k, none⟩ r).heap.size = W.heap.size := by simp [World.setCell]
    rw [this]
    rcases hb with hb | hb
    · exact h5 b hb
    · exact ownsRow_lt hr hb
theorem Wd.setRow {w wr : World} {B T M : Nat} {C : Nat → Cl} {D : Dsk} {F : Nat → Prop} (h : Wd w wr B T M C D F) {g : Nat} (k : Nat) (u : Value) (hg : ¬ F g ∧ g ≠ T ∧ g ≠ M ∧ w.heap.size ≤ g) : Wd w (wr.setCell ⟨g, k, none⟩ u) B T M C D F :=
  ⟨(good_dk _ _).keep h.dk (by simp [World.setCell]) (fun b hb => heap_setCell_other _ _ _ _ (fun e => hg.1 (by have e' : b = g := e; rw [e'] at hb; exact hb))), h.tab.keep (heap_setCell_other _ _ _ _ (fun e => hg.2.1 e.symm)), h.mi.keep (heap_setCell_other _ _ _ _ (fun e => hg.2.2.1 e.symm)),
   h.nT, h.nM, h.ne, h.lF, h.lT, h.lM, h.bel.setCell (p := ⟨g, k, none⟩) hg.2.2.2 _, h.up, h.na⟩
/-- a sector is written, and what is read of it laid into the list -/
theorem We.set {w wr : World} {B T M : Nat} {C : Nat → Cl} {D D' : Dsk} {F' H : Nat → Prop} {g cp k N : Nat} {r : Value} {zs : List Nat} (hW : Wd w wr B T M C D' F') (hR : RowsA (.slice (some ⟨g, 0, none⟩) 1024 cp) (seens D 1024) wr H)
    (hH : ∀ b, H b → ¬ F' b ∧ b ≠ T ∧ b ≠ M ∧ w.heap.size ≤ b) (hr : Ow wr 0 r zs) (hrb : ∀ b, r.ownBlock = some b → ¬ F' b ∧ b ≠ T ∧ b ≠ M ∧ w.heap.size ≤ b) (hk : k < 1024) (hD : seens D' 1024 = (seens D 1024).set k zs)
    (ha : D'.acts ≤ N) (hc : D'.c.length ≤ N) : We w (wr.setCell ⟨g, k, none⟩ r) B T M C (.slice (some ⟨g, 0, none⟩) 1024 cp) N := by
  have hg : H g := by
    obtain ⟨rs, _, _, _, h4, _⟩ := hR
    exact h4 g rfl
  refine ⟨D', F', fun b => H b ∨ r.ownBlock = some b, hW.setRow k r (hH g hg), ?_, fun b hb => ?_, ha, hc⟩
  · rw [hD]; exact rows_set rfl hR (by rw [seens_len]; exact hk) hr
  · rcases hb with hb | hb
    · exact hH b hb
    · exact hrb b hb
theorem rows_cell {L : List (List Nat)} {W : World} {H : Nat → Prop} {g n cp k : Nat} {zs : List Nat} (h : RowsA (.slice (some ⟨g, 0, none⟩) n cp) L W H) (hk : L[k]? = some zs) : ∃ r, W.cell? ⟨g, k, none⟩ = some r ∧ Rd W r zs := by
  obtain ⟨ao, cap, hv, hr⟩ := rows_read h
  obtain ⟨g', r, e, h1, h2⟩ := hr k zs hk
  cases hv
  cases e
  exact ⟨r, h1, h2⟩
theorem rows_frz {v : Value} {L : List (List Nat)} {W : World} {H : Nat → Prop} {g n cp : Nat} (hv : v = .slice (some ⟨g, 0, none⟩) n cp) (h : RowsA v L W H) (k : Nat) : W.frozen? ⟨g, k, none⟩ = false := by
  subst hv
  obtain ⟨rs, _, h2, _⟩ := h
  obtain ⟨_, ⟨h0, _⟩ | ⟨g', cap', cur, hv', _, hg', _⟩⟩ := h2
  · cases h0
  · cases hv'; exact frozen_of_row _ _ _ _ _ hg'
end Go.Proofs.Ytogpgchfaalikaa
