import Derived.Test.YtngmnlmagbfijabCN0
namespace Go.Proofs.Ytngmnlmagbfijab
open Go.RowKit
def bp (p : Nat) : Value := .pointer (some ⟨p, 0, none⟩)
def rp' (p : Nat) : Value := .pointer (some ⟨p, 0, none⟩)
/-- the cells of three pairs, of which k are laid -/
def cellsT (k : Nat) (b r : Nat → Nat) : List Value := (List.range 3).flatMap (fun i => if i < k then [bp (b i), rp' (r i)] else [.pointer none, .pointer none])
def updN (f : Nat → Nat) (i x : Nat) : Nat → Nat := fun j => if j = i then x else f j
theorem cellsT_len (k : Nat) (b r : Nat → Nat) : (cellsT k b r).length = 6 := by
  unfold cellsT
  have : List.range 3 = [0, 1, 2] := rfl
  rw [this]
  simp only [List.flatMap_cons, List.flatMap_nil, List.length_append]
  split <;> split <;> split <;> rfl
theorem cellsT_get {k i : Nat} {b r : Nat → Nat} (hi : i < 3) (hk : i < k) : (cellsT k b r)[i * 2]? = some (bp (b i)) ∧ (cellsT k b r)[i * 2 + 1]? = some (rp' (r i)) := by
  unfold cellsT
  have : List.range 3 = [0, 1, 2] := rfl
  rw [this]
  simp only [List.flatMap_cons, List.flatMap_nil]
  match i, hi with
  | 0, _ => rw [if_pos hk]; exact ⟨rfl, rfl⟩
  | 1, _ => rw [if_pos (by omega), if_pos hk]; exact ⟨rfl, rfl⟩
  | 2, _ => rw [if_pos (by omega), if_pos (by omega), if_pos hk]; exact ⟨rfl, rfl⟩
theorem cellsT_set {k k' i : Nat} {b r : Nat → Nat} (hi : i < 3) (hk : i < k') (hkk : ∀ j, j < 3 → j ≠ i → (j < k ↔ j < k')) (B R : Nat) : (((cellsT k b r).toArray.setIfInBounds (i * 2) (bp B)).setIfInBounds (i * 2 + 1) (rp' R)) = (cellsT k' (updN b i B) (updN r i R)).toArray := by
  unfold cellsT
  have : List.range 3 = [0, 1, 2] := rfl
  rw [this]
  simp only [List.flatMap_cons, List.flatMap_nil]
  match i, hi with
  | 0, _ =>
    have e1 := hkk 1 (by omega) (by omega)
    have e2 := hkk 2 (by omega) (by omega)
    simp only [e1, e2, if_pos hk]
    by_cases c0 : 0 < k <;> by_cases c1 : 1 < k' <;> by_cases c2 : 2 < k' <;> simp [c0, c1, c2, updN]
  | 1, _ =>
    have e1 := hkk 0 (by omega) (by omega)
    have e2 := hkk 2 (by omega) (by omega)
    simp only [e1, e2, if_pos hk]
    by_cases c0 : 1 < k <;> by_cases c1 : 0 < k' <;> by_cases c2 : 2 < k' <;> simp [c0, c1, c2, updN]
  | 2, _ =>
    have e1 := hkk 0 (by omega) (by omega)
    have e2 := hkk 1 (by omega) (by omega)
    simp only [e1, e2, if_pos hk]
    by_cases c0 : 2 < k <;> by_cases c1 : 0 < k' <;> by_cases c2 : 1 < k' <;> simp [c0, c1, c2, updN]
/-- three pairs of tables, of which k are laid, beside the array that holds them -/
structure TriAt (w wr : World) (A k n : Nat) (b r : Nat → Nat) (Hs : Nat → Nat → Prop) : Prop where
  arr : wr.heap[A]? = some (.cells (cellsT k b r).toArray 28 (0, 0))
  prs : ∀ i, i < k → PrA (b i) (r i) n wr (Hs i)
  dis : ∀ i j, i < k → j < k → i ≠ j → ∀ x, Hs i x → ¬ Hs j x
  nA : ∀ i, i < k → ¬ Hs i A
  lo : ∀ i, i < k → ∀ x, Hs i x → w.heap.size ≤ x
  loA : w.heap.size ≤ A
  bel : Below w.heap.size w wr
def Tri (w wr : World) (A k n : Nat) (b r : Nat → Nat) : Prop := ∃ Hs, TriAt w wr A k n b r Hs
section
variable {w wr w' : World} {A k n : Nat} {b r : Nat → Nat} {Hs : Nat → Nat → Prop}
theorem TriAt.below (h : TriAt w wr A k n b r Hs) (hb : Below wr.heap.size wr w') : TriAt w w' A k n b r Hs :=
  ⟨(hb.block A (Array.getElem?_eq_some_iff.1 h.arr).1).trans h.arr, fun i hi => PrA.keep (h.prs i hi) hb.size (fun x hx => hb.block x (PrA.lt (h.prs i hi) x hx)), h.dis, h.nA, h.lo, h.loA, h.bel.trans (hb.mono h.bel.size)⟩
theorem Tri.below (h : Tri w wr A k n b r) (hb : Below wr.heap.size wr w') : Tri w w' A k n b r := by obtain ⟨Hs, h⟩ := h; exact ⟨Hs, h.below hb⟩
theorem Tri.bel (h : Tri w wr A k n b r) : Below w.heap.size w wr := by obtain ⟨Hs, h⟩ := h; exact h.bel
theorem TriAt.cells (h : TriAt w wr A k n b r Hs) {i : Nat} (hi : i < 3) (hk : i < k) : wr.cell? ⟨A, i * 2, none⟩ = some (bp (b i)) ∧ wr.cell? ⟨A, i * 2 + 1, none⟩ = some (rp' (r i)) := by
  obtain ⟨h1, h2⟩ := cellsT_get (b := b) (r := r) hi hk
  exact ⟨by rw [cell_of_row _ _ _ _ _ _ h.arr]; simpa using h1, by rw [cell_of_row _ _ _ _ _ _ h.arr]; simpa using h2⟩
theorem TriAt.turn (h : TriAt w wr A k n b r Hs) {i : Nat} (hi : i < k) {H' : Nat → Prop} (hP : PrA (b i) (r i) n w' H') (hE : Ext (Hs i) wr H' w') : Tri w w' A k n b r := by
  refine ⟨fun j => if j = i then H' else Hs j, ?_, fun j hj => ?_, fun j l hj hl hne x hx => ?_, fun j hj => ?_, fun j hj x hx => ?_, h.loA, ?_⟩
  · exact (hE.mod.block A (Array.getElem?_eq_some_iff.1 h.arr).1 (h.nA i hi)).trans h.arr
  · by_cases e : j = i
    · subst e; simp only [if_pos]; exact hP
    · simp only [if_neg e]
      exact PrA.keep (h.prs j hj) hE.mod.size (fun x hx => hE.mod.block x (PrA.lt (h.prs j hj) x hx) (h.dis j i hj hi e x hx))
  · by_cases e : j = i
    · by_cases e2 : l = i
      · omega
      · simp only [if_pos e] at hx
        simp only [if_neg e2]
        intro hl2
        rcases hE.new x hx with h1 | h1
        · exact h.dis i l hi hl (fun e3 => e2 e3.symm) x h1 hl2
        · have := PrA.lt (h.prs l hl) x hl2; omega
    · simp only [if_neg e] at hx
      by_cases e2 : l = i
      · simp only [if_pos e2]
        intro hl2
        rcases hE.new x hl2 with h1 | h1
        · exact h.dis j i hj hi e x hx h1
        · have := PrA.lt (h.prs j hj) x hx; omega
      · simp only [if_neg e2]; exact h.dis j l hj hl hne x hx
  · by_cases e : j = i
    · simp only [if_pos e]
      intro hA
      rcases hE.new A hA with h1 | h1
      · exact h.nA i hi h1
      · have := (Array.getElem?_eq_some_iff.1 h.arr).1; omega
    · simp only [if_neg e]; exact h.nA j hj
  · by_cases e : j = i
    · simp only [if_pos e] at hx
      rcases hE.new x hx with h1 | h1
      · exact h.lo i hi x h1
      · have := h.bel.size; omega
    · simp only [if_neg e] at hx; exact h.lo j hj x hx
  · exact h.bel.trans (hE.mod.below (h.lo i hi) h.bel.size)
/-- a new pair laid at a place -/
theorem TriAt.put (h : TriAt w wr A k n b r Hs) {i k' : Nat} (hi3 : i < 3) (hik : i < k') (hkk : ∀ j, j < 3 → j ≠ i → (j < k ↔ j < k')) (hk3' : k' ≤ 3) {B R : Nat} {H' : Nat → Prop} (hb : Below wr.heap.size wr w') (hP : PrA B R n w' H') (hl : ∀ x, H' x → wr.heap.size ≤ x) :
    Tri w ((w'.setCell ⟨A, i * 2, none⟩ (bp B)).setCell ⟨A, i * 2 + 1, none⟩ (rp' R)) A k' n (updN b i B) (updN r i R) := by
  have h' := h.below hb
  have hAl := (Array.getElem?_eq_some_iff.1 h.arr).1
  have hoth : ∀ x, x ≠ A → ((w'.setCell ⟨A, i * 2, none⟩ (bp B)).setCell ⟨A, i * 2 + 1, none⟩ (rp' R)).heap[x]? = w'.heap[x]? := fun x hx => by rw [heap_setCell_other _ _ _ _ hx, heap_setCell_other _ _ _ _ hx]
  have hsz : w'.heap.size ≤ ((w'.setCell ⟨A, i * 2, none⟩ (bp B)).setCell ⟨A, i * 2 + 1, none⟩ (rp' R)).heap.size := by simp [World.setCell]
  have hjk : ∀ j, j < k' → j ≠ i → j < k := fun j hj hne => (hkk j (by omega) hne).2 hj
  refine ⟨fun j => if j = i then H' else Hs j, ?_, fun j hj => ?_, fun j l hj hl2 hne x hx => ?_, fun j hj => ?_, fun j hj x hx => ?_, h.loA, ?_⟩
  · rw [heap_setCell_same _ A (i * 2 + 1) _ _ _ (heap_setCell_same _ A (i * 2) _ _ _ h'.arr), cellsT_set hi3 hik hkk]
  · by_cases e : j = i
    · subst e
      simp only [if_pos, updN]
      refine PrA.keep hP hsz (fun x hx => hoth x (fun e => ?_))
      have := hl x hx; omega
    · simp only [if_neg e, updN]
      exact PrA.keep (h'.prs j (hjk j hj e)) hsz (fun x hx => hoth x (fun e2 => h'.nA j (hjk j hj e) (e2 ▸ hx)))
  · by_cases e : j = i
    · by_cases e2 : l = i
      · omega
      · simp only [if_pos e] at hx
        simp only [if_neg e2]
        intro hx2
        have := hl x hx
        have := PrA.lt (h.prs l (hjk l hl2 e2)) x hx2
        omega
    · simp only [if_neg e] at hx
      by_cases e2 : l = i
      · simp only [if_pos e2]
        intro hx2
        have := hl x hx2
        have := PrA.lt (h.prs j (hjk j hj e)) x hx
        omega
      · simp only [if_neg e2]; exact h.dis j l (hjk j hj e) (hjk l hl2 e2) hne x hx
  · by_cases e : j = i
    · simp only [if_pos e]
      intro hA
      have := hl A hA; omega
    · simp only [if_neg e]; exact h.nA j (hjk j hj e)
  · by_cases e : j = i
    · simp only [if_pos e] at hx
      have := hl x hx; have := h.bel.size; omega
    · simp only [if_neg e] at hx; exact h.lo j (hjk j hj e) x hx
  · exact (h'.bel.setCell (p := ⟨A, i * 2, none⟩) h.loA _).setCell (p := ⟨A, i * 2 + 1, none⟩) h.loA _
theorem Tri.mono {n' : Nat} (h : Tri w wr A k n b r) (hn : n ≤ n') : Tri w wr A k n' b r := by
  obtain ⟨Hs, h⟩ := h
  exact ⟨Hs, h.arr, fun i hi => (h.prs i hi).mono hn, h.dis, h.nA, h.lo, h.loA, h.bel⟩
end
theorem results_row2 {P : Program} {fn : Func} {p u : Tmp} {ty : TypeId} (h : fn.results = #[.cell p ty, .tmp u]) (tmps : Array Value) (w : World) (g : Nat) (t : TypeId) (cs : Array Value) (fr : Nat × Nat) (d : TypeDesc)
    (hp : tmps.getD p undef = .pointer (some ⟨g, 0, none⟩)) (hg : w.heap[g]? = some (.cells cs t fr))
    (hu : P.underlying ty = some d) (hd : (match d with | .struct _ | .array _ _ => true | _ => false) = true) (hi : (P.info? ty).map (·.size) = some cs.size) :
    (results fn tmps).run P w = .ok (.tuple #[.agg cs, tmps.getD u undef]) w := by
  rw [results_cell_tmp h, hp]
  simp [asAddr, run_loadVar_row w g t ty cs fr d hg hu hd hi]
theorem set_two {w : World} {C : Nat} {T : TypeId} {a b : Value} (h : w.heap[C]? = some (.cells #[a, b] T (0, 0))) (x y : Value) : w.there C 0 2 ∧ (w.setCells C 0 [x, y]).heap[C]? = some (.cells #[x, y] T (0, 0)) ∧ (w.setCells C 0 [x, y]).heap.size = w.heap.size ∧ ∀ k, k ≠ C → (w.setCells C 0 [x, y]).heap[k]? = w.heap[k]? := by
  refine ⟨fun j hj => ⟨?_, frozen_of_row _ _ _ _ _ h⟩, ?_, ?_, fun k hk => ?_⟩
  · rw [cell_of_row _ _ _ _ _ _ h]
    match j, hj with
    | 0, _ => rfl
    | 1, _ => rfl
  · show ((w.setCell ⟨C, 0, none⟩ x).setCell ⟨C, 1, none⟩ y).heap[C]? = _
    rw [heap_setCell_same _ C 1 _ T _ (heap_setCell_same _ C 0 _ T _ h)]; simp
  · show ((w.setCell ⟨C, 0, none⟩ x).setCell ⟨C, 1, none⟩ y).heap.size = _
    simp [World.setCell]
  · show ((w.setCell ⟨C, 0, none⟩ x).setCell ⟨C, 1, none⟩ y).heap[k]? = _
    rw [heap_setCell_other _ _ _ _ (by simpa using hk), heap_setCell_other _ _ _ _ (by simpa using hk)]
section
variable (w : World)
set_option maxRecDepth 100000 in
set_option maxHeartbeats 4000000 in
theorem made_ok (k : Nat) (hk : k = 1 ∨ k = 2 ∨ k = 3) : Calls Try.prog 5 #[.int .i64 (k : Nat)] w fun e w' => ∃ p r H, e = .returned (.tuple #[.agg #[.pointer (some ⟨p, 0, none⟩), .pointer (some ⟨r, 0, none⟩)], .bool true]) ∧ PrA p r 0 w' H ∧ (∀ b, H b → w.heap.size ≤ b) ∧ Below w.heap.size w w' := by
  have HK := hide hk
  have HB0 : Hid (Below w.heap.size w (w.alloc (.cells #[.pointer none, .pointer none] 27))) := hide ((Below.refl _ _).alloc (Nat.le_refl _) _)
  have HR0 : Hid ((w.alloc (.cells #[.pointer none, .pointer none] 27)).heap[w.heap.size]? = some (.cells #[.pointer none, .pointer none] 27 (0, 0))) := hide (heap_alloc_last _ _)
  have hz : (w.alloc (.cells #[.pointer none, .pointer none] 27)).heap.size = w.heap.size + 1 := by simp
  obtain ⟨C, hC⟩ : ∃ C, w.heap.size = C := ⟨_, rfl⟩
  rw [hC] at HR0 hz
  clear hk
  go_enter Try.func5, Try.ntmps5
  go_upto_region 1 with fail
  generalize w.alloc (.cells #[.pointer none, .pointer none] 27) = w1 at *
  have HCw : Hid (w.heap.size = C) := hide hC
  have HZ : Hid (w1.heap.size = C + 1) := hide hz
  clear hC hz
  go_wp2_with fail
  refine (New_any w1 k HK.out).mono ?_
  rintro e w2 ⟨p, X, rfl, h1, h2, h3⟩
  have HP := hide h1
  have HX := hide h2
  have HB2 := hide h3
  clear h1 h2 h3
  go_wp2_with fail
  refine (rnew_ok w2 k HK.out).mono ?_
  rintro e w3 ⟨r, rfl, h1, h2, h3⟩
  have hs2 := HB2.out.size
  have hs3 := h3.size
  have hrl := h1.lt r rfl
  have HRf := hide h1
  have HB3 := hide h3
  have HR3 : Hid (w3.heap[C]? = some (.cells #[.pointer none, .pointer none] 27 (0, 0))) := hide (by have := HZ.out; rw [h3.block C (by omega), HB2.out.block C (by omega)]; exact HR0.out)
  have hst := set_two HR3.out (.pointer (some ⟨p, 0, none⟩)) (.pointer (some ⟨r, 0, none⟩))
  have HSt := hide hst
  have HPl := hide (HP.out.below h3)
  have HFin : Hid (PrA p r 0 (w3.setCells C 0 [.pointer (some ⟨p, 0, none⟩), .pointer (some ⟨r, 0, none⟩)]) (fun b => X b ∨ b = r) ∧ (∀ b, (X b ∨ b = r) → w.heap.size ≤ b) ∧ Below w.heap.size w (w3.setCells C 0 [.pointer (some ⟨p, 0, none⟩), .pointer (some ⟨r, 0, none⟩)])) := hide (by
    have hz := HZ.out
    have hc := HCw.out
    refine ⟨⟨X, fun b => b = r, start k, fun _ => none, 0, HPl.out.keep (by rw [HSt.out.2.2.1]; exact Nat.le_refl _) (fun b hb => HSt.out.2.2.2 b (fun e => by have := HX.out b hb; omega)), ⟨[], h1.keep (by rw [HSt.out.2.2.1]; exact Nat.le_refl _) (fun b hb => HSt.out.2.2.2 b (fun e => by have hb' : b = r := hb; omega)), RelR.nil, Nat.le_refl _⟩, AgF.start k, fun b hb hr => by have := HP.out.lt b hb; have hr' : b = r := hr; omega, fun b => Iff.rfl⟩, fun b hb => ?_, ?_⟩
    · rcases hb with hb | hb
      · have := HX.out b hb; omega
      · omega
    · exact (((HB0.out.trans (HB2.out.mono (by omega))).trans (h3.mono (by omega))).setCell (p := ⟨C, 0, none⟩) (by show w.heap.size ≤ C; omega) _).setCell (p := ⟨C, 0 + 1, none⟩) (by show w.heap.size ≤ C; omega) _)
  clear h1 h2 h3 hst hs2 hs3 hrl
  go_wp2_with (refine wpList_store_mid rfl 27 (.tmp 2) (.tmp 20) rfl C 0 #[.pointer (some ⟨p, 0, none⟩), .pointer (some ⟨r, 0, none⟩)] rfl (by simp only [Act.eval]; rfl) HSt.out.1 (by kernel_rfl) (by simp [Value.oneCell']) ?_)
  refine bodyPost_ret (results_row2 rfl _ _ C 27 #[.pointer (some ⟨p, 0, none⟩), .pointer (some ⟨r, 0, none⟩)] (0, 0) _ rfl HSt.out.2.1 Try.underlying27 rfl (by kernel_rfl)) rfl ?_
  exact ⟨p, r, _, rfl, HFin.out⟩
set_option maxRecDepth 100000 in
set_option maxHeartbeats 4000000 in
theorem made_bad (k : Int) (hk : ¬ (1 ≤ k ∧ k ≤ 3)) : Calls Try.prog 5 #[.int .i64 k] w fun e w' => e = .returned (.tuple #[.agg #[.pointer none, .pointer none], .bool true]) ∧ Below w.heap.size w w' := by
  have HK := hide hk
  have HB0 : Hid (Below w.heap.size w (w.alloc (.cells #[.pointer none, .pointer none] 27))) := hide ((Below.refl _ _).alloc (Nat.le_refl _) _)
  have HR0 : Hid ((w.alloc (.cells #[.pointer none, .pointer none] 27)).heap[w.heap.size]? = some (.cells #[.pointer none, .pointer none] 27 (0, 0))) := hide (heap_alloc_last _ _)
  obtain ⟨C, hC⟩ : ∃ C, w.heap.size = C := ⟨_, rfl⟩
  rw [hC] at HR0
  clear hk
  go_enter Try.func5, Try.ntmps5
  go_upto_region 1 with fail
  generalize w.alloc (.cells #[.pointer none, .pointer none] 27) = w1 at *
  have HCw : Hid (w.heap.size = C) := hide hC
  clear hC
  go_wp2_with fail
  refine (New_bad w1 k HK.out).mono ?_
  rintro e w2 ⟨rfl, rfl⟩
  go_wp2_with fail
  refine (rnew_bad w2 k HK.out).mono ?_
  rintro e w3 ⟨rfl, rfl⟩
  have hst := set_two HR0.out (.pointer none) (.pointer none)
  have HSt := hide hst
  have HFin : Hid (Below w.heap.size w (w3.setCells C 0 [.pointer none, .pointer none])) := hide ((HB0.out.setCell (p := ⟨C, 0, none⟩) (by show w.heap.size ≤ C; have := HCw.out; omega) _).setCell (p := ⟨C, 0 + 1, none⟩) (by show w.heap.size ≤ C; have := HCw.out; omega) _)
  clear hst
  go_wp2_with (refine wpList_store_mid rfl 27 (.tmp 2) (.tmp 20) rfl C 0 #[.pointer none, .pointer none] rfl (by simp only [Act.eval]; rfl) HSt.out.1 (by kernel_rfl) (by simp [Value.oneCell']) ?_)
  refine bodyPost_ret (results_row2 rfl _ _ C 27 #[.pointer none, .pointer none] (0, 0) _ rfl HSt.out.2.1 Try.underlying27 rfl (by kernel_rfl)) rfl ?_
  exact ⟨rfl, HFin.out⟩
end
end Go.Proofs.Ytngmnlmagbfijab
