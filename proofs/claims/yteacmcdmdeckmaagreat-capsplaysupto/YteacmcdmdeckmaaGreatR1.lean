import Derived.Test.YteacmcdmdeckmaaGreatB5
import Derived.Test.YteacmcdmdeckmaaGreatQ4
namespace Go.Proofs.YteacmcdmdeckmaaGreat
open Go.RowKit

/-- the book with another word at a place -/
def setAt (bk : List (Option Lst)) (i j : Nat) (o : Option Rc) : List (Option Lst) := bk.set i (some ((lf bk i).set j o))
theorem atB_some {bk : List (Option Lst)} {e s : Int} {r : Rc} (h : atB bk e s = some r) : ∃ (i j : Nat) (l : Lst), e = i ∧ s = j ∧ bk[i]? = some (some l) ∧ l[j]? = some (some r) ∧ lf bk i = l := by
  unfold atB at h
  obtain ⟨l, h1, h2⟩ := Option.bind_eq_some_iff.1 h
  rcases look_cases bk e with ⟨_, e1⟩ | ⟨k, rfl, hk, hm, e1⟩ | ⟨k, x, rfl, hk, hm, e1⟩
  · rw [e1] at h1; cases h1
  · rw [e1] at h1; cases h1
  · rw [e1] at h1; cases h1
    rcases look_cases l s with ⟨_, e2⟩ | ⟨q, rfl, hq, hm2, e2⟩ | ⟨q, y, rfl, hq, hm2, e2⟩
    · rw [e2] at h2; cases h2
    · rw [e2] at h2; cases h2
    · rw [e2] at h2; cases h2
      exact ⟨k, q, l, rfl, rfl, hm, hm2, by unfold lf; rw [e1]; rfl⟩
theorem atN_eq {bk : List (Option Lst)} {i j : Nat} {l : Lst} (h : bk[i]? = some (some l)) : atB bk (i : Int) (j : Int) = (l[j]?).join := by
  unfold atB; rw [look_nat, h]; exact look_nat l j
theorem atB_setAt {bk : List (Option Lst)} {i j : Nat} {l : Lst} {o : Option Rc} (h : bk[i]? = some (some l)) (hj : j < l.length) (a b : Nat) :
    atB (setAt bk i j o) (a : Int) (b : Int) = if a = i ∧ b = j then o else atB bk (a : Int) (b : Int) := by
  have hl : lf bk i = l := by unfold lf; rw [look_nat, h]; rfl
  have hi : i < bk.length := (List.getElem?_eq_some_iff.1 h).1
  unfold setAt
  rw [hl]
  by_cases e : a = i
  · subst e
    rw [atN_eq (l := l.set j o) (by rw [List.getElem?_set_self hi]), List.getElem?_set]
    by_cases e2 : b = j
    · subst e2; simp [hj]
    · rw [if_neg (fun e' => e2 e'.symm), if_neg (fun e' => e2 e'.2), atN_eq h]
  · rw [if_neg (fun e' => e e'.1)]
    unfold atB
    rw [look_nat, look_nat, List.getElem?_set_ne (fun e' => e e'.symm)]
/-- the same lists are open -/
def Shape (bk bk' : List (Option Lst)) : Prop := ∀ e : Int, (look bk' e).isSome = (look bk e).isSome
theorem Shape.refl (bk : List (Option Lst)) : Shape bk bk := fun _ => rfl
theorem Shape.trans {a b c : List (Option Lst)} (h : Shape a b) (k : Shape b c) : Shape a c := fun e => (k e).trans (h e)
theorem shape_set {bk : List (Option Lst)} {i : Nat} {l l' : Lst} (h : bk[i]? = some (some l)) : Shape bk (bk.set i (some l')) := by
  have hi : i < bk.length := (List.getElem?_eq_some_iff.1 h).1
  intro e
  rcases look_cases bk e with ⟨h1, e1⟩ | ⟨k, rfl, hk, hm, e1⟩ | ⟨k, x, rfl, hk, hm, e1⟩
  · rw [e1, look_out _ _ (by simpa using h1)]
  · rw [e1, look_nat, List.getElem?_set_ne (fun e => by subst e; rw [h] at hm; cases hm), hm]; rfl
  · rw [e1, look_nat]
    by_cases e : i = k
    · subst e; rw [List.getElem?_set_self hi]; rfl
    · rw [List.getElem?_set_ne e, hm]; rfl
theorem shape_setAt {bk : List (Option Lst)} {i j : Nat} {l : Lst} {o : Option Rc} (h : bk[i]? = some (some l)) : Shape bk (setAt bk i j o) := shape_set h

theorem ext_six {F F' : Nat → Prop} {a w : World} (h : Ext F a F' w) {b : Nat} (hb : a.heap.size ≤ b) (y0 y1 y2 y3 y4 y5 : Value) :
    Ext F a F' ((((((w.setCell ⟨b, 0, none⟩ y0).setCell ⟨b, 1, none⟩ y1).setCell ⟨b, 2, none⟩ y2).setCell ⟨b, 3, none⟩ y3).setCell ⟨b, 4, none⟩ y4).setCell ⟨b, 5, none⟩ y5) :=
  ⟨(((((h.mod.setCell (p := ⟨b, 0, none⟩) (.inr hb) _).setCell (p := ⟨b, 1, none⟩) (.inr hb) _).setCell (p := ⟨b, 2, none⟩) (.inr hb) _).setCell (p := ⟨b, 3, none⟩) (.inr hb) _).setCell (p := ⟨b, 4, none⟩) (.inr hb) _).setCell (p := ⟨b, 5, none⟩) (.inr hb) _, h.new⟩
theorem book_six {w : World} {F : Nat → Prop} {B : Nat} {bk : List (Option Lst)} (h : Book w F B bk) (b : Nat) (hb : ∀ x, F x → x ≠ b) (y0 y1 y2 y3 y4 y5 : Value) :
    Book ((((((w.setCell ⟨b, 0, none⟩ y0).setCell ⟨b, 1, none⟩ y1).setCell ⟨b, 2, none⟩ y2).setCell ⟨b, 3, none⟩ y3).setCell ⟨b, 4, none⟩ y4).setCell ⟨b, 5, none⟩ y5) F B bk :=
  h.keep (by simp [World.setCell]) (fun x hx => set6_other _ _ _ _ _ _ (hb x hx))
/-- a call on one list that makes no block of the table -/
theorem BookAt.upd0 {w : World} {F : Nat → Prop} {B T : Nat} {G : Nat → Prop} {m : List (Option Nat)} {fs : Nat → Nat → Prop} {bk : List (Option Lst)} (h : BookAt w F B T G m fs bk) {i b : Nat} (hi : m[i]? = some (some b)) {l' : Lst} (hl : l'.length = 48) {w' : World} (ht : Tab KR w' (fs i) b l') (hx : Ext (fs i) w (fs i) w') :
    Book w' F B (bk.set i (some l')) ∧ Ext F w F w' := by
  have h1 := h.upd hi hl ht hx
  have hFF : (fun x => F x ∨ fs i x) = F := funext fun x => propext ⟨fun hx => hx.elim id (fun hx => (h.own i b x hi hx).1), .inl⟩
  rw [hFF] at h1
  exact ⟨⟨_, _, _, _, h1.1⟩, h1.2⟩
set_option maxHeartbeats 3200000 in
theorem remove_any (w : World) (F : Nat → Prop) (B : Nat) (bk : List (Option Lst)) (h : Book w F B bk) (i j : Nat) (r : Rc) (hr : atB bk (i : Int) (j : Int) = some r) :
    Calls Tryz.prog 93 #[.pointer (some ⟨B, 0, none⟩), .agg #[.int .i64 (i : Int), .int .i64 (j : Int)]] w fun x w' => x = .returned r.val ∧ Book w' F B (setAt bk i j none) ∧ Ext F w F w' := by
  obtain ⟨i', j', l, ei, ej, hl, hlj, hlf⟩ := atB_some hr
  obtain rfl : i = i' := by omega
  obtain rfl : j = j' := by omega
  have hb0 := ((Below.refl w.heap.size w).alloc (Nat.le_refl _) (.cells #[.int .i64 (i : Int), .int .i64 (j : Int)] 48)).alloc (by simp) (.cells #[.int .i64 0, .int .i64 0, .int .i64 0, .int .i64 0, .int .i64 0, .int .i64 0] 65)
  have hk := h.below hb0
  have hP := heap_alloc2_old w (.cells #[.int .i64 (i : Int), .int .i64 (j : Int)] 48) (.cells #[.int .i64 0, .int .i64 0, .int .i64 0, .int .i64 0, .int .i64 0, .int .i64 0] 65)
  have hZ := heap_alloc2_new w (.cells #[.int .i64 (i : Int), .int .i64 (j : Int)] 48) (.cells #[.int .i64 0, .int .i64 0, .int .i64 0, .int .i64 0, .int .i64 0, .int .i64 0] 65)
  have hFn : ∀ x, w.heap.size ≤ x → ¬ F x := fun x hx hf => by have := h.lt _ hf; omega
  have HB0 := hide hb0
  have hsz : ((w.alloc (.cells #[.int .i64 (i : Int), .int .i64 (j : Int)] 48)).alloc (.cells #[.int .i64 0, .int .i64 0, .int .i64 0, .int .i64 0, .int .i64 0, .int .i64 0] 65)).heap.size = w.heap.size + 2 := by simp
  clear h hb0 hr
  go_enter Tryz.func93, Tryz.ntmps93
  go_wp2_with fail
  generalize (w.alloc (.cells #[.int .i64 (i : Int), .int .i64 (j : Int)] 48)).alloc (.cells #[.int .i64 0, .int .i64 0, .int .i64 0, .int .i64 0, .int .i64 0, .int .i64 0] 65) = w0 at *
  obtain ⟨T, G, m, fs, hA⟩ := hk
  obtain ⟨b, hm⟩ : ∃ b, m[i]? = some (some b) := by
    have hi : i < m.length := by rw [hA.len, ← hA.blen]; exact (List.getElem?_eq_some_iff.1 hl).1
    cases hmi : m[i] with
    | none => have := hA.free i (by rw [List.getElem?_eq_getElem hi, hmi]); rw [hl] at this; cases this
    | some b => exact ⟨b, by rw [List.getElem?_eq_getElem hi, hmi]⟩
  obtain ⟨l2, hl2, h48, hTl⟩ := hA.held i b hm
  obtain rfl : l = l2 := by rw [hl] at hl2; cases hl2; rfl
  have HG := hide (getL_any w0.drew G T m (hA.tab.below (Below.refl _ _).drew) i)
  rw [show look m (i : Int) = some b by rw [look_nat, hm]; rfl] at HG
  simp only [ptr, Option.isSome_some] at HG
  have c0 : w0.drew.cell? ⟨B, 0, none⟩ = some (.pointer (some ⟨T, 0, none⟩)) ∧ w0.drew.cell? ⟨w.heap.size, 0, none⟩ = some (.int .i64 (i : Int)) ∧ w0.drew.cell? ⟨w.heap.size, 1, none⟩ = some (.int .i64 (j : Int)) := ⟨hA.cell, (blk2 hP).1, (blk2 hP).2.1⟩
  have HA := hide hA
  have HM := hide hm
  have HTL := hide hTl
  have HLJ := hide hlj
  have HP := hide hP
  have HZ := hide hZ
  have HFN := hide hFn
  have HLF := hide hlf
  have H48 := hide h48
  clear hA hm hTl hlj hP hZ hl hl2 hFn hlf h48
  go_region_held (fun W => W.cell? ⟨B, 0, none⟩ = some (.pointer (some ⟨T, 0, none⟩)) ∧ W.cell? ⟨w.heap.size, 0, none⟩ = some (.int .i64 (i : Int)) ∧ W.cell? ⟨w.heap.size, 1, none⟩ = some (.int .i64 (j : Int)))
    (first | assumption | exact c0)
    (first | (go_at_call 33; refine HG.out.mono ?_; rintro e1 w1 ⟨rfl, hw1⟩; subst hw1))
  have K0 := HA
  have HTD := hide (dropR_some w0.drew (fs i) b l (HTL.out.below (Below.refl _ _).drew) j r HLJ.out)
  have hcj := c0.2.2
  clear c0 HG
  go_wp2_with fail
  refine HTD.out.mono ?_
  rintro e1 w2 ⟨rfl, hT2, hE2⟩
  have hlt2 : w.heap.size + 1 < w2.heap.size := by have := hE2.mod.size; have : w0.drew.heap.size = w0.heap.size := rfl; omega
  have hZ2 : w2.heap[w.heap.size + 1]? = some (.cells #[.int .i64 0, .int .i64 0, .int .i64 0, .int .i64 0, .int .i64 0, .int .i64 0] 65 (0, 0)) :=
    (hE2.mod.block (w.heap.size + 1) (show w.heap.size + 1 < w0.heap.size by omega) (fun hf => HFN.out _ (by omega) (HA.out.own i b _ HM.out hf).1)).trans HZ.out
  have K1 := hide ((HA.out.keep (w' := w0.drew) (Nat.le_refl _) (fun _ _ => rfl)).upd HM.out (l' := l.set j none) (by rw [List.length_set]; exact H48.out) hT2 hE2)
  have K2 := hide ((Ext.of_below (F := F) (HB0.out.drew)).trans K1.out.2)
  clear hT2 hE2 HTD hcj HTL HP HZ HA
  simp only [Rc.val]
  go_upto_region 3 with fail
  have hX : (w2.alloc (.cells #[.int .i64 r.k, .int .i64 r.o, .int .i64 r.s, .int .i64 r.r, .int .i64 r.e, .int .i64 r.t] 65)).heap[w2.heap.size]? = some (.cells #[.int .i64 r.k, .int .i64 r.o, .int .i64 r.s, .int .i64 r.r, .int .i64 r.e, .int .i64 r.t] 65 (0, 0)) := heap_alloc_new _ _
  have hY := (Below.heap_alloc w2 (.cells #[.int .i64 r.k, .int .i64 r.o, .int .i64 r.s, .int .i64 r.r, .int .i64 r.e, .int .i64 r.t] 65) (w.heap.size + 1) hlt2).trans hZ2
  have K3 := hide ((Below.refl w2.heap.size w2).alloc (Nat.le_refl _) (.cells #[.int .i64 r.k, .int .i64 r.o, .int .i64 r.s, .int .i64 r.r, .int .i64 r.e, .int .i64 r.t] 65))
  generalize w2.alloc (.cells #[.int .i64 r.k, .int .i64 r.o, .int .i64 r.s, .int .i64 r.r, .int .i64 r.e, .int .i64 r.t] 65) = W at *
  clear hZ2
  obtain ⟨d0, d1, d2, d3, d4, d5, f0, f1, f2, f3, f4, f5⟩ := blk6 hY
  obtain ⟨x0, x1, x2, x3, x4, x5, _, _, _, _, _, _⟩ := blk6 hX
  have HS := hide (fun a b c d e f => set6 hY a b c d e f)
  clear hX hY
  go_wp2
  refine bodyPost_ret (results_cell_row rfl _ _ (w.heap.size + 1) 65 #[.int .i64 r.k, .int .i64 r.o, .int .i64 r.s, .int .i64 r.r, .int .i64 r.e, .int .i64 r.t] (0, 0) _ rfl (HS.out _ _ _ _ _ _) Tryz.underlying65 rfl (by kernel_rfl)) rfl ?_
  have hsw : ∀ b, (F b ∨ fs i b) → b ≠ w.heap.size + 1 := by
    intro b' hb' e'
    subst e'
    rcases hb' with hb' | hb'
    · exact HFN.out _ (by omega) hb'
    · exact HFN.out _ (by omega) (K0.out.own i b _ HM.out hb').1
  have hbk : Book W (fun x => F x ∨ fs i x) B (bk.set i (some (l.set j none))) := Book.below ⟨_, _, _, _, K1.out.1⟩ K3.out
  have hFF : (fun x => F x ∨ fs i x) = F := funext fun x => propext ⟨fun hx => hx.elim id (fun hx => (K0.out.own i b x HM.out hx).1), .inl⟩
  have h8 := book_six hbk (w.heap.size + 1) (fun b' hb' => hsw b' hb') (.int .i64 r.k) (.int .i64 r.o) (.int .i64 r.s) (.int .i64 r.r) (.int .i64 r.e) (.int .i64 r.t)
  have h9 := ext_six (b := w.heap.size + 1) (K2.out.trans (Ext.of_below K3.out)) (Nat.le_succ _) (.int .i64 r.k) (.int .i64 r.o) (.int .i64 r.s) (.int .i64 r.r) (.int .i64 r.e) (.int .i64 r.t)
  rw [hFF] at h8 h9
  refine ⟨rfl, ?_, h9⟩
  unfold setAt
  rw [HLF.out]
  exact h8
end Go.Proofs.YteacmcdmdeckmaaGreat
