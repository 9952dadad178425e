import Derived.Test.YteacmcdmdeckmaaGreatCA
import Derived.Laws.EntriesVeiled
namespace Go.Proofs.YteacmcdmdeckmaaGreat
open Go.RowKit Go.Shelf
attribute [local go_sem] Oper.semAt_some

/-- what Find looks for -/
def wants (k s rt : Int) (r : Rc) : Bool := (decide (r.k = k) && decide (r.s = s)) && (bits .andNot .i64 rt r.r == 0)
/-- the lowest, or none -/
def Fnd (P : Rc → Bool) (l : Lst) (v : Int) : Prop :=
  (v = -1 ∧ ∀ y ∈ prs l 0, P y.2 = false) ∨ ∃ (p0 q : List (Nat × Rc)) (k : Nat) (r : Rc), prs l 0 = p0 ++ (k, r) :: q ∧ P r = true ∧ (∀ y ∈ p0, P y.2 = false) ∧ v = (k : Int)
set_option maxRecDepth 100000 in
set_option maxHeartbeats 8000000 in
theorem find_in (n : Nat) (hn : 3 ≤ n) (F : Nat → Prop) (B T : Nat) (G : Nat → Prop) (m : List (Option Nat)) (fs : Nat → Nat → Prop) (bk : List (Option Lst)) (w : World) (hBk : BookAt w F B T G m fs bk) (i : Nat) (l : Lst) (hl : bk[i]? = some (some l)) (k s rt : Int) (hrt : 0 ≤ rt ∧ rt ≤ 15) :
    CallsIn Fence.wide n Tryz.prog 24 #[.pointer (some ⟨B, 0, none⟩), .int .i64 (i : Int), .int .i64 k, .int .i64 s, .int .i64 rt] w fun e W' => ∃ v, e = .returned (.int .i64 v) ∧ Fnd (wants k s rt) l v ∧ Below w.heap.size w W' := by
  have h1 : 1 ≤ n := by omega
  obtain ⟨b, hm, hlm, h48, hTl⟩ := hBk.open' hl
  have hb0 : Below w.heap.size w ((w.alloc (.cells #[.int .i64 rt] 3)).alloc (.cells #[.int .i64 0] 3)) := ((Below.refl _ w).alloc (Nat.le_refl _) _).alloc (by simp) _
  have hA := hBk.keep (w' := (w.alloc (.cells #[.int .i64 rt] 3)).alloc (.cells #[.int .i64 0] 3)) hb0.size (fun x hx => hb0.block x (hBk.lt x hx))
  have c0 := hA.cell
  have HG := hide (getL_any _ G T m hA.tab i)
  rw [hlm] at HG
  simp only [ptr, Option.isSome_some] at HG
  have HAr := hide (fun W => areRights_any W rt)
  have hdr : decide (0 ≤ rt ∧ rt ≤ 15) = true := by simp; exact hrt
  rw [hdr] at HAr
  have bR : Boxed ((w.alloc (.cells #[.int .i64 rt] 3)).alloc (.cells #[.int .i64 0] 3)) w.heap.size 3 (.int .i64 rt) := (Boxed.new w 3 (.int .i64 rt)).alloc _
  have bO : Boxed ((w.alloc (.cells #[.int .i64 rt] 3)).alloc (.cells #[.int .i64 0] 3)) (w.heap.size + 1) 3 (.int .i64 0) := by
    have h9 := Boxed.new (w.alloc (.cells #[.int .i64 rt] 3)) 3 (.int .i64 0)
    rw [World.size_alloc] at h9
    exact h9
  have hT1 := hTl.below hb0
  have hFl : ∀ x, fs i x → x < w.heap.size := hTl.lt
  clear hA hBk hm hlm hdr hTl
  refine callsIn_of_wp_marks Tryz.func24 rfl trivial ?_ rfl
  simp only [Tryz.ntmps24, List.size_toArray, List.length_cons, List.length_nil, Nat.reduceAdd, Nat.reduceSub, Array.replicate_succ, Array.replicate_zero, List.push_toArray, List.append_toArray, List.nil_append, List.cons_append]
  gi_wp2_with fail
  generalize (w.alloc (.cells #[.int .i64 rt] 3)).alloc (.cells #[.int .i64 0] 3) = w1 at *
  have cR := bR.cell
  refine ⟨trivial, (callsIn_wide.2 HG.out).mono ?_⟩
  rintro e w9 ⟨rfl, hw9⟩
  rw [hw9]
  clear hw9 w9
  gi_wp2_with fail
  refine ⟨trivial, (callsIn_wide.2 (HAr.out _)).mono ?_⟩
  rintro e w9 ⟨rfl, hw9⟩
  rw [hw9]
  clear hw9 w9 HAr HG cR c0
  gi_wp2_with fail
  refine ⟨trivial, (callsIn_wide.2 (same_thing _ k s)).mono ?_⟩
  rintro e w4 ⟨rfl, hf4, hv4, hb4⟩
  have cC := (Boxed.new w4 83 .nilFunc).cell
  have fC := (Boxed.new w4 83 .nilFunc).frozen
  simp only [fv]
  gi_wp2_with fail
  refine ⟨trivial, (allR_in b (n - 1) _).mono ?_⟩
  rintro e w9 ⟨rfl, rfl⟩
  gi_wp2_with fail
  have hb5 : Below w4.heap.size w4 ((w4.alloc (.cells #[.func (.func 69) #[] #[.pointer (some ⟨w1.heap.size, 0, none⟩), .pointer (some ⟨w1.heap.size + 1, 0, none⟩)]] 83)).alloc (.cells #[.pointer (some ⟨b, 0, none⟩)] 37)) := ((Below.refl _ w4).alloc (Nat.le_refl _) _).alloc (by simp) _
  have c13 : Boxed ((w4.alloc (.cells #[.func (.func 69) #[] #[.pointer (some ⟨w1.heap.size, 0, none⟩), .pointer (some ⟨w1.heap.size + 1, 0, none⟩)]] 83)).alloc (.cells #[.pointer (some ⟨b, 0, none⟩)] 37)) w4.heap.size 83 (.func (.func 69) #[] #[.pointer (some ⟨w1.heap.size, 0, none⟩), .pointer (some ⟨w1.heap.size + 1, 0, none⟩)]) := (Boxed.new w4 83 (.func (.func 69) #[] #[.pointer (some ⟨w1.heap.size, 0, none⟩), .pointer (some ⟨w1.heap.size + 1, 0, none⟩)])).alloc _
  have hbox : ((w4.alloc (.cells #[.func (.func 69) #[] #[.pointer (some ⟨w1.heap.size, 0, none⟩), .pointer (some ⟨w1.heap.size + 1, 0, none⟩)]] 83)).alloc (.cells #[.pointer (some ⟨b, 0, none⟩)] 37)).heap[w4.heap.size + 1]? = some (.cells #[.pointer (some ⟨b, 0, none⟩)] 37 (0, 0)) := by
    have h9 := heap_alloc_new (w4.alloc (.cells #[.func (.func 69) #[] #[.pointer (some ⟨w1.heap.size, 0, none⟩), .pointer (some ⟨w1.heap.size + 1, 0, none⟩)]] 83)) (.cells #[.pointer (some ⟨b, 0, none⟩)] 37)
    rw [World.size_alloc] at h9
    exact h9
  have hsz : ((w4.alloc (.cells #[.func (.func 69) #[] #[.pointer (some ⟨w1.heap.size, 0, none⟩), .pointer (some ⟨w1.heap.size + 1, 0, none⟩)]] 83)).alloc (.cells #[.pointer (some ⟨b, 0, none⟩)] 37)).heap.size = w4.heap.size + 2 := by simp
  generalize (w4.alloc (.cells #[.func (.func 69) #[] #[.pointer (some ⟨w1.heap.size, 0, none⟩), .pointer (some ⟨w1.heap.size + 1, 0, none⟩)]] 83)).alloc (.cells #[.pointer (some ⟨b, 0, none⟩)] 37) = W0 at *
  clear cC fC
  have hb14 : Below w.heap.size w w4 := hb0.trans (hb4.mono hb0.size)
  have hs14 : w.heap.size + 2 ≤ w4.heap.size := by have h9 := hb4.size; have h8 := bO.lt; omega
  have hG : ∀ y, (fs i y ∨ y = w4.heap.size + 1) → y < W0.heap.size := by
    rintro y (hy | rfl)
    · have := hFl y hy; omega
    · omega
  have hlen : (prs l 0).length ≤ 48 := by rw [prs_len, ← h48]; exact count_le
  have bR4 := boxed_below bR hb4
  have bO4 := boxed_below bO hb4
  refine wpIn_rangeFunc_ownH rfl h1 (gf := 65) (lb := #[.pointer (some ⟨w4.heap.size + 1, 0, none⟩)]) rfl trivial (enters_of Tryz.func65 (by kernel_rfl) rfl)
    (allR_stops (n - 1) (by omega) (w4.heap.size + 1) b (fs i) l _ hbox ((hT1.below hb4).below hb5)) keepF_t (keepF_b hG) (Below.refl _ _) (fun _ => rfl)
    (fun pre W => ((∀ y ∈ pre.map Subtype.val, wants k s rt y.2 = false) ∧ Boxed W w4.heap.size 83 (.func (.func 69) #[] #[.pointer (some ⟨w1.heap.size, 0, none⟩), .pointer (some ⟨w1.heap.size + 1, 0, none⟩)]) ∧ Boxed W (w4.heap.size + 1) 37 (.pointer (some ⟨b, 0, none⟩)) ∧ pre.length ≤ (prs l 0).length) ∧ Below w4.heap.size w4 W)
    (fun c pre W => (c = .ret ∧ ∃ p0 j r, pre.map Subtype.val = p0 ++ [(j, r)] ∧ wants k s rt r = true ∧ (∀ y ∈ p0, wants k s rt y.2 = false) ∧ Boxed W (w.heap.size + 1) 3 (.int .i64 (j : Nat))) ∧ Below w.heap.size w W)
    (OwnFrom.and (Own.from (fun s A A' row hs hg hr => ⟨hs.1,
        hs.2.1.kept hg (fun e => by obtain ⟨o, h1, h2⟩ := hr _ e.symm; rw [show A.heap[w4.heap.size]? = _ from hs.2.1] at h1; cases h1; cases h2),
        hs.2.2.1.kept hg (fun e => by obtain ⟨o, h1, h2⟩ := hr _ e.symm; rw [show A.heap[w4.heap.size + 1]? = _ from hs.2.2.1] at h1; cases h1; cases h2), hs.2.2.2⟩) _) (ownFrom_below (Nat.le_refl _) (by omega)))
    (fun c => OwnFrom.and (Own.from (fun s A A' row hs hg hr => ⟨hs.1, by obtain ⟨_, p0, j, r, e1, e2, e3, e4⟩ := hs; exact ⟨p0, j, r, e1, e2, e3, e4.kept hg (fun e => by obtain ⟨o, h1, h2⟩ := hr _ e.symm; rw [show A.heap[w.heap.size + 1]? = _ from e4] at h1; cases h1; cases h2)⟩⟩) _) (ownFrom_below (by omega) (by omega)))
    ⟨⟨by simp, c13, hbox, by simp⟩, hb5⟩
    (fun x a' W => ∃ q, W.heap[q]? = some (.cells #[.int .i64 x.1.2.k, .int .i64 x.1.2.o, .int .i64 x.1.2.s, .int .i64 x.1.2.r, .int .i64 x.1.2.e, .int .i64 x.1.2.t] 65 (0, 0)) ∧ w4.heap.size ≤ q ∧ a' = { tmps := #[.pointer (some ⟨B, 0, none⟩), .int .i64 (i : Int), .int .i64 k, .int .i64 s, .int .i64 rt, undef, undef, undef, undef, .pointer (some ⟨w.heap.size, 0, none⟩), .pointer (some ⟨w.heap.size + 1, 0, none⟩), .pointer (some ⟨b, 0, none⟩), .bool true, .pointer (some ⟨w4.heap.size, 0, none⟩), .int .i64 (x.1.1 : Nat), .pointer (some ⟨q, 0, none⟩), .tuple #[.pointer (some ⟨b, 0, none⟩), .bool true], .pointer (some ⟨B, 0, none⟩), .pointer (some ⟨B, 0, none⟩), .pointer (some ⟨B, 0, none⟩), .pointer (some ⟨T, 0, none⟩), .int .i64 (i : Int), .tuple #[.pointer (some ⟨b, 0, none⟩), .bool true], .pointer (some ⟨b, 0, none⟩), .bool true, .bool true, .bool false, .bool false, .int .i64 rt, .bool true, .bool false, .bool false, .int .i64 k, .int .i64 s, .agg #[.int .i64 k, .int .i64 s], .func (.func 69) #[] #[.pointer (some ⟨w1.heap.size, 0, none⟩), .pointer (some ⟨w1.heap.size + 1, 0, none⟩)], .pointer (some ⟨b, 0, none⟩), .func (.func 65) #[] #[.pointer (some ⟨w4.heap.size + 1, 0, none⟩)], .int .i64 (x.1.1 : Nat), .agg #[.int .i64 x.1.2.k, .int .i64 x.1.2.o, .int .i64 x.1.2.s, .int .i64 x.1.2.r, .int .i64 x.1.2.e, .int .i64 x.1.2.t], undef, undef, undef, undef, undef, undef, undef, undef, undef], defers := [] })
    (fun x a' _ X Y row hs hg hr => by
      obtain ⟨q, h1, h3, h2⟩ := hs
      exact ⟨q, (hg.block q (Array.getElem?_eq_some_iff.1 h1).1 (fun e => by obtain ⟨o, h3, h4⟩ := (hr q e.symm).2; rw [h1] at h3; cases h3; cases h4)).trans h1, h3, h2⟩)
    ?assign ?body ?done ?stop
  case assign =>
    rintro l' pre x W K ⟨⟨hno, bF, bA, hpl⟩, hB⟩ hK
    obtain ⟨⟨xi, xr⟩, hx⟩ := x
    simp only [Rc.val] at hK ⊢
    gi_wp2
    exact hK _ _ ((KeepsOthers.alloc _ _).from _) ⟨by simp, fun c hc => Below.heap_alloc _ _ _ (by rcases hc with hc | rfl; have := hFl c hc; have := hB.size; omega; exact bA.lt)⟩ ⟨⟨hno, bF.alloc _, bA.alloc _, hpl⟩, hB.alloc hB.size _⟩ ⟨W.heap.size, heap_alloc_new W _, hB.size, rfl⟩
  case body =>
    rintro l' pre x a' W hl' ⟨r', hr'⟩ ⟨⟨hno, bF, bA, hpl⟩, hB⟩ ⟨q, hq, hq4, rfl⟩ hlt
    obtain ⟨⟨xi, xr⟩, hx⟩ := x
    have cF := bF.cell
    obtain ⟨d0, d1, d2, d3, d4, d5, _, _, _, _, _, _⟩ := blk6 hq
    have hFt := fits_thing w1.heap.size (w1.heap.size + 1) k s
    have HC := hide (hFt.run W xr ((hB.block _ (Array.getElem?_eq_some_iff.1 hf4).1).trans hf4) ((hB.block _ (Array.getElem?_eq_some_iff.1 hv4).1).trans hv4))
    have he := hFt.ent
    simp only [Rc.val] at HC cF ⊢
    gi_wp2_with fail
    refine ⟨trivial, fun _ => by omega, (CallsIn.inRound l' (callsIn_wide.2 HC.out)).mono ?_⟩
    rintro e W2 ⟨rfl, hb2⟩
    have bF2 := boxed_below bF hb2
    have bA2 := boxed_below bA hb2
    have hB2 := hB.trans (hb2.mono hB.size)
    have hq2 := (hb2.block q (Array.getElem?_eq_some_iff.1 hq).1).trans hq
    have hK2 : KeepF (fun y => fs i y ∨ y = w4.heap.size + 1) W W2 := ⟨hb2.size, fun y hy => hb2.block y (by rcases hy with hy | rfl; have := hFl y hy; have := hB.size; omega; exact bA.lt)⟩
    have hO2 := (keepsOthers_below hb2).from W0.heap.size
    have bR2 : Boxed W2 w.heap.size 3 (.int .i64 rt) := (hB2.block _ bR4.lt).trans bR4
    have bQ2 : Boxed W2 (w.heap.size + 1) 3 (.int .i64 0) := (hB2.block _ bO4.lt).trans bO4
    clear HC d0 d1 d2 d3 d4 d5 hq he cF bF bA hB hb2
    cases hP : (decide (xr.k = k) && decide (xr.s = s))
    · have hw9 : wants k s rt xr = false := by unfold wants; rw [hP]; rfl
      gi_wp2_with fail
      refine ⟨trivial, ?_⟩
      gi_wp2
      refine ⟨hO2, hK2, ⟨fun y hy => ?_, bF2, bA2, by simp; omega⟩, hB2⟩
      rw [List.map_append, List.map_cons, List.map_nil] at hy
      rcases List.mem_append.1 hy with h9 | h9
      · exact hno y h9
      · simp at h9; rw [h9]; exact hw9
    · obtain ⟨d0, d1, d2, d3, d4, d5, _, _, _, _, _, _⟩ := blk6 hq2
      have cR2 := bR2.cell
      have HH := hide (has_any W2 xr rt)
      simp only [Rc.val] at HH
      gi_wp2_with fail
      refine ⟨trivial, fun _ => by omega, (CallsIn.inRound l' (callsIn_wide.2 HH.out)).mono ?_⟩
      rintro e W3 ⟨rfl, hb3⟩
      have bF3 := boxed_below bF2 hb3
      have bA3 := boxed_below bA2 hb3
      have hB3 := hB2.trans (hb3.mono hB2.size)
      have hK3 : KeepF (fun y => fs i y ∨ y = w4.heap.size + 1) W W3 := keepF_t hK2 ⟨hb3.size, fun y hy => hb3.block y (by rcases hy with hy | rfl; have := hFl y hy; have := hB2.size; omega; exact bA2.lt)⟩
      have hO3 := hO2.trans ((keepsOthers_below hb3).from W0.heap.size)
      have bQ3 := boxed_below bQ2 hb3
      clear d0 d1 d2 d3 d4 d5 cR2 HH hb3 hq2 bF2 bA2 hB2 hK2 hO2 bQ2 bR2
      cases hW : (bits .andNot .i64 rt xr.r == 0)
      · have hw9 : wants k s rt xr = false := by unfold wants; rw [hP, hW]; rfl
        gi_wp2
        refine ⟨hO3, hK3, ⟨fun y hy => ?_, bF3, bA3, by simp; omega⟩, hB3⟩
        rw [List.map_append, List.map_cons, List.map_nil] at hy
        rcases List.mem_append.1 hy with h9 | h9
        · exact hno y h9
        · simp at h9; rw [h9]; exact hw9
      · have hw9 : wants k s rt xr = true := by unfold wants; rw [hP, hW]; rfl
        have cQ := bQ3.cell
        have fQ := bQ3.frozen
        gi_wp2
        refine ⟨hO3.trans ((KeepsOthers.setCell _ _ _).from _), ⟨rfl, List.map Subtype.val pre, xi, xr, by rw [List.map_append]; rfl, hw9, hno, bQ3.set _⟩, ?_⟩
        exact (hb14.trans (hB3.mono (by omega))).setCell (p := ⟨w.heap.size + 1, 0, none⟩) (by simp) _
  case done =>
    rintro D ys W hD hys ⟨⟨hno, bF, bA, hpl⟩, hB⟩ hK
    have bO5 : Boxed W (w.heap.size + 1) 3 (.int .i64 0) := (hB.block _ bO4.lt).trans bO4
    have cQ := bO5.cell
    have fQ := bO5.frozen
    gi_wp2
    have hK' := (KeepsOthers.setCell W ⟨w.heap.size + 1, 0, none⟩ (.int .i64 (-1))).same D _ hK rfl
    refine ⟨by simp, .inl ⟨_, _, rfl, run_takeDeferred hK', ?_⟩⟩
    have hc5 := cell_kept (bO5.set (.int .i64 (-1))).cell (grownBy_putObj' _ D (.deferred none)) (fun r e => by cases e; exact ⟨_, hK', rfl⟩)
    refine ⟨.int .i64 (-1), ?_, -1, rfl, .inl ⟨rfl, by rw [← hys]; exact hno⟩, ((hb14.trans (hB.mono (by omega))).setCell (p := ⟨w.heap.size + 1, 0, none⟩) (by simp) _).trans (belowK_b (w := w) (Nat.le_refl _) _ D _ _ (by omega) hK' rfl rfl)⟩
    simp [results, Tryz.f24, go_sem, hc5]
  case stop =>
    rintro D c pre W hD hpre ⟨⟨rfl, p0, j, r, hpr, hw, h0, bQ⟩, hB⟩ hK
    have cQ := bQ.cell
    gi_wp2
    refine ⟨by simp, .inl ⟨_, _, rfl, run_takeDeferred hK, ?_⟩⟩
    have hc5 := cell_kept cQ (grownBy_putObj' _ D (.deferred none)) (fun r e => by cases e; exact ⟨_, hK, rfl⟩)
    refine ⟨.int .i64 (j : Nat), ?_, (j : Int), rfl, .inr ?_, hB.trans (belowK_b (w := w) (Nat.le_refl _) W D _ _ (by omega) hK rfl rfl)⟩
    · simp [results, Tryz.f24, go_sem, hc5]
    · obtain ⟨q9, hq9⟩ := hpre
      refine ⟨p0, q9, j, r, ?_, hw, h0, rfl⟩
      rw [← hq9, hpr, List.append_assoc]
      rfl
/-- Find, of an open list -/
theorem find_any (w : World) (F : Nat → Prop) (B : Nat) (bk : List (Option Lst)) (h : Book w F B bk) (i : Nat) (l : Lst) (hl : bk[i]? = some (some l)) (k s rt : Int) (hrt : 0 ≤ rt ∧ rt ≤ 15) :
    Calls Tryz.prog 24 #[.pointer (some ⟨B, 0, none⟩), .int .i64 (i : Int), .int .i64 k, .int .i64 s, .int .i64 rt] w fun e W' => ∃ v, e = .returned (.int .i64 v) ∧ Fnd (wants k s rt) l v ∧ Below w.heap.size w W' := by
  obtain ⟨T, G, m, fs, h⟩ := h
  exact (callsIn_wide (n := 3)).1 (find_in 3 (Nat.le_refl _) F B T G m fs bk w h i l hl k s rt hrt)
end Go.Proofs.YteacmcdmdeckmaaGreat
