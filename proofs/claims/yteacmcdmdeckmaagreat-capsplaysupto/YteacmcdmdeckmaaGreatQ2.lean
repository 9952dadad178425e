import Derived.Test.YteacmcdmdeckmaaGreatQ1
namespace Go.Proofs.YteacmcdmdeckmaaGreat
open Go.RowKit Go.Shelf
attribute [local go_sem] Oper.semAt_some

/-- the places of those that a test is for -/
def fit (P : Rc → Bool) (ps : List (Nat × Rc)) : List Nat := (ps.filter (fun x => P x.2)).map Prod.fst
def nums (l : List Nat) : List Value := l.map (fun k : Nat => Value.int .i64 (k : Int))
theorem nums_len (l : List Nat) : (nums l).length = l.length := by simp [nums]
theorem fit_yes {P : Rc → Bool} {ps : List (Nat × Rc)} {k : Nat} {r : Rc} (h : P r = true) : fit P (ps ++ [(k, r)]) = fit P ps ++ [k] := by simp [fit, h]
theorem fit_no {P : Rc → Bool} {ps : List (Nat × Rc)} {k : Nat} {r : Rc} (h : P r = false) : fit P (ps ++ [(k, r)]) = fit P ps := by simp [fit, h]
theorem fit_le (P : Rc → Bool) (ps : List (Nat × Rc)) : (fit P ps).length ≤ ps.length := by simp [fit]; exact List.length_filter_le _ _
theorem keepsOthers_below {W W' : World} (h : Below W.heap.size W W') : KeepsOthers W W' := ⟨h.size, fun k _ hk _ => (h.block k (Array.getElem?_eq_some_iff.1 hk).1).trans hk⟩
theorem own_below {w w' : World} {base : Nat} {e : TypeId} {size : Nat} {v : Value} {n : Nat} {xs : List Value} (h : w.ownsRow base e size v n xs) (hb : Below w.heap.size w w') : w'.ownsRow base e size v n xs := by
  obtain ⟨h1, h2 | ⟨g, cap, cur, h2, h3, h4, h5⟩⟩ := h
  · exact ⟨h1, .inl h2⟩
  · exact ⟨h1, .inr ⟨g, cap, cur, h2, h3, (hb.block g (Array.getElem?_eq_some_iff.1 h4).1).trans h4, h5⟩⟩
theorem own_shape {w : World} {base : Nat} {e : TypeId} {size : Nat} {v : Value} {n : Nat} {xs : List Value} (h : w.ownsRow base e size v n xs) : ∃ a c, v = .slice a n c := by
  obtain ⟨h1, ⟨h2, h3⟩ | ⟨g, cap, cur, h2, _⟩⟩ := h
  · exact ⟨none, 0, by rw [h2, h3]⟩
  · exact ⟨_, _, h2⟩
theorem boxed_below {w w' : World} {B : Nat} {t : TypeId} {v : Value} (h : Boxed w B t v) (hb : Below w.heap.size w w') : Boxed w' B t v := (hb.block B h.lt).trans h
theorem info3' : ∃ i, Tryz.prog.info? 3 = some i ∧ i.zero = some (.int .i64 0) ∧ i.size = 1 ∧ i.bytes = 8 := info_parts (by kernel_rfl)

set_option maxRecDepth 100000 in
set_option maxHeartbeats 4000000 in
theorem fitting_in (n : Nat) (hn : 3 ≤ n) (F : Nat → Prop) (B : Nat) (m : Lst) (w : World) (hT : Tab KR w F B m) (g bf bv : Nat) (fo vo : Obj) (P : Rc → Bool) (hF : Fits g bf bv fo vo P) (hf : w.heap[bf]? = some fo) (hv : w.heap[bv]? = some vo) :
    CallsIn Fence.wide n Tryz.prog 37 #[.pointer (some ⟨B, 0, none⟩), fv g bf bv] w fun e W' => ∃ v, e = .returned v ∧ W'.ownsRow w.heap.size 3 1 v (fit P (prs m 0)).length (nums (fit P (prs m 0))) ∧ Below w.heap.size w W' := by
  have h1 : 1 ≤ n := by omega
  have hcap := hT.cap
  obtain ⟨i3, hi, hz, hs, hb⟩ := info3'
  refine callsIn_of_wp_marks Tryz.func37 rfl trivial ?_ rfl
  simp only [fv, Tryz.ntmps37, List.size_toArray, List.length_cons, List.length_nil, Nat.reduceAdd, Nat.reduceSub, Array.replicate_succ, Array.replicate_zero, List.push_toArray, List.append_toArray, List.nil_append, List.cons_append]
  gi_wp2_with fail
  refine ⟨trivial, (allR_in B (n - 1) _).mono ?_⟩
  rintro e w' ⟨rfl, rfl⟩
  gi_wp2_with fail
  have c0 : Boxed (w.alloc (.cells #[fv g bf bv] 83)) w.heap.size 83 (fv g bf bv) := Boxed.new w 83 (fv g bf bv)
  have c1 := Boxed.new (w.alloc (.cells #[fv g bf bv] 83)) 29 (.slice none 0 0)
  have hbox := heap_alloc_new ((w.alloc (.cells #[fv g bf bv] 83)).alloc (.cells #[.slice none 0 0] 29)) (.cells #[.pointer (some ⟨B, 0, none⟩)] 37)
  simp only [World.size_alloc] at c1 hbox
  have hB0 : Below w.heap.size w (((w.alloc (.cells #[fv g bf bv] 83)).alloc (.cells #[.slice none 0 0] 29)).alloc (.cells #[.pointer (some ⟨B, 0, none⟩)] 37)) := (((Below.refl _ w).alloc (Nat.le_refl _) _).alloc (by simp) _).alloc (by simp; omega) _
  have hsz : (((w.alloc (.cells #[fv g bf bv] 83)).alloc (.cells #[.slice none 0 0] 29)).alloc (.cells #[.pointer (some ⟨B, 0, none⟩)] 37)).heap.size = w.heap.size + 3 := by simp
  have c0' := (c0.alloc (.cells #[.slice none 0 0] 29)).alloc (.cells #[.pointer (some ⟨B, 0, none⟩)] 37)
  have c1' := c1.alloc (.cells #[.pointer (some ⟨B, 0, none⟩)] 37)
  simp only [fv] at hbox hB0 hsz c0' c1'
  generalize ((w.alloc (.cells #[.func (.func g) #[] #[.pointer (some ⟨bf, 0, none⟩), .pointer (some ⟨bv, 0, none⟩)]] 83)).alloc (.cells #[.slice none 0 0] 29)).alloc (.cells #[.pointer (some ⟨B, 0, none⟩)] 37) = W0 at *
  have hG : ∀ b, (F b ∨ b = w.heap.size + 1 + 1) → b < W0.heap.size := by
    rintro b (hb | rfl)
    · have := hT.lt b hb; omega
    · omega
  have hFl : ∀ b, F b → b < w.heap.size := hT.lt
  have hlen : (prs m 0).length ≤ 4096 := by rw [prs_len]; exact Nat.le_trans count_le hcap
  refine wpIn_rangeFunc_ownH rfl h1 (gf := 65) (lb := #[.pointer (some ⟨w.heap.size + 1 + 1, 0, none⟩)]) rfl trivial (enters_of Tryz.func65 (by kernel_rfl) rfl)
    (allR_stops (n - 1) (by omega) (w.heap.size + 1 + 1) B F m _ hbox (hT.below hB0)) keepF_t (keepF_b hG) (Below.refl _ _) (fun _ => rfl)
    (fun pre W => ((∃ v, Boxed W (w.heap.size + 1) 29 v ∧ W.ownsRow w.heap.size 3 1 v (fit P (pre.map Subtype.val)).length (nums (fit P (pre.map Subtype.val))) ∧ True) ∧ Boxed W w.heap.size 83 (fv g bf bv) ∧ Boxed W (w.heap.size + 1 + 1) 37 (.pointer (some ⟨B, 0, none⟩)) ∧ pre.length ≤ (prs m 0).length) ∧ Below w.heap.size w W)
    (fun _ _ _ => False)
    (OwnFrom.and (Own.from (fun s A A' row hs hg hr => ⟨holdsRow_own w.heap.size (w.heap.size + 1) 29 3 1 (fun s => (fit P (List.map Subtype.val s)).length) (fun s => nums (fit P (List.map Subtype.val s))) (fun _ _ => True) s A A' row hs.1 hg hr,
        hs.2.1.kept hg (fun e => by obtain ⟨o, h1, h2⟩ := hr _ e.symm; rw [show A.heap[w.heap.size]? = _ from hs.2.1] at h1; cases h1; cases h2),
        hs.2.2.1.kept hg (fun e => by obtain ⟨o, h1, h2⟩ := hr _ e.symm; rw [show A.heap[w.heap.size + 1 + 1]? = _ from hs.2.2.1] at h1; cases h1; cases h2), hs.2.2.2⟩) _) (ownFrom_below (Nat.le_refl _) (by omega)))
    (fun _ _ _ _ _ hs _ _ => hs)
    ⟨⟨⟨_, c1', ⟨rfl, .inl ⟨rfl, rfl⟩⟩, trivial⟩, c0', hbox, by simp⟩, hB0⟩
    (fun x a' W => ∃ q, W.heap[q]? = some (.cells #[.int .i64 x.1.2.k, .int .i64 x.1.2.o, .int .i64 x.1.2.s, .int .i64 x.1.2.r, .int .i64 x.1.2.e, .int .i64 x.1.2.t] 65 (0, 0)) ∧ a' = { tmps := #[.pointer (some ⟨B, 0, none⟩), fv g bf bv, undef, .pointer (some ⟨w.heap.size, 0, none⟩), .slice none 0 0, .pointer (some ⟨w.heap.size + 1, 0, none⟩), .int .i64 (x.1.1 : Nat), .pointer (some ⟨q, 0, none⟩), .pointer (some ⟨B, 0, none⟩), .func (.func 65) #[] #[.pointer (some ⟨w.heap.size + 1 + 1, 0, none⟩)], .int .i64 (x.1.1 : Nat), x.1.2.val, undef, undef, undef, undef, undef, undef, undef, undef], defers := [] })
    (fun x a' _ X Y row hs hg hr => by
      obtain ⟨q, h1, h2⟩ := hs
      exact ⟨q, (hg.block q (Array.getElem?_eq_some_iff.1 h1).1 (fun e => by obtain ⟨o, h3, h4⟩ := (hr q e.symm).2; rw [h1] at h3; cases h3; cases h4)).trans h1, h2⟩)
    ?assign ?body ?done ?stop
  case assign =>
    rintro l pre x W K ⟨⟨⟨v, bS, hown, _⟩, bF, bA, hpl⟩, hB⟩ hK
    obtain ⟨⟨xi, xr⟩, hx⟩ := x
    simp only [Rc.val] at hK ⊢
    gi_wp2
    exact hK _ _ ((KeepsOthers.alloc _ _).from _) ⟨by simp, fun b hb => Below.heap_alloc _ _ _ (by rcases hb with hb | rfl; have := hFl b hb; have := hB.size; omega; exact bA.lt)⟩ ⟨⟨⟨v, bS.alloc _, hown.alloc _, trivial⟩, bF.alloc _, bA.alloc _, hpl⟩, hB.alloc hB.size _⟩ ⟨W.heap.size, heap_alloc_new W _, rfl⟩
  case body =>
    rintro l pre x a' W hl ⟨r, hr⟩ ⟨⟨⟨v, bS, hown, _⟩, bF, bA, hpl⟩, hB⟩ ⟨q, hq, rfl⟩ hlt
    obtain ⟨⟨xi, xr⟩, hx⟩ := x
    have cF := bF.cell
    obtain ⟨d0, d1, d2, d3, d4, d5, _, _, _, _, _, _⟩ := blk6 hq
    have HC := hide (hF.run W xr ((hB.block bf (Array.getElem?_eq_some_iff.1 hf).1).trans hf) ((hB.block bv (Array.getElem?_eq_some_iff.1 hv).1).trans hv))
    have he := hF.ent
    simp only [Rc.val, fv] at HC cF ⊢
    gi_wp2_with fail
    refine ⟨trivial, fun _ => by omega, (CallsIn.inRound l (callsIn_wide.2 HC.out)).mono ?_⟩
    rintro e W2 ⟨rfl, hb2⟩
    have bS2 := boxed_below bS hb2
    have bF2 := boxed_below bF hb2
    have bA2 := boxed_below bA hb2
    have hown2 := own_below hown hb2
    have hB2 := hB.trans (hb2.mono hB.size)
    have hK2 : KeepF (fun b => F b ∨ b = w.heap.size + 1 + 1) W W2 := ⟨hb2.size, fun b hb' => hb2.block b (by rcases hb' with hb' | rfl; have := hFl b hb'; have := hB.size; omega; exact bA.lt)⟩
    have hO2 := (keepsOthers_below hb2).from W0.heap.size
    have hpre : (fit P (List.map Subtype.val pre)).length ≤ 4096 := by have := fit_le P (List.map Subtype.val pre); simp at this; omega
    clear HC d0 d1 d2 d3 d4 d5 hq he cF bS bF bA hown hB hb2
    cases hP : P xr
    · gi_wp2
      refine ⟨hO2, hK2, ⟨⟨v, bS2, ?_, trivial⟩, bF2, bA2, by simp; omega⟩, hB2⟩
      rw [List.map_append, List.map_cons, List.map_nil, fit_no hP]
      exact hown2
    · obtain ⟨ao, co, rfl⟩ := own_shape hown2
      have cS := bS2.cell
      gi_wp2_with (gi_at_builtin; refine wpListIn_append_own_at _ rfl _ _ 29 rfl w.heap.size 3 i3 (.int .i64 0) 1 8 Tryz.underlying29 hi hz hs hb rfl (by decide) _ _ _ rfl (hown2.alloc _) ⟨W2.heap.size, 0, none⟩ 1 1 [.int .i64 (xi : Int)] rfl rfl (cell_one_new _ _ _) (by simp [Value.oneCell']) (by unfold maxLen; omega) (by omega) (by have := hB2.size; simp; omega) ?_; intro v' w3 hown3 hg3 _ _
                   obtain ⟨gg, cap, rfl⟩ := ownsRow_succ hown3
                   obtain ⟨b1, b2, b3, b4, b5⟩ := Boxed.appended bS2 (by decide) hown2 hB2.size (by omega) hown3 hg3
                   have b6 := (bF2.alloc (.cells #[.int .i64 (xi : Int)] 3)).kept hg3 (bF2.not_row (by decide) hown2)
                   have b7 := (bA2.alloc (.cells #[.int .i64 (xi : Int)] 3)).kept hg3 (bA2.not_row (by decide) hown2)
                   have cB := b1.cell
                   have fB := b1.frozen)
      refine ⟨hO2.trans (b4.from _), keepF_t hK2 ⟨b5.size, fun b hb' => ?_⟩, ⟨⟨_, b2, ?_, trivial⟩, b6.other (by omega) _, b7.other (by omega) _, by simp; omega⟩, hB2.trans b5⟩
      · rcases hb' with hb' | rfl
        · exact b5.block b (hFl b hb')
        · exact (b7.other (by omega) _).trans bA2.symm
      · rw [List.map_append, List.map_cons, List.map_nil, fit_yes hP, List.length_append]
        have e : nums (fit P (List.map Subtype.val pre) ++ [xi]) = nums (fit P (List.map Subtype.val pre)) ++ [.int .i64 (xi : Int)] := by simp [nums]
        rw [e]
        exact b3
  case done =>
    rintro D ys W hD hys ⟨⟨⟨v, bS, hown, _⟩, bF, bA, hpl⟩, hB⟩ hK
    obtain ⟨ao, co, rfl⟩ := own_shape hown
    have cS := bS.cell
    gi_wp2
    refine ⟨by simp, .inl ⟨_, _, rfl, run_takeDeferred hK, ?_⟩⟩
    refine ⟨_, results_tmp rfl _ _ _, _, rfl, ?_, hB.trans (belowK_b (w := w) (Nat.le_refl _) W D _ _ (by omega) hK rfl rfl)⟩
    rw [hys] at hown
    exact ownsRow_putObj hown _ hK rfl
  case stop =>
    rintro D c pre W _ _ h _
    exact h.elim
theorem fitting_any (F : Nat → Prop) (B : Nat) (m : Lst) (w : World) (hT : Tab KR w F B m) (g bf bv : Nat) (fo vo : Obj) (P : Rc → Bool) (hF : Fits g bf bv fo vo P) (hf : w.heap[bf]? = some fo) (hv : w.heap[bv]? = some vo) :
    Calls Tryz.prog 37 #[.pointer (some ⟨B, 0, none⟩), fv g bf bv] w fun e W' => ∃ v, e = .returned v ∧ W'.ownsRow w.heap.size 3 1 v (fit P (prs m 0)).length (nums (fit P (prs m 0))) ∧ Below w.heap.size w W' :=
  (callsIn_wide (n := 3)).1 (fitting_in 3 (Nat.le_refl _) F B m w hT g bf bv fo vo P hF hf hv)
end Go.Proofs.YteacmcdmdeckmaaGreat
