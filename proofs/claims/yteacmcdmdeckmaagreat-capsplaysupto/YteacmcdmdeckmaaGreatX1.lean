import Derived.Test.YteacmcdmdeckmaaGreatR6
import Derived.Sort.QuietTacIn
namespace Go.Proofs.YteacmcdmdeckmaaGreat
open Go.RowKit Go.Shelf
attribute [local go_sem] Oper.semAt_some

/-- what is told of one that is held -/
def encH (e : Int) (x : Nat × Rc) : List Value := [.int .i64 e, .int .i64 (x.1 : Int), .int .i64 x.2.k, .int .i64 x.2.o, .int .i64 x.2.s, .int .i64 x.2.r]
def encHs (e : Int) (l : List (Nat × Rc)) : List Value := l.flatMap (encH e)
theorem encHs_snoc (e : Int) (l : List (Nat × Rc)) (x : Nat × Rc) : encHs e (l ++ [x]) = encHs e l ++ [.int .i64 e, .int .i64 (x.1 : Int), .int .i64 x.2.k, .int .i64 x.2.o, .int .i64 x.2.s, .int .i64 x.2.r] := by simp [encHs, encH]
theorem cell_six_new (w : World) (t : TypeId) (x0 x1 x2 x3 x4 x5 : Value) : ∀ (j : Nat) (u : Value), [x0, x1, x2, x3, x4, x5][j]? = some u → (w.alloc (.cells #[x0, x1, x2, x3, x4, x5] t)).cell? ((⟨w.heap.size, 0, none⟩ : Addr).add j) = some u := by
  intro j u hu
  have h : (w.alloc (.cells #[x0, x1, x2, x3, x4, x5] t)).heap[w.heap.size]? = some (.cells #[x0, x1, x2, x3, x4, x5] t (0, 0)) := heap_alloc_new _ _
  rw [add0, cell_of_row _ _ _ _ _ _ h]
  simpa using hu
theorem asked_wide (P : Program) (o : Oper) (a : Act) (C : World → Prop) : o.askedIn Fence.wide P a C := by
  intro w _ f _
  trivial
theorem info54' : ∃ i, Tryz.prog.info? 78 = some i ∧ i.zero = some (.agg #[.int .i64 0, .int .i64 0, .int .i64 0, .int .i64 0, .int .i64 0, .int .i64 0]) ∧ i.size = 6 ∧ i.bytes = 48 := info_parts (by kernel_rfl)
set_option maxRecDepth 100000 in
set_option maxHeartbeats 8000000 in
theorem list_in (n : Nat) (hn : 3 ≤ n) (F : Nat → Prop) (B T : Nat) (G : Nat → Prop) (m : List (Option Nat)) (fs : Nat → Nat → Prop) (bk : List (Option Lst)) (w : World) (hBk : BookAt w F B T G m fs bk) (i : Nat) (l : Lst) (hl : bk[i]? = some (some l)) :
    CallsIn Fence.wide n Tryz.prog 15 #[.pointer (some ⟨B, 0, none⟩), .int .i64 (i : Int)] w fun e W' => ∃ v, e = .returned (.tuple #[v, .int .i64 0]) ∧ W'.ownsRow w.heap.size 78 6 v (prs l 0).length (encHs (i : Int) (prs l 0)) ∧ Below w.heap.size w W' := by
  have h1 : 1 ≤ n := by omega
  obtain ⟨i54, hi, hz, hs, hb⟩ := info54'
  obtain ⟨b, hm, hlm, h48, hTl⟩ := hBk.open' hl
  have hA := fun o => hBk.keep (w' := w.alloc o) (by simp) (fun b hb => Below.heap_alloc _ _ _ (hBk.lt b hb))
  have c0 := fun o => (hA o).cell
  have HG := hide (fun o k => getL_any ((w.alloc o).drewN k) G T m ((hA o).tab.keep (Nat.le_refl _) (fun _ _ => rfl)) i)
  rw [hlm] at HG
  simp only [ptr, Option.isSome_some] at HG
  refine callsIn_of_wp_marks Tryz.func15 rfl trivial ?_ rfl
  simp only [Tryz.ntmps15, List.size_toArray, List.length_cons, List.length_nil, Nat.reduceAdd, Nat.reduceSub, Array.replicate_succ, Array.replicate_zero, List.push_toArray, List.append_toArray, List.nil_append, List.cons_append]
  gi_wp2_with fail
  refine wpIn_region_quiet_lit rfl (by kernel_rfl) (by kernel_rfl) ?_
  iterate 11
    refine wpQuietIn_step (asked_wide _ _ _ _) (fun K hK => ?_)
    go_simp
    first
      | (refine hK _ ?_; clear hK K)
      | (apply Exists.intro
         refine ⟨fun _ => ?_, hK _ ?_⟩
         first | (gi_at_call 33; refine CallsIn.quiet_of_same (callsIn_wide.2 (HG.out _ _)))
         clear hK K)
  refine wpQuietIn_nil ?_
  rintro _ ⟨nq, rfl⟩
  gi_wp2_with fail
  refine ⟨trivial, (allR_in b (n - 1) _).mono ?_⟩
  rintro e w' ⟨rfl, rfl⟩
  gi_wp2_with fail
  have hB0 : Below w.heap.size w ((((w.alloc (.cells #[.int .i64 (i : Int)] 3)).drewN nq).alloc (.cells #[.slice none 0 0] 52)).alloc (.cells #[.pointer (some ⟨b, 0, none⟩)] 37)) := by
    have h0 : Below w.heap.size w ((w.alloc (.cells #[.int .i64 (i : Int)] 3)).drewN nq) := by
      have h9 := (Below.refl w.heap.size w).alloc (Nat.le_refl _) (.cells #[.int .i64 (i : Int)] 3)
      exact ⟨h9.os, h9.tape, h9.output, h9.size, h9.block⟩
    exact (h0.alloc h0.size _).alloc (Nat.le_trans h0.size (by simp)) _
  have hsz : (((((w.alloc (.cells #[.int .i64 (i : Int)] 3)).drewN nq).alloc (.cells #[.slice none 0 0] 52)).alloc (.cells #[.pointer (some ⟨b, 0, none⟩)] 37))).heap.size = w.heap.size + 3 := by simp [World.drewN]
  have hN : ((w.alloc (.cells #[.int .i64 (i : Int)] 3)).drewN nq).heap.size = w.heap.size + 1 := by simp [World.drewN]
  have c3 : Boxed ((((w.alloc (.cells #[.int .i64 (i : Int)] 3)).drewN nq).alloc (.cells #[.slice none 0 0] 52)).alloc (.cells #[.pointer (some ⟨b, 0, none⟩)] 37)) w.heap.size 3 (.int .i64 (i : Int)) := by
    have h9 : Boxed ((w.alloc (.cells #[.int .i64 (i : Int)] 3)).drewN nq) w.heap.size 3 (.int .i64 (i : Int)) := Boxed.new w 3 _
    exact (h9.alloc _).alloc _
  have c8 : Boxed ((((w.alloc (.cells #[.int .i64 (i : Int)] 3)).drewN nq).alloc (.cells #[.slice none 0 0] 52)).alloc (.cells #[.pointer (some ⟨b, 0, none⟩)] 37)) (w.heap.size + 1) 52 (.slice none 0 0) := by
    have h9 := Boxed.new ((w.alloc (.cells #[.int .i64 (i : Int)] 3)).drewN nq) 52 (.slice none 0 0)
    rw [hN] at h9
    exact h9.alloc _
  have hbox : (((((w.alloc (.cells #[.int .i64 (i : Int)] 3)).drewN nq).alloc (.cells #[.slice none 0 0] 52)).alloc (.cells #[.pointer (some ⟨b, 0, none⟩)] 37))).heap[w.heap.size + 1 + 1]? = some (.cells #[.pointer (some ⟨b, 0, none⟩)] 37 (0, 0)) := by
    have h9 := heap_alloc_new (((w.alloc (.cells #[.int .i64 (i : Int)] 3)).drewN nq).alloc (.cells #[.slice none 0 0] 52)) (.cells #[.pointer (some ⟨b, 0, none⟩)] 37)
    rw [World.size_alloc, hN] at h9
    exact h9
  generalize ((((w.alloc (.cells #[.int .i64 (i : Int)] 3)).drewN nq).alloc (.cells #[.slice none 0 0] 52)).alloc (.cells #[.pointer (some ⟨b, 0, none⟩)] 37)) = W0 at *
  clear HG c0 hA hN
  have hFl : ∀ x, fs i x → x < w.heap.size := hTl.lt
  have hG : ∀ x, (fs i x ∨ x = w.heap.size + 1 + 1) → x < W0.heap.size := by
    rintro x (hx | rfl)
    · have := hFl x hx; omega
    · omega
  have hlen : (prs l 0).length ≤ 48 := by rw [prs_len, ← h48]; exact count_le
  refine wpIn_rangeFunc_ownH rfl h1 (gf := 65) (lb := #[.pointer (some ⟨w.heap.size + 1 + 1, 0, none⟩)]) rfl trivial (enters_of Tryz.func65 (by kernel_rfl) rfl)
    (allR_stops (n - 1) (by omega) (w.heap.size + 1 + 1) b (fs i) l _ hbox (hTl.below hB0)) keepF_t (keepF_b hG) (Below.refl _ _) (fun _ => rfl)
    (fun pre W => ((∃ v, Boxed W (w.heap.size + 1) 52 v ∧ W.ownsRow w.heap.size 78 6 v (pre.map Subtype.val).length (encHs (i : Int) (pre.map Subtype.val)) ∧ True) ∧ Boxed W w.heap.size 3 (.int .i64 (i : Int)) ∧ Boxed W (w.heap.size + 1 + 1) 37 (.pointer (some ⟨b, 0, none⟩)) ∧ pre.length ≤ (prs l 0).length) ∧ Below w.heap.size w W)
    (fun _ _ _ => False)
    (OwnFrom.and (Own.from (fun s A A' row hs hg hr => ⟨holdsRow_own w.heap.size (w.heap.size + 1) 52 78 6 (fun s : List { x : Nat × Rc // l[x.1]? = some (some x.2) } => (s.map Subtype.val).length) (fun s => encHs (i : Int) (s.map Subtype.val)) (fun _ _ => True) s A A' row hs.1 hg hr,
        hs.2.1.kept hg (fun e => by obtain ⟨o, h1, h2⟩ := hr _ e.symm; rw [show A.heap[w.heap.size]? = _ from hs.2.1] at h1; cases h1; cases h2),
        hs.2.2.1.kept hg (fun e => by obtain ⟨o, h1, h2⟩ := hr _ e.symm; rw [show A.heap[w.heap.size + 1 + 1]? = _ from hs.2.2.1] at h1; cases h1; cases h2), hs.2.2.2⟩) _) (ownFrom_below (Nat.le_refl _) (by omega)))
    (fun _ _ _ _ _ hs _ _ => hs)
    ⟨⟨⟨_, c8, ⟨rfl, .inl ⟨rfl, rfl⟩⟩, trivial⟩, c3, hbox, by simp⟩, hB0⟩
    (fun x a' W => ∃ q, W.heap[q]? = some (.cells #[.int .i64 x.1.2.k, .int .i64 x.1.2.o, .int .i64 x.1.2.s, .int .i64 x.1.2.r, .int .i64 x.1.2.e, .int .i64 x.1.2.t] 65 (0, 0)) ∧ a' = { tmps := #[.pointer (some ⟨B, 0, none⟩), .int .i64 (i : Int), undef, .pointer (some ⟨w.heap.size, 0, none⟩), .slice none 0 0, .int .i64 0, .pointer (some ⟨b, 0, none⟩), .bool true, .pointer (some ⟨w.heap.size + 1, 0, none⟩), .int .i64 (x.1.1 : Nat), .pointer (some ⟨q, 0, none⟩), .tuple #[.pointer (some ⟨b, 0, none⟩), .bool true], .pointer (some ⟨B, 0, none⟩), .pointer (some ⟨B, 0, none⟩), .pointer (some ⟨B, 0, none⟩), .pointer (some ⟨T, 0, none⟩), .int .i64 (i : Int), .tuple #[.pointer (some ⟨b, 0, none⟩), .bool true], .pointer (some ⟨b, 0, none⟩), .bool true, .bool true, .bool false, .pointer (some ⟨b, 0, none⟩), .func (.func 65) #[] #[.pointer (some ⟨w.heap.size + 1 + 1, 0, none⟩)], .int .i64 (x.1.1 : Nat), x.1.2.val, undef, undef, undef, undef, undef, undef, undef, undef, undef], defers := [] })
    (fun x a' _ X Y row hs hg hr => by
      obtain ⟨q, h1, h2⟩ := hs
      exact ⟨q, (hg.block q (Array.getElem?_eq_some_iff.1 h1).1 (fun e => by obtain ⟨o, h3, h4⟩ := (hr q e.symm).2; rw [h1] at h3; cases h3; cases h4)).trans h1, h2⟩)
    ?assign ?body ?done ?stop
  case assign =>
    rintro l' pre x W K ⟨⟨⟨v, bS, hown, _⟩, bF, bA, hpl⟩, hB⟩ hK
    obtain ⟨⟨xi, xr⟩, hx⟩ := x
    simp only [Rc.val] at hK ⊢
    gi_wp2
    exact hK _ _ ((KeepsOthers.alloc _ _).from _) ⟨by simp, fun c hc => Below.heap_alloc _ _ _ (by rcases hc with hc | rfl; have := hFl c hc; have := hB.size; omega; exact bA.lt)⟩ ⟨⟨⟨v, bS.alloc _, hown.alloc _, trivial⟩, bF.alloc _, bA.alloc _, hpl⟩, hB.alloc hB.size _⟩ ⟨W.heap.size, heap_alloc_new W _, rfl⟩
  case body =>
    rintro l' pre x a' W hl' ⟨r, hr⟩ ⟨⟨⟨v, bS, hown, _⟩, bF, bA, hpl⟩, hB⟩ ⟨q, hq, rfl⟩ hlt
    obtain ⟨⟨xi, xr⟩, hx⟩ := x
    have cF := bF.cell
    obtain ⟨d0, d1, d2, d3, d4, d5, _, _, _, _, _, _⟩ := blk6 hq
    have hpre : (List.map Subtype.val pre).length ≤ 48 := by simp; omega
    obtain ⟨L, hL⟩ : ∃ L, L = (List.map Subtype.val pre).length := ⟨_, rfl⟩
    rw [← hL] at hown hpre
    replace hL := hide hL
    obtain ⟨ao, co, rfl⟩ := own_shape hown
    have cS := bS.cell
    simp only [Rc.val]
    gi_wp2_with (gi_at_builtin; refine wpListIn_append_own_at _ rfl _ _ 52 rfl w.heap.size 78 i54 (.agg #[.int .i64 0, .int .i64 0, .int .i64 0, .int .i64 0, .int .i64 0, .int .i64 0]) 6 48 Tryz.underlying52 hi hz hs hb rfl (by decide) _ _ _ rfl (hown.alloc _) ⟨W.heap.size, 0, none⟩ 1 1 [.int .i64 (i : Int), .int .i64 (xi : Int), .int .i64 xr.k, .int .i64 xr.o, .int .i64 xr.s, .int .i64 xr.r] rfl rfl (cell_six_new _ _ _ _ _ _ _ _) (by simp [Value.oneCell']) (by unfold maxLen; omega) (by omega) (by have := hB.size; simp; omega) ?_; intro v' w3 hown3 hg3 _ _
                 obtain ⟨gg, cap, rfl⟩ := ownsRow_succ hown3
                 obtain ⟨b1, b2, b3, b4, b5⟩ := Boxed.appended bS (by decide) hown hB.size (by omega) hown3 hg3
                 have b6 := (bF.alloc (.cells #[.int .i64 (i : Int), .int .i64 (xi : Int), .int .i64 xr.k, .int .i64 xr.o, .int .i64 xr.s, .int .i64 xr.r] 78)).kept hg3 (bF.not_row (by decide) hown)
                 have b7 := (bA.alloc (.cells #[.int .i64 (i : Int), .int .i64 (xi : Int), .int .i64 xr.k, .int .i64 xr.o, .int .i64 xr.s, .int .i64 xr.r] 78)).kept hg3 (bA.not_row (by decide) hown)
                 have cB := b1.cell
                 have fB := b1.frozen)
    refine ⟨b4.from _, ⟨b5.size, fun c hc => ?_⟩, ⟨⟨_, b2, ?_⟩, b6.other (by omega) _, b7.other (by omega) _, by simp; omega⟩, hB.trans b5⟩
    · rcases hc with hc | rfl
      · exact b5.block c (hFl c hc)
      · exact (b7.other (by omega) _).trans bA.symm
    · rw [List.map_append, List.map_cons, List.map_nil, encHs_snoc, show (pre ++ [(⟨(xi, xr), hx⟩ : { x : Nat × Rc // l[x.1]? = some (some x.2) })]).length = L + 1 by rw [hL.out]; simp]
      exact b3
  case done =>
    rintro D ys W hD hys ⟨⟨⟨v, bS, hown, _⟩, bF, bA, hpl⟩, hB⟩ hK
    rw [hys] at hown
    obtain ⟨ao, co, rfl⟩ := own_shape hown
    have cS := bS.cell
    gi_wp2
    refine ⟨by simp, .inl ⟨_, _, rfl, run_takeDeferred hK, ?_⟩⟩
    refine ⟨_, results_tmp2 rfl _ _ _, _, rfl, ?_, hB.trans (belowK_b (w := w) (Nat.le_refl _) W D _ _ (by omega) hK rfl rfl)⟩
    exact ownsRow_putObj hown _ hK rfl
  case stop =>
    rintro D c pre W _ _ h _
    exact h.elim
end Go.Proofs.YteacmcdmdeckmaaGreat
