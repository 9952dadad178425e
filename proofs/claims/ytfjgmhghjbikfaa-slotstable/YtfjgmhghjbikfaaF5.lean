import Derived.Test.YtfjgmhghjbikfaaF4
namespace Go.Proofs.Ytfjgmhghjbikfaa
open Go.RowKit Go.Shelf
attribute [local go_sem] Oper.semAt_some

/-- what stands in a table of n places when these pairs have been laid -/
def fill {α : Type} (n : Nat) (l : List (Nat × α)) : List (Option α) := l.foldl (fun m x => m.set x.1 (some x.2)) (List.replicate n none)
theorem fill_snoc {α : Type} (n : Nat) (l : List (Nat × α)) (x : Nat × α) : fill n (l ++ [x]) = (fill n l).set x.1 (some x.2) := by simp [fill]
theorem fold_len {α : Type} (l : List (Nat × α)) : ∀ m : List (Option α), (l.foldl (fun m x => m.set x.1 (some x.2)) m).length = m.length := by
  induction l with
  | nil => intro m; rfl
  | cons x t ih => intro m; rw [List.foldl_cons, ih]; simp
theorem fill_len {α : Type} (n : Nat) (l : List (Nat × α)) : (fill n l).length = n := by unfold fill; rw [fold_len]; simp
theorem fold_prs {α : Type} : ∀ (t a : List (Option α)), (prsL a.length t).foldl (fun m x => m.set x.1 (some x.2)) (a ++ List.replicate t.length none) = a ++ t
  | [], a => by simp [prsL]
  | none :: t, a => by
    have := fold_prs t (a ++ [none])
    simp only [List.length_append, List.length_cons, List.length_nil] at this
    rw [prsL, show a ++ List.replicate (none :: t).length none = a ++ [none] ++ List.replicate t.length none by simp [List.replicate_succ]]
    simpa using this
  | some x :: t, a => by
    have := fold_prs t (a ++ [some x])
    simp only [List.length_append, List.length_cons, List.length_nil] at this
    have e : (a ++ List.replicate (t.length + 1) none).set a.length (some x) = a ++ [some x] ++ List.replicate t.length none := by simp [List.replicate_succ]
    show (prsL (a.length + 1) t).foldl (fun m x => m.set x.1 (some x.2)) ((a ++ List.replicate (t.length + 1) none).set a.length (some x)) = _
    rw [e]
    simpa using this
theorem fill_prs {α : Type} (m : List (Option α)) : fill m.length (prs m 0) = m := by
  have := fold_prs m []
  simpa [fill, prs] using this
theorem clp_nat (n : Nat) (h : n ≤ 4096) : clp (n : Int) = n := by unfold clp; omega

set_option maxRecDepth 100000 in
set_option maxHeartbeats 2000000 in
theorem copy_in (n : Nat) (hn : 3 ≤ n) (F : Nat → Prop) (B : Nat) (m : List (Option Int)) (w : World) (hT : Tab KI w F B m) :
    CallsIn Fence.wide n Try.prog 10 #[.pointer (some ⟨B, 0, none⟩)] w fun e W' => ∃ (C : Nat) (Fc : Nat → Prop), e = .returned (.pointer (some ⟨C, 0, none⟩)) ∧ Tab KI W' Fc C m ∧ (∀ b, Fc b → w.heap.size ≤ b) ∧ Below w.heap.size w W' := by
  have h1 : 1 ≤ n := by omega
  have hcap := hT.cap
  refine callsIn_of_wp_marks Try.func10 rfl trivial ?_ rfl
  simp only [Try.ntmps10, List.size_toArray, List.length_cons, List.length_nil, Nat.reduceAdd, Nat.reduceSub, Array.replicate_succ, Array.replicate_zero, List.push_toArray, List.append_toArray, List.nil_append, List.cons_append]
  gi_wp2_with fail
  refine ⟨trivial, (callsIn_wide.2 (boundI_any w F B m hT)).mono ?_⟩
  rintro e w0 ⟨rfl, rfl⟩
  gi_wp2_with fail
  refine ⟨trivial, (callsIn_wide.2 (newI_any _ (m.length : Nat))).mono ?_⟩
  rintro e w1 ⟨rfl, hT1, hb1⟩
  rw [clp_nat _ hcap] at hT1
  have hlt1 : w0.heap.size + 1 < w1.heap.size := hT1.lt _ (.inr rfl)
  obtain ⟨p1, ps1, hT1⟩ := hT1
  have hR1 := hT1.raw
  rw [show (List.replicate m.length (none : Option Int)).countP Option.isSome = 0 from List.countP_eq_zero.2 (fun a ha => by rw [(List.mem_replicate.1 ha).2]; simp)] at hR1
  clear hT1
  gi_wp2_with fail
  refine ⟨trivial, (all_in B (n - 1) _).mono ?_⟩
  rintro e w' ⟨rfl, rfl⟩
  gi_wp2_with fail
  have hbox := heap_alloc_new (w1.alloc (.cells #[.pointer (some ⟨w0.heap.size + 1, 0, none⟩)] 24)) (.cells #[.pointer (some ⟨B, 0, none⟩)] 24)
  have hS0 := (Below.heap_alloc (w1.alloc (.cells #[.pointer (some ⟨w0.heap.size + 1, 0, none⟩)] 24)) (.cells #[.pointer (some ⟨B, 0, none⟩)] 24) w1.heap.size (by simp)).trans (heap_alloc_new w1 (.cells #[.pointer (some ⟨w0.heap.size + 1, 0, none⟩)] 24))
  simp only [World.size_alloc] at hbox
  have hB0 : Below w0.heap.size w0 ((w1.alloc (.cells #[.pointer (some ⟨w0.heap.size + 1, 0, none⟩)] 24)).alloc (.cells #[.pointer (some ⟨B, 0, none⟩)] 24)) := (hb1.alloc hb1.size _).alloc (by have := hb1.size; simp; omega) _
  have hR0 := (hR1.own (World.grownBy_alloc w1 (.cells #[.pointer (some ⟨w0.heap.size + 1, 0, none⟩)] 24) none) (fun r e => by cases e)).own (World.grownBy_alloc _ (.cells #[.pointer (some ⟨B, 0, none⟩)] 24) none) (fun r e => by cases e)
  have hsz0 : w1.heap.size + 1 < ((w1.alloc (.cells #[.pointer (some ⟨w0.heap.size + 1, 0, none⟩)] 24)).alloc (.cells #[.pointer (some ⟨B, 0, none⟩)] 24)).heap.size := by simp
  have hsz1 : ((w1.alloc (.cells #[.pointer (some ⟨w0.heap.size + 1, 0, none⟩)] 24)).alloc (.cells #[.pointer (some ⟨B, 0, none⟩)] 24)).heap.size = w1.heap.size + 2 := by simp
  generalize hW0 : (w1.alloc (.cells #[.pointer (some ⟨w0.heap.size + 1, 0, none⟩)] 24)).alloc (.cells #[.pointer (some ⟨B, 0, none⟩)] 24) = W0 at *
  have hG : ∀ b, (F b ∨ b = w1.heap.size + 1) → b < W0.heap.size := by
    rintro b (hb | rfl)
    · have := hT.lt b hb; have := hb1.size; omega
    · omega
  have hF : ∀ b, F b → b < w0.heap.size := hT.lt
  have hlen : (prs m 0).length ≤ 4096 := by rw [prs_len]; exact Nat.le_trans count_le hcap
  refine wpIn_rangeFunc_ownF rfl h1 (gf := 57) (lb := #[.pointer (some ⟨w1.heap.size + 1, 0, none⟩)]) rfl trivial (enters_of Try.func57 (by kernel_rfl) rfl)
    (all_stopsS (n - 1) (by omega) (w1.heap.size + 1) B F m W0 hbox (hT.below hB0)) keepF_t (keepF_b hG) (Below.refl _ _) (fun _ => rfl)
    (fun pre W => ((∃ (Fc : Nat → Prop) (p : Nat) (ps : List (Option Nat)), RawAt KI W Fc (w0.heap.size + 1) p ps (fill m.length (pre.map Subtype.val)) pre.length ∧ ∀ b, Fc b → w0.heap.size ≤ b ∧ b ≠ w1.heap.size ∧ b ≠ w1.heap.size + 1) ∧
      W.heap[w1.heap.size]? = some (.cells #[.pointer (some ⟨w0.heap.size + 1, 0, none⟩)] 24 (0, 0)) ∧ w1.heap.size + 1 < W.heap.size) ∧ Below w0.heap.size w0 W)
    (fun _ _ _ => False)
    (OwnFrom.and (Own.from (fun s A A' row hs hg hr => by
      obtain ⟨⟨Fc, p, ps, hR, hFc⟩, hS, hz⟩ := hs
      refine ⟨⟨Fc, p, ps, hR.own hg hr, hFc⟩, ?_, Nat.lt_of_lt_of_le hz hg.size⟩
      rw [hg.block _ (Array.getElem?_eq_some_iff.1 hS).1 (fun e => by obtain ⟨o, h1, h2⟩ := hr _ e.symm; rw [hS] at h1; cases h1; cases h2)]
      exact hS) _) (ownFrom_below (Nat.le_refl _) (by have := hb1.size; omega)))
    (fun _ _ _ _ _ hs _ _ => hs)
    ⟨⟨⟨_, p1, ps1, hR0, fun b hb => by omega⟩, hS0, hsz0⟩, hB0⟩
    (fun x => { tmps := #[.pointer (some ⟨B, 0, none⟩), undef, .pointer none, .pointer (some ⟨w1.heap.size, 0, none⟩), .int .i64 (x.1.1 : Nat), .int .i64 x.1.2, .pointer (some ⟨B, 0, none⟩), .int .i64 (m.length : Nat), .pointer (some ⟨w0.heap.size + 1, 0, none⟩), .pointer (some ⟨B, 0, none⟩), .func (.func 57) #[] #[.pointer (some ⟨w1.heap.size + 1, 0, none⟩)], .int .i64 (x.1.1 : Nat), .int .i64 x.1.2, undef, undef, undef, undef, undef], defers := [] }) ?assign ?body ?done ?stop
  case assign =>
    intro l x W K hK
    gi_wp2
    exact hK
  case body =>
    rintro l pre x W ⟨⟨⟨Fc, p, ps, hR, hFc⟩, hS, hz⟩, hB⟩ hpl
    obtain ⟨⟨xi, xv⟩, hxi⟩ := x
    have c0 := (cell_of_box hS).1
    have HC := hide (layRaw_any W Fc (w0.heap.size + 1) p pre.length ps _ hR xi (by rw [fill_len]; exact hxi) (by omega) xv)
    clear hbox hS0 hR0 hR1
    gi_wp2_with fail
    refine ⟨trivial, fun _ => by omega, (CallsIn.inRound l (callsIn_wide.2 HC.out)).mono ?_⟩
    rintro e W2 ⟨rfl, ⟨ps', hR2⟩, hM, hKO, hz2⟩
    gi_wp2
    refine ⟨hKO, ⟨hM.size, ?_⟩, ⟨⟨fun b => Fc b ∨ b = W.heap.size, p, ps', ?_, ?_⟩, ?_, by omega⟩, ?_⟩
    · rintro b (hb | rfl)
      · have h2 := hF b hb
        exact hM.block b (by have := hB.size; omega) (fun h => by have := (hFc b h).1; omega)
      · exact hM.block _ hz (fun h => (hFc _ h).2.2 rfl)
    · rw [List.map_append, List.map_cons, List.map_nil, fill_snoc, List.length_append]
      exact hR2
    · rintro b (hb | rfl)
      · exact hFc b hb
      · exact ⟨hB.size, by omega, by omega⟩
    · rw [hM.block _ (by omega) (fun h => (hFc _ h).2.1 rfl)]; exact hS
    · exact hB.trans (hM.below (fun b hb => (hFc b hb).1) hB.size)
  case done =>
    rintro D ys W hD hys ⟨⟨⟨Fc, p, ps, hR, hFc⟩, hS, hz⟩, hB⟩ hK
    have c0 := (cell_of_box hS).1
    clear hbox hS0 hR0 hR1
    gi_wp2
    refine ⟨by simp, .inl ⟨_, _, rfl, run_takeDeferred hK, ?_⟩⟩
    refine ⟨_, results_tmp rfl _ _ _, w0.heap.size + 1, Fc, rfl, ?_, fun b hb => (hFc b hb).1, hB.trans (belowK_b (w := w0) (Nat.le_refl _) W D _ _ (by have := hb1.size; omega) hK rfl rfl)⟩
    have h2 := hR.own (grownBy_putObj' W D (.deferred none)) (fun r e => by cases e; exact ⟨_, hK, rfl⟩)
    rw [hys, fill_prs] at h2
    exact ⟨p, ps, h2.tab (by rw [← prs_len, ← hys]; simp)⟩
  case stop =>
    rintro D c pre W _ _ h _
    exact h.elim
theorem copyI_any (w : World) (F : Nat → Prop) (B : Nat) (m : List (Option Int)) (h : Tab KI w F B m) :
    Calls Try.prog 10 #[.pointer (some ⟨B, 0, none⟩)] w fun e w' => ∃ (C : Nat) (Fc : Nat → Prop), e = .returned (.pointer (some ⟨C, 0, none⟩)) ∧ Tab KI w' Fc C m ∧ (∀ b, Fc b → w.heap.size ≤ b) ∧ Below w.heap.size w w' :=
  (callsIn_wide (n := 3)).1 (copy_in 3 (Nat.le_refl _) F B m w h)
end Go.Proofs.Ytfjgmhghjbikfaa
