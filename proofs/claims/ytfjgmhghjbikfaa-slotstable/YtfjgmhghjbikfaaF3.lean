import Derived.Test.YtfjgmhghjbikfaaGI
namespace Go.Proofs.Ytfjgmhghjbikfaa
open Go.RowKit Go.Shelf
attribute [local go_sem] Oper.semAt_some

theorem cell_of_box {W : World} {B : Nat} {v : Value} {t : TypeId} (h : W.heap[B]? = some (.cells #[v] t (0, 0))) : W.cell? ⟨B, 0, none⟩ = some v ∧ W.frozen? ⟨B, 0, none⟩ = false := by
  constructor <;> simp [World.cell?, World.frozen?, h]
theorem cell_new (W : World) (v : Value) (t : TypeId) : (W.alloc (.cells #[v] t)).cell? ⟨W.heap.size, 0, none⟩ = some v ∧ (W.alloc (.cells #[v] t)).frozen? ⟨W.heap.size, 0, none⟩ = false :=
  cell_of_box (World.alloc_heap_new W _)
theorem cell_alloc {W : World} {a : Addr} {v : Value} (o : Obj) (h : W.cell? a = some v) : (W.alloc o).cell? a = some v := cell_kept h (World.grownBy_alloc W o none) (fun r e => by cases e)
theorem frozen_alloc {W : World} {a : Addr} {v : Value} (o : Obj) (h : W.cell? a = some v) (hf : W.frozen? a = false) : (W.alloc o).frozen? a = false := (frozen_kept h (World.grownBy_alloc W o none) (fun r e => by cases e)).trans hf

/-- what Find answers -/
def Found {α : Type} (m : List (Option α)) (v : α) (r : Int) : Prop := (r = -1 ∧ ∀ k : Nat, look m (k : Int) ≠ some v) ∨ ∃ k : Nat, r = k ∧ look m (k : Int) = some v ∧ ∀ j : Nat, j < k → look m (j : Int) ≠ some v
theorem found_none {α : Type} {m : List (Option α)} {v : α} (h : ∀ y ∈ prs m 0, y.2 ≠ v) : Found m v (-1) :=
  .inl ⟨rfl, fun _ hk => h _ (look_prs.1 hk) rfl⟩
theorem found_some {α : Type} {m : List (Option α)} {v : α} {p0 : List (Nat × α)} {k : Nat} (h : p0 ++ [(k, v)] <+: prs m 0) (h0 : ∀ y ∈ p0, y.2 ≠ v) : Found m v k := by
  refine .inr ⟨k, rfl, look_prs.2 (h.subset (by simp)), fun j hj hl => ?_⟩
  have hs : (prs m 0).Pairwise (fun a b => a.1 < b.1) := by unfold prs; exact prsL_sorted _ _
  obtain ⟨r, hr⟩ := h
  have hm := look_prs.1 hl
  rw [← hr] at hs hm
  rcases List.mem_append.1 hm with hm | hm
  · rcases List.mem_append.1 hm with hm | hm
    · exact h0 _ hm rfl
    · simp at hm; omega
  · have := (List.pairwise_append.1 hs).2.2 (k, v) (by simp) _ hm
    simp at this; omega

set_option maxRecDepth 100000 in
set_option maxHeartbeats 2000000 in
theorem find_in (n : Nat) (hn : 3 ≤ n) (F : Nat → Prop) (B : Nat) (m : List (Option Int)) (v : Int) (w : World) (hT : Tab KI w F B m) :
    CallsIn Fence.wide n Try.prog 42 #[.pointer (some ⟨B, 0, none⟩), .int .i64 v] w fun e W' => ∃ r : Int, e = .returned (.int .i64 r) ∧ Found m v r ∧ Below w.heap.size w W' := by
  have h1 : 1 ≤ n := by omega
  refine callsIn_of_wp_marks Try.func42 rfl trivial ?_ rfl
  simp only [Try.ntmps42, List.size_toArray, List.length_cons, List.length_nil, Nat.reduceAdd, Nat.reduceSub, Array.replicate_succ, Array.replicate_zero, List.push_toArray, List.append_toArray, List.nil_append, List.cons_append]
  gi_wp2_with fail
  refine ⟨trivial, (all_in B (n - 1) _).mono ?_⟩
  rintro e w' ⟨rfl, rfl⟩
  gi_wp2_with fail
  have c0 := cell_new w (.int .i64 v) 3
  have c1 := cell_new (w.alloc (.cells #[.int .i64 v] 3)) (.int .i64 0) 3
  have hbox := heap_alloc_new ((w.alloc (.cells #[.int .i64 v] 3)).alloc (.cells #[.int .i64 0] 3)) (.cells #[.pointer (some ⟨B, 0, none⟩)] 24)
  simp only [World.size_alloc] at c1 hbox
  have hB0 : Below w.heap.size w (((w.alloc (.cells #[.int .i64 v] 3)).alloc (.cells #[.int .i64 0] 3)).alloc (.cells #[.pointer (some ⟨B, 0, none⟩)] 24)) := (((Below.refl _ w).alloc (Nat.le_refl _) _).alloc (by simp) _).alloc (by simp; omega) _
  have hG : ∀ b, (F b ∨ b = w.heap.size + 1 + 1) → b < (((w.alloc (.cells #[.int .i64 v] 3)).alloc (.cells #[.int .i64 0] 3)).alloc (.cells #[.pointer (some ⟨B, 0, none⟩)] 24)).heap.size := by
    rintro b (hb | rfl)
    · have := hT.lt b hb; simp; omega
    · simp
  have hF : ∀ b, F b → b < w.heap.size := hT.lt
  refine wpIn_rangeFunc_ownF rfl h1 (gf := 57) (lb := #[.pointer (some ⟨w.heap.size + 1 + 1, 0, none⟩)]) rfl trivial (enters_of Try.func57 (by kernel_rfl) rfl)
    (all_stops (n - 1) (by omega) (w.heap.size + 1 + 1) B F m _ hbox (hT.below hB0)) keepF_t (keepF_b hG) (Below.refl _ _) (fun _ => rfl)
    (fun pre W => ((∀ y ∈ pre, y.2 ≠ v) ∧ W.cell? ⟨w.heap.size, 0, none⟩ = some (.int .i64 v) ∧ W.cell? ⟨w.heap.size + 1, 0, none⟩ = some (.int .i64 0) ∧ W.frozen? ⟨w.heap.size + 1, 0, none⟩ = false) ∧ Below w.heap.size w W)
    (fun c pre W => (c = .ret ∧ ∃ p0 k, pre = p0 ++ [(k, v)] ∧ (∀ y ∈ p0, y.2 ≠ v) ∧ W.cell? ⟨w.heap.size + 1, 0, none⟩ = some (.int .i64 (k : Nat))) ∧ Below w.heap.size w W)
    (OwnFrom.and (Own.from (fun s A B row hs hg hr => ⟨hs.1, cell_kept hs.2.1 hg hr, cell_kept hs.2.2.1 hg hr, (frozen_kept hs.2.2.1 hg hr).trans hs.2.2.2⟩) _) (ownFrom_below (Nat.le_refl _) (by simp; omega)))
    (fun c => OwnFrom.and (Own.from (fun s A B row hs hg hr => ⟨hs.1, by obtain ⟨_, p0, k, e, h, hc⟩ := hs; exact ⟨p0, k, e, h, cell_kept hc hg hr⟩⟩) _) (ownFrom_below (Nat.le_refl _) (by simp; omega)))
    ⟨⟨by simp, cell_alloc _ (cell_alloc _ c0.1), cell_alloc _ c1.1, frozen_alloc _ c1.1 c1.2⟩, hB0⟩
    (fun x => { tmps := #[.pointer (some ⟨B, 0, none⟩), .int .i64 v, undef, .pointer (some ⟨w.heap.size, 0, none⟩), .pointer (some ⟨w.heap.size + 1, 0, none⟩), .int .i64 (x.1 : Nat), .int .i64 x.2, .pointer (some ⟨B, 0, none⟩), .func (.func 57) #[] #[.pointer (some ⟨w.heap.size + 1 + 1, 0, none⟩)], .int .i64 (x.1 : Nat), .int .i64 x.2, undef, undef, undef, undef], defers := [] }) ?assign ?body ?done ?stop
  case assign =>
    intro l x W K hK
    gi_wp2
    exact hK
  case body =>
    rintro l pre x W ⟨⟨hp, hcw, hcr, hfr⟩, hB⟩ _
    obtain ⟨xi, xv⟩ := x
    gi_wp2
    · rename_i hx
      obtain rfl : xv = v := eq_of_beq hx
      exact ⟨KeepsOthers.setCell _ _ _, ⟨rfl, pre, xi, rfl, hp, World.cell?_setCell_same' _ _ _ (by rw [hcr]; rfl)⟩, hB.setCell (p := ⟨w.heap.size + 1, 0, none⟩) (by simp) _⟩
    · rename_i hx
      exact ⟨KeepsOthers.refl _, ⟨Nat.le_refl _, fun _ _ => rfl⟩, ⟨fun y hy => (List.mem_append.1 hy).elim (hp y) (fun e e' => by simp at e; subst e; subst e'; simp at hx), hcw, hcr, hfr⟩, hB⟩
  case done =>
    rintro D ys W hD rfl ⟨⟨hne, _, hcr, hfr⟩, hB⟩ hK
    gi_wp2
    have hK' := (KeepsOthers.setCell W ⟨w.heap.size + 1, 0, none⟩ (.int .i64 (-1))).same D _ hK rfl
    refine ⟨by simp, .inl ⟨_, _, rfl, run_takeDeferred hK', ?_⟩⟩
    have hc5 := cell_kept (World.cell?_setCell_same' W ⟨w.heap.size + 1, 0, none⟩ (.int .i64 (-1)) (by rw [hcr]; rfl)) (grownBy_putObj' _ D (.deferred none)) (fun r e => by cases e; exact ⟨_, hK', rfl⟩)
    refine ⟨.int .i64 (-1), ?_, -1, rfl, found_none hne, (hB.setCell (p := ⟨w.heap.size + 1, 0, none⟩) (by simp) _).trans (belowK_b (w := w) (Nat.le_refl _) _ D _ _ (by simp at hD; omega) hK' rfl rfl)⟩
    simp [results, Try.f42, go_sem, hc5]
  case stop =>
    rintro D c pre W hD hpre ⟨⟨rfl, p0, k, rfl, h0, hcr⟩, hB⟩ hK
    gi_wp2
    refine ⟨by simp, .inl ⟨_, _, rfl, run_takeDeferred hK, ?_⟩⟩
    have hc5 := cell_kept hcr (grownBy_putObj' _ D (.deferred none)) (fun r e => by cases e; exact ⟨_, hK, rfl⟩)
    refine ⟨.int .i64 (k : Nat), ?_, k, rfl, found_some hpre h0, hB.trans (belowK_b (w := w) (Nat.le_refl _) W D _ _ (by simp at hD; omega) hK rfl rfl)⟩
    simp [results, Try.f42, go_sem, hc5]
theorem findI_any (w : World) (F : Nat → Prop) (B : Nat) (m : List (Option Int)) (h : Tab KI w F B m) (v : Int) :
    Calls Try.prog 42 #[.pointer (some ⟨B, 0, none⟩), .int .i64 v] w fun e w' => ∃ r : Int, e = .returned (.int .i64 r) ∧ Found m v r ∧ Below w.heap.size w w' :=
  (callsIn_wide (n := 3)).1 (find_in 3 (Nat.le_refl _) F B m v w h)
end Go.Proofs.Ytfjgmhghjbikfaa
