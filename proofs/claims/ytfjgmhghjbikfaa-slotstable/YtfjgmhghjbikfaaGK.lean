import Derived.Test.YtfjgmhghjbikfaaGF
import Derived.Test.YtfjgmhghjbikfaaF5
namespace Go.Proofs.Ytfjgmhghjbikfaa
open Go.RowKit Go.Shelf
attribute [local go_sem] Oper.semAt_some

set_option maxHeartbeats 400000 in
theorem layRawC_any (w : World) (F : Nat → Prop) (B p cnt : Nat) (ps : List (Option Nat)) (m : List (Option Cl)) (h : RawAt KC w F B p ps m cnt) (k : Nat) (hk : k < m.length) (hcnt : cnt ≤ 4096) (c : Cl) :
    Calls Try.prog 50 #[.pointer (some ⟨B, 0, none⟩), .int .i64 k, c.val] w fun x w' => x = .returned (.tuple #[]) ∧ (∃ ps', RawAt KC w' (fun b => F b ∨ b = w.heap.size) B p ps' (m.set k (some c)) (cnt + 1)) ∧ Mod F w w' ∧ KeepsOthers w w' ∧ w.heap.size < w'.heap.size := by
  have HL := hide (fun t => h.lay hk c (c := t))
  have HM := hide (fun a b c => (((Mod.refl F w).alloc a).setCell (p := ⟨p, k, none⟩) (.inl h.fp) b).setCell (p := ⟨B, 1, none⟩) (.inl h.fB) c)
  have hB := h.lt B h.fB
  have hp := h.lt p h.fp
  have t1 := fun o => (Below.heap_alloc w o B hB).trans h.top
  have r1 := fun o => (Below.heap_alloc w o p hp).trans h.row
  have c0 := fun o => cell_of_row _ _ 0 _ _ _ (t1 o)
  have c1 := fun o => cell_of_row _ _ 1 _ _ _ (t1 o)
  have f1 := fun o => frozen_of_row _ B 1 _ _ (t1 o)
  have f2 := fun o => frozen_of_row _ p k _ _ (r1 o)
  have hks : k < ps.length := by rw [h.len]; exact hk
  have c2 := fun o => cell_of_row _ _ k _ _ _ (r1 o)
  simp at c0 c1 c2
  simp only [List.getElem?_eq_getElem hks, Option.map_some] at c2
  generalize ptr ps[k] = v0 at c2
  have hne := h.ne
  clear h t1 r1 hB hp
  generalize m.length = n at *
  simp only [Cl.val]
  go_enter Try.func50, Try.ntmps50
  go_wp2
  go_end0
  exact ⟨rfl, ⟨_, HL.out _ (by simp)⟩, HM.out _ _ _, ((KeepsOthers.alloc _ _).trans (KeepsOthers.setCell _ _ _)).trans (KeepsOthers.setCell _ _ _), by simp [World.setCell]⟩

set_option maxRecDepth 100000 in
set_option maxHeartbeats 2000000 in
theorem copyC_in (n : Nat) (hn : 3 ≤ n) (F : Nat → Prop) (B : Nat) (m : List (Option Cl)) (w : World) (hT : Tab KC w F B m) :
    CallsIn Fence.wide n Try.prog 11 #[.pointer (some ⟨B, 0, none⟩)] w fun e W' => ∃ (C : Nat) (Fc : Nat → Prop), e = .returned (.pointer (some ⟨C, 0, none⟩)) ∧ Tab KC W' Fc C m ∧ (∀ b, Fc b → w.heap.size ≤ b) ∧ Below w.heap.size w W' := by
  have h1 : 1 ≤ n := by omega
  have hcap := hT.cap
  refine callsIn_of_wp_marks Try.func11 rfl trivial ?_ rfl
  simp only [Try.ntmps11, List.size_toArray, List.length_cons, List.length_nil, Nat.reduceAdd, Nat.reduceSub, Array.replicate_succ, Array.replicate_zero, List.push_toArray, List.append_toArray, List.nil_append, List.cons_append]
  gi_wp2_with fail
  refine ⟨trivial, (callsIn_wide.2 (boundC_any w F B m hT)).mono ?_⟩
  rintro e w0 ⟨rfl, rfl⟩
  gi_wp2_with fail
  refine ⟨trivial, (callsIn_wide.2 (newC_any _ (m.length : Nat))).mono ?_⟩
  rintro e w1 ⟨rfl, hT1, hb1⟩
  rw [clp_nat _ hcap] at hT1
  have hlt1 : w0.heap.size + 1 < w1.heap.size := hT1.lt _ (.inr rfl)
  obtain ⟨p1, ps1, hT1⟩ := hT1
  have hR1 := hT1.raw
  rw [show (List.replicate m.length (none : Option Cl)).countP Option.isSome = 0 from List.countP_eq_zero.2 (fun a ha => by rw [(List.mem_replicate.1 ha).2]; simp)] at hR1
  clear hT1
  gi_wp2_with fail
  refine ⟨trivial, (allC_in B (n - 1) _).mono ?_⟩
  rintro e w' ⟨rfl, rfl⟩
  gi_wp2_with fail
  have hbox := heap_alloc_new (w1.alloc (.cells #[.pointer (some ⟨w0.heap.size + 1, 0, none⟩)] 25)) (.cells #[.pointer (some ⟨B, 0, none⟩)] 25)
  have hS0 := (Below.heap_alloc (w1.alloc (.cells #[.pointer (some ⟨w0.heap.size + 1, 0, none⟩)] 25)) (.cells #[.pointer (some ⟨B, 0, none⟩)] 25) w1.heap.size (by simp)).trans (heap_alloc_new w1 (.cells #[.pointer (some ⟨w0.heap.size + 1, 0, none⟩)] 25))
  simp only [World.size_alloc] at hbox
  have hB0 : Below w0.heap.size w0 ((w1.alloc (.cells #[.pointer (some ⟨w0.heap.size + 1, 0, none⟩)] 25)).alloc (.cells #[.pointer (some ⟨B, 0, none⟩)] 25)) := (hb1.alloc hb1.size _).alloc (by have := hb1.size; simp; omega) _
  have hR0 := (hR1.own (World.grownBy_alloc w1 (.cells #[.pointer (some ⟨w0.heap.size + 1, 0, none⟩)] 25) none) (fun r e => by cases e)).own (World.grownBy_alloc _ (.cells #[.pointer (some ⟨B, 0, none⟩)] 25) none) (fun r e => by cases e)
  have hsz0 : w1.heap.size + 1 < ((w1.alloc (.cells #[.pointer (some ⟨w0.heap.size + 1, 0, none⟩)] 25)).alloc (.cells #[.pointer (some ⟨B, 0, none⟩)] 25)).heap.size := by simp
  have hsz1 : ((w1.alloc (.cells #[.pointer (some ⟨w0.heap.size + 1, 0, none⟩)] 25)).alloc (.cells #[.pointer (some ⟨B, 0, none⟩)] 25)).heap.size = w1.heap.size + 2 := by simp
  generalize hW0 : (w1.alloc (.cells #[.pointer (some ⟨w0.heap.size + 1, 0, none⟩)] 25)).alloc (.cells #[.pointer (some ⟨B, 0, none⟩)] 25) = W0 at *
  have hG : ∀ b, (F b ∨ b = w1.heap.size + 1) → b < W0.heap.size := by
    rintro b (hb | rfl)
    · have := hT.lt b hb; have := hb1.size; omega
    · omega
  have hF : ∀ b, F b → b < w0.heap.size := hT.lt
  have hlen : (prs m 0).length ≤ 4096 := by rw [prs_len]; exact Nat.le_trans count_le hcap
  refine wpIn_rangeFunc_ownH rfl h1 (gf := 58) (lb := #[.pointer (some ⟨w1.heap.size + 1, 0, none⟩)]) rfl trivial (enters_of Try.func58 (by kernel_rfl) rfl)
    (allC_stops (n - 1) (by omega) (w1.heap.size + 1) B F m W0 hbox (hT.below hB0)) keepF_t (keepF_b hG) (Below.refl _ _) (fun _ => rfl)
    (fun pre W => ((∃ (Fc : Nat → Prop) (p : Nat) (ps : List (Option Nat)), RawAt KC W Fc (w0.heap.size + 1) p ps (fill m.length (pre.map Subtype.val)) pre.length ∧ ∀ b, Fc b → w0.heap.size ≤ b ∧ b ≠ w1.heap.size ∧ b ≠ w1.heap.size + 1) ∧
      W.heap[w1.heap.size]? = some (.cells #[.pointer (some ⟨w0.heap.size + 1, 0, none⟩)] 25 (0, 0)) ∧ w1.heap.size + 1 < W.heap.size) ∧ Below w0.heap.size w0 W)
    (fun _ _ _ => False)
    (OwnFrom.and (Own.from (fun s A A' row hs hg hr => by
      obtain ⟨⟨Fc, p, ps, hR, hFc⟩, hS, hz⟩ := hs
      refine ⟨⟨Fc, p, ps, hR.own hg hr, hFc⟩, ?_, Nat.lt_of_lt_of_le hz hg.size⟩
      rw [hg.block _ (Array.getElem?_eq_some_iff.1 hS).1 (fun e => by obtain ⟨o, h1, h2⟩ := hr _ e.symm; rw [hS] at h1; cases h1; cases h2)]
      exact hS) _) (ownFrom_below (Nat.le_refl _) (by have := hb1.size; omega)))
    (fun _ _ _ _ _ hs _ _ => hs)
    ⟨⟨⟨_, p1, ps1, hR0, fun b hb => by omega⟩, hS0, hsz0⟩, hB0⟩
    (fun x a' W => ∃ q, Box3 W q x.1.2 ∧ a' = { tmps := #[.pointer (some ⟨B, 0, none⟩), undef, .pointer none, .pointer (some ⟨w1.heap.size, 0, none⟩), .int .i64 (x.1.1 : Nat), .pointer (some ⟨q, 0, none⟩), .pointer (some ⟨B, 0, none⟩), .int .i64 (m.length : Nat), .pointer (some ⟨w0.heap.size + 1, 0, none⟩), .pointer (some ⟨B, 0, none⟩), .func (.func 58) #[] #[.pointer (some ⟨w1.heap.size + 1, 0, none⟩)], .int .i64 (x.1.1 : Nat), .agg #[.string x.1.2.s, .int .i64 x.1.2.a, .int .i64 x.1.2.b], undef, undef, undef, undef, undef], defers := [] })
    (fun x a' _ X Y row hs hg hr => by
      obtain ⟨q, h1, h2⟩ := hs
      exact ⟨q, h1.kept hg (fun r e => (hr r e).2), h2⟩)
    ?assign ?body ?done ?stop
  case assign =>
    rintro l pre x W K ⟨⟨⟨Fc, p, ps, hR, hFc⟩, hS, hz⟩, hB⟩ hK
    obtain ⟨⟨xi, xr⟩, hx⟩ := x
    simp only [Cl.val] at hK ⊢
    gi_wp2
    have hg := World.grownBy_alloc W (.cells #[.string xr.s, .int .i64 xr.a, .int .i64 xr.b] 39) none
    refine hK _ _ ((KeepsOthers.alloc _ _).from _) ⟨by simp, fun b hb => Below.heap_alloc _ _ _ (by rcases hb with hb | rfl; have := hF b hb; have := hB.size; omega; exact hz)⟩ ⟨⟨⟨Fc, p, ps, hR.own hg (fun r e => by cases e), hFc⟩, ?_, by simp; omega⟩, hB.alloc hB.size _⟩ ⟨W.heap.size, heap_alloc_new W _, rfl⟩
    rw [Below.heap_alloc _ _ _ (by omega)]; exact hS
  case body =>
    rintro l pre x a' W hl ⟨r, hr⟩ ⟨⟨⟨Fc, p, ps, hR, hFc⟩, hS, hz⟩, hB⟩ ⟨q, hq, rfl⟩ hpl
    obtain ⟨⟨xi, xv⟩, hxi⟩ := x
    have hxl : xi < m.length := (List.getElem?_eq_some_iff.1 hxi).1
    obtain ⟨d0, d1, d2, _, _, _⟩ := blk3 (show W.heap[q]? = _ from hq)
    have c0 := (cell_of_box hS).1
    have HC := hide (layRawC_any W Fc (w0.heap.size + 1) p pre.length ps _ hR xi (by rw [fill_len]; exact hxl) (by omega) xv)
    simp only [Cl.val] at HC
    clear hbox hS0 hR0 hR1
    gi_wp2_with fail
    refine ⟨trivial, fun _ => by omega, (CallsIn.inRound l (callsIn_wide.2 HC.out)).mono ?_⟩
    rintro e W2 ⟨rfl, ⟨ps', hR2⟩, hM, hKO, hz2⟩
    gi_wp2
    refine ⟨hKO.from _, ⟨hM.size, ?_⟩, ⟨⟨fun b => Fc b ∨ b = W.heap.size, p, ps', ?_, ?_⟩, ?_, by omega⟩, ?_⟩
    · rintro b (hb | rfl)
      · have h2 := hF b hb
        exact hM.block b (by have := hB.size; omega) (fun h => by have := (hFc b h).1; omega)
      · exact hM.block _ hz (fun h => (hFc _ h).2.2 rfl)
    · rw [List.map_append, List.map_cons, List.map_nil, fill_snoc, List.length_append]
      exact hR2
    · rintro b (hb | rfl)
      · exact hFc b hb
      · exact ⟨hB.size, by omega, by omega⟩
    · rw [hM.block _ (by omega) (fun h => (hFc _ h).2.1 rfl)]; exact hS
    · exact hB.trans (hM.below (fun b hb => (hFc b hb).1) hB.size)
  case done =>
    rintro D ys W hD hys ⟨⟨⟨Fc, p, ps, hR, hFc⟩, hS, hz⟩, hB⟩ hK
    have c0 := (cell_of_box hS).1
    clear hbox hS0 hR0 hR1
    gi_wp2
    refine ⟨by simp, .inl ⟨_, _, rfl, run_takeDeferred hK, ?_⟩⟩
    refine ⟨_, results_tmp rfl _ _ _, w0.heap.size + 1, Fc, rfl, ?_, fun b hb => (hFc b hb).1, hB.trans (belowK_b (w := w0) (Nat.le_refl _) W D _ _ (by have := hb1.size; omega) hK rfl rfl)⟩
    have h2 := hR.own (grownBy_putObj' W D (.deferred none)) (fun r e => by cases e; exact ⟨_, hK, rfl⟩)
    rw [hys, fill_prs] at h2
    exact ⟨p, ps, h2.tab (by rw [← prs_len, ← hys]; simp)⟩
  case stop =>
    rintro D c pre W _ _ h _
    exact h.elim
theorem copyC_any (w : World) (F : Nat → Prop) (B : Nat) (m : List (Option Cl)) (h : Tab KC w F B m) :
    Calls Try.prog 11 #[.pointer (some ⟨B, 0, none⟩)] w fun e w' => ∃ (C : Nat) (Fc : Nat → Prop), e = .returned (.pointer (some ⟨C, 0, none⟩)) ∧ Tab KC w' Fc C m ∧ (∀ b, Fc b → w.heap.size ≤ b) ∧ Below w.heap.size w w' :=
  (callsIn_wide (n := 3)).1 (copyC_in 3 (Nat.le_refl _) F B m w h)
end Go.Proofs.Ytfjgmhghjbikfaa
