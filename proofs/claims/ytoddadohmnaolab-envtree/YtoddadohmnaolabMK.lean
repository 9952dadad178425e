import Derived.Test.YtoddadohmnaolabMF
import Derived.Test.YtoddadohmnaolabMJ
namespace Go.Proofs.Ytoddadohmnaolab
open Go.RowKit Go.Shelf
attribute [local go_sem] Oper.semAt_some

/-- what Find answers -/
def Fd (rs : List (Option Er)) (s z : Int) : Prop := (z = -1 ∧ ∀ (k : Nat) (r : Er), rs[k]? = some (some r) → r.se ≠ s) ∨ ∃ (k : Nat) (r : Er), z = (k : Int) ∧ rs[k]? = some (some r) ∧ r.se = s
theorem boxed_set {W : World} {b : Nat} {t : TypeId} {v : Value} (h : Boxed W b t v) (u : Value) : Boxed (W.setCell ⟨b, 0, none⟩ u) b t u := by
  have h9 := heap_setCell_same _ b 0 _ _ u h
  simpa [Boxed] using h9
def Nf (rs : List (Option Er)) (s : Int) (l : List Nat) : Prop := ∀ k ∈ l, ∀ r : Er, rs[k]? = some (some r) → r.se ≠ s
theorem Nf.snoc {rs : List (Option Er)} {s : Int} {l : List Nat} (h : Nf rs s l) {k : Nat} {r : Er} (hr : rs[k]? = some (some r)) (hn : r.se ≠ s) : Nf rs s (l ++ [k]) := by
  intro j hj r9 hr9
  rcases List.mem_append.1 hj with hj | hj
  · exact h j hj r9 hr9
  · simp at hj
    subst hj
    rw [hr] at hr9
    cases hr9
    exact hn
set_option maxRecDepth 100000 in
set_option maxHeartbeats 8000000 in
theorem find_in (n : Nat) (hn : 3 ≤ n) (w : World) (F : Nat → Prop) (T : Nat) (rs : List (Option Er)) (last : Int) (S : Nat) (G : Nat → Prop) (m : List (Option Nat)) (h : EtAt w F T S G m rs last) (s : Int) :
    CallsIn Fence.wide n Try.prog 20 #[.pointer (some ⟨T, 0, none⟩), .int .i64 s] w fun x W' => ∃ z, x = .returned (.int .i64 z) ∧ Fd rs s z ∧ Below w.heap.size w W' := by
  have h1 : 1 ≤ n := by omega
  have cT := fun o o' => (h.keep (w' := ((w.alloc o).alloc o')) (by simp; omega) (fun b hb => by
    have := h.lt b hb
    rw [Below.heap_alloc _ _ _ (by simp; omega), Below.heap_alloc _ _ _ this])).cell.1
  refine callsIn_of_wp_marks Try.func20 rfl trivial ?_ rfl
  simp only [Try.ntmps20, List.size_toArray, List.length_cons, List.length_nil, Nat.reduceAdd, Nat.reduceSub, Array.replicate_succ, Array.replicate_zero, List.push_toArray, List.append_toArray, List.nil_append, List.cons_append]
  gi_wp2_with fail
  refine ⟨trivial, (allL_in S (n - 1) _).mono ?_⟩
  rintro e' w' ⟨rfl, rfl⟩
  gi_wp2_with fail
  -- the range
  have c0 := (Boxed.new w 3 (.int .i64 s)).alloc (.cells #[.int .i64 0] 3)
  have c1 := Boxed.new (w.alloc (.cells #[.int .i64 s] 3)) 3 (.int .i64 0)
  have hbox := heap_alloc_new ((w.alloc (.cells #[.int .i64 s] 3)).alloc (.cells #[.int .i64 0] 3)) (.cells #[.pointer (some ⟨S, 0, none⟩)] 73)
  have hB0 : Below w.heap.size w (((w.alloc (.cells #[.int .i64 s] 3)).alloc (.cells #[.int .i64 0] 3)).alloc (.cells #[.pointer (some ⟨S, 0, none⟩)] 73)) := (((Below.refl _ w).alloc (Nat.le_refl _) _).alloc (by simp) _).alloc (by simp; omega) _
  have hsz : (((w.alloc (.cells #[.int .i64 s] 3)).alloc (.cells #[.int .i64 0] 3)).alloc (.cells #[.pointer (some ⟨S, 0, none⟩)] 73)).heap.size = w.heap.size + 3 := by simp
  have c0' := c0.alloc (.cells #[.pointer (some ⟨S, 0, none⟩)] 73)
  have c1' := c1.alloc (.cells #[.pointer (some ⟨S, 0, none⟩)] 73)
  simp only [World.size_alloc] at c0' c1' hbox
  clear c0 c1 cT
  generalize (((w.alloc (.cells #[.int .i64 s] 3)).alloc (.cells #[.int .i64 0] 3)).alloc (.cells #[.pointer (some ⟨S, 0, none⟩)] 73)) = W0 at *
  have hT := h.tab
  have hG : ∀ b, (G b ∨ b = (w.heap.size + 1 + 1)) → b < W0.heap.size := by
    rintro b (hb | rfl)
    · have := hT.lt b hb; omega
    · omega
  have hFl : ∀ b, G b → b < w.heap.size := hT.lt
  refine wpIn_rangeFunc_ownH rfl h1 (gf := 64) (lb := #[.pointer (some ⟨(w.heap.size + 1 + 1), 0, none⟩)]) rfl trivial (enters_of Try.func64 (by kernel_rfl) rfl)
    (allL_stops (n - 1) (by omega) (w.heap.size + 1 + 1) S G m _ hbox (hT.below hB0)) keepF_t (keepF_b hG) (Below.refl _ _) (fun _ => rfl)
    (fun pre W => (Nf rs s (pre.map (fun x => x.1.1)) ∧ Boxed W w.heap.size 3 (.int .i64 s) ∧ Boxed W (w.heap.size + 1) 3 (.int .i64 0) ∧ Boxed W (w.heap.size + 1 + 1) 73 (.pointer (some ⟨S, 0, none⟩))) ∧ Below w.heap.size w W)
    (fun c pre W => (c = .ret ∧ ∃ (k : Nat) (r : Er), rs[k]? = some (some r) ∧ r.se = s ∧ Boxed W (w.heap.size + 1) 3 (.int .i64 (k : Int))) ∧ Below w.heap.size w W)
    (OwnFrom.and (Own.from (fun s' A A' row hs hg hr => ⟨hs.1,
        hs.2.1.kept hg (fun e9 => by obtain ⟨o, h1, h2⟩ := hr _ e9.symm; rw [show A.heap[w.heap.size]? = _ from hs.2.1] at h1; cases h1; cases h2),
        hs.2.2.1.kept hg (fun e9 => by obtain ⟨o, h1, h2⟩ := hr _ e9.symm; rw [show A.heap[(w.heap.size + 1)]? = _ from hs.2.2.1] at h1; cases h1; cases h2),
        hs.2.2.2.kept hg (fun e9 => by obtain ⟨o, h1, h2⟩ := hr _ e9.symm; rw [show A.heap[(w.heap.size + 1 + 1)]? = _ from hs.2.2.2] at h1; cases h1; cases h2)⟩) _) (ownFrom_below (Nat.le_refl _) (by omega)))
    (fun c => OwnFrom.and (Own.from (fun s' A A' row hs hg hr => ⟨hs.1, by
        obtain ⟨_, k, r, hk, hr9, hb9⟩ := hs
        exact ⟨k, r, hk, hr9, hb9.kept hg (fun e9 => by obtain ⟨o, h1, h2⟩ := hr _ e9.symm; rw [show A.heap[(w.heap.size + 1)]? = _ from hb9] at h1; cases h1; cases h2)⟩⟩) _) (ownFrom_below (Nat.le_refl _) (by omega)))
    ⟨⟨fun k hk => by simp at hk, c0', c1', hbox⟩, hB0⟩
    (fun x a' _ => a' = { tmps := #[.pointer (some ⟨T, 0, none⟩), .int .i64 s, undef, .pointer (some ⟨w.heap.size, 0, none⟩), .pointer (some ⟨(w.heap.size + 1), 0, none⟩), .int .i64 (x.1.1 : Nat), .pointer (some ⟨x.1.2, 0, none⟩), .pointer (some ⟨T, 0, none⟩), .pointer (some ⟨T, 0, none⟩), .pointer (some ⟨T, 0, none⟩), .pointer (some ⟨S, 0, none⟩), .func (.func 64) #[] #[.pointer (some ⟨(w.heap.size + 1 + 1), 0, none⟩)], .int .i64 (x.1.1 : Nat), .pointer (some ⟨x.1.2, 0, none⟩), undef, undef, undef, undef, undef, undef, undef, undef], defers := [] })
    (fun _ _ _ _ _ _ hs _ _ => hs)
    ?assign ?body ?done ?stop
  case assign =>
    rintro l pre x W K hi' hK
    obtain ⟨⟨xi, xb⟩, hx⟩ := x
    gi_wp2
    exact hK _ _ (KeepsFrom.refl _ _) ⟨Nat.le_refl _, fun _ _ => rfl⟩ hi' rfl
  case body =>
    rintro l pre x a' W hl ⟨r, hr⟩ ⟨⟨hne, bS, bR, bA⟩, hB⟩ rfl hlt
    obtain ⟨⟨xi, xb⟩, hx⟩ := x
    obtain ⟨rec, hr1, hr2⟩ := h.held xi xb hx
    have hRb := hr2.keep (hB.block xb hr2.lt)
    have cP := hRb.get (j := 0) rfl
    have cE := bS.cell
    clear hr2 hRb
    gi_wp2_with fail
    have hb2 : Below W.heap.size W W.drew := ⟨rfl, rfl, rfl, Nat.le_refl _, fun _ _ => rfl⟩
    have bS2 := boxed_below bS hb2
    have bR2 := boxed_below bR hb2
    have bA2 := boxed_below bA hb2
    have hB2 := hB.trans (hb2.mono hB.size)
    have hK2 : KeepF (fun b => G b ∨ b = (w.heap.size + 1 + 1)) W W.drew := ⟨hb2.size, fun b hb' => hb2.block b (by rcases hb' with hb' | rfl; have := hFl b hb'; have := hB.size; omega; exact bA.lt)⟩
    have hO2 := (keepsOthers_below hb2).from W0.heap.size
    have HF := hide (And.intro bS2 (And.intro bR2 (And.intro bA2 (And.intro hB2 (And.intro hK2 hO2)))))
    clear bR bA hB hb2 bS2 bR2 bA2 hB2 hK2 hO2
    by_cases hpe : rec.se = s
    · subst hpe
      gi_region
      all_goals
        obtain ⟨bS2, bR2, bA2, hB2, hK2, hO2⟩ := HF.out
        generalize W.drew = W2 at *
        have cR := bR2.cell
        have fR := bR2.frozen
        have bN := boxed_set bR2 (.int .i64 (xi : Int))
        gi_wp2
        exact ⟨hO2.trans ((KeepsOthers.setCell _ _ _).from _), ⟨rfl, xi, rec, hr1, rfl, bN⟩, hB2.setCell (p := ⟨w.heap.size + 1, 0, none⟩) (by simp) _⟩
    · have hd : decide (rec.se = s) = false := by simp [hpe]
      gi_region
      all_goals
        obtain ⟨bS2, bR2, bA2, hB2, hK2, hO2⟩ := HF.out
        generalize W.drew = W2 at *
        gi_wp2
        refine ⟨hO2, hK2, ⟨?_, bS2, bR2, bA2⟩, hB2⟩
        rw [List.map_append]
        exact hne.snoc hr1 hpe
  case done =>
    rintro D ys W hDl hys ⟨⟨hne, bS, bR, bA⟩, hB⟩ hK
    have bN := boxed_set bR (.int .i64 (-1))
    have cR := bR.cell
    have fR := bR.frozen
    gi_wp2
    have hK' := (KeepsOthers.setCell W ⟨w.heap.size + 1, 0, none⟩ (.int .i64 (-1))).same D _ hK rfl
    refine ⟨by simp, .inl ⟨_, _, rfl, run_takeDeferred hK', ?_⟩⟩
    have bF := bN.kept (grownBy_putObj' _ D (.deferred none)) (fun e9 => by cases e9; omega)
    have hc5 := bF.cell
    refine ⟨.int .i64 (-1), ?_, -1, rfl, .inl ⟨rfl, fun k r hk => ?_⟩, (hB.setCell (p := ⟨w.heap.size + 1, 0, none⟩) (by simp) _).trans (belowK_b (w := w) (Nat.le_refl _) _ D _ _ (by omega) hK' rfl rfl)⟩
    · simp [results, Try.f20, go_sem, hc5]
    · have hm : k ∈ ys.map (fun x => x.1.1) := by
        have e1 : ys.map (fun x => x.1.1) = (prs rs 0).map Prod.fst := by rw [← h.fsts, ← hys, List.map_map]; rfl
        rw [e1]
        exact List.mem_map.2 ⟨(k, r), prs_mem.2 hk, rfl⟩
      exact hne k hm r hk
  case stop =>
    rintro D c pre W hDl hpre ⟨⟨rfl, k, r, hk, hr9, hb9⟩, hB⟩ hK
    gi_wp2
    refine ⟨by simp, .inl ⟨_, _, rfl, run_takeDeferred hK, ?_⟩⟩
    have bF := hb9.kept (grownBy_putObj' _ D (.deferred none)) (fun e9 => by cases e9; omega)
    have hc5 := bF.cell
    refine ⟨.int .i64 (k : Int), ?_, (k : Int), rfl, .inr ⟨k, r, rfl, hk, hr9⟩, hB.trans (belowK_b (w := w) (Nat.le_refl _) W D _ _ (by omega) hK rfl rfl)⟩
    simp [results, Try.f20, go_sem, hc5]
theorem find_any {w : World} {F : Nat → Prop} {T : Nat} {rs : List (Option Er)} {last : Int} (h : Et w F T rs last) (s : Int) : Calls Try.prog 20 #[.pointer (some ⟨T, 0, none⟩), .int .i64 s] w fun x W' => ∃ z, x = .returned (.int .i64 z) ∧ Fd rs s z ∧ Below w.heap.size w W' := by
  obtain ⟨S, G, m, h⟩ := h
  exact (callsIn_wide (n := 3)).1 (find_in 3 (Nat.le_refl _) w F T rs last S G m h s)
theorem find_at {rs : List (Option Er)} {last : Int} (iv : Tr rs last) {k : Nat} {r : Er} (hr : rs[k]? = some (some r)) {z : Int} (h : Fd rs r.se z) : z = (k : Int) := by
  rcases h with ⟨_, h⟩ | ⟨j, rj, h1, h2, h3⟩
  · exact absurd rfl (h k r hr)
  · have e1 : ser rs j = ser rs k := by rw [ser_core, ser_core, core_at h2, core_at hr]; exact h3
    rw [h1, iv.dis j k ⟨rj, h2⟩ ⟨r, hr⟩ e1]
theorem find_no {rs : List (Option Er)} {last : Int} (iv : Tr rs last) {s z : Int} (hs : last < s) (h : Fd rs s z) : z = -1 := by
  rcases h with ⟨h, _⟩ | ⟨j, rj, h1, h2, h3⟩
  · exact h
  · have e1 := iv.old j ⟨rj, h2⟩
    rw [ser_core, core_at h2] at e1
    simp only at e1
    omega
end Go.Proofs.Ytoddadohmnaolab

namespace Go.Proofs.Ytoddadohmnaolab
open Go.RowKit Go.Shelf
attribute [local go_sem] Oper.semAt_some

/-- all numbers in use -/
def lvL (rs : List (Option Er)) : List Nat := (prs rs 0).map Prod.fst
set_option maxRecDepth 100000 in
set_option maxHeartbeats 8000000 in
theorem live_in (n : Nat) (hn : 3 ≤ n) (w : World) (F : Nat → Prop) (T : Nat) (rs : List (Option Er)) (last : Int) (S : Nat) (G : Nat → Prop) (m : List (Option Nat)) (h : EtAt w F T S G m rs last) :
    CallsIn Fence.wide n Try.prog 16 #[.pointer (some ⟨T, 0, none⟩)] w fun x W' => ∃ v, x = .returned v ∧ W'.ownsRow w.heap.size 3 1 v (lvL rs).length (numN (lvL rs)) ∧ Below w.heap.size w W' := by
  have h1 : 1 ≤ n := by omega
  obtain ⟨i3, hi, hz, hs, hb⟩ := info3'
  have cT := fun o => (h.keep (w' := (w.alloc o)) (by simp) (fun b hb => by
    have := h.lt b hb
    rw [Below.heap_alloc _ _ _ this])).cell.1
  refine callsIn_of_wp_marks Try.func16 rfl trivial ?_ rfl
  simp only [Try.ntmps16, List.size_toArray, List.length_cons, List.length_nil, Nat.reduceAdd, Nat.reduceSub, Array.replicate_succ, Array.replicate_zero, List.push_toArray, List.append_toArray, List.nil_append, List.cons_append]
  gi_wp2_with fail
  refine ⟨trivial, (allL_in S (n - 1) _).mono ?_⟩
  rintro e' w' ⟨rfl, rfl⟩
  gi_wp2_with fail
  -- the range
  have c2 := Boxed.new w 49 (.slice none 0 0)
  have hbox := heap_alloc_new (w.alloc (.cells #[.slice none 0 0] 49)) (.cells #[.pointer (some ⟨S, 0, none⟩)] 73)
  have hB0 : Below w.heap.size w ((w.alloc (.cells #[.slice none 0 0] 49)).alloc (.cells #[.pointer (some ⟨S, 0, none⟩)] 73)) := ((Below.refl _ w).alloc (Nat.le_refl _) _).alloc (by simp) _
  have hsz : ((w.alloc (.cells #[.slice none 0 0] 49)).alloc (.cells #[.pointer (some ⟨S, 0, none⟩)] 73)).heap.size = w.heap.size + 2 := by simp
  have c2' := c2.alloc (.cells #[.pointer (some ⟨S, 0, none⟩)] 73)
  simp only [World.size_alloc] at c2' hbox
  clear c2 cT
  generalize ((w.alloc (.cells #[.slice none 0 0] 49)).alloc (.cells #[.pointer (some ⟨S, 0, none⟩)] 73)) = W0 at *
  have hT := h.tab
  have hG : ∀ b, (G b ∨ b = (w.heap.size + 1)) → b < W0.heap.size := by
    rintro b (hb | rfl)
    · have := hT.lt b hb; omega
    · omega
  have hFl : ∀ b, G b → b < w.heap.size := hT.lt
  have hlen : (prs m 0).length ≤ 16 := by rw [prs_len, ← h.len]; exact count_le
  refine wpIn_rangeFunc_ownH rfl h1 (gf := 64) (lb := #[.pointer (some ⟨(w.heap.size + 1), 0, none⟩)]) rfl trivial (enters_of Try.func64 (by kernel_rfl) rfl)
    (allL_stops (n - 1) (by omega) (w.heap.size + 1) S G m _ hbox (hT.below hB0)) keepF_t (keepF_b hG) (Below.refl _ _) (fun _ => rfl)
    (fun pre W => ((∃ v, Boxed W w.heap.size 49 v ∧ W.ownsRow (w.heap.size + 2) 3 1 v (pre.map (fun x => x.1.1)).length (numN (pre.map (fun x => x.1.1))) ∧ True) ∧ Boxed W (w.heap.size + 1) 73 (.pointer (some ⟨S, 0, none⟩)) ∧ pre.length ≤ (prs m 0).length) ∧ Below w.heap.size w W)
    (fun _ _ _ => False)
    (OwnFrom.and (Own.from (fun s A A' row hs hg hr => ⟨holdsRow_own (w.heap.size + 2) w.heap.size 49 3 1 (fun s : List { x : Nat × Nat // m[x.1]? = some (some x.2) } => (s.map (fun x => x.1.1)).length) (fun s => numN (s.map (fun x => x.1.1))) (fun _ _ => True) s A A' row hs.1 hg hr,
        hs.2.1.kept hg (fun e9 => by obtain ⟨o, h1, h2⟩ := hr _ e9.symm; rw [show A.heap[(w.heap.size + 1)]? = _ from hs.2.1] at h1; cases h1; cases h2), hs.2.2⟩) _) (ownFrom_below (Nat.le_refl _) (by omega)))
    (fun _ _ _ _ _ hs _ _ => hs)
    ⟨⟨⟨_, c2', ⟨rfl, .inl ⟨rfl, rfl⟩⟩, trivial⟩, hbox, by simp⟩, hB0⟩
    (fun x a' _ => a' = { tmps := #[.pointer (some ⟨T, 0, none⟩), undef, .slice none 0 0, .pointer (some ⟨w.heap.size, 0, none⟩), .int .i64 (x.1.1 : Nat), .pointer (some ⟨T, 0, none⟩), .pointer (some ⟨T, 0, none⟩), .pointer (some ⟨T, 0, none⟩), .pointer (some ⟨S, 0, none⟩), .func (.func 64) #[] #[.pointer (some ⟨(w.heap.size + 1), 0, none⟩)], .int .i64 (x.1.1 : Nat), .pointer (some ⟨x.1.2, 0, none⟩), undef, undef, undef, undef, undef], defers := [] })
    (fun _ _ _ _ _ _ hs _ _ => hs)
    ?assign ?body ?done ?stop
  case assign =>
    rintro l pre x W K hi' hK
    obtain ⟨⟨xi, xb⟩, hx⟩ := x
    gi_wp2
    exact hK _ _ (KeepsFrom.refl _ _) ⟨Nat.le_refl _, fun _ _ => rfl⟩ hi' rfl
  case body =>
    rintro l pre x a' W hl ⟨r, hr⟩ ⟨⟨⟨v, bS, hown, _⟩, bA, hpl⟩, hB⟩ rfl hlt
    obtain ⟨⟨xi, xb⟩, hx⟩ := x
    have hpre : (pre.map (fun x => x.1.1)).length ≤ 16 := by simp; omega
    obtain ⟨L, hL⟩ : ∃ L, L = (pre.map (fun x => x.1.1)).length := ⟨_, rfl⟩
    rw [← hL] at hown hpre
    have HL := hide hL
    clear hL
    obtain ⟨ao, co, rfl⟩ := own_shape hown
    have cS := bS.cell
    have hA4 := bA.lt
    gi_wp2_with (gi_at_builtin; refine wpListIn_append_own_at _ rfl _ _ 49 rfl (w.heap.size + 2) 3 i3 (.int .i64 0) 1 8 Try.underlying49 hi hz hs hb rfl (by decide) _ _ _ rfl (hown.alloc _) ⟨W.heap.size, 0, none⟩ 1 1 [.int .i64 (xi : Int)] rfl rfl (cell_one_new _ _ _) (by simp [Value.oneCell']) (by unfold maxLen; omega) (by omega) (by simp; omega) ?_; intro v' w3 hown3 hg3 _ _
                 obtain ⟨gg, cap, rfl⟩ := ownsRow_succ hown3
                 obtain ⟨b1, b2, _, b4, b5⟩ := Boxed.appended bS (by decide) (own_low hown (show w.heap.size ≤ w.heap.size + 2 by omega)) hB.size (by omega) (own_low hown3 (show w.heap.size ≤ w.heap.size + 2 by omega)) hg3
                 have b3 := hown3.kept (grownBy_setCell' w3 w.heap.size (.slice (some ⟨gg, 0, none⟩) (L + 1) cap)) (.inr (b1.not_row (by decide) hown3).symm)
                 have b7 := (bA.alloc (.cells #[.int .i64 (xi : Int)] 3)).kept hg3 (bA.not_row (by decide) hown)
                 have cB := b1.cell
                 have fB := b1.frozen)
    refine ⟨b4.from _, ⟨b5.size, fun b hb' => ?_⟩, ⟨⟨_, b2, ?_⟩, b7.other (by omega) _, by simp; omega⟩, hB.trans b5⟩
    · rcases hb' with hb' | rfl
      · exact b5.block b (hFl b hb')
      · exact (b7.other (by omega) _).trans bA.symm
    · have h9 : (pre ++ [(⟨(xi, xb), hx⟩ : { x : Nat × Nat // m[x.1]? = some (some x.2) })]).length = L + 1 := by rw [HL.out]; simp
      have e9 : numN (List.map (fun x : { x : Nat × Nat // m[x.1]? = some (some x.2) } => x.val.fst) (pre ++ [⟨(xi, xb), hx⟩])) = numN (List.map (fun x => x.val.fst) pre) ++ [.int .i64 (xi : Int)] := by simp [numN]
      rw [h9, e9]
      exact b3
  case done =>
    rintro D ys W hDl hys ⟨⟨⟨v, bS, hown, _⟩, bA, hpl⟩, hB⟩ hK
    have hk : ys.map (fun x => x.1.1) = lvL rs := by
      unfold lvL
      rw [← h.fsts, ← hys, List.map_map]
      rfl
    rw [hk] at hown
    obtain ⟨ao, co, rfl⟩ := own_shape hown
    have cS := bS.cell
    gi_wp2
    refine ⟨by simp, .inl ⟨_, _, rfl, run_takeDeferred hK, ?_⟩⟩
    refine ⟨_, results_tmp rfl _ _ _, _, rfl, ?_, hB.trans (belowK_b (w := w) (Nat.le_refl _) W D _ _ (by omega) hK rfl rfl)⟩
    have h9 := own_low hown (show w.heap.size ≤ w.heap.size + 2 by omega)
    exact ownsRow_putObj h9 _ hK rfl
  case stop =>
    rintro D c pre W _ _ h _
    exact h.elim
theorem live_any {w : World} {F : Nat → Prop} {T : Nat} {rs : List (Option Er)} {last : Int} (h : Et w F T rs last) : Calls Try.prog 16 #[.pointer (some ⟨T, 0, none⟩)] w fun x W' => ∃ v, x = .returned v ∧ W'.ownsRow w.heap.size 3 1 v (lvL rs).length (numN (lvL rs)) ∧ Below w.heap.size w W' := by
  obtain ⟨S, G, m, h⟩ := h
  exact (callsIn_wide (n := 3)).1 (live_in 3 (Nat.le_refl _) w F T rs last S G m h)
end Go.Proofs.Ytoddadohmnaolab

namespace Go.Proofs.Ytoddadohmnaolab
open Go.ChangeShapes Go.WideShapes Go.ChangeAt Go.RowKit Go.Deep Go.Shelf Go.Great

section
variable {rs : List (Option Er)} {last : Int}
/-- all that live are in the root's walk -/
theorem all_in (h : Tr rs last) : ∀ (n k : Nat), Lv rs k → (oldL rs k).length < n → k ∈ wk rs 17 0
  | 0, _, _, hl => by omega
  | n + 1, k, ⟨r, hr⟩, hl => by
    by_cases h0 : k = 0
    · subst h0; exact wk_self 17 0
    · obtain ⟨p, h1, h2, h3⟩ := h.par k r hr h0
      have hp := all_in h n p h2 (by have := oldL_lt h h2 h3; omega)
      exact wk_closed 17 (dp17 h 0) hp (by rw [kid_at hr]; simp [h1])
theorem lvL_mem {k : Nat} : k ∈ lvL rs ↔ Lv rs k := by
  unfold lvL
  constructor
  · intro hk
    obtain ⟨⟨a, r⟩, h1, rfl⟩ := List.mem_map.1 hk
    exact ⟨r, prs_mem.1 h1⟩
  · rintro ⟨r, hr⟩
    exact List.mem_map.2 ⟨(k, r), prs_mem.2 hr, rfl⟩
theorem lvL_nodup : (lvL rs).Nodup := prsL_nodup _ _
theorem root_lv (h : Tr rs last) : Lv rs 0 := by obtain ⟨r, h1, _⟩ := h.root; exact ⟨r, h1⟩
theorem wk_live (h : Tr rs last) : (wk rs 17 0).length = (lvL rs).length := by
  refine ((List.perm_ext_iff_of_nodup (wk_nodup h 17 0) lvL_nodup).2 (fun k => ?_)).length_eq
  rw [lvL_mem]
  exact ⟨fun hk => wk_lv 17 (root_lv h) hk, fun hk => all_in h 16 k hk (oldL_le h hk)⟩
theorem wk_once (h : Tr rs last) {k : Nat} (hk : Lv rs k) : (wk rs 17 0).count k = 1 := by
  rw [(wk_nodup h 17 0).count, if_pos (all_in h 16 k hk (oldL_le h hk))]
theorem lvb_iff {k : Nat} : lvb rs k = true ↔ Lv rs k := by unfold lvb; exact lv_core.symm
/-- those that live, by number -/
theorem lvL_eq (h : Tr rs last) : lvL rs = (List.range 16).filter (lvb rs) := by
  have hs : (lvL rs).Pairwise (fun a b => a < b) := by
    unfold lvL prs
    exact List.Pairwise.map _ (fun a b hab => hab) (prsL_sorted _ _)
  have hp : (lvL rs).Perm ((List.range 16).filter (lvb rs)) := by
    refine (List.perm_ext_iff_of_nodup lvL_nodup (List.Pairwise.filter _ List.nodup_range)).2 (fun k => ?_)
    rw [lvL_mem, List.mem_filter, List.mem_range, lvb_iff]
    exact ⟨fun hk => ⟨lv_lt h hk, hk⟩, fun hk => hk.2⟩
  exact List.Perm.eq_of_pairwise (le := fun a b => a < b) (fun a b _ _ h1 h2 => by omega) hs (List.Pairwise.filter _ List.pairwise_lt_range) hp
/-- how many live below a number -/
def cB (rs : List (Option Er)) (e : Nat) : Nat := ((List.range e).filter (lvb rs)).length
theorem cB_succ (e : Nat) : cB rs (e + 1) = cB rs e + (if lvb rs e = true then 1 else 0) := by
  unfold cB
  rw [List.range_succ, List.filter_append, List.length_append]
  by_cases h : lvb rs e = true
  · simp [h]
  · simp [h]
theorem cB_at (h : Tr rs last) {e : Nat} (he : e < 16) (hl : lvb rs e = true) : (lvL rs)[cB rs e]? = some e := by
  rw [lvL_eq h]
  obtain ⟨d, hd⟩ : ∃ d, 16 = e + (d + 1) := ⟨15 - e, by omega⟩
  rw [hd, List.range_add, List.filter_append]
  unfold cB
  rw [List.getElem?_append_right (Nat.le_refl _), Nat.sub_self, List.range_succ_eq_map, List.map_cons, Nat.add_zero, List.filter_cons_of_pos hl]
  rfl
theorem cB_lt (h : Tr rs last) {e : Nat} (he : e < 16) (hl : lvb rs e = true) : cB rs e < (lvL rs).length := (List.getElem?_eq_some_iff.1 (cB_at h he hl)).1
theorem cB_end (h : Tr rs last) : cB rs 16 = (lvL rs).length := by rw [lvL_eq h]; rfl
theorem nL_ge2 {kd e n : Int} {q : Qt} : last ≤ nL kd e n q rs last := by
  unfold nL
  split
  · unfold crL
    split
    · rename_i h9
      obtain ⟨_, _, _, _, _, h8, _⟩ := crE_zero2 h9
      omega
    · exact Int.le_refl _
  · exact Int.le_refl _
theorem nL_max {kd e n : Int} {q : Qt} (h : last ≤ 4611686018427387903) : nL kd e n q rs last ≤ 4611686018427387903 := by
  unfold nL
  split
  · unfold crL
    split
    · rename_i h9
      obtain ⟨_, _, _, _, _, _, h8, _⟩ := crE_zero2 h9
      exact h8
    · exact h
  · exact h
end
set_option maxRecDepth 8000 in
set_option maxHeartbeats 3200000 in
theorem count_any (w : World) (base : Nat) (a : Option Addr) (c : Nat) (l : List Nat) (hrow : w.ownsRow base 3 1 (.slice a l.length c) l.length (numN l)) (z : Nat) (hl : l.length ≤ 16) : Calls Try.prog 18 #[.slice a l.length c, .int .i64 (z : Int)] w fun x w' => x = .returned (.int .i64 (l.count z : Nat)) ∧ w' = w := by
  have HR := hide hrow
  obtain ⟨L, hL⟩ : ∃ L, l.length = L := ⟨_, rfl⟩
  have HL := hide hL
  rw [hL] at hl HR ⊢
  clear hrow hL
  go_enter Try.func18, Try.ntmps18
  go_upto_region 3 with fail
  go_loopw [5, 6] (fun x y wr => ∃ j : Nat, j ≤ L ∧ x = .int .i64 ((l.take j).count z : Nat) ∧ y = .int .i64 (j : Int) ∧ wr = w) (fun _ y _ => L - (intOf y).toNat)
  case atStart => exact ⟨0, by omega, by simp, rfl, rfl⟩
  case round =>
  obtain ⟨j, hj, rfl, rfl, rfl⟩ := hrel
  by_cases hlt : j < L
  · have hd : decide ((j : Int) < (L : Int)) = true := by simp; omega
    have hj3 : (j : Int) < (L : Int) := by omega
    obtain ⟨y, hy⟩ : ∃ y, l[j]? = some y := ⟨_, List.getElem?_eq_getElem (by have := HL.out; omega)⟩
    obtain ⟨g, rfl, hc⟩ := row_at HR.out hy
    have hst : (l.take (j + 1)).count z = (l.take j).count z + (if y = z then 1 else 0) := by
      rw [List.take_add_one, hy, List.count_append]
      by_cases e : y = z
      · simp [e]
      · simp [e]
    have hcl : (l.take j).count z ≤ 16 := by
      have h1 := List.count_le_length (a := z) (l := l.take j)
      have h2 := List.length_take_le j l
      have := HL.out
      omega
    generalize (l.take j).count z = cn at *
    have HSt := hide hst
    clear hy hst
    by_cases hyz : y = z
    · have hyb : ((y : Int) == (z : Int)) = true := by simp [hyz]
      have HYz := hide hyz
      clear hyz
      go_wp2
      go_roundw
      case rel =>
        first
          | exact ⟨j + 1, by omega, by rw [HSt.out, if_pos HYz.out]; simp, by go_num, by trivial⟩
          | ((repeat apply Exists.intro); refine ⟨?_, rfl⟩; exact ⟨j + 1, by omega, by rw [HSt.out, if_pos HYz.out]; simp, by go_num, by trivial⟩)
      case measure => simp [intOf]; omega
    · have hyb : ((y : Int) == (z : Int)) = false := by simp; omega
      have hyc : ¬ (y : Int) = (z : Int) := by omega
      go_wp2
      go_roundw
      case rel =>
        first
          | exact ⟨j + 1, by omega, by rw [HSt.out, if_neg hyz]; simp, by go_num, by trivial⟩
          | ((repeat apply Exists.intro); refine ⟨?_, rfl⟩; exact ⟨j + 1, by omega, by rw [HSt.out, if_neg hyz]; simp, by go_num, by trivial⟩)
      case measure => simp [intOf]; omega
  · have hd : decide ((j : Int) < (L : Int)) = false := by simp; omega
    have hE : l.take j = l := List.take_of_length_le (by have := HL.out; omega)
    rw [hE]
    generalize hcn : l.count z = cn at *
    have HCn := hide hcn
    clear hcn
    go_wp2
    go_ret
    exact ⟨by rw [HCn.out]; rfl, rfl⟩
end Go.Proofs.Ytoddadohmnaolab

namespace Go.Proofs.Ytoddadohmnaolab
open Go.ChangeShapes Go.WideShapes Go.ChangeAt Go.RowKit Go.Deep Go.Shelf Go.Great

set_option maxRecDepth 100000 in
set_option maxHeartbeats 12800000 in
theorem tree_walk (a : Option Addr) (len cap : Nat) (O : Nat → Ov) (w : World) (hl : len < 9223372036854775807) (hZ : IsOps w a len O) :
    Calls Try.prog 4 #[.slice a len cap] w fun x w' => x = .returned (.bool true) ∧ Below w.heap.size w w' := by
  have HZ := hide hZ
  have HF := hide (first_ns w)
  clear hZ
  go_enter Try.func4, Try.ntmps4
  go_wp2_with fail
  refine HF.out.mono ?_
  rintro x w1 ⟨T, B, rfl, hB, F, hN, hF, hb⟩
  have HN := hide hN
  have HFl := hide hF
  have HB := hide hb
  have HBl := hide hB
  clear hN hF hb hB HF
  go_upto_region 5 with fail
  go_loopw [5] (fun x wr => ∃ j : Nat, j ≤ len + 1 ∧ x = .int .i64 (j : Int) ∧ ∃ rs last F, Hid (Ns wr F T B rs last) ∧ Hid (∀ b, F b → w.heap.size ≤ b) ∧ Hid (Below w.heap.size w wr) ∧ Hid (0 ≤ last ∧ last ≤ 4611686018427387903)) (fun x _ => len + 1 - (intOf x).toNat)
  case atStart => exact ⟨0, by omega, rfl, rs3, 3, F, HN, HFl, HB, ⟨by decide, by decide⟩⟩
  case round =>
  clear HN HFl HB
  obtain ⟨j, hj, rfl, rs, last, F, KN, KF, KB, KL⟩ := hrel
  by_cases hlt : j ≤ len
  · have hd : decide ((j : Int) ≤ (len : Int)) = true := by simp; omega
    have HLi := hide (live_any KN.out.et)
    go_wp2_with fail
    refine HLi.out.mono ?_
    rintro x1 w2 ⟨v, rfl, hv, hb2⟩
    obtain ⟨va, vc, rfl⟩ := own_shape hv
    have HV2 := hide (own_low hv (Nat.zero_le _))
    have HN2 := hide (KN.out.below hb2)
    have HB2 := hide (KB.out.trans (hb2.mono KB.out.size))
    have HTr := hide (treeT_any HN2.out.et HN2.out.iv 0 (root_lv HN2.out.iv.tr))
    clear hv hb2 HLi KN KB
    go_wp2_with fail
    refine HTr.out.mono ?_
    rintro x2 w3 ⟨u, rfl, hu, hb3⟩
    obtain ⟨ua, uc, rfl⟩ := own_shape hu
    have HV3 := hide (own_below HV2.out hb3)
    have HU3 := hide (own_low hu (Nat.zero_le _))
    have HN3 := hide (HN2.out.below hb3)
    have HB3 := hide (HB2.out.trans (hb3.mono HB2.out.size))
    clear hu hb3 HTr HV2 HN2 HB2
    have hLL := wk_live HN3.out.iv.tr
    have hL16 := wk_len HN3.out.iv.tr 17 (root_lv HN3.out.iv.tr)
    have HCo := hide (fun W (hrow : W.ownsRow 0 3 1 (.slice ua (wk rs 17 0).length uc) (wk rs 17 0).length (numN (wk rs 17 0))) z => count_any W 0 ua uc (wk rs 17 0) hrow z hL16)
    rw [hLL] at HU3 HCo ⊢
    have hcE := cB_end HN3.out.iv.tr
    have HCe := hide hcE
    have HAt := hide (fun e (he : e < 16) (hv : lvb rs e = true) => cB_at HN3.out.iv.tr he hv)
    have HLt := hide (fun e (he : e < 16) (hv : lvb rs e = true) => cB_lt HN3.out.iv.tr he hv)
    rw [hLL] at hL16
    clear hLL hcE
    generalize (lvL rs).length = L at *
    go_upto_region 13 with fail
    go_loopw [9, 10] (fun x y wq => ∃ e : Nat, e ≤ 16 ∧ x = .int .i64 (cB rs e : Nat) ∧ y = .int .i64 (e : Int) ∧ Hid (Below w3.heap.size w3 wq)) (fun _ y _ => 16 - (intOf y).toNat)
    case atStart => exact ⟨0, by omega, rfl, rfl, Below.refl _ _⟩
    case round =>
    obtain ⟨e, he, rfl, rfl, KQ⟩ := hrel
    by_cases h16 : e < 16
    · have hd2 : decide ((e : Int) < 16) = true := by simp; omega
      have he3 : (e : Int) < 16 := by omega
      have HNe := hide (HN3.out.below KQ.out)
      obtain ⟨ce, fe⟩ := HNe.out.bq.cell h16
      have hcs := cB_succ (rs := rs) e
      cases hvb : lvb rs e
      · rw [hvb] at ce hcs
        have hlk : look rs (e : Int) = none := by
          cases hl9 : look rs (e : Int) with
          | none => rfl
          | some r =>
            obtain ⟨k', e9, hr⟩ := look_some hl9
            obtain rfl : e = k' := by omega
            have := lvb_iff.2 ⟨r, hr⟩
            rw [hvb] at this; cases this
        have HI := infoNone_any _ F T rs last HNe.out.et (e : Int) hlk
        obtain ⟨t, ht⟩ : ∃ t, t = Er.nil := ⟨_, rfl⟩
        rw [← ht] at HI
        have HI := hide HI
        clear ht
        have hcs2 : cB rs (e + 1) = cB rs e := by simpa using hcs
        have HCs := hide hcs2
        clear hcs hcs2 hvb
        go_wp2_with fail
        refine HI.out.mono ?_
        rintro x1 u1 ⟨rfl, hb1⟩
        have hz : Eb (u1.alloc (.cells Er.nil.head.toArray 40)) u1.heap.size Er.nil := Eb.new _ _
        have hb4 := hb1.trans ((freshE_below u1 t).mono hb1.size)
        have KQ2 := hide (KQ.out.trans (hb4.mono KQ.out.size))
        clear hb1 hb4 HI HNe ce fe KQ
        go_upto_region 17 with (refine storeE t ?nw _ _ rfl u1.heap.size Er.nil ?nx ?ny ?nz ?_; rotate_left 4; change wpList _ _ _ _ _ (freshE u1 t); generalize freshE u1 t = u2 at *)
        try (case nw => rfl)
        try (case nx => rfl)
        try (case ny => rfl)
        try (case nz => exact hz)
        clear hz
        generalize u1.heap.size = M at *
        have HN4 := hide (HN3.out.below KQ2.out)
        have hRu := runs_all HN4.out.et HN4.out.iv.tr (e : Int)
        rw [show rn rs (e : Int) = false by unfold rn; rw [hlk]] at hRu
        have HRu := hide hRu
        clear hRu
        go_wp2_with fail
        refine HRu.out.mono ?_
        rintro x1 u3 ⟨rfl, hb5⟩
        have KQ3 := hide (KQ2.out.trans (hb5.mono KQ2.out.size))
        have HN5 := hide (HN4.out.below hb5)
        have hIn := inside_any HN5.out.et HN5.out.iv.tr 0 (e : Int)
        rw [decide_eq_false (show ¬ (0 : Int) ∈ ln rs (e : Int) by unfold ln; simp only [upF, hlk]; simp)] at hIn
        have HIn := hide hIn
        clear hIn hb5 HRu HN4 KQ2
        go_wp2_with fail
        refine HIn.out.mono ?_
        rintro x1 u4 ⟨rfl, hb6⟩
        have KQ4 := hide (KQ3.out.trans (hb6.mono KQ3.out.size))
        clear hb6 HIn HN5 KQ3
        go_wp2
        go_roundw
        case rel =>
          first
            | exact ⟨e + 1, by omega, by rw [HCs.out], by go_num, KQ4⟩
            | ((repeat apply Exists.intro); refine ⟨?_, rfl⟩; exact ⟨e + 1, by omega, by rw [HCs.out], by go_num, KQ4⟩)
        case measure => simp [intOf]; omega
      · rw [hvb] at ce hcs
        obtain ⟨r, hr⟩ := lvb_some hvb
        have hcs2 : cB rs (e + 1) = cB rs e + 1 := by simpa using hcs
        have HCs := hide hcs2
        have hat := HAt.out e h16 hvb
        have hlt2 := HLt.out e h16 hvb
        have HHat := hide hat
        have HR := hide hr
        have HI := hide (info_any _ F T rs last HNe.out.et e r hr)
        clear hcs hcs2 hvb hat hr
        generalize hcb : cB rs e = cb at *
        have HCb := hide hcb
        clear hcb
        go_wp2_with fail
        refine HI.out.mono ?_
        rintro x1 u1 ⟨rfl, hb1⟩
        have hz : Eb (u1.alloc (.cells Er.nil.head.toArray 40)) u1.heap.size Er.nil := Eb.new _ _
        have HEb := hide (freshE_eb u1 r.told)
        have hb4 := hb1.trans ((freshE_below u1 r.told).mono hb1.size)
        have KQ2 := hide (KQ.out.trans (hb4.mono KQ.out.size))
        clear hb1 hb4 HI HNe ce fe KQ
        go_upto_region 20 with (refine storeE r.told ?mw _ _ rfl u1.heap.size Er.nil ?mx ?my ?mz ?_; rotate_left 4; change wpList _ _ _ _ _ (freshE u1 r.told); generalize freshE u1 r.told = u2 at *)
        try (case mw => rfl)
        try (case mx => rfl)
        try (case my => rfl)
        try (case mz => exact hz)
        clear hz
        generalize u1.heap.size = M at *
        have HN4 := hide (HN3.out.below KQ2.out)
        obtain ⟨gv, rfl, hcv⟩ := row_at (own_below HV3.out KQ2.out) HHat.out
        have hC := HCo.out u2 (own_below HU3.out KQ2.out) e
        rw [wk_once HN4.out.iv.tr ⟨r, HR.out⟩] at hC
        have HC := hide hC
        have n1 : ¬ ((L : Int) ≤ (cb : Int)) := by omega
        have n2 : (cb : Int) < (L : Int) := by omega
        clear hC
        go_wp2_with fail
        refine HC.out.mono ?_
        rintro x1 u3 ⟨rfl, rfl⟩
        have HBr := hide (branch_any HN4.out.et HN4.out.iv e r HR.out)
        clear HC hcv
        go_wp2_with fail
        refine HBr.out.mono ?_
        rintro x1 u4 ⟨rfl, hb5⟩
        have KQ3 := hide (KQ2.out.trans (hb5.mono KQ2.out.size))
        have HN5 := hide (HN4.out.below hb5)
        have HE5 := hide (HEb.out.keep (hb5.block M HEb.out.lt))
        have m0 : u4.cell? ⟨M, 0, none⟩ = some (.int .i64 r.se) := HE5.out.get (j := 0) rfl
        have HFd := hide (find_any HN5.out.et r.se)
        clear hb5 HBr HN4 KQ2 HEb
        go_wp2_with fail
        refine HFd.out.mono ?_
        rintro x1 u5 ⟨z, rfl, hz9, hb6⟩
        obtain rfl := find_at HN5.out.iv.tr HR.out hz9
        have KQ4 := hide (KQ3.out.trans (hb6.mono KQ3.out.size))
        clear hz9 hb6 HFd HN5 KQ3 HE5 m0
        go_wp2
        go_roundw
        case rel =>
          first
            | exact ⟨e + 1, by omega, by rw [HCs.out]; simp, by go_num, KQ4⟩
            | ((repeat apply Exists.intro); refine ⟨?_, rfl⟩; exact ⟨e + 1, by omega, by rw [HCs.out]; simp, by go_num, KQ4⟩)
        case measure => simp [intOf]; omega
    · obtain rfl : e = 16 := by omega
      rw [HCe.out]
      have HN4 := hide (HN3.out.below KQ.out)
      have HB4 := hide (HB3.out.trans (KQ.out.mono HB3.out.size))
      obtain ⟨l64, _⟩ := HN4.out.bq.lastc
      obtain ⟨k1, k2⟩ := KL.out
      have q6 : IntKind.i64.wrap (last + 1) = last + 1 := by
        simp only [IntKind.wrap, IntKind.signed, IntKind.bits]; simp; omega
      have HFd := hide (find_any HN4.out.et (last + 1))
      clear HN3 HB3 KQ HV3 HU3 HCo
      go_wp2_with fail
      refine HFd.out.mono ?_
      rintro x1 w5 ⟨z, rfl, hz9, hb6⟩
      obtain rfl := find_no HN4.out.iv.tr (show last < last + 1 by omega) hz9
      have HN5 := hide (HN4.out.below hb6)
      have HB5 := hide (HB4.out.trans (hb6.mono HB4.out.size))
      clear hz9 hb6 HFd HN4 HB4 l64 q6 k1 k2
      by_cases hjl : j < len
      · have hd3 : decide ((j : Int) < (len : Int)) = true := by simp; omega
        have hj3 : (j : Int) < (len : Int) := by omega
        obtain ⟨ad, rfl, hcl⟩ := HZ.out.below HB5.out j hjl
        have HCl := hide hcl
        have HNo : Hid (Calls Try.prog 9 #[.pointer (some ⟨B, 0, none⟩), .pointer (some ⟨T, 0, none⟩), .agg (O j).cells.toArray] w5 fun x w' => x = .returned (.bool true) ∧ Nx w5 F T B (nS (O j).kd (O j).e (O j).n (O j).m (O j).q (O j).g (O j).pc (O j).on rs last) (nL (O j).kd (O j).e (O j).n (O j).q rs last) w') := hide (noted_ex HN5.out (O j).kd (O j).t (O j).e (O j).n (O j).m (O j).q (O j).g (O j).pc (O j).on)
        clear hcl
        generalize hoj : O j = o at *
        clear hoj
        go_wp2_with (refine loadOp o ?lw _ rfl (ad.add (j * 18)) ?lx HCl.out ?_; rotate_left 2)
        try (case lw => rfl)
        try (case lx => rfl)
        refine HNo.out.mono ?_
        rintro x2 w6 ⟨rfl, F', hN6, hX⟩
        obtain ⟨hm, hf⟩ := hX
        have HN6 := hide hN6
        have KF2 : Hid (∀ b, F' b → w.heap.size ≤ b) := hide (fun b hb => by
          rcases hf b (.inr hb) with (e9 | e9) | e9
          · rw [e9]; exact HBl.out
          · exact KF.out b e9
          · exact Nat.le_trans HB5.out.size e9)
        have KB2 : Hid (Below w.heap.size w w6) := hide ⟨hm.os.trans HB5.out.os, hm.tape.trans HB5.out.tape, hm.output.trans HB5.out.output, Nat.le_trans HB5.out.size hm.size, fun b hb => (hm.block b (Nat.lt_of_lt_of_le hb HB5.out.size) (fun e9 => by
          rcases e9 with e9 | e9
          · have := HBl.out; omega
          · have := KF.out b e9; omega)).trans (HB5.out.block b hb)⟩
        have KL2 : Hid (0 ≤ nL o.kd o.e o.n o.q rs last ∧ nL o.kd o.e o.n o.q rs last ≤ 4611686018427387903) := hide ⟨Int.le_trans KL.out.1 nL_ge2, nL_max KL.out.2⟩
        generalize nS o.kd o.e o.n o.m o.q o.g o.pc o.on rs last = rs' at *
        generalize nL o.kd o.e o.n o.q rs last = last' at *
        clear hN6 hm hf HNo HCl HN5 KF HB5
        go_wp2
        go_roundw
        case rel =>
          first
            | exact ⟨j + 1, by omega, by go_num, rs', last', F', HN6, KF2, KB2, KL2⟩
            | ((repeat apply Exists.intro); refine ⟨?_, rfl⟩; exact ⟨j + 1, by omega, by go_num, rs', last', F', HN6, KF2, KB2, KL2⟩)
        case measure => simp [intOf]; omega
      · obtain rfl : j = len := by omega
        have hd3 : decide ((j : Int) < (j : Int)) = false := by simp
        go_wp2
        go_roundw
        case rel =>
          first
            | exact ⟨j + 1, by omega, by go_num, rs, last, F, HN5, KF, HB5, KL⟩
            | ((repeat apply Exists.intro); refine ⟨?_, rfl⟩; exact ⟨j + 1, by omega, by go_num, rs, last, F, HN5, KF, HB5, KL⟩)
        case measure => simp [intOf]
  · obtain rfl : j = len + 1 := by omega
    have hd : decide (((len + 1 : Nat) : Int) ≤ (len : Int)) = false := by simp; omega
    clear KN KF
    go_wp2
    go_ret
    exact ⟨by simp, KB.out⟩
end Go.Proofs.Ytoddadohmnaolab
