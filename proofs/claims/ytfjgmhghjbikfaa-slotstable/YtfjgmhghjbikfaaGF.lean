import Derived.Test.YtfjgmhghjbikfaaGC
import Derived.Test.YtfjgmhghjbikfaaGD
import Derived.Test.YtfjgmhghjbikfaaF4
namespace Go.Proofs.Ytfjgmhghjbikfaa
open Go.RowKit Go.Shelf
attribute [local go_sem] Oper.semAt_some

def ceq (c d : Cl) : Bool := c.s.toList == d.s.toList && (c.a == d.a && c.b == d.b)
theorem eqCl (c d : Cl) (w : World) : (Op.equal 39 (.agg #[.string c.s, .int .i64 c.a, .int .i64 c.b]) (.agg #[.string d.s, .int .i64 d.a, .int .i64 d.b])).run Try.prog w = .ok (ceq c d) w := by
  have h26 := eq26
  have u9 := Try.underlying9
  simp only [Op.equal, Op.maxDepth, ceq]
  go_simp
  by_cases h1 : c.s.toList = d.s.toList <;> by_cases h2 : c.a = d.a <;> by_cases h3 : c.b = d.b <;> simp [h1, h2, h3]
theorem toList_inj {a b : ByteArray} (h : a.toList = b.toList) : a = b := by
  rw [ByteArray.toList_eq, ByteArray.toList_eq] at h
  exact ByteArray.ext (Array.toList_inj.1 h)
theorem ceq_iff {c d : Cl} : ceq c d = true ↔ c = d := by
  unfold ceq
  constructor
  · intro h
    simp at h
    obtain ⟨h1, h2, h3⟩ := h
    cases c; cases d
    simp at h1 h2 h3
    simp [toList_inj h1, h2, h3]
  · rintro rfl; simp
theorem keepsOthers_below {W W' : World} (h : Below W.heap.size W W') : KeepsOthers W W' := ⟨h.size, fun k _ hk _ => (h.block k (Array.getElem?_eq_some_iff.1 hk).1).trans hk⟩
theorem boxed_below {w w' : World} {B : Nat} {t : TypeId} {v : Value} (h : Boxed w B t v) (hb : Below w.heap.size w w') : Boxed w' B t v := (hb.block B h.lt).trans h
theorem boxed_set {W : World} {b : Nat} {t : TypeId} {v : Value} (h : Boxed W b t v) (u : Value) : Boxed (W.setCell ⟨b, 0, none⟩ u) b t u := by
  have := heap_setCell_same _ b 0 _ _ u (show W.heap[b]? = _ from h)
  simpa [Boxed] using this
/-- three cells of one block -/
def Box3 (W : World) (b : Nat) (c : Cl) : Prop := W.heap[b]? = some (.cells #[.string c.s, .int .i64 c.a, .int .i64 c.b] 39 (0, 0))
theorem Box3.kept {W W' : World} {b : Nat} {c : Cl} {row : Option Nat} (h : Box3 W b c) (hg : W.grownBy W' row) (hr : ∀ r, row = some r → ∃ o : Obj, W.heap[r]? = some o ∧ o.isCells = false) : Box3 W' b c :=
  (hg.block b (Array.getElem?_eq_some_iff.1 (show W.heap[b]? = _ from h)).1 (fun e => by obtain ⟨o, h1, h2⟩ := hr _ e.symm; rw [show W.heap[b]? = _ from h] at h1; cases h1; cases h2)).trans h
theorem boxed_kept {W W' : World} {b : Nat} {t : TypeId} {v : Value} {row : Option Nat} (h : Boxed W b t v) (hg : W.grownBy W' row) (hr : ∀ r, row = some r → ∃ o : Obj, W.heap[r]? = some o ∧ o.isCells = false) : Boxed W' b t v :=
  h.kept hg (fun e => by obtain ⟨o, h1, h2⟩ := hr _ e.symm; rw [show W.heap[b]? = _ from h] at h1; cases h1; cases h2)
theorem Box3.below {W W' : World} {b : Nat} {c : Cl} (h : Box3 W b c) (hb : Below W.heap.size W W') : Box3 W' b c := (hb.block b (Array.getElem?_eq_some_iff.1 (show W.heap[b]? = _ from h)).1).trans h

def Nfd (m : List (Option Cl)) (v : Cl) (pre : List { x : Nat × Cl // m[x.1]? = some (some x.2) }) : Prop := ∀ y ∈ pre, y.1.2 ≠ v
theorem Nfd.snoc {m : List (Option Cl)} {v : Cl} {pre : List { x : Nat × Cl // m[x.1]? = some (some x.2) }} (h : Nfd m v pre) {x : { x : Nat × Cl // m[x.1]? = some (some x.2) }} (hx : x.1.2 ≠ v) : Nfd m v (pre ++ [x]) :=
  fun y hy => (List.mem_append.1 hy).elim (h y) (fun e => by rw [List.mem_singleton.1 e]; exact hx)
def Hit (m : List (Option Cl)) (v : Cl) (pre : List { x : Nat × Cl // m[x.1]? = some (some x.2) }) (W : World) (b : Nat) : Prop := ∃ (p0 : List { x : Nat × Cl // m[x.1]? = some (some x.2) }) (x : { x : Nat × Cl // m[x.1]? = some (some x.2) }), pre = p0 ++ [x] ∧ x.1.2 = v ∧ Nfd m v p0 ∧ Boxed W b 3 (.int .i64 (x.1.1 : Nat))
set_option maxRecDepth 100000 in
set_option maxHeartbeats 2000000 in
theorem findC_in (n : Nat) (hn : 3 ≤ n) (F : Nat → Prop) (B : Nat) (m : List (Option Cl)) (v : Cl) (w : World) (hT : Tab KC w F B m) :
    CallsIn Fence.wide n Try.prog 43 #[.pointer (some ⟨B, 0, none⟩), v.val] w fun e W' => ∃ r : Int, e = .returned (.int .i64 r) ∧ Found m v r ∧ Below w.heap.size w W' := by
  have h1 : 1 ≤ n := by omega
  simp only [Cl.val]
  refine callsIn_of_wp_marks Try.func43 rfl trivial ?_ rfl
  simp only [Try.ntmps43, List.size_toArray, List.length_cons, List.length_nil, Nat.reduceAdd, Nat.reduceSub, Array.replicate_succ, Array.replicate_zero, List.push_toArray, List.append_toArray, List.nil_append, List.cons_append]
  gi_wp2_with fail
  refine ⟨trivial, (allC_in B (n - 1) _).mono ?_⟩
  rintro e w' ⟨rfl, rfl⟩
  gi_wp2_with fail
  have c0 : Box3 (w.alloc (.cells #[.string v.s, .int .i64 v.a, .int .i64 v.b] 39)) w.heap.size v := heap_alloc_new w _
  have c1 := Boxed.new (w.alloc (.cells #[.string v.s, .int .i64 v.a, .int .i64 v.b] 39)) 3 (.int .i64 0)
  have hbox : Boxed _ _ _ _ := heap_alloc_new ((w.alloc (.cells #[.string v.s, .int .i64 v.a, .int .i64 v.b] 39)).alloc (.cells #[.int .i64 0] 3)) (.cells #[.pointer (some ⟨B, 0, none⟩)] 25)
  simp only [World.size_alloc] at c1 hbox
  have hB0 : Below w.heap.size w (((w.alloc (.cells #[.string v.s, .int .i64 v.a, .int .i64 v.b] 39)).alloc (.cells #[.int .i64 0] 3)).alloc (.cells #[.pointer (some ⟨B, 0, none⟩)] 25)) := (((Below.refl _ w).alloc (Nat.le_refl _) _).alloc (by simp) _).alloc (by simp; omega) _
  have hsz : (((w.alloc (.cells #[.string v.s, .int .i64 v.a, .int .i64 v.b] 39)).alloc (.cells #[.int .i64 0] 3)).alloc (.cells #[.pointer (some ⟨B, 0, none⟩)] 25)).heap.size = w.heap.size + 3 := by simp
  have c0' := (c0.below ((Below.refl _ _).alloc (Nat.le_refl _) (.cells #[.int .i64 0] 3))).below ((Below.refl _ _).alloc (Nat.le_refl _) (.cells #[.pointer (some ⟨B, 0, none⟩)] 25))
  have c1' := c1.alloc (.cells #[.pointer (some ⟨B, 0, none⟩)] 25)
  clear c0 c1
  generalize ((w.alloc (.cells #[.string v.s, .int .i64 v.a, .int .i64 v.b] 39)).alloc (.cells #[.int .i64 0] 3)).alloc (.cells #[.pointer (some ⟨B, 0, none⟩)] 25) = W0 at *
  have hG : ∀ b, (F b ∨ b = w.heap.size + 1 + 1) → b < W0.heap.size := by
    rintro b (hb | rfl)
    · have := hT.lt b hb; omega
    · omega
  have hFl : ∀ b, F b → b < w.heap.size := hT.lt
  refine wpIn_rangeFunc_ownH rfl h1 (gf := 58) (lb := #[.pointer (some ⟨w.heap.size + 1 + 1, 0, none⟩)]) rfl trivial (enters_of Try.func58 (by kernel_rfl) rfl)
    (allC_stops (n - 1) (by omega) (w.heap.size + 1 + 1) B F m _ hbox (hT.below hB0)) keepF_t (keepF_b hG) (Below.refl _ _) (fun _ => rfl)
    (fun pre W => (Nfd m v pre ∧ Box3 W w.heap.size v ∧ Boxed W (w.heap.size + 1) 3 (.int .i64 0) ∧ Boxed W (w.heap.size + 1 + 1) 25 (.pointer (some ⟨B, 0, none⟩))) ∧ Below w.heap.size w W)
    (fun c pre W => (c = .ret ∧ Hit m v pre W (w.heap.size + 1)) ∧ Below w.heap.size w W)
    (OwnFrom.and (Own.from (fun s A A' row hs hg hr => ⟨hs.1, hs.2.1.kept hg hr, boxed_kept hs.2.2.1 hg hr, boxed_kept hs.2.2.2 hg hr⟩) _) (ownFrom_below (Nat.le_refl _) (by omega)))
    (fun c => OwnFrom.and (Own.from (fun s A A' row hs hg hr => ⟨hs.1, by obtain ⟨_, p0, k, e, hx, h, hc⟩ := hs; exact ⟨p0, k, e, hx, h, boxed_kept hc hg hr⟩⟩) _) (ownFrom_below (Nat.le_refl _) (by omega)))
    ⟨⟨fun y hy => by simp at hy, c0', c1', hbox⟩, hB0⟩
    (fun x a' W => ∃ q, Box3 W q x.1.2 ∧ a' = { tmps := #[.pointer (some ⟨B, 0, none⟩), .agg #[.string v.s, .int .i64 v.a, .int .i64 v.b], undef, .pointer (some ⟨w.heap.size, 0, none⟩), .pointer (some ⟨w.heap.size + 1, 0, none⟩), .int .i64 (x.1.1 : Nat), .pointer (some ⟨q, 0, none⟩), .pointer (some ⟨B, 0, none⟩), .func (.func 58) #[] #[.pointer (some ⟨w.heap.size + 1 + 1, 0, none⟩)], .int .i64 (x.1.1 : Nat), .agg #[.string x.1.2.s, .int .i64 x.1.2.a, .int .i64 x.1.2.b], undef, undef, undef, undef], defers := [] })
    (fun x a' _ X Y row hs hg hr => by
      obtain ⟨q, h1, h2⟩ := hs
      exact ⟨q, h1.kept hg (fun r e => (hr r e).2), h2⟩)
    ?assign ?body ?done ?stop
  case assign =>
    rintro l pre x W K ⟨⟨hne, bV, bR, bA⟩, hB⟩ hK
    obtain ⟨⟨xi, xr⟩, hx⟩ := x
    simp only [Cl.val] at hK ⊢
    gi_wp2
    have hbb := (Below.refl W.heap.size W).alloc (Nat.le_refl _) (.cells #[.string xr.s, .int .i64 xr.a, .int .i64 xr.b] 39)
    exact hK _ _ ((KeepsOthers.alloc _ _).from _) ⟨by simp, fun b hb => Below.heap_alloc _ _ _ (by rcases hb with hb | rfl; have := hFl b hb; have := hB.size; omega; exact bA.lt)⟩ ⟨⟨hne, bV.below hbb, bR.alloc _, bA.alloc _⟩, hB.alloc hB.size _⟩ ⟨W.heap.size, heap_alloc_new W _, rfl⟩
  case body =>
    rintro l pre x a' W hl ⟨r, hr⟩ ⟨⟨hne, bV, bR, bA⟩, hB⟩ ⟨q, hq, rfl⟩ hlt
    obtain ⟨⟨xi, xr⟩, hx⟩ := x
    obtain ⟨d0, d1, d2, _, _, _⟩ := blk3 (show W.heap[q]? = _ from hq)
    obtain ⟨e0, e1, e2, _, _, _⟩ := blk3 (show W.heap[w.heap.size]? = _ from bV)
    have cR := bR.cell
    have fR := bR.frozen
    have bN := boxed_set bR (.int .i64 (xi : Int))
    by_cases hxv : xr = v
    · have HXV := hide hxv
      have h26 : ∀ w, (Op.equalIn 9999 37 (.agg #[.int .i64 xr.a, .int .i64 xr.b]) (.agg #[.int .i64 v.a, .int .i64 v.b])).run Try.prog w = .ok true w := fun w => by rw [eq26, hxv]; simp
      have hs : xr.s.toList = v.s.toList := by rw [hxv]
      clear hxv
      gi_wp2
      exact ⟨(KeepsOthers.setCell _ _ _).from _, ⟨rfl, pre, ⟨(xi, xr), hx⟩, rfl, HXV.out, hne, bN⟩, hB.setCell (p := ⟨w.heap.size + 1, 0, none⟩) (by simp) _⟩
    · have HXV := hide hxv
      by_cases hs : xr.s.toList = v.s.toList
      · have hb : (xr.a == v.a && xr.b == v.b) = false := by
          cases hc : (xr.a == v.a && xr.b == v.b)
          · rfl
          · exfalso; refine hxv (ceq_iff.1 ?_); unfold ceq; simp [hs]; simpa using hc
        have h26 : ∀ w, (Op.equalIn 9999 37 (.agg #[.int .i64 xr.a, .int .i64 xr.b]) (.agg #[.int .i64 v.a, .int .i64 v.b])).run Try.prog w = .ok false w := fun w => by rw [eq26, hb]
        clear hb hxv
        gi_wp2
        exact ⟨KeepsFrom.refl _ _, ⟨Nat.le_refl _, fun _ _ => rfl⟩, ⟨hne.snoc HXV.out, bV, bR, bA⟩, hB⟩
      · clear hxv
        gi_wp2
        exact ⟨KeepsFrom.refl _ _, ⟨Nat.le_refl _, fun _ _ => rfl⟩, ⟨hne.snoc HXV.out, bV, bR, bA⟩, hB⟩
  case done =>
    rintro D ys W hDl hys ⟨⟨hne, bV, bR, bA⟩, hB⟩ hK
    have bN := boxed_set bR (.int .i64 (-1))
    have cR := bR.cell
    have fR := bR.frozen
    gi_wp2
    have hK' := (KeepsOthers.setCell W ⟨w.heap.size + 1, 0, none⟩ (.int .i64 (-1))).same D _ hK rfl
    refine ⟨by simp, .inl ⟨_, _, rfl, run_takeDeferred hK', ?_⟩⟩
    have bF := bN.kept (grownBy_putObj' _ D (.deferred none)) (fun e9 => by cases e9; omega)
    have hc5 := bF.cell
    refine ⟨.int .i64 (-1), ?_, -1, rfl, found_none (fun y hy => ?_), (hB.setCell (p := ⟨w.heap.size + 1, 0, none⟩) (by simp) _).trans (belowK_b (w := w) (Nat.le_refl _) _ D _ _ (by omega) hK' rfl rfl)⟩
    · simp [results, Try.f43, go_sem, hc5]
    · rw [← hys] at hy
      obtain ⟨y', hy1, rfl⟩ := List.mem_map.1 hy
      exact hne y' hy1
  case stop =>
    rintro D c pre W hDl hpre ⟨⟨rfl, p0, x, rfl, hxv, h0, hcr⟩, hB⟩ hK
    gi_wp2
    refine ⟨by simp, .inl ⟨_, _, rfl, run_takeDeferred hK, ?_⟩⟩
    have bF := hcr.kept (grownBy_putObj' _ D (.deferred none)) (fun e9 => by cases e9; omega)
    have hc5 := bF.cell
    obtain ⟨⟨xi, xr⟩, hx⟩ := x
    simp only at hxv
    subst hxv
    refine ⟨.int .i64 (xi : Nat), ?_, xi, rfl, found_some (p0 := p0.map Subtype.val) (by simpa using hpre) (fun y hy => ?_), hB.trans (belowK_b (w := w) (Nat.le_refl _) W D _ _ (by omega) hK rfl rfl)⟩
    · simp [results, Try.f43, go_sem, hc5]
    · obtain ⟨y', hy1, rfl⟩ := List.mem_map.1 hy
      exact h0 y' hy1
theorem findC_any (w : World) (F : Nat → Prop) (B : Nat) (m : List (Option Cl)) (h : Tab KC w F B m) (v : Cl) :
    Calls Try.prog 43 #[.pointer (some ⟨B, 0, none⟩), v.val] w fun e w' => ∃ r : Int, e = .returned (.int .i64 r) ∧ Found m v r ∧ Below w.heap.size w w' :=
  (callsIn_wide (n := 3)).1 (findC_in 3 (Nat.le_refl _) F B m v w h)
end Go.Proofs.Ytfjgmhghjbikfaa
