import Derived.Test.YtoddadohmnaolaaE9
namespace Go.Proofs.Ytoddadohmnaolaa
open Go.ChangeShapes Go.WideShapes Go.ChangeAt Go.RowKit Go.Deep

/-- a new api.Env, and what is told of a record laid into it -/
def freshE (w : World) (e : Er) : World := (w.alloc (.cells Er.nil.head.toArray 41)).setCells w.heap.size 0 e.head
theorem freshE_eb (w : World) (e : Er) : Eb (freshE w e) w.heap.size e := (Eb.new w Er.nil).lay e
theorem freshE_below (w : World) (e : Er) : Below w.heap.size w (freshE w e) :=
  below_setCells ((Below.refl w.heap.size w).alloc (Nat.le_refl _) _) (Nat.le_refl _) _ _
theorem Eb.set {w : World} {b : Nat} {e e' : Er} (h : Eb w b e) {j : Nat} {u : Value} (he : e.head.set j u = e'.head) : Eb (w.setCell ⟨b, j, none⟩ u) b e' := by
  refine ⟨?_⟩
  have h1 := heap_setCell_same _ b j _ _ u h.out
  rw [h1, ← he]
  congr 2
  simp
theorem Eb.frz {w : World} {b : Nat} {e : Er} (h : Eb w b e) (j : Nat) : w.frozen? ⟨b, j, none⟩ = false := frozen_of_row _ _ _ _ _ h.out
theorem loadE (e : Er) {ops : Array Oper} {rest : List Oper} {op : Oper} {a : Act} {w : World} {Q : Exit → Act → World → Prop} (hw : Region.wanted op (yielded ops a.tmps) = true) (x : Operand) (ho : op.op = .load 41 x) (ad : Addr)
    (hx : a.eval x = .pointer (some ad)) (hc : ∀ (j : Nat) (v : Value), e.head[j]? = some v → w.cell? (ad.add j) = some v) (h : wpList Try.prog ops Q rest (a.put op.dst (.agg e.head.toArray)) w) : wpList Try.prog ops Q (op :: rest) a w :=
  loadT Try.underlying41 rfl e.head (by rw [head_len]; exact infoE) hw x ho ad hx hc h
theorem storeE (e : Er) {ops : Array Oper} {rest : List Oper} {op : Oper} {a : Act} {w : World} {Q : Exit → Act → World → Prop} (hw : Region.wanted op (yielded ops a.tmps) = true) (x y : Operand) (ho : op.op = .store 41 x y) (N : Nat) (q : Er)
    (hx : a.eval x = .pointer (some ⟨N, 0, none⟩)) (hy : a.eval y = .agg e.head.toArray) (hc : Eb w N q) (h : wpList Try.prog ops Q rest (a.put op.dst undef) (w.setCells N 0 e.head)) : wpList Try.prog ops Q (op :: rest) a w :=
  storeT e.head (by rw [head_len]; exact infoE) (head_one e) hw x y ho N 0 hx hy q.head hc.out (by rw [head_len, head_len]; exact Nat.le_refl _) h
set_option maxHeartbeats 3200000 in
set_option maxRecDepth 8000 in
theorem tell_any (w : World) (b : Nat) (r : Er) (h : Rb w b r) : Calls Try.prog 39 #[.pointer (some ⟨b, 0, none⟩)] w fun e w' => e = .returned (.agg r.told.head.toArray) ∧ Below w.heap.size w w' := by
  have h0 : Eb (w.alloc (.cells Er.nil.head.toArray 41)) w.heap.size Er.nil := Eb.new _ _
  have hb0 := (Below.refl w.heap.size w).alloc (Nat.le_refl _) (.cells Er.nil.head.toArray 41)
  have hR0 := h.keep (hb0.block b h.lt)
  have HB0 := hide hb0
  clear h hb0
  go_enter Try.func39, Try.ntmps39
  go_upto_region 1 with fail
  show Code.wp _ _ _ _ (w.alloc (.cells Er.nil.head.toArray 41))
  generalize w.alloc (.cells Er.nil.head.toArray 41) = w1 at *
  have hz : Eb (w1.alloc (.cells Er.nil.head.toArray 41)) w1.heap.size Er.nil := Eb.new _ _
  have HE := hide (freshE_eb w1 r)
  have HB1 := hide (freshE_below w1 r)
  have HR0 := hide hR0
  have H0 := hide h0
  clear hR0 h0
  go_upto_region 2 with (first | refine loadE r ?lw _ rfl ⟨b, 0, none⟩ ?lx ?lc ?_ | refine storeE r ?sw _ _ rfl w1.heap.size Er.nil ?sx ?sy ?sz ?_)
  try (case lw => rfl)
  case lx => rfl
  case lc => exact HR0.out.hcell
  try (case sw => rfl)
  case sx => rfl
  case sy => rfl
  case sz => exact hz
  show Code.wp _ _ _ _ (freshE w1 r)
  clear hz
  have hR2 : Rb (freshE w1 r) b r := HR0.out.keep (HB1.out.block b HR0.out.lt)
  have h2 : Eb (freshE w1 r) w.heap.size Er.nil := H0.out.keep (HB1.out.block _ H0.out.lt)
  have HB2 : Hid (Below w.heap.size w (freshE w1 r)) := hide (HB0.out.trans (HB1.out.mono HB0.out.size))
  have HN : Hid (w.heap.size ≤ w1.heap.size) := hide HB0.out.size
  have hne : w.heap.size ≠ w1.heap.size := Nat.ne_of_lt H0.out.lt
  have HNE := hide hne
  clear HB0 HB1 HR0 H0 hne
  generalize freshE w1 r = w2 at *
  generalize w1.heap.size = N at *
  have k0 := hR2.get (j := 24) rfl
  have k1 := hR2.get (j := 25) rfl
  have k2 := hR2.get (j := 26) rfl
  have q0 := HE.out.get (j := 18) rfl
  have q1 := HE.out.get (j := 19) rfl
  have q2 := HE.out.get (j := 20) rfl
  have f0 := HE.out.frz 18
  have f1 := HE.out.frz 19
  have f2 := HE.out.frz 20
  clear hR2
  have HE3 : Hid (Eb (((w2.setCell ⟨N, 18, none⟩ (.int .i64 r.le.f)).setCell ⟨N, 19, none⟩ (.int .i64 r.le.e)).setCell ⟨N, 20, none⟩ (.int .i64 r.le.x)) N r.told) :=
    hide (Eb.set (e := { r with lf := ⟨r.le.f, r.le.e, r.lf.x⟩ }) (Eb.set (e := { r with lf := ⟨r.le.f, r.lf.e, r.lf.x⟩ }) (HE.out.set rfl) rfl) rfl)
  have H3 : Hid (Eb (((w2.setCell ⟨N, 18, none⟩ (.int .i64 r.le.f)).setCell ⟨N, 19, none⟩ (.int .i64 r.le.e)).setCell ⟨N, 20, none⟩ (.int .i64 r.le.x)) w.heap.size Er.nil) :=
    hide (h2.keep (by rw [heap_setCell_other _ _ _ _ HNE.out, heap_setCell_other _ _ _ _ HNE.out, heap_setCell_other _ _ _ _ HNE.out]))
  have HB3 := hide ((((HB2.out.setCell (p := ⟨N, 18, none⟩) HN.out (.int .i64 r.le.f)).setCell (p := ⟨N, 19, none⟩) HN.out (.int .i64 r.le.e)).setCell (p := ⟨N, 20, none⟩) HN.out (.int .i64 r.le.x)))
  clear h2
  go_upto_region 3 with fail
  generalize ((w2.setCell ⟨N, 18, none⟩ (.int .i64 r.le.f)).setCell ⟨N, 19, none⟩ (.int .i64 r.le.e)).setCell ⟨N, 20, none⟩ (.int .i64 r.le.x) = w3 at *
  clear k0 k1 k2 q0 q1 q2 f0 f1 f2 HE HB2 HN HNE
  obtain ⟨t, ht⟩ : ∃ t, r.told = t := ⟨_, rfl⟩
  rw [ht] at HE3
  have HT := hide ht
  have HE4 := hide (H3.out.lay t).out
  have HB4 := hide (below_setCells HB3.out (Nat.le_refl _) 0 t.head)
  clear ht
  go_wp2_with (refine loadE t ?mw _ rfl ⟨N, 0, none⟩ ?mx ?mc ?_; rotate_left 3; simp only [Act.put, List.setIfInBounds_toArray, List.set_cons_zero, List.set_cons_succ]; refine storeE t ?nw _ _ rfl w.heap.size Er.nil ?nx ?ny ?nz ?_; rotate_left 4; generalize w3.setCells w.heap.size 0 t.head = w4 at *)
  try (case mw => rfl)
  try (case mx => rfl)
  try (case nw => rfl)
  try (case nx => rfl)
  try (case ny => rfl)
  case mc => exact HE3.out.hcell
  case nz => exact H3.out
  refine bodyPost_ret (results_row1 rfl _ _ w.heap.size 41 t.head.toArray (0, 0) _ rfl HE4.out Try.underlying41 rfl (by rw [List.size_toArray, head_len]; exact infoE)) rfl ?_
  exact ⟨by rw [HT.out], HB4.out⟩
end Go.Proofs.Ytoddadohmnaolaa
