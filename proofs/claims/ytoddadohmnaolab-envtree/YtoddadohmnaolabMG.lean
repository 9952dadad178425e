import Derived.DeepKeys
import Derived.Laws.StructEq
import Derived.ProofKit
import Derived.OpenShut
import Derived.Deep.Slices
import Derived.Test.YtoddadohmnaolabMC
import Derived.Test.YtoddadohmnaolabMF
namespace Go.Proofs.Ytoddadohmnaolab
open Go.ChangeShapes Go.WideShapes Go.ChangeAt Go.RowKit Go.Deep Go.Shelf Go.Great

theorem infoTold : (Try.prog.info? 62).map (·.size) = some 352 := by kernel_rfl
theorem Tc.cong {cs : List Value} {f f' : Nat → Er} {g g' : Nat → Int} (h : Tc cs f g) (hf : ∀ i, i < 16 → f i = f' i) (hg : ∀ i, i < 16 → g i = g' i) : Tc cs f' g' :=
  ⟨h.len, fun i hi j hj => by rw [h.env i hi j hj, hf i hi], fun i hi => by rw [h.err i hi, hg i hi]⟩
theorem Tc.one {cs : List Value} {f : Nat → Er} {g : Nat → Int} (h : Tc cs f g) : ∀ u ∈ cs, u.oneCell' = true := by
  intro u hu
  obtain ⟨n, hn, rfl⟩ := List.getElem_of_mem hu
  have hl := h.len
  by_cases h1 : n < 336
  · have e1 : n = n / 21 * 21 + n % 21 := by omega
    have q1 := h.env (n / 21) (by omega) (n % 21) (by omega)
    rw [← e1, List.getElem?_eq_getElem hn] at q1
    exact head_one _ _ (List.mem_of_getElem? q1.symm)
  · obtain ⟨i, rfl⟩ : ∃ i, n = 336 + i := ⟨n - 336, by omega⟩
    have q1 := h.err i (by omega)
    rw [List.getElem?_eq_getElem hn] at q1
    rw [Option.some.inj q1]; rfl
/-- what is told so far -/
def tF (rs : List (Option Er)) (j i : Nat) : Er := if i < j then tf rs i else Er.nil
def tG (rs : List (Option Er)) (j i : Nat) : Int := if i < j then tg rs i else 0
theorem Tc.next {cs : List Value} {rs : List (Option Er)} {j : Nat} (h : Tc cs (tF rs j) (tG rs j)) (hj : j < 16) : Tc ((setsL cs (j * 21) (tf rs j).head).set (336 + j) (.int .i64 (tg rs j))) (tF rs (j + 1)) (tG rs (j + 1)) := by
  refine (h.step hj (tf rs j) (tg rs j)).cong (fun i _ => ?_) (fun i _ => ?_)
  · unfold tF
    by_cases e : i = j
    · subst e; rw [if_pos rfl, if_pos (by omega)]
    · rw [if_neg e]
      by_cases e2 : i < j
      · rw [if_pos e2, if_pos (by omega)]
      · rw [if_neg e2, if_neg (by omega)]
  · unfold tG
    by_cases e : i = j
    · subst e; rw [if_pos rfl, if_pos (by omega)]
    · rw [if_neg e]
      by_cases e2 : i < j
      · rw [if_pos e2, if_pos (by omega)]
      · rw [if_neg e2, if_neg (by omega)]
section
variable {w : World} {F : Nat → Prop} {T : Nat} {rs : List (Option Er)} {last : Int}
set_option maxRecDepth 100000 in
set_option maxHeartbeats 3200000 in
theorem told_any (h : Et w F T rs last) : Calls Try.prog 22 #[.pointer (some ⟨T, 0, none⟩)] w fun x w' => ∃ cs, x = .returned (.agg cs.toArray) ∧ Tc cs (tf rs) (tg rs) ∧ Below w.heap.size w w' := by
  have HE := hide h
  clear h
  obtain ⟨zt, hzt⟩ : ∃ zt, zt = zT := ⟨_, rfl⟩
  have HZ := hide hzt
  have hrun : ∀ (ρ : Operand → Value) (o : Oper) (W : World), o.op = .alloc 62 → (execOp ρ o).run Try.prog W = .ok (.value (.pointer (some ⟨W.heap.size, 0, none⟩))) (W.alloc (.cells zt.toArray 62)) := by
    intro ρ o W ho
    rw [hzt]
    unfold execOp
    rw [ho]
    kernel_rfl
  clear hzt
  go_enter Try.func22, Try.ntmps22
  go_upto_region 0 with fail
  apply wp_region_lit
  refine wpList_allocTo rfl (some 2) rfl (.pointer (some ⟨w.heap.size, 0, none⟩)) (.cells zt.toArray 62) (hrun _ _ _ rfl) ?_
  apply wpList_nil
  rename_i K hK
  refine hK _ _ ?_
  clear hK K
  simp only [Act.put, List.setIfInBounds_toArray, List.set_cons_zero, List.set_cons_succ]
  go_upto_region 1 with fail
  apply wp_region_lit
  refine wpList_allocTo rfl (some 3) rfl (.pointer (some ⟨(w.alloc (.cells zt.toArray 62)).heap.size, 0, none⟩)) (.cells zt.toArray 62) (hrun _ _ _ rfl) ?_
  apply wpList_nil
  rename_i K hK
  refine hK _ _ ?_
  clear hK K
  simp only [Act.put, List.setIfInBounds_toArray, List.set_cons_zero, List.set_cons_succ]
  have hb1 := (Below.refl w.heap.size w).alloc (Nat.le_refl _) (.cells zt.toArray 62)
  have a1 := heap_alloc_new w (.cells zt.toArray 62)
  have hb2 := hb1.alloc (by simp) (.cells zt.toArray 62)
  have a2 := heap_alloc_new (w.alloc (.cells zt.toArray 62)) (.cells zt.toArray 62)
  have a3 : ((w.alloc (.cells zt.toArray 62)).alloc (.cells zt.toArray 62)).heap[w.heap.size]? = some (.cells zt.toArray 62 (0, 0)) := by rw [Below.heap_alloc _ _ _ (by simp)]; exact a1
  have hne : (w.alloc (.cells zt.toArray 62)).heap.size = w.heap.size + 1 := by simp
  rw [hne] at a2 ⊢
  clear hb1 a1 hne hrun
  generalize (w.alloc (.cells zt.toArray 62)).alloc (.cells zt.toArray 62) = w2 at *
  have HB := hide hb2
  have H1 := hide a3
  have H2 : Hid (∃ cs : List Value, w2.heap[w.heap.size + 1]? = some (.cells cs.toArray 62 (0, 0)) ∧ Tc cs (tF rs 0) (tG rs 0)) := hide ⟨zt, a2, by rw [HZ.out]; exact zT_tc.cong (fun i _ => rfl) (fun i _ => rfl)⟩
  have HZl : Hid (zt.length = 352) := hide (by rw [HZ.out]; exact zT_tc.len)
  clear hb2 a3 a2 HZ
  go_upto_region 3 with fail
  go_loopw [4] (fun x wr => ∃ j : Nat, j ≤ 16 ∧ x = .int .i64 (j : Int) ∧ Hid (∃ cs : List Value, wr.heap[w.heap.size + 1]? = some (.cells cs.toArray 62 (0, 0)) ∧ Tc cs (tF rs j) (tG rs j)) ∧ Hid (wr.heap[w.heap.size]? = some (.cells zt.toArray 62 (0, 0))) ∧ Hid (Below w.heap.size w wr)) (fun x _ => 16 - (intOf x).toNat)
  case atStart => exact ⟨0, by omega, rfl, H2, H1, HB⟩
  case round =>
  clear H2 H1 HB
  obtain ⟨j, hj, rfl, K2, K1, KB⟩ := hrel
  by_cases h16 : j < 16
  · have hd : decide ((j : Int) < 16) = true := by simp; omega
    have hj3 : (j : Int) < 16 := by omega
    have HI := hide (info_both (HE.out.keep KB.out.size (fun b hb => KB.out.block b (HE.out.lt b hb))) j)
    go_wp2_with fail
    refine HI.out.mono ?_
    rintro e1 u1 ⟨rfl, hb1⟩
    obtain ⟨cs, hc, hT⟩ := K2.out
    have hc1 := (hb1.block _ (Array.getElem?_eq_some_iff.1 hc).1).trans hc
    have K1' := hide ((hb1.block _ (Array.getElem?_eq_some_iff.1 K1.out).1).trans K1.out)
    have KB' := hide (KB.out.trans (hb1.mono KB.out.size))
    have HC1 := hide hc1
    have HT := hide hT
    have HTn := hide (hT.next h16)
    have hlen := hT.len
    clear K2 K1 KB HI hb1 hc hT hc1
    generalize hr : tf rs j = r at *
    generalize hz : tg rs j = z at *
    have hcx := heap_setCells_row (w.heap.size + 1) 62 r.head (j * 21) u1 cs HC1.out
    have HCx := hide hcx
    have hK1 : (u1.setCells (w.heap.size + 1) (j * 21) r.head).heap[w.heap.size]? = some (.cells zt.toArray 62 (0, 0)) := by rw [heap_setCells_other _ _ (by omega)]; exact K1'.out
    have HK1 := hide hK1
    have HBx := hide (below_setCells KB'.out (show w.heap.size ≤ w.heap.size + 1 by omega) (j * 21) r.head)
    have hle : j * 21 + r.head.length ≤ cs.length := by rw [head_len, hlen]; omega
    have hsl : (setsL cs (j * 21) r.head).length = 352 := by rw [setsL_len]; exact hlen
    have hcell : (u1.setCells (w.heap.size + 1) (j * 21) r.head).cell? ⟨w.heap.size + 1, 336 + j, none⟩ = some (.int .i64 (tG rs j j)) := by
      rw [cell_of_row _ _ _ _ _ _ hcx]
      have h9 := setsL_get r.head cs (j * 21) (336 + j) hle
      rw [head_len, if_neg (by omega), HT.out.err j h16] at h9
      simpa using h9
    have hfrz := frozen_of_row (u1.setCells (w.heap.size + 1) (j * 21) r.head) (w.heap.size + 1) (336 + j) _ _ hcx
    clear hK1 K1' hcx
    go_wp2_with (refine storeT r.head (by rw [head_len]; exact infoE) (head_one r) ?nw _ _ rfl (w.heap.size + 1) (j * 21) ?nx ?ny cs HC1.out hle ?_; rotate_left 3; generalize u1.setCells (w.heap.size + 1) (j * 21) r.head = u2 at *)
    try (case nw => rfl)
    try (case nx => rfl)
    try (case ny => rfl)
    have N2 : Hid (∃ cs : List Value, (u2.setCell ⟨w.heap.size + 1, 336 + j, none⟩ (.int .i64 z)).heap[w.heap.size + 1]? = some (.cells cs.toArray 62 (0, 0)) ∧ Tc cs (tF rs (j + 1)) (tG rs (j + 1))) := hide ⟨_, by rw [heap_setCell_same _ _ _ _ _ (.int .i64 z) HCx.out, List.setIfInBounds_toArray], HTn.out⟩
    have N1 : Hid ((u2.setCell ⟨w.heap.size + 1, 336 + j, none⟩ (.int .i64 z)).heap[w.heap.size]? = some (.cells zt.toArray 62 (0, 0))) := hide (by rw [heap_setCell_other _ _ _ _ (show w.heap.size ≠ w.heap.size + 1 by omega)]; exact HK1.out)
    have NB := hide (HBx.out.setCell (p := ⟨w.heap.size + 1, 336 + j, none⟩) (show w.heap.size ≤ w.heap.size + 1 by omega) (.int .i64 z))
    go_roundw
    case rel =>
      first
        | exact ⟨j + 1, by omega, by go_num, N2, N1, NB⟩
        | ((repeat apply Exists.intro); refine ⟨?_, rfl⟩; exact ⟨j + 1, by omega, by go_num, N2, N1, NB⟩)
    case measure => simp [intOf]; omega
  · obtain rfl : j = 16 := by omega
    obtain ⟨cs, hc, hT⟩ := K2.out
    have HC := hide hc
    have HT := hide hT
    have hT2 : Tc cs (tf rs) (tg rs) := hT.cong (fun i hi => by unfold tF; rw [if_pos hi]) (fun i hi => by unfold tG; rw [if_pos hi])
    have HT2 := hide hT2
    have hx : (wr.setCells w.heap.size 0 cs).heap[w.heap.size]? = some (.cells cs.toArray 62 (0, 0)) := by
      have h9 := heap_setCells_row w.heap.size 62 cs 0 wr zt K1.out
      rw [setsL_all zt cs (by rw [HZl.out, hT.len])] at h9
      exact h9
    have HX := hide hx
    have HBx := hide (below_setCells KB.out (Nat.le_refl _) 0 cs)
    have hle : 0 + cs.length ≤ zt.length := by rw [HZl.out, hT.len]; omega
    have hi : (Try.prog.info? 62).map (·.size) = some cs.length := by rw [hT.len]; exact infoTold
    clear hc hT hT2 hx K2
    go_wp2_with (first
      | (refine loadT Try.underlying62 rfl cs hi ?lw _ rfl ⟨w.heap.size + 1, 0, none⟩ ?lx (fun j v hv => by rw [add_nat, cell_of_row _ _ _ _ _ _ HC.out]; simpa using hv) ?_; rotate_left 2)
      | (refine storeT cs hi HT.out.one ?sw _ _ rfl w.heap.size 0 ?sx ?sy zt K1.out hle ?_; rotate_left 3; generalize wr.setCells w.heap.size 0 cs = w4 at *))
    try (case lw => rfl)
    try (case lx => rfl)
    try (case sw => rfl)
    try (case sx => rfl)
    try (case sy => rfl)
    refine bodyPost_ret (results_row1 rfl _ _ w.heap.size 62 cs.toArray (0, 0) _ rfl HX.out Try.underlying62 rfl (by rw [List.size_toArray]; exact hi)) rfl ?_
    exact ⟨cs, rfl, HT2.out, HBx.out⟩
end
end Go.Proofs.Ytoddadohmnaolab

namespace Go.Proofs.Ytoddadohmnaolab
open Go.ChangeShapes Go.WideShapes Go.ChangeAt Go.RowKit Go.Deep Go.Shelf

/-- a value is equal to itself -/
def Se (d : Nat) (t : TypeId) (v : Value) : Prop := ∀ w, (Op.equalIn d t v v).run Try.prog w = .ok true w
theorem se_int {t : TypeId} {k' : IntKind} (h : Try.prog.underlying t = some (.int k')) (d : Nat) (k : IntKind) (z : Int) : Se (d + 1) t (.int k z) := fun w => by
  rw [run_equalIn_int w d t k k' z z h]; simp
theorem se_bool {t : TypeId} (h : Try.prog.underlying t = some .bool) (d : Nat) (b : Bool) : Se (d + 1) t (.bool b) := fun w => by
  rw [run_equalIn_bool' w d t b b h]; simp
theorem part_cell {t : TypeId} {d : TypeDesc} (hu : Try.prog.underlying t = some d) (hd : (match d with | .struct _ | .array _ _ => true | _ => false) = false) {xs : Array Value} {off : Nat} {v : Value} (hx : xs[off]? = some v) (w : World) : (part t xs off).run Try.prog w = .ok v w := by
  have hagg : (isAgg t).run Try.prog w = .ok false w := by
    unfold isAgg
    rw [Sem.run_bind, run_underlying hu w]
    cases d <;> simp_all
  simp [part, Sem.run_bind, hagg, hx]
theorem part_agg {t : TypeId} {d : TypeDesc} (hu : Try.prog.underlying t = some d) (hd : (match d with | .struct _ | .array _ _ => true | _ => false) = true) {n : Nat} (hn : (Try.prog.info? t).map (·.size) = some n) {xs ys : Array Value} {off : Nat} (hx : xs.extract off (off + n) = ys) (w : World) : (part t xs off).run Try.prog w = .ok (.agg ys) w := by
  have hagg : (isAgg t).run Try.prog w = .ok true w := by
    unfold isAgg
    rw [Sem.run_bind, run_underlying hu w]
    cases d <;> simp_all
  cases hq : Try.prog.info? t with
  | none => simp [hq] at hn
  | some i =>
    have hs : i.size = n := by simpa [hq] using hn
    simp [part, Sem.run_bind, hagg, sizeOf, typeInfo, hq, hs, hx]
/-- what stands at a place of some cells, and is equal to itself -/
def Pe (d : Nat) (xs : Array Value) (t : TypeId) (off : Nat) : Prop := ∃ v, (∀ w, (part t xs off).run Try.prog w = .ok v w) ∧ Se d t v
theorem se_fields (d : Nat) (xs : Array Value) : ∀ fs : List Field, (∀ f ∈ fs, Pe d xs f.type f.offset) → ∀ w, (Op.eqFields d xs xs fs).run Try.prog w = .ok true w
  | [], _, w => by simp [Op.eqFields]
  | f :: fs, h, w => by
    obtain ⟨v, h1, h2⟩ := h f List.mem_cons_self
    have h3 := se_fields d xs fs (fun g hg => h g (List.mem_cons_of_mem _ hg)) w
    by_cases hn : f.name = "_"
    · simp [Op.eqFields, hn, h3]
    · simp [Op.eqFields, hn, Sem.run_bind, h1, h2 w, h3]
theorem se_struct {t : TypeId} (ht : Try.prog.underlying t = some (.struct (Try.prog.fieldsOf t))) (hp : Try.prog.stoodInHeld t = false) {ps : List (TypeId × Nat)} (hfs : (Try.prog.fieldsOf t).toList.map (fun f => (f.type, f.offset)) = ps) (d : Nat) (xs : Array Value) (h : ∀ p ∈ ps, Pe d xs p.1 p.2) : Se (d + 1) t (.agg xs) := fun w => by
  rw [run_equalIn_struct w d t xs xs ht hp]
  exact se_fields d xs _ (fun f hf => h (f.type, f.offset) (by rw [← hfs]; exact List.mem_map.2 ⟨f, hf, rfl⟩)) w
theorem se_items (d : Nat) (xs : Array Value) (e : TypeId) (c : Nat) : ∀ is : List Nat, (∀ i ∈ is, Pe d xs e (i * c)) → ∀ w, (Op.eqItems d e c xs xs is).run Try.prog w = .ok true w
  | [], _, w => by simp [Op.eqItems]
  | i :: is, h, w => by
    obtain ⟨v, h1, h2⟩ := h i List.mem_cons_self
    have h3 := se_items d xs e c is (fun g hg => h g (List.mem_cons_of_mem _ hg)) w
    simp [Op.eqItems, Sem.run_bind, h1, h2 w, h3]
theorem se_array {t e : TypeId} {n c : Nat} (hu : Try.prog.underlying t = some (.array n e)) (hi : (Try.prog.info? e).map (·.size) = some c) (hc : Try.prog.cellsOf e = c) (d : Nat) (xs : Array Value) (h : ∀ i, i < n → Pe d xs e (i * c)) : Se (d + 1) t (.agg xs) := fun w => by
  cases hq : Try.prog.info? e with
  | none => simp [hq] at hi
  | some i =>
    rw [run_equalIn_array w d xs xs hu hq, hc]
    exact se_items d xs e c _ (fun i hi => h i (List.mem_range.1 hi)) w
theorem pe_cell {t : TypeId} {k' : IntKind} (hu : Try.prog.underlying t = some (.int k')) (d : Nat) {xs : Array Value} {off : Nat} {k : IntKind} {z : Int} (hx : xs[off]? = some (.int k z)) : Pe (d + 1) xs t off := ⟨_, part_cell hu rfl hx, se_int hu d k z⟩
theorem pe_bool {t : TypeId} (hu : Try.prog.underlying t = some .bool) (d : Nat) {xs : Array Value} {off : Nat} {b : Bool} (hx : xs[off]? = some (.bool b)) : Pe (d + 1) xs t off := ⟨_, part_cell hu rfl hx, se_bool hu d b⟩
theorem se_quota (d : Nat) (q : Qt) : Se (d + 2) 32 (.agg #[.int .i64 q.f, .int .i64 q.e, .int .i64 q.x]) := by
  refine se_struct (ps := [(3, 0), (3, 1), (3, 2)]) (by kernel_rfl) (by kernel_rfl) (by kernel_rfl) (d + 1) _ (fun p hp => ?_)
  simp only [List.mem_cons, List.not_mem_nil, or_false] at hp
  rcases hp with rfl | rfl | rfl <;> exact pe_cell Try.underlying3 d rfl
theorem se_r8 (d : Nat) (g : Nat → Nat) : Se (d + 2) 34 (.agg #[.int .u32 (g 0 : Nat), .int .u32 (g 1 : Nat), .int .u32 (g 2 : Nat), .int .u32 (g 3 : Nat), .int .u32 (g 4 : Nat), .int .u32 (g 5 : Nat), .int .u32 (g 6 : Nat), .int .u32 (g 7 : Nat)]) := by
  refine se_array (c := 1) Try.underlying34 (by kernel_rfl) (by kernel_rfl) (d + 1) _ (fun i hi => ?_)
  have : i = 0 ∨ i = 1 ∨ i = 2 ∨ i = 3 ∨ i = 4 ∨ i = 5 ∨ i = 6 ∨ i = 7 := by omega
  rcases this with rfl | rfl | rfl | rfl | rfl | rfl | rfl | rfl <;> exact pe_cell Try.underlying33 d rfl
theorem se_regs (d : Nat) (g : Nat → Nat) (pc : Nat) : Se (d + 3) 36 (.agg #[.int .u32 (g 0 : Nat), .int .u32 (g 1 : Nat), .int .u32 (g 2 : Nat), .int .u32 (g 3 : Nat), .int .u32 (g 4 : Nat), .int .u32 (g 5 : Nat), .int .u32 (g 6 : Nat), .int .u32 (g 7 : Nat), .int .u32 (pc : Nat)]) := by
  refine se_struct (ps := [(34, 0), (33, 8)]) (by kernel_rfl) (by kernel_rfl) (by kernel_rfl) (d + 2) _ (fun p hp => ?_)
  simp only [List.mem_cons, List.not_mem_nil, or_false] at hp
  rcases hp with rfl | rfl
  · exact ⟨_, part_agg Try.underlying34 rfl (n := 8) (by kernel_rfl) (by simp), se_r8 d g⟩
  · exact pe_cell Try.underlying33 (d + 1) rfl
theorem se_env (d : Nat) (e : Er) : Se (d + 4) 40 (.agg e.head.toArray) := by
  refine se_struct (ps := [(3, 0), (3, 1), (3, 2), (3, 3), (3, 4), (4, 5), (36, 6), (32, 15), (32, 18)]) (by kernel_rfl) (by kernel_rfl) (by kernel_rfl) (d + 3) _ (fun p hp => ?_)
  simp only [List.mem_cons, List.not_mem_nil, or_false] at hp
  rcases hp with rfl | rfl | rfl | rfl | rfl | rfl | rfl | rfl | rfl
  · exact pe_cell Try.underlying3 (d + 2) rfl
  · exact pe_cell Try.underlying3 (d + 2) rfl
  · exact pe_cell Try.underlying3 (d + 2) rfl
  · exact pe_cell Try.underlying3 (d + 2) rfl
  · exact pe_cell Try.underlying3 (d + 2) rfl
  · exact pe_bool Try.underlying4 (d + 2) rfl
  · exact ⟨_, part_agg Try.underlying36 rfl (n := 9) (by kernel_rfl) (by simp [Er.head]), se_regs d e.rg e.pc⟩
  · exact ⟨_, part_agg Try.underlying32 rfl (n := 3) (by kernel_rfl) (by simp [Er.head]), se_quota (d + 1) e.qu⟩
  · exact ⟨_, part_agg Try.underlying32 rfl (n := 3) (by kernel_rfl) (by simp [Er.head]), se_quota (d + 1) e.lf⟩
/-- what is told is equal to itself -/
theorem Tc.se {cs : List Value} {f : Nat → Er} {g : Nat → Int} (h : Tc cs f g) (d : Nat) : Se (d + 6) 62 (.agg cs.toArray) := by
  refine se_struct (ps := [(59, 0), (60, 336)]) (by kernel_rfl) (by kernel_rfl) (by kernel_rfl) (d + 5) _ (fun p hp => ?_)
  simp only [List.mem_cons, List.not_mem_nil, or_false] at hp
  rcases hp with rfl | rfl
  · refine ⟨_, part_agg Try.underlying59 rfl (n := 336) (by kernel_rfl) rfl, ?_⟩
    refine se_array (c := 21) Try.underlying59 (by kernel_rfl) (by kernel_rfl) (d + 4) _ (fun i hi => ?_)
    refine ⟨_, part_agg Try.underlying40 rfl (n := 21) infoE ?_, se_env d (f i)⟩
    refine Array.ext_getElem? (fun j => ?_)
    by_cases hj : j < 21
    · rw [Array.getElem?_extract_of_lt (by simp [h.len]; omega), ← Array.getElem?_eq_getElem, Array.getElem?_extract_of_lt (by simp [h.len]; omega), ← Array.getElem?_eq_getElem]
      have := h.env i hi j hj
      simpa using this
    · rw [Array.getElem?_eq_none (by simp [h.len]; omega), Array.getElem?_eq_none (by rw [List.size_toArray, head_len]; omega)]
  · refine ⟨_, part_agg Try.underlying60 rfl (n := 16) (by kernel_rfl) rfl, ?_⟩
    refine se_array (c := 1) Try.underlying60 (by kernel_rfl) (by kernel_rfl) (d + 4) _ (fun i hi => ?_)
    refine pe_cell (k := .i64) (z := g i) Try.underlying27 (d + 3) ?_
    rw [Array.getElem?_extract_of_lt (by simp [h.len]; omega), ← Array.getElem?_eq_getElem]
    have := h.err i hi
    simpa using this
/-- '==' of a value with itself -/
theorem eqlT {t t' : TypeId} (xs : Array Value) (hse : Se 10000 t (.agg xs)) (hm : Try.prog.eqGuardType Try.prog.depth t = false) {ops : Array Oper} {rest : List Oper} {op : Oper} {a : Act} {w : World} {Q : Exit → Act → World → Prop} (hw : Region.wanted op (yielded ops a.tmps) = true) (x y : Operand) (ho : op.op = .binOp .eql t x y t')
    (hx : a.eval x = .agg xs) (hy : a.eval y = .agg xs) (h : wpList Try.prog ops Q rest (a.put op.dst (.bool true)) w) : wpList Try.prog ops Q (op :: rest) a w :=
  BigFrame.wpList_want hw fun _ hK => by
    unfold Oper.wp execOp
    simp only [ho, hx, hy, Sem.run_bind, run_eqGuard_agg w .eql t x y xs xs hm, run_eql_struct, hse w, Result.andThen_ok, Sem.run_pure]
    exact hK _ _ h
theorem neqT {t t' : TypeId} (xs : Array Value) (hse : Se 10000 t (.agg xs)) (hm : Try.prog.eqGuardType Try.prog.depth t = false) {ops : Array Oper} {rest : List Oper} {op : Oper} {a : Act} {w : World} {Q : Exit → Act → World → Prop} (hw : Region.wanted op (yielded ops a.tmps) = true) (x y : Operand) (ho : op.op = .binOp .neq t x y t')
    (hx : a.eval x = .agg xs) (hy : a.eval y = .agg xs) (h : wpList Try.prog ops Q rest (a.put op.dst (.bool false)) w) : wpList Try.prog ops Q (op :: rest) a w :=
  BigFrame.wpList_want hw fun _ hK => by
    unfold Oper.wp execOp
    simp only [ho, hx, hy, Sem.run_bind, run_eqGuard_agg w .neq t x y xs xs hm, run_neq_struct, hse w, Result.andThen_ok, Sem.run_pure, Bool.not_true]
    exact hK _ _ h
end Go.Proofs.Ytoddadohmnaolab

namespace Go.Proofs.Ytoddadohmnaolab
open Go.ChangeShapes Go.WideShapes Go.ChangeAt Go.RowKit Go.Deep Go.Shelf Go.Great

section
variable {rs rs' : List (Option Er)} {last : Int}
/-- those that are older -/
def oldL (rs : List (Option Er)) (e : Nat) : List Nat := (List.range 16).filter (fun i => (core rs i).isSome && decide (ser rs i < ser rs e))
theorem oldL_lt (h : Tr rs last) {p k : Nat} (hp : Lv rs p) (hs : ser rs p < ser rs k) : (oldL rs p).length < (oldL rs k).length := by
  have hpl := lv_lt h hp
  have hnd : (p :: oldL rs p).Nodup := List.nodup_cons.2 ⟨fun hc => by
    unfold oldL at hc
    have := (List.mem_filter.1 hc).2
    simp at this, List.Pairwise.filter _ List.nodup_range⟩
  have := nodup_le (p :: oldL rs p) (oldL rs k) hnd (fun x hx => by
    unfold oldL
    rcases List.mem_cons.1 hx with rfl | hx
    · exact List.mem_filter.2 ⟨List.mem_range.2 hpl, by simp [lv_core.1 hp, hs]⟩
    · unfold oldL at hx
      obtain ⟨q1, q2⟩ := List.mem_filter.1 hx
      simp at q2
      exact List.mem_filter.2 ⟨q1, by simp [q2.1]; omega⟩)
  simp at this
  omega
theorem oldL_le (h : Tr rs last) {k : Nat} (hk : Lv rs k) : (oldL rs k).length < 16 := by
  have hkl := lv_lt h hk
  have hnd : (k :: oldL rs k).Nodup := List.nodup_cons.2 ⟨fun hc => by
    unfold oldL at hc
    have := (List.mem_filter.1 hc).2
    simp at this, List.Pairwise.filter _ List.nodup_range⟩
  have := nodup_le16 hnd (fun x hx => by
    rcases List.mem_cons.1 hx with rfl | hx
    · exact hkl
    · unfold oldL at hx
      exact List.mem_range.1 (List.mem_filter.1 hx).1)
  simp at this
  omega
theorem line_ex (h : Tr rs last) : ∀ (n k : Nat), Lv rs k → (oldL rs k).length < n → ∃ l, Line rs (k : Int) l ∧ l.length ≤ n
  | 0, _, _, hl => by omega
  | n + 1, k, ⟨r, hr⟩, hl => by
    by_cases h0 : k = 0
    · subst h0
      obtain ⟨r0, h1, h2⟩ := h.root
      rw [hr] at h1
      obtain rfl : r = r0 := by simpa using h1
      refine ⟨_, line_some (look_at hr) (line_none ?_), by simp⟩
      rw [h2]; rfl
    · obtain ⟨p, h1, h2, h3⟩ := h.par k r hr h0
      obtain ⟨l, h4, h5⟩ := line_ex h n p h2 (by have := oldL_lt h h2 h3; omega)
      exact ⟨_, line_some (look_at hr) (by rw [h1]; exact h4), by simp; omega⟩
/-- from a number up to the root -/
def upF (rs : List (Option Er)) : Nat → Int → List Int
  | 0, _ => []
  | n + 1, e => match look rs e with | none => [] | some r => e :: upF rs n r.pa
def ln (rs : List (Option Er)) (e : Int) : List Int := upF rs 16 e
theorem line_up {e : Int} {l : List Int} (h : Line rs e l) : ∀ n, l.length ≤ n → upF rs n e = l := by
  induction l generalizing e with
  | nil => intro n _; have h' : look rs e = none := h; cases n with | zero => rfl | succ n => simp only [upF, h']
  | cons z0 l ih0 =>
    obtain ⟨rfl, r, h, hl0⟩ := h
    have ih := ih0 hl0
    intro n hn
    cases n with
    | zero => simp at hn
    | succ n => simp only [upF, h]; rw [ih n (by simpa using hn)]
theorem ln_line (h : Tr rs last) (e : Int) : Line rs e (ln rs e) ∧ (ln rs e).length ≤ 16 := by
  cases hl : look rs e with
  | none =>
    have h1 := line_none hl
    have h2 := line_up h1 16 (by simp)
    unfold ln
    rw [h2]
    exact ⟨h1, by simp⟩
  | some r =>
    obtain ⟨k, rfl, hr⟩ := look_some hl
    obtain ⟨l, h1, h2⟩ := line_ex h 16 k ⟨r, hr⟩ (oldL_le h ⟨r, hr⟩)
    have h3 := line_up h1 16 h2
    unfold ln
    rw [h3]
    exact ⟨h1, h2⟩
/-- does it run? -/
def rn (rs : List (Option Er)) (e : Int) : Bool := match look rs e with | none => false | some r => decide (r.st = 1) && !((ln rs e).any (flg rs))
end
section
variable {w : World} {F : Nat → Prop} {T : Nat} {rs : List (Option Er)} {last : Int}
set_option maxHeartbeats 1600000 in
theorem runs_all (h : Et w F T rs last) (iv : Tr rs last) (e : Int) : Calls Try.prog 8 #[.pointer (some ⟨T, 0, none⟩), .int .i64 e] w fun x w' => x = .returned (.bool (rn rs e)) ∧ Below w.heap.size w w' := by
  unfold rn
  cases hl : look rs e with
  | some r =>
    obtain ⟨k, rfl, hr⟩ := look_some hl
    exact runs_any w F T rs last h k r hr _ (ln_line iv _).1 (ln_line iv _).2
  | none =>
    have HB := hide (Below.refl w.heap.size w)
    obtain ⟨S, G, m, h⟩ := h
    have c0 := h.cell.1
    have HG := hide (getL_any _ G S m h.tab e)
    rcases h.cases e with ⟨h2, h1⟩ | ⟨k', b, r', e1, hm, h3, h4, _, hR⟩
    · rw [h2] at HG
      simp only [ptr, Option.isSome_none] at HG
      clear h
      go_enter Try.func8, Try.ntmps8
      go_wp2_with fail
      refine HG.out.mono ?_
      rintro e1 w1 ⟨rfl, rfl⟩
      go_wp2
      go_ret
      exact ⟨rfl, HB.out⟩
    · subst e1
      rw [look_at h3] at hl; cases hl
set_option maxRecDepth 8000 in
set_option maxHeartbeats 3200000 in
theorem indexI_any (w : World) (base : Nat) (a : Option Addr) (c : Nat) (l : List Int) (hrow : w.ownsRow base 3 1 (.slice a l.length c) l.length (nums l)) (z : Int) (hl : l.length ≤ 16) : Calls Try.prog 63 #[.slice a l.length c, .int .i64 z] w fun x w' => (∃ i : Int, x = .returned (.int .i64 i) ∧ (0 ≤ i ↔ z ∈ l)) ∧ w' = w := by
  have HR := hide hrow
  obtain ⟨L, hL⟩ : ∃ L, l.length = L := ⟨_, rfl⟩
  have HL := hide hL
  rw [hL] at hl HR ⊢
  clear hrow hL
  go_enter Try.func63, Try.ntmps63
  go_upto_region 2 with fail
  go_loopw [8] (fun x wr => ∃ j : Nat, j ≤ L ∧ x = .int .i64 (j : Int) ∧ Hid (∀ i, i < j → l[i]? ≠ some z) ∧ wr = w) (fun x _ => L - (intOf x).toNat)
  case atStart => exact ⟨0, by omega, rfl, fun i hi => by omega, rfl⟩
  case round =>
  obtain ⟨j, hj, rfl, KN, rfl⟩ := hrel
  by_cases hlt : j < L
  · have hd : decide ((j : Int) < (L : Int)) = true := by simp; omega
    have hj3 : (j : Int) < (L : Int) := by omega
    obtain ⟨y, hy⟩ : ∃ y, l[j]? = some y := ⟨_, List.getElem?_eq_getElem (by have := HL.out; omega)⟩
    have hro := HR.out
    rw [← HL.out] at hro
    obtain ⟨g, rfl, hc⟩ := row_cell hro hy
    have HY := hide hy
    clear hy hro
    by_cases hyz : z = y
    · have hyb : (z == y) = true := by simp [hyz]
      have HYz := hide hyz
      clear hyz
      go_wp2
      go_ret
      refine ⟨⟨(j : Int), rfl, ⟨fun _ => ?_, fun _ => by omega⟩⟩, rfl⟩
      rw [HYz.out]
      exact List.mem_of_getElem? HY.out
    · have hyb : (z == y) = false := by simp [hyz]
      have K1 : Hid (∀ i, i < j + 1 → l[i]? ≠ some z) := hide (fun i hi => by
        by_cases e : i = j
        · subst e; rw [HY.out]; intro e9; exact hyz (by simpa using e9.symm)
        · exact KN.out i (by omega))
      go_wp2
      go_roundw
      case rel =>
        first
          | exact ⟨j + 1, by omega, by go_num, K1, by trivial⟩
          | ((repeat apply Exists.intro); refine ⟨?_, rfl⟩; exact ⟨j + 1, by omega, by go_num, K1, by trivial⟩)
      case measure => simp [intOf]; omega
  · have hd : decide ((j : Int) < (L : Int)) = false := by simp; omega
    go_wp2
    go_ret
    refine ⟨⟨-1, rfl, ⟨fun h => by omega, fun h => ?_⟩⟩, rfl⟩
    obtain ⟨i, hi, e⟩ := List.getElem_of_mem h
    exact absurd (by rw [List.getElem?_eq_getElem hi, e]) (KN.out i (by have := HL.out; omega))
set_option maxHeartbeats 1600000 in
theorem containsI_any (w : World) (base : Nat) (a : Option Addr) (c : Nat) (l : List Int) (hrow : w.ownsRow base 3 1 (.slice a l.length c) l.length (nums l)) (z : Int) (hl : l.length ≤ 16) : Calls Try.prog 43 #[.slice a l.length c, .int .i64 z] w fun x w' => x = .returned (.bool (decide (z ∈ l))) ∧ w' = w := by
  have HI := hide (indexI_any w base a c l hrow z hl)
  obtain ⟨q, hq⟩ : ∃ q : Bool, decide (z ∈ l) = q := ⟨_, rfl⟩
  rw [hq]
  have HQ := hide hq
  generalize l.length = L at *
  clear hrow hl hq
  go_enter Try.func43, Try.ntmps43
  go_wp2_with fail
  refine HI.out.mono ?_
  rintro e1 w1 ⟨⟨i, rfl, hz⟩, rfl⟩
  have hq : decide (0 ≤ i) = q := by
    rw [← HQ.out]
    exact decide_eq_decide.2 hz
  have HQ2 := hide hq
  clear hz hq
  go_wp2
  go_ret
  refine ⟨?_, rfl⟩
  rw [← HQ2.out]
  rfl
set_option maxHeartbeats 1600000 in
theorem inside_any (h : Et w F T rs last) (iv : Tr rs last) (z e : Int) : Calls Try.prog 15 #[.pointer (some ⟨T, 0, none⟩), .int .i64 z, .int .i64 e] w fun x w' => x = .returned (.bool (decide (z ∈ ln rs e))) ∧ Below w.heap.size w w' := by
  obtain ⟨h1, h2⟩ := ln_line iv e
  have HL := hide (line_any w F T rs last h e _ h1 h2)
  have HC := hide (fun W base a c hrow => containsI_any W base a c (ln rs e) hrow z h2)
  obtain ⟨q, hq⟩ : ∃ q : Bool, decide (z ∈ ln rs e) = q := ⟨_, rfl⟩
  rw [hq]
  simp only [hq] at HC
  generalize ln rs e = l at *
  clear h h1 h2 hq
  go_enter Try.func15, Try.ntmps15
  go_wp2_with fail
  refine HL.out.mono ?_
  rintro e1 w2 ⟨v, rfl, hrow, hb⟩
  obtain ⟨a, c, rfl⟩ := own_shape hrow
  have HC2 := hide (HC.out w2 _ a c hrow)
  have HB2 := hide hb
  clear hrow hb HC
  go_wp2_with fail
  refine HC2.out.mono ?_
  rintro e1 w3 ⟨rfl, rfl⟩
  go_wp2
  go_ret
  exact ⟨rfl, HB2.out⟩
end
end Go.Proofs.Ytoddadohmnaolab

namespace Go.Proofs.Ytoddadohmnaolab
open Go.ChangeShapes Go.WideShapes Go.ChangeAt Go.RowKit Go.Deep Go.Shelf Go.Great

section
variable {w : World} {F : Nat → Prop} {T : Nat} {rs : List (Option Er)} {last : Int}
/-- where the law's look upwards stands -/
def Up (rs : List (Option Er)) (f : Int) (rest : List Int) : Prop := (f = -1 ∧ rest = []) ∨ ∃ (k : Nat) (r : Er) (l : List Int), f = (k : Int) ∧ rs[k]? = some (some r) ∧ rest = (k : Int) :: l ∧ Line rs r.pa l
theorem up_next (iv : Tr rs last) {k : Nat} {r : Er} {l : List Int} (hr : rs[k]? = some (some r)) (hL : Line rs r.pa l) : Up rs r.pa l := by
  by_cases h0 : k = 0
  · subst h0
    obtain ⟨r0, h1, h2⟩ := iv.root
    rw [hr] at h1
    obtain rfl : r = r0 := by simpa using h1
    left
    refine ⟨h2, ?_⟩
    rw [h2] at hL
    rcases line_cases hL with ⟨_, h⟩ | ⟨_, _, h, _⟩
    · exact h
    · cases h
  · right
    obtain ⟨p, h1, ⟨rp, h2⟩, _⟩ := iv.par k r hr h0
    rw [h1] at hL
    rcases line_cases hL with ⟨h, _⟩ | ⟨_, l', h, h', hl⟩
    · rw [look_at h2] at h; cases h
    · rw [look_at h2] at h
      cases h
      exact ⟨p, rp, l', h1, h2, h', hl⟩
theorem up_first (iv : Tr rs last) {k : Nat} {r : Er} (hr : rs[k]? = some (some r)) : Up rs (k : Int) (ln rs (k : Int)) := by
  right
  have h1 := (ln_line iv (k : Int)).1
  generalize ln rs (k : Int) = l at *
  rcases line_cases h1 with ⟨h, _⟩ | ⟨_, l', h, h', hl⟩
  · rw [look_at hr] at h; cases h
  · rw [look_at hr] at h
    cases h
    exact ⟨k, r, l', rfl, hr, h', hl⟩
set_option maxRecDepth 8000 in
set_option maxHeartbeats 3200000 in
theorem flaggedL_any (h : Et w F T rs last) (iv : Tr rs last) (k : Nat) (r : Er) (hr : rs[k]? = some (some r)) : Calls Try.prog 11 #[.pointer (some ⟨T, 0, none⟩), .int .i64 (k : Int)] w fun x w' => x = .returned (.bool ((ln rs (k : Int)).any (flg rs))) ∧ Below w.heap.size w w' := by
  have HE := hide h
  have HI := hide iv
  have HU := hide (up_first iv hr)
  have HL := hide (ln_line iv (k : Int)).2
  obtain ⟨b, hb⟩ : ∃ b : Bool, (ln rs (k : Int)).any (flg rs) = b := ⟨_, rfl⟩
  have HBq := hide hb
  rw [hb]
  clear h iv hr hb
  go_enter Try.func11, Try.ntmps11
  go_upto_region 2 with fail
  go_loopw [1, 5] (fun x y wr => ∃ (j : Nat) (f : Int) (rest : List Int), x = .int .i64 f ∧ y = .int .i64 (j : Int) ∧ Hid (Up rs f rest) ∧ j + rest.length ≤ 16 ∧ Hid (rest.any (flg rs) = b) ∧ Hid (Below w.heap.size w wr)) (fun _ y _ => 17 - (intOf y).toNat)
  case atStart => exact ⟨0, _, _, rfl, rfl, HU, by have := HL.out; omega, HBq, Below.refl _ _⟩
  case round =>
  clear HU HL HBq
  obtain ⟨j, f, rest, rfl, rfl, KU, hj, KQ, KB⟩ := hrel
  rcases KU.out with ⟨rfl, rfl⟩ | ⟨k, r, l, rfl, hr, rfl, hL⟩
  · have hj1 : decide ((j : Int) ≤ 16) = true := by simp at hj ⊢; omega
    have hq : b = false := by rw [← KQ.out]; rfl
    subst hq
    go_wp2
    go_ret
    exact ⟨rfl, KB.out⟩
  · have hj2 : j ≤ 15 := by simp at hj; omega
    have hj1 : decide ((j : Int) ≤ 16) = true := by simp; omega
    have hk0 : decide ((k : Int) ≥ 0) = true := by simp
    have HN := hide (up_next HI.out hr hL)
    have hEr := HE.out.keep KB.out.size (fun b hb => KB.out.block b (HE.out.lt b hb))
    have HIn := hide (info_any _ F T rs last hEr k r hr)
    have hfl := flg_at hr
    have hj4 : j + 1 + l.length ≤ 16 := by simp at hj; omega
    clear hEr hr hL hj KU
    go_wp2_with fail
    refine HIn.out.mono ?_
    rintro x1 u1 ⟨rfl, hb1⟩
    have hz : Eb (u1.alloc (.cells Er.nil.head.toArray 40)) u1.heap.size Er.nil := Eb.new _ _
    have HEb := hide (freshE_eb u1 r.told)
    have hb2 := hb1.trans ((freshE_below u1 r.told).mono hb1.size)
    have HB2 := hide (KB.out.trans (hb2.mono KB.out.size))
    clear hb1 hb2 HIn KB
    go_upto_region 5 with (refine storeE r.told ?nw _ _ rfl u1.heap.size Er.nil ?nx ?ny ?nz ?_; rotate_left 4; change wpList _ _ _ _ _ (freshE u1 r.told); generalize freshE u1 r.told = u2 at *)
    try (case nw => rfl)
    try (case nx => rfl)
    try (case ny => rfl)
    try (case nz => exact hz)
    clear hz
    generalize u1.heap.size = M at *
    have m5 : u2.cell? ⟨M, 5, none⟩ = some (.bool r.fz) := HEb.out.get (j := 5) rfl
    have m1 : u2.cell? ⟨M, 1, none⟩ = some (.int .i64 r.pa) := HEb.out.get (j := 1) rfl
    cases hf : r.fz
    · rw [hf] at m5
      have K2 : Hid (l.any (flg rs) = b) := hide (by
        have := KQ.out
        rw [List.any_cons, ← hfl, hf, Bool.false_or] at this
        exact this)
      clear KQ HEb hfl hf
      go_wp2
      go_roundw
      case rel =>
        first
          | exact ⟨j + 1, _, l, rfl, by go_num, HN, hj4, K2, HB2⟩
          | ((repeat apply Exists.intro); refine ⟨?_, rfl⟩; exact ⟨j + 1, _, l, rfl, by go_num, HN, hj4, K2, HB2⟩)
      case measure => simp [intOf]; omega
    · rw [hf] at m5
      have hq : b = true := by
        rw [← KQ.out, List.any_cons, ← hfl, hf, Bool.true_or]
      subst hq
      clear KQ HEb hfl hf
      go_wp2
      go_ret
      exact ⟨rfl, HB2.out⟩
end
/-- sixteen answers -/
def bl (f : Nat → Bool) : List Value := (List.range 16).map (fun i => .bool (f i))
theorem bl_len (f : Nat → Bool) : (bl f).length = 16 := by simp [bl]
theorem bl_get (f : Nat → Bool) {i : Nat} (hi : i < 16) : (bl f)[i]? = some (.bool (f i)) := by
  unfold bl
  rw [List.getElem?_map, List.getElem?_range hi]; rfl
theorem bl_set (f : Nat → Bool) {j : Nat} (b : Bool) : (bl f).set j (.bool b) = bl (fun i => if i = j then b else f i) := by
  refine List.ext_getElem? (fun i => ?_)
  by_cases hi : i < 16
  · rw [bl_get _ hi]
    by_cases e : i = j
    · subst e; rw [List.getElem?_set_self (by rw [bl_len]; exact hi), if_pos rfl]
    · rw [List.getElem?_set_ne (fun e9 => e e9.symm), bl_get _ hi, if_neg e]
  · rw [List.getElem?_eq_none (by rw [List.length_set, bl_len]; omega), List.getElem?_eq_none (by rw [bl_len]; omega)]
theorem bl_congr {f g : Nat → Bool} (h : ∀ i, i < 16 → f i = g i) : bl f = bl g := by
  unfold bl
  refine List.map_congr_left (fun i hi => ?_)
  rw [h i (List.mem_range.1 hi)]
theorem bl_one (f : Nat → Bool) : ∀ u ∈ bl f, u.oneCell' = true := by
  intro u hu
  unfold bl at hu
  obtain ⟨i, _, rfl⟩ := List.mem_map.1 hu
  rfl
theorem infoB16 : (Try.prog.info? 45).map (·.size) = some 16 := by kernel_rfl
theorem se_bl (d : Nat) (f : Nat → Bool) : Se (d + 2) 45 (.agg (bl f).toArray) := by
  refine se_array (c := 1) Try.underlying45 (by kernel_rfl) (by kernel_rfl) (d + 1) _ (fun i hi => ?_)
  refine pe_bool (b := f i) Try.underlying4 d ?_
  have := bl_get f hi
  simpa using this
def rF (rs : List (Option Er)) (j i : Nat) : Bool := if i < j then rn rs (i : Int) else false
section
variable {w : World} {F : Nat → Prop} {T : Nat} {rs : List (Option Er)} {last : Int}
set_option maxRecDepth 100000 in
set_option maxHeartbeats 3200000 in
theorem running_any (h : Et w F T rs last) (iv : Tr rs last) : Calls Try.prog 13 #[.pointer (some ⟨T, 0, none⟩)] w fun x w' => x = .returned (.agg (bl (fun i => rn rs (i : Int))).toArray) ∧ Below w.heap.size w w' := by
  have HE := hide h
  have HI := hide iv
  clear h iv
  obtain ⟨zt, hzt⟩ : ∃ zt, zt = bl (fun _ => false) := ⟨_, rfl⟩
  have HZ := hide hzt
  have hrun : ∀ (ρ : Operand → Value) (o : Oper) (W : World), o.op = .alloc 45 → (execOp ρ o).run Try.prog W = .ok (.value (.pointer (some ⟨W.heap.size, 0, none⟩))) (W.alloc (.cells zt.toArray 45)) := by
    intro ρ o W ho
    rw [hzt]
    unfold execOp
    rw [ho]
    kernel_rfl
  clear hzt
  go_enter Try.func13, Try.ntmps13
  go_upto_region 0 with fail
  apply wp_region_lit
  refine wpList_allocTo rfl (some 2) rfl (.pointer (some ⟨w.heap.size, 0, none⟩)) (.cells zt.toArray 45) (hrun _ _ _ rfl) ?_
  apply wpList_nil
  rename_i K hK
  refine hK _ _ ?_
  clear hK K
  simp only [Act.put, List.setIfInBounds_toArray, List.set_cons_zero, List.set_cons_succ]
  go_upto_region 1 with fail
  apply wp_region_lit
  refine wpList_allocTo rfl (some 3) rfl (.pointer (some ⟨(w.alloc (.cells zt.toArray 45)).heap.size, 0, none⟩)) (.cells zt.toArray 45) (hrun _ _ _ rfl) ?_
  apply wpList_nil
  rename_i K hK
  refine hK _ _ ?_
  clear hK K
  simp only [Act.put, List.setIfInBounds_toArray, List.set_cons_zero, List.set_cons_succ]
  have hb1 := (Below.refl w.heap.size w).alloc (Nat.le_refl _) (.cells zt.toArray 45)
  have a1 := heap_alloc_new w (.cells zt.toArray 45)
  have hb2 := hb1.alloc (by simp) (.cells zt.toArray 45)
  have a2 := heap_alloc_new (w.alloc (.cells zt.toArray 45)) (.cells zt.toArray 45)
  have a3 : ((w.alloc (.cells zt.toArray 45)).alloc (.cells zt.toArray 45)).heap[w.heap.size]? = some (.cells zt.toArray 45 (0, 0)) := by rw [Below.heap_alloc _ _ _ (by simp)]; exact a1
  have hne : (w.alloc (.cells zt.toArray 45)).heap.size = w.heap.size + 1 := by simp
  rw [hne] at a2 ⊢
  clear hb1 a1 hne hrun
  generalize (w.alloc (.cells zt.toArray 45)).alloc (.cells zt.toArray 45) = w2 at *
  have HB := hide hb2
  have H1 := hide a3
  have H2 : Hid (w2.heap[w.heap.size + 1]? = some (.cells (bl (rF rs 0)).toArray 45 (0, 0))) := hide (by rw [a2, HZ.out, bl_congr (f := fun _ => false) (g := rF rs 0) (fun i _ => rfl)])
  have HZl : Hid (zt.length = 16) := hide (by rw [HZ.out]; exact bl_len _)
  clear hb2 a3 a2 HZ
  go_upto_region 3 with fail
  go_loopw [4] (fun x wr => ∃ j : Nat, j ≤ 16 ∧ x = .int .i64 (j : Int) ∧ Hid (wr.heap[w.heap.size + 1]? = some (.cells (bl (rF rs j)).toArray 45 (0, 0))) ∧ Hid (wr.heap[w.heap.size]? = some (.cells zt.toArray 45 (0, 0))) ∧ Hid (Below w.heap.size w wr)) (fun x _ => 16 - (intOf x).toNat)
  case atStart => exact ⟨0, by omega, rfl, H2, H1, HB⟩
  case round =>
  clear H2 H1 HB
  obtain ⟨j, hj, rfl, K2, K1, KB⟩ := hrel
  by_cases h16 : j < 16
  · have hd : decide ((j : Int) < 16) = true := by simp; omega
    have hj3 : (j : Int) < 16 := by omega
    have HR := hide (runs_all (HE.out.keep KB.out.size (fun b hb => KB.out.block b (HE.out.lt b hb))) HI.out (j : Int))
    go_wp2_with fail
    refine HR.out.mono ?_
    rintro e1 u1 ⟨rfl, hb1⟩
    have hc1 := (hb1.block _ (Array.getElem?_eq_some_iff.1 K2.out).1).trans K2.out
    have K1' := hide ((hb1.block _ (Array.getElem?_eq_some_iff.1 K1.out).1).trans K1.out)
    have KB' := hide (KB.out.trans (hb1.mono KB.out.size))
    have hcell : u1.cell? ⟨w.heap.size + 1, j, none⟩ = some (.bool (rF rs j j)) := by
      rw [cell_of_row _ _ _ _ _ _ hc1]
      simpa using bl_get (rF rs j) h16
    have hfrz := frozen_of_row u1 (w.heap.size + 1) j _ _ hc1
    have HC1 := hide hc1
    clear K2 K1 KB HR hb1 hc1
    generalize hz : rn rs (j : Int) = z at *
    have N2 : Hid ((u1.setCell ⟨w.heap.size + 1, j, none⟩ (.bool z)).heap[w.heap.size + 1]? = some (.cells (bl (rF rs (j + 1))).toArray 45 (0, 0))) := hide (by
      rw [heap_setCell_same _ _ _ _ _ (.bool z) HC1.out, List.setIfInBounds_toArray, bl_set, bl_congr (g := rF rs (j + 1)) (fun i _ => ?_)]
      unfold rF
      by_cases e : i = j
      · subst e; rw [if_pos rfl, if_pos (by omega), hz]
      · rw [if_neg e]
        by_cases e2 : i < j
        · rw [if_pos e2, if_pos (by omega)]
        · rw [if_neg e2, if_neg (by omega)])
    have N1 : Hid ((u1.setCell ⟨w.heap.size + 1, j, none⟩ (.bool z)).heap[w.heap.size]? = some (.cells zt.toArray 45 (0, 0))) := hide (by rw [heap_setCell_other _ _ _ _ (show w.heap.size ≠ w.heap.size + 1 by omega)]; exact K1'.out)
    have NB := hide (KB'.out.setCell (p := ⟨w.heap.size + 1, j, none⟩) (show w.heap.size ≤ w.heap.size + 1 by omega) (.bool z))
    clear hz K1' KB'
    go_wp2
    go_roundw
    case rel =>
      first
        | exact ⟨j + 1, by omega, by go_num, N2, N1, NB⟩
        | ((repeat apply Exists.intro); refine ⟨?_, rfl⟩; exact ⟨j + 1, by omega, by go_num, N2, N1, NB⟩)
    case measure => simp [intOf]; omega
  · obtain rfl : j = 16 := by omega
    have hbl : bl (rF rs 16) = bl (fun i => rn rs (i : Int)) := bl_congr (fun i hi => by unfold rF; rw [if_pos hi])
    rw [hbl] at K2
    have hlc := bl_len (fun i => rn rs (i : Int))
    have HOne := hide (bl_one (fun i => rn rs (i : Int)))
    generalize hcs : bl (fun i => rn rs (i : Int)) = cs at *
    have HCs := hide hcs
    clear hcs
    have hx : (wr.setCells w.heap.size 0 cs).heap[w.heap.size]? = some (.cells cs.toArray 45 (0, 0)) := by
      have h9 := heap_setCells_row w.heap.size 45 cs 0 wr zt K1.out
      rw [setsL_all zt cs (by rw [HZl.out, hlc])] at h9
      exact h9
    have HX := hide hx
    have HBx := hide (below_setCells KB.out (Nat.le_refl _) 0 cs)
    have hle : 0 + cs.length ≤ zt.length := by rw [HZl.out, hlc]; omega
    have hi : (Try.prog.info? 45).map (·.size) = some cs.length := by rw [hlc]; exact infoB16
    clear hx hbl
    go_wp2_with (first
      | (refine loadT Try.underlying45 rfl cs hi ?lw _ rfl ⟨w.heap.size + 1, 0, none⟩ ?lx (fun j v hv => by rw [add_nat, cell_of_row _ _ _ _ _ _ K2.out]; simpa using hv) ?_; rotate_left 2)
      | (refine storeT cs hi HOne.out ?sw _ _ rfl w.heap.size 0 ?sx ?sy zt K1.out hle ?_; rotate_left 3; generalize wr.setCells w.heap.size 0 cs = w4 at *))
    try (case lw => rfl)
    try (case lx => rfl)
    try (case sw => rfl)
    try (case sx => rfl)
    try (case sy => rfl)
    refine bodyPost_ret (results_row1 rfl _ _ w.heap.size 45 cs.toArray (0, 0) _ rfl HX.out Try.underlying45 rfl (by rw [List.size_toArray]; exact hi)) rfl ?_
    exact ⟨by rw [HCs.out], HBx.out⟩
end
end Go.Proofs.Ytoddadohmnaolab

namespace Go.Proofs.Ytoddadohmnaolab
open Go.RowKit Go.Shelf

section
variable {w : World} {F : Nat → Prop} {T B : Nat} {rs : List (Option Er)} {last : Int}
set_option maxHeartbeats 800000 in
theorem childrenT_any (h : Et w F T rs last) (hD : Dis rs) (k : Nat) (hk : Lv rs k) : Calls Try.prog 21 #[.pointer (some ⟨T, 0, none⟩), .int .i64 (k : Int)] w fun x w' => ∃ v, x = .returned (.tuple #[v, .int .i64 0]) ∧ w'.ownsRow w.heap.size 3 1 v (kids rs (k : Int)).length (numN (kids rs (k : Int))) ∧ Below w.heap.size w w' := by
  have HC := hide (children_any w F T last h hD (k : Int))
  obtain ⟨r, hr⟩ := hk
  obtain ⟨S, G, m, h⟩ := h
  have c0 := h.cell.1
  have HG := hide (getL_any _ G S m h.tab (k : Int))
  rcases h.cases (k : Int) with ⟨_, h1⟩ | ⟨k', b, r', e1, hm, h3, h4, _, hR⟩
  · rw [look_nat, hr] at h1; cases h1
  · obtain rfl : k = k' := by omega
    rw [h4] at HG
    simp only [ptr, Option.isSome_some] at HG
    clear h h4 hR
    go_enter Try.func21, Try.ntmps21
    go_wp2_with fail
    refine HG.out.mono ?_
    rintro e1 w1 ⟨rfl, rfl⟩
    go_wp2_with fail
    refine HC.out.mono ?_
    rintro e1 w2 ⟨v, rfl, ho, hb⟩
    obtain ⟨va, vc, rfl⟩ := own_shape ho
    have HO := hide ho
    have HB := hide hb
    clear ho hb
    go_wp2
    go_ret2
    exact ⟨_, rfl, HO.out, HB.out⟩
end
/-- sums over lists -/
theorem sum_filter (P : Nat → Bool) (g : Nat → Int) : ∀ l : List Nat, ((l.filter P).map g).sum = (l.map (fun i => if P i = true then g i else 0)).sum
  | [] => rfl
  | x :: l => by
    by_cases h : P x = true
    · rw [List.filter_cons_of_pos h]; simp only [List.map_cons, List.sum_cons, h, if_true, sum_filter P g l]
    · rw [List.filter_cons_of_neg h]; simp only [List.map_cons, List.sum_cons, if_neg h, sum_filter P g l]; omega
theorem tot_range (f : Nat → Int) : ((List.range 16).map f).sum = tot f := by
  unfold tot
  simp only [List.range, List.range.loop, List.map_cons, List.map_nil, List.sum_cons, List.sum_nil]
  omega
theorem sum_perm {a b : List Nat} (h : a.Perm b) (g : Nat → Int) : (a.map g).sum = (b.map g).sum := by
  induction h with
  | nil => rfl
  | cons x _ ih => simp only [List.map_cons, List.sum_cons, ih]
  | swap x y l => simp only [List.map_cons, List.sum_cons]; omega
  | trans _ _ h1 h2 => exact h1.trans h2
section
variable {rs : List (Option Er)} {last : Int}
theorem kids_perm (h : Tr rs last) (e : Int) : (kids rs e).Perm ((List.range 16).filter (kid rs e)) := by
  refine (List.perm_ext_iff_of_nodup (kids_nodup e) (List.Pairwise.filter _ List.nodup_range)).2 (fun k => ?_)
  rw [List.mem_filter, List.mem_range]
  exact ⟨fun hk => ⟨lv_lt h (kid_lv (kids_kid hk)), kids_kid hk⟩, fun hk => kid_kids hk.2⟩
/-- what the children carve, child by child -/
theorem kids_sum (h : Tr rs last) (s : Qt → Int) (e : Nat) : ((kids rs (e : Int)).map (fun i => s (prc rs i))).sum = tot (tm s rs e) := by
  rw [sum_perm (kids_perm h _) _, sum_filter, tot_range]
  rfl
end
/-- the law's own beginning -/
theorem live_rs3 {i : Nat} {r : Er} (h : rs3[i]? = some (some r)) : (i = 0 ∧ r = e0) ∨ (i = 1 ∧ r = e1) ∨ (i = 2 ∧ r = e2) := by
  unfold rs3 at h
  match i with
  | 0 => left; simp at h; exact ⟨rfl, h.symm⟩
  | 1 => right; left; simp at h; exact ⟨rfl, h.symm⟩
  | 2 => right; right; simp at h; exact ⟨rfl, h.symm⟩
  | i + 3 =>
    have h9 : (List.replicate 13 (none : Option Er))[i]? = some (some r) := h
    rw [List.getElem?_replicate] at h9
    split at h9 <;> cases h9
theorem tr_rs3 : Tr rs3 3 := by
  have s0 : ser rs3 0 = 1 := rfl
  have s1 : ser rs3 1 = 2 := rfl
  have s2 : ser rs3 2 = 3 := rfl
  refine ⟨rfl, ⟨e0, rfl, rfl⟩, fun k r hr h0 => ?_, fun k ⟨r, hr⟩ => ?_, fun a b ⟨ra, ha⟩ ⟨rb, hb⟩ e => ?_⟩
  · rcases live_rs3 hr with ⟨rfl, rfl⟩ | ⟨rfl, rfl⟩ | ⟨rfl, rfl⟩
    · exact absurd rfl h0
    · exact ⟨0, rfl, ⟨e0, rfl⟩, by rw [s0, s1]; decide⟩
    · exact ⟨1, rfl, ⟨e1, rfl⟩, by rw [s1, s2]; decide⟩
  · rcases live_rs3 hr with ⟨rfl, rfl⟩ | ⟨rfl, rfl⟩ | ⟨rfl, rfl⟩
    · rw [s0]; decide
    · rw [s1]; decide
    · rw [s2]; decide
  · rcases live_rs3 ha with ⟨rfl, rfl⟩ | ⟨rfl, rfl⟩ | ⟨rfl, rfl⟩ <;> rcases live_rs3 hb with ⟨rfl, rfl⟩ | ⟨rfl, rfl⟩ | ⟨rfl, rfl⟩ <;> first | rfl | (simp only [s0, s1, s2] at e; omega)
theorem iv_rs3 : Iv rs3 3 := by
  refine ⟨tr_rs3, fun k r hr => ?_⟩
  rcases live_rs3 hr with ⟨rfl, rfl⟩ | ⟨rfl, rfl⟩ | ⟨rfl, rfl⟩
  · refine ⟨⟨rfl, rfl, rfl⟩, ⟨by decide, by decide, by decide⟩, ⟨by decide, by decide, by decide⟩, qt_ext ?_ ?_ ?_⟩ <;> decide +kernel
  · refine ⟨⟨rfl, rfl, rfl⟩, ⟨by decide, by decide, by decide⟩, ⟨by decide, by decide, by decide⟩, qt_ext ?_ ?_ ?_⟩ <;> decide +kernel
  · refine ⟨⟨rfl, rfl, rfl⟩, ⟨by decide, by decide, by decide⟩, ⟨by decide, by decide, by decide⟩, qt_ext ?_ ?_ ?_⟩ <;> decide +kernel
theorem wd_rs3 : Wd rs3 := by
  intro k r hr
  rcases live_rs3 hr with ⟨rfl, rfl⟩ | ⟨rfl, rfl⟩ | ⟨rfl, rfl⟩ <;> exact ⟨by decide, by decide⟩
theorem Bk.bq {w : World} {B : Nat} (h : Bk w B 3) : Bq w B rs3 3 := by
  refine ⟨bookL 3, h, ⟨rfl, fun i hi => ?_, fun i hi => ⟨Qt.zero, ?_, ?_, ?_, fun r hr => ?_⟩, rfl⟩⟩
  · have : i = 0 ∨ i = 1 ∨ i = 2 ∨ i = 3 ∨ i = 4 ∨ i = 5 ∨ i = 6 ∨ i = 7 ∨ i = 8 ∨ i = 9 ∨ i = 10 ∨ i = 11 ∨ i = 12 ∨ i = 13 ∨ i = 14 ∨ i = 15 := by omega
    rcases this with rfl | rfl | rfl | rfl | rfl | rfl | rfl | rfl | rfl | rfl | rfl | rfl | rfl | rfl | rfl | rfl <;> rfl
  · have : i = 0 ∨ i = 1 ∨ i = 2 ∨ i = 3 ∨ i = 4 ∨ i = 5 ∨ i = 6 ∨ i = 7 ∨ i = 8 ∨ i = 9 ∨ i = 10 ∨ i = 11 ∨ i = 12 ∨ i = 13 ∨ i = 14 ∨ i = 15 := by omega
    rcases this with rfl | rfl | rfl | rfl | rfl | rfl | rfl | rfl | rfl | rfl | rfl | rfl | rfl | rfl | rfl | rfl <;> rfl
  · have : i = 0 ∨ i = 1 ∨ i = 2 ∨ i = 3 ∨ i = 4 ∨ i = 5 ∨ i = 6 ∨ i = 7 ∨ i = 8 ∨ i = 9 ∨ i = 10 ∨ i = 11 ∨ i = 12 ∨ i = 13 ∨ i = 14 ∨ i = 15 := by omega
    rcases this with rfl | rfl | rfl | rfl | rfl | rfl | rfl | rfl | rfl | rfl | rfl | rfl | rfl | rfl | rfl | rfl <;> rfl
  · have : i = 0 ∨ i = 1 ∨ i = 2 ∨ i = 3 ∨ i = 4 ∨ i = 5 ∨ i = 6 ∨ i = 7 ∨ i = 8 ∨ i = 9 ∨ i = 10 ∨ i = 11 ∨ i = 12 ∨ i = 13 ∨ i = 14 ∨ i = 15 := by omega
    rcases this with rfl | rfl | rfl | rfl | rfl | rfl | rfl | rfl | rfl | rfl | rfl | rfl | rfl | rfl | rfl | rfl <;> rfl
  · rcases live_rs3 hr with ⟨rfl, rfl⟩ | ⟨rfl, rfl⟩ | ⟨rfl, rfl⟩ <;> rfl
theorem first_ns (w : World) : Calls Try.prog 6 #[] w fun x w' => ∃ T B, x = .returned (.tuple #[.pointer (some ⟨T, 0, none⟩), .pointer (some ⟨B, 0, none⟩)]) ∧ w.heap.size ≤ B ∧ ∃ F, Ns w' F T B rs3 3 ∧ (∀ b, F b → w.heap.size ≤ b) ∧ Below w.heap.size w w' := by
  refine (first_any w).mono ?_
  rintro x w' ⟨T, B, rfl, hB, hl, F, hE, hn, hF, hb⟩
  exact ⟨T, B, rfl, hl, F, ⟨hE, iv_rs3, wd_rs3, hB.bq, hn⟩, hF, hb⟩
end Go.Proofs.Ytoddadohmnaolab

namespace Go.Proofs.Ytoddadohmnaolab
open Go.RowKit Go.Shelf

section
variable {rs : List (Option Er)} {last : Int}
def ps (rs : List (Option Er)) (l : List Nat) : Qt := ⟨(l.map (fun i => (prc rs i).f)).sum, (l.map (fun i => (prc rs i).e)).sum, (l.map (fun i => (prc rs i).x)).sum⟩
theorem ps_app (l m : List Nat) : ps rs (l ++ m) = (ps rs l).plus (ps rs m) := by
  unfold ps Qt.plus
  simp only [List.map_append, List.sum_append]
theorem ps_one (c : Nat) : ps rs [c] = prc rs c := by
  unfold ps
  simp
theorem ps_take {l : List Nat} {j c : Nat} (hc : l[j]? = some c) : ps rs (l.take (j + 1)) = (ps rs (l.take j)).plus (prc rs c) := by
  rw [List.take_add_one, hc, ps_app]
  show _ = _
  rw [show (some c).toList = [c] from rfl, ps_one]
theorem ps_nn : ∀ l : List Nat, (∀ i ∈ l, (prc rs i).nn) → (ps rs l).nn
  | [], _ => ⟨Int.le_refl _, Int.le_refl _, Int.le_refl _⟩
  | c :: l, h => by
    have h1 := ps_nn l (fun i hi => h i (List.mem_cons_of_mem _ hi))
    have h2 := h c List.mem_cons_self
    have h3 : ps rs (c :: l) = (prc rs c).plus (ps rs l) := by rw [← ps_one (rs := rs) c, ← ps_app]; rfl
    rw [h3]
    obtain ⟨a1, a2, a3⟩ := h1
    obtain ⟨b1, b2, b3⟩ := h2
    exact ⟨by simp only [Qt.plus]; omega, by simp only [Qt.plus]; omega, by simp only [Qt.plus]; omega⟩
theorem ps_kids (h : Tr rs last) (e : Nat) : ps rs (kids rs (e : Int)) = cv rs e := by
  unfold ps cv
  rw [← kids_sum h Qt.f e, ← kids_sum h Qt.e e, ← kids_sum h Qt.x e]
theorem kids_at {e c : Nat} (hc : c ∈ kids rs (e : Int)) : ∃ rc, rs[c]? = some (some rc) ∧ rc.pa = (e : Int) := by
  have h1 := kids_mem.1 hc
  obtain ⟨rc, hrc⟩ := kidsU_lv h1
  refine ⟨rc, hrc, ?_⟩
  have h2 : kid rs (e : Int) c = true := by
    unfold kidsU fitK at h1
    exact (List.mem_filter.1 h1).2
  rw [kid_core, core_at hrc] at h2
  exact of_decide_eq_true h2
def acc (rs : List (Option Er)) (k : Nat) (r : Er) (j : Nat) : Qt := (r.le.plus r.pd).plus (ps rs ((kids rs (k : Int)).take j))
theorem acc_zero (k : Nat) (r : Er) : acc rs k r 0 = r.le.plus r.pd := by
  unfold acc ps Qt.plus
  simp
theorem acc_step {k j c : Nat} {r rc : Er} (hc : (kids rs (k : Int))[j]? = some c) (hrc : rs[c]? = some (some rc)) : acc rs k r (j + 1) = ((acc rs k r j).plus rc.qu).plus Qt.one := by
  unfold acc
  rw [ps_take hc, prc_at hrc]
  unfold Qt.plus
  simp only [Qt.mk.injEq]
  exact ⟨by omega, by omega, by omega⟩
theorem acc_end (h : Iv rs last) {k : Nat} {r : Er} (hr : rs[k]? = some (some r)) : acc rs k r (kids rs (k : Int)).length = r.qu := by
  have h1 := (h.q k r hr).sum
  unfold acc
  rw [List.take_length, ps_kids h.tr, h1]
  unfold Qt.plus
  simp only [Qt.mk.injEq]
  exact ⟨by omega, by omega, by omega⟩
theorem kid_nn (h : Iv rs last) {e c : Nat} (hc : c ∈ kids rs (e : Int)) : (prc rs c).nn := by
  obtain ⟨rc, hrc, -⟩ := kids_at hc
  rw [prc_at hrc]
  obtain ⟨g1, g2, g3⟩ := good_bounds (h.q c rc hrc).good
  exact ⟨by simp only [Qt.plus, Qt.one]; omega, by simp only [Qt.plus, Qt.one]; omega, by simp only [Qt.plus, Qt.one]; omega⟩
theorem acc_ok (h : Iv rs last) {k : Nat} {r : Er} (hr : rs[k]? = some (some r)) (j : Nat) : (acc rs k r j).ok := by
  have h1 := acc_end h hr
  have h2 := ps_nn (rs := rs) ((kids rs (k : Int)).take j) (fun i hi => kid_nn h (List.mem_of_mem_take hi))
  have h3 := ps_nn (rs := rs) ((kids rs (k : Int)).drop j) (fun i hi => kid_nn h (List.mem_of_mem_drop hi))
  have h4 := ps_app (rs := rs) ((kids rs (k : Int)).take j) ((kids rs (k : Int)).drop j)
  rw [List.take_append_drop] at h4
  unfold acc at h1 ⊢
  rw [List.take_length, h4] at h1
  obtain ⟨l1, l2, l3⟩ := (h.q k r hr).le
  obtain ⟨p1, p2, p3⟩ := (h.q k r hr).pd
  obtain ⟨⟨u1, u2⟩, ⟨u3, u4⟩, ⟨u5, u6⟩⟩ := (h.oks hr).2.2
  rw [← h1] at u1 u2 u3 u4 u5 u6
  obtain ⟨a1, a2, a3⟩ := h2
  obtain ⟨b1, b2, b3⟩ := h3
  simp only [Qt.plus] at u1 u2 u3 u4 u5 u6
  exact ⟨⟨by simp only [Qt.plus]; omega, by simp only [Qt.plus]; omega⟩, ⟨by simp only [Qt.plus]; omega, by simp only [Qt.plus]; omega⟩, ⟨by simp only [Qt.plus]; omega, by simp only [Qt.plus]; omega⟩⟩
end
end Go.Proofs.Ytoddadohmnaolab

namespace Go.Proofs.Ytoddadohmnaolab
open Go.ChangeShapes Go.WideShapes Go.ChangeAt Go.RowKit Go.Deep

/-- a step that came in -/
structure Ov where
  kd : Int
  t : Int
  e : Int
  n : Int
  m : Int
  q : Qt
  g : Nat → Nat
  pc : Nat
  on : Bool
def Ov.cells (o : Ov) : List Value := [.int .i64 o.kd, .int .i64 o.t, .int .i64 o.e, .int .i64 o.n, .int .i64 o.m, .int .i64 o.q.f, .int .i64 o.q.e, .int .i64 o.q.x, .int .u32 (o.g 0 : Nat), .int .u32 (o.g 1 : Nat), .int .u32 (o.g 2 : Nat), .int .u32 (o.g 3 : Nat), .int .u32 (o.g 4 : Nat), .int .u32 (o.g 5 : Nat), .int .u32 (o.g 6 : Nat), .int .u32 (o.g 7 : Nat), .int .u32 (o.pc : Nat), .bool o.on]
def Ov.nil : Ov := ⟨0, 0, 0, 0, 0, Qt.zero, fun _ => 0, 0, false⟩
theorem ov_len (v : Ov) : v.cells.length = 18 := rfl
/-- steps that came in -/
def IsOps (w : World) (a : Option Addr) (len : Nat) (O : Nat → Ov) : Prop :=
  ∀ k, k < len → ∃ x, a = some x ∧ ∀ (j : Nat) (v : Value), (O k).cells[j]? = some v → w.cell? ((x.add (k * 18)).add j) = some v
theorem IsOps.below {w w' : World} {a : Option Addr} {len : Nat} {O : Nat → Ov} (h : IsOps w a len O) (hb : Below w.heap.size w w') : IsOps w' a len O := by
  intro k hk
  obtain ⟨x, h1, h2⟩ := h k hk
  refine ⟨x, h1, fun j v hv => ?_⟩
  have h3 := h2 j v hv
  rw [hb.cell (World.block_lt_of_cell? w _ h3)]; exact h3
section
variable {H : Type} {enc : TypeId × Value → H} {w : World} {base : Nat} {spare : Nat → Bool} {held : Bool}
theorem bool_cell {t : TypeId} {n : Nat} {v : Value} {y : DataW H × List MemPlace} (ht : Try.prog.underlying t = some .bool) (h : DataW.trod enc Try.prog w base spare held n t [v] = some y) : ∃ z : Bool, v = .bool z := by
  obtain ⟨z, h1, _⟩ := DataW.trod_bool ht h
  exact ⟨z, by simpa using h1⟩
theorem u32_cell {t : TypeId} {n : Nat} {v : Value} {y : DataW H × List MemPlace} (ht : Try.prog.underlying t = some (.int .u32)) (h : DataW.trod enc Try.prog w base spare held n t [v] = some y) : ∃ z : Nat, v = .int .u32 (z : Int) := by
  obtain ⟨z, h1, _, h2⟩ := DataW.trod_int ht h
  have h3 : 0 ≤ z ∧ z ≤ 4294967295 := by simpa [Lit.wf, IntKind.min, IntKind.max, IntKind.signed, IntKind.bits] using h2
  refine ⟨z.toNat, ?_⟩
  simp at h1
  rw [h1, Int.toNat_of_nonneg h3.1]
set_option maxRecDepth 20000 in
theorem open_op {n : Nat} {cs : List Value} {y : DataW H × List MemPlace} (hl : cs.length = 18) (h : DataW.trod enc Try.prog w base spare held n 38 cs = some y) : ∃ o : Ov, cs = o.cells := by
  obtain ⟨xs, k, hk, hxy, _, hxl, hf⟩ := DataW.trod_struct Try.underlying38 h
  match xs, hxl with
  | [y0, y1, y2, y3, y4, y5, y6, y7], _ =>
    have g0 := hf 0 _ rfl
    have g1 := hf 1 _ rfl
    have g2 := hf 2 _ rfl
    have g3 := hf 3 _ rfl
    have g4 := hf 4 _ rfl
    have g5 := hf 5 _ rfl
    have g6 := hf 6 _ rfl
    have g7 := hf 7 _ rfl
    have e1 : Try.prog.cellsOf 3 = 1 := by kernel_rfl
    have e2 : Try.prog.cellsOf 4 = 1 := by kernel_rfl
    have e3 : Try.prog.cellsOf 32 = 3 := by kernel_rfl
    have e4 : Try.prog.cellsOf 36 = 9 := by kernel_rfl
    have e5 : Try.prog.cellsOf 33 = 1 := by kernel_rfl
    have e6 : Try.prog.cellsOf 34 = 8 := by kernel_rfl
    match cs, hl with
    | [v0, v1, v2, v3, v4, a0, a1, a2, b0, b1, b2, b3, b4, b5, b6, b7, b8, vz], _ =>
      simp [e1, e2, e3, e4] at g0 g1 g2 g3 g4 g5 g6 g7
      obtain ⟨z0, rfl⟩ := int_cell Try.underlying3 g0
      obtain ⟨z1, rfl⟩ := int_cell Try.underlying3 g1
      obtain ⟨z2, rfl⟩ := int_cell Try.underlying3 g2
      obtain ⟨z3, rfl⟩ := int_cell Try.underlying3 g3
      obtain ⟨z4, rfl⟩ := int_cell Try.underlying3 g4
      obtain ⟨on, rfl⟩ := bool_cell Try.underlying4 g7
      obtain ⟨xs, k, hk, hxy, _, hxl, hf⟩ := DataW.trod_struct Try.underlying32 g5
      match xs, hxl with
      | [y0, y1, y2], _ =>
        have g0 := hf 0 _ rfl
        have g1 := hf 1 _ rfl
        have g2 := hf 2 _ rfl
        simp [e1] at g0 g1 g2
        obtain ⟨q0, rfl⟩ := int_cell Try.underlying3 g0
        obtain ⟨q1, rfl⟩ := int_cell Try.underlying3 g1
        obtain ⟨q2, rfl⟩ := int_cell Try.underlying3 g2
        obtain ⟨xs, k, hk, hxy, _, hxl, hf⟩ := DataW.trod_struct Try.underlying36 g6
        match xs, hxl with
        | [y0, y1], _ =>
          have g0 := hf 0 _ rfl
          have g1 := hf 1 _ rfl
          simp [e5, e6] at g0 g1
          obtain ⟨pc, rfl⟩ := u32_cell Try.underlying33 g1
          obtain ⟨xs, k, hk, hxy, _, hxl, hf⟩ := DataW.trod_array Try.underlying34 g0
          match xs, hxl with
          | [x0, x1, x2, x3, x4, x5, x6, x7], _ =>
            have d0 := hf 0 (by omega)
            have d1 := hf 1 (by omega)
            have d2 := hf 2 (by omega)
            have d3 := hf 3 (by omega)
            have d4 := hf 4 (by omega)
            have d5 := hf 5 (by omega)
            have d6 := hf 6 (by omega)
            have d7 := hf 7 (by omega)
            simp [e5] at d0 d1 d2 d3 d4 d5 d6 d7
            obtain ⟨r0, rfl⟩ := u32_cell Try.underlying33 d0
            obtain ⟨r1, rfl⟩ := u32_cell Try.underlying33 d1
            obtain ⟨r2, rfl⟩ := u32_cell Try.underlying33 d2
            obtain ⟨r3, rfl⟩ := u32_cell Try.underlying33 d3
            obtain ⟨r4, rfl⟩ := u32_cell Try.underlying33 d4
            obtain ⟨r5, rfl⟩ := u32_cell Try.underlying33 d5
            obtain ⟨r6, rfl⟩ := u32_cell Try.underlying33 d6
            obtain ⟨r7, rfl⟩ := u32_cell Try.underlying33 d7
            exact ⟨⟨z0, z1, z2, z3, z4, ⟨q0, q1, q2⟩, fun i => [r0, r1, r2, r3, r4, r5, r6, r7].getD i 0, pc, on⟩, rfl⟩
theorem open_ops {fuel : Nat} {cs : List Value} {x : DataW H × List MemPlace} (h : DataW.trod enc Try.prog w base spare held fuel 22 cs = some x) :
    ∃ (a : Option Addr) (len cap : Nat) (O : Nat → Ov), cs = [.slice a len cap] ∧ len ≤ maxLen ∧ IsOps w a len O := by
  rcases open_slice Try.underlying22 h with ⟨rfl, _⟩ | ⟨a, len, cap, m, n, D, Pl, rfl, hb, hl, hm, hmm, rfl, hx⟩
  · exact ⟨none, 0, 0, fun _ => Ov.nil, rfl, Nat.zero_le _, fun k hk => by omega⟩
  have hlm : len ≤ m := by rw [hmm]; split <;> omega
  have ce : Try.prog.cellsOf 38 = 18 := by kernel_rfl
  have each : ∀ i, i < len → ∃ o : Ov, ∀ (j : Nat) (v : Value), o.cells[j]? = some v → w.cell? ((a.add (i * 18)).add j) = some v := by
    intro i hi
    obtain ⟨cs', h1, h2⟩ := hx i (by omega)
    rw [ce] at h1
    obtain ⟨_, hlen, hcell⟩ := World.cells?_some h1
    obtain ⟨o, rfl⟩ := open_op hlen h2
    refine ⟨o, fun j v hv => ?_⟩
    have hj : j < 18 := by have := (List.getElem?_eq_some_iff.1 hv).1; rwa [ov_len] at this
    rw [hcell j hj]; exact hv
  haveI : Inhabited Ov := ⟨Ov.nil⟩
  obtain ⟨O, hO⟩ := choose_lt each
  exact ⟨some a, len, cap, O, rfl, Nat.le_trans hl hm, fun k hk => ⟨a, rfl, hO k hk⟩⟩
end
end Go.Proofs.Ytoddadohmnaolab

namespace Go.Proofs.Ytoddadohmnaolab
open Go.RowKit Go.Shelf

theorem infoOp : (Try.prog.info? 38).map (·.size) = some 18 := by kernel_rfl
theorem loadOp (o : Ov) {ops : Array Oper} {rest : List Oper} {op : Oper} {a : Act} {w : World} {Q : Exit → Act → World → Prop} (hw : Region.wanted op (yielded ops a.tmps) = true) (x : Operand) (ho : op.op = .load 38 x) (ad : Addr)
    (hx : a.eval x = .pointer (some ad)) (hc : ∀ (j : Nat) (v : Value), o.cells[j]? = some v → w.cell? (ad.add j) = some v) (h : wpList Try.prog ops Q rest (a.put op.dst (.agg o.cells.toArray)) w) : wpList Try.prog ops Q (op :: rest) a w :=
  loadT Try.underlying38 rfl o.cells (by rw [ov_len]; exact infoOp) hw x ho ad hx hc h
theorem lvb_some {rs : List (Option Er)} {i : Nat} (h : lvb rs i = true) : ∃ r, rs[i]? = some (some r) := by
  exact lv_core.2 h
end Go.Proofs.Ytoddadohmnaolab

namespace Go.Proofs.Ytoddadohmnaolab
open Go.ChangeShapes Go.WideShapes Go.ChangeAt Go.RowKit Go.Deep Go.Shelf Go.Great

theorem all_one {l : List Nat} {m : Nat} (hn : l.Nodup) (h1 : m ∈ l) (h2 : ∀ x ∈ l, x = m) : l = [m] := by
  match l, hn, h1, h2 with
  | [], _, h1, _ => cases h1
  | [x], _, _, h2 => rw [h2 x List.mem_cons_self]
  | x :: y :: l, hn, _, h2 =>
    have e1 := h2 x List.mem_cons_self
    have e2 := h2 y (List.mem_cons_of_mem _ List.mem_cons_self)
    rw [e1, e2] at hn
    simp at hn
section
variable {rs : List (Option Er)} {last : Int}
theorem kids_nil (h : Tr rs last) {c : Nat} (hs : ∀ x, Lv rs x → ser rs x ≤ ser rs c) : kids rs ((c : Nat) : Int) = [] := by
  rcases hq : kids rs ((c : Nat) : Int) with _ | ⟨x, l⟩
  · rfl
  · have hk := kids_kid (rs := rs) (e := ((c : Nat) : Int)) (k := x) (by rw [hq]; simp)
    have h1 := (kid_ser h hk).1
    have h2 := hs x (kid_lv hk)
    omega
/-- made, one made below it, and both ended: all as it was -/
theorem cr_cr_ds (h : Iv rs last) {e s s2 : Int} {q q2 : Qt} (hc : crE rs last e s q = 0) (hc2 : crE (crS rs last e s q) s ((ff rs : Nat) : Int) s2 q2 = 0) :
    dsE (crS (crS rs last e s q) s ((ff rs : Nat) : Int) s2 q2) ((ff rs : Nat) : Int) = 0 ∧ dsL (crS (crS rs last e s q) s ((ff rs : Nat) : Int) s2 q2) ((ff rs : Nat) : Int) = [ff rs, ff (crS rs last e s q)] ∧ dsS (crS (crS rs last e s q) s ((ff rs : Nat) : Int) s2 q2) ((ff rs : Nat) : Int) = rs := by
  have h1 := h.crS e s q
  rw [show crL rs last e s q = s by unfold crL; rw [if_pos hc]] at h1
  have h2 := h1.crS ((ff rs : Nat) : Int) s2 q2
  rw [show crL (crS rs last e s q) s ((ff rs : Nat) : Int) s2 q2 = s2 by unfold crL; rw [if_pos hc2]] at h2
  obtain ⟨k, r, he, hr, hg, hls, hs, hle, hf⟩ := crE_zero2 hc
  obtain ⟨k2, r2, he2, hr2, hg2, hls2, hs2, hle2, hf2⟩ := crE_zero2 hc2
  have hcs := crS_at hc he hr
  have hnf := ff_none h.tr hf
  have hcs2 := crS_at hc2 he2 hr2
  have hnf2 := ff_none h1.tr hf2
  generalize ff rs = n at *
  generalize crS rs last e s q = rs1 at *
  generalize ff rs1 = m at *
  obtain rfl : n = k2 := by omega
  generalize crS rs1 s ((n : Nat) : Int) s2 q2 = rs2 at *
  have hnk : n ≠ k := fun e9 => by rw [e9, hr] at hnf; cases hnf
  have hkl := (List.getElem?_eq_some_iff.1 hr).1
  have hnl := (List.getElem?_eq_some_iff.1 hnf).1
  have hn1 : rs1[n]? = some (some (Er.new s e q)) := by
    rw [hcs, List.getElem?_set_ne (fun e9 => hnk e9.symm), List.getElem?_set_self hnl]
  rw [hn1] at hr2
  obtain rfl : Er.new s e q = r2 := by simpa using hr2
  have hk1 : rs1[k]? = some (some { r with le := r.le.less (q.plus Qt.one) }) := by
    rw [hcs, List.getElem?_set_self (by simpa using hkl)]
  have hmn : m ≠ n := fun e9 => by rw [e9, hn1] at hnf2; cases hnf2
  have hmk : m ≠ k := fun e9 => by rw [e9, hk1] at hnf2; cases hnf2
  have hml := (List.getElem?_eq_some_iff.1 hnf2).1
  have hl1 : rs1.length = rs.length := by rw [hcs]; simp
  have hn2 : rs2[n]? = some (some { Er.new s e q with le := (Er.new s e q).le.less (q2.plus Qt.one) }) := by
    rw [hcs2, List.getElem?_set_self (by simp; omega)]
  have hm2 : rs2[m]? = some (some (Er.new s2 ((n : Nat) : Int) q2)) := by
    rw [hcs2, List.getElem?_set_ne (fun e9 => hmn e9.symm), List.getElem?_set_self hml]
  have hk2 : rs2[k]? = some (some { r with le := r.le.less (q.plus Qt.one) }) := by
    rw [hcs2, List.getElem?_set_ne hnk, List.getElem?_set_ne hmk, hk1]
  have ho2 : ∀ x, x ≠ n → x ≠ m → rs2[x]? = rs1[x]? := fun x hx1 hx2 => by
    rw [hcs2, List.getElem?_set_ne (fun e9 => hx1 e9.symm), List.getElem?_set_ne (fun e9 => hx2 e9.symm)]
  have hn0 : n ≠ 0 := fun e9 => by
    obtain ⟨r0, h0, _⟩ := h.tr.root
    rw [e9, h0] at hnf; cases hnf
  have hsn : ser rs2 n = s := by rw [ser_core, core_at hn2]; rfl
  have hsm : ser rs2 m = s2 := by rw [ser_core, core_at hm2]; rfl
  have hE : dsE rs2 ((n : Nat) : Int) = 0 := by
    unfold dsE
    rw [look_at hn2]
    simp only []
    rw [if_neg (by omega)]
  have hkm : kids rs2 ((m : Nat) : Int) = [] := kids_nil h2.tr (fun x hx => by rw [hsm]; exact h2.tr.old x hx)
  have hkn : kids rs2 ((n : Nat) : Int) = [m] := by
    refine all_one (kids_nodup _) (kid_kids ?_) (fun x hx => ?_)
    · rw [kid_at hm2]; simp [Er.new]
    · refine Classical.byContradiction (fun hxm => ?_)
      have hkx := kids_kid hx
      have h9 := (kid_ser h2.tr hkx).1
      have hxn : x ≠ n := fun e9 => by rw [e9] at h9; omega
      obtain ⟨rx, hrx⟩ := kid_lv hkx
      have hrx1 : rs1[x]? = some (some rx) := by rw [← ho2 x hxn hxm]; exact hrx
      have h8 := h1.tr.old x ⟨rx, hrx1⟩
      have h7 : ser rs2 x = ser rs1 x := by rw [ser_core, ser_core, core_at hrx, core_at hrx1]
      rw [hsn, h7] at h9
      omega
  have hwk : wk rs2 17 n = [n, m] := by
    show n :: (kids rs2 ((n : Nat) : Int)).flatMap (wk rs2 16) = [n, m]
    rw [hkn]
    show n :: ([m].flatMap (wk rs2 16)) = [n, m]
    rw [List.flatMap_cons, List.flatMap_nil, List.append_nil]
    show n :: (m :: (kids rs2 ((m : Nat) : Int)).flatMap (wk rs2 15)) = [n, m]
    rw [hkm]; rfl
  refine ⟨hE, ?_, ?_⟩
  · unfold dsL
    rw [hE, if_pos rfl, Int.toNat_natCast, hwk]
  · unfold dsS
    rw [look_at hn2]
    simp only []
    rw [if_neg (by omega), Int.toNat_natCast, hwk, dsP_at (p := k) he hk2]
    have hrr : (some { ({ r with le := r.le.less (q.plus Qt.one) } : Er) with le := (r.le.less (q.plus Qt.one)).plus ((Er.new s e q).qu.plus Qt.one) } : Option Er) = some r := by
      have h9 : (r.le.less (q.plus Qt.one)).plus ((Er.new s e q).qu.plus Qt.one) = r.le := by
        refine qt_ext ?_ ?_ ?_ <;> simp only [Qt.plus, Qt.less, Qt.one, Er.new] <;> omega
      rw [h9]
    rw [hrr]
    show ((rs2.set k (some r)).set n none).set m none = rs
    refine List.ext_getElem? (fun i => ?_)
    have hl2 : rs2.length = rs.length := by rw [hcs2]; simp [hl1]
    by_cases e0 : i = m
    · subst e0
      have hmo : rs[i]? = some none := by
        rw [hcs, List.getElem?_set_ne (fun e9 => hmk e9.symm), List.getElem?_set_ne (fun e9 => hmn e9.symm)] at hnf2
        exact hnf2
      rw [List.getElem?_set_self (by simp; omega), hmo]
    · rw [List.getElem?_set_ne (fun e9 => e0 e9.symm)]
      by_cases e1 : i = n
      · subst e1
        rw [List.getElem?_set_self (by simp; omega), hnf]
      · rw [List.getElem?_set_ne (fun e9 => e1 e9.symm)]
        by_cases e2 : i = k
        · subst e2
          rw [List.getElem?_set_self (by omega), hr]
        · rw [List.getElem?_set_ne (fun e9 => e2 e9.symm), ho2 i e1 e0, hcs, List.getElem?_set_ne (fun e9 => e2 e9.symm), List.getElem?_set_ne (fun e9 => e1 e9.symm)]
end
/-- what is told, laid into a variable -/
structure Tb (w : World) (N : Nat) (cs : List Value) : Prop where
  out : w.heap[N]? = some (.cells cs.toArray 62 (0, 0))
def freshT (w : World) (cs : List Value) : World := (w.alloc (.cells zT.toArray 62)).setCells w.heap.size 0 cs
theorem freshT_tb (w : World) {cs : List Value} (h : cs.length = 352) : Tb (freshT w cs) w.heap.size cs := by
  have h9 := heap_setCells_row w.heap.size 62 cs 0 _ zT (heap_alloc_new w (.cells zT.toArray 62))
  rw [setsL_all zT cs (by rw [zT_tc.len, h])] at h9
  exact ⟨h9⟩
theorem freshT_below (w : World) (cs : List Value) : Below w.heap.size w (freshT w cs) :=
  below_setCells ((Below.refl w.heap.size w).alloc (Nat.le_refl _) _) (Nat.le_refl _) _ _
theorem Tb.lt {w : World} {N : Nat} {cs : List Value} (h : Tb w N cs) : N < w.heap.size := (Array.getElem?_eq_some_iff.1 h.out).1
theorem Tb.keep {w w' : World} {N : Nat} {cs : List Value} (h : Tb w N cs) (hk : w'.heap[N]? = w.heap[N]?) : Tb w' N cs := ⟨hk.trans h.out⟩
theorem Tb.cell {w : World} {N : Nat} {cs : List Value} (h : Tb w N cs) (j : Nat) (v : Value) (hv : cs[j]? = some v) : w.cell? ((⟨N, 0, none⟩ : Addr).add j) = some v := by
  rw [add_nat, cell_of_row _ _ _ _ _ _ h.out]; simpa using hv
theorem allocTold {ops : Array Oper} {rest : List Oper} {op : Oper} {a : Act} {w : World} {Q : Exit → Act → World → Prop} (hw : Region.wanted op (yielded ops a.tmps) = true) (ho : op.op = .alloc 62)
    (h : wpList Try.prog ops Q rest (a.put op.dst (.pointer (some ⟨w.heap.size, 0, none⟩))) (w.alloc (.cells zT.toArray 62))) : wpList Try.prog ops Q (op :: rest) a w :=
  BigFrame.wpList_want hw fun _ hK => by
    have hrun : (execOp a.eval op).run Try.prog w = .ok (.value (.pointer (some ⟨w.heap.size, 0, none⟩))) (w.alloc (.cells zT.toArray 62)) := by
      unfold execOp
      rw [ho]
      kernel_rfl
    unfold Oper.wp
    rw [hrun, Oper.upon_value]
    exact hK _ _ h
/-- a struct loaded: what the operation yields -/
theorem run_loadT {t : TypeId} {d : TypeDesc} (hu : Try.prog.underlying t = some d) (hd : (match d with | .struct _ | .array _ _ => true | _ => false) = true) (cs : List Value) (hi : (Try.prog.info? t).map (·.size) = some cs.length) {op : Oper} {a : Act} {w : World} (x : Operand) (ho : op.op = .load t x) (ad : Addr)
    (hx : a.eval x = .pointer (some ad)) (hc : ∀ (j : Nat) (v : Value), cs[j]? = some v → w.cell? (ad.add j) = some v) : (execOp a.eval op).run Try.prog w = .ok (.value (.agg cs.toArray)) w := by
  have hl : (loadCells ad cs.length).run Try.prog w = .ok cs.toArray w := run_loadCells_list w ad cs hc
  have hv : (loadVar t ad).run Try.prog w = .ok (.agg cs.toArray) w := by
    cases hq : Try.prog.info? t with
    | none => simp [hq] at hi
    | some i =>
      have hs : i.size = cs.length := by simpa [hq] using hi
      have hagg : (isAgg t).run Try.prog w = .ok true w := by
        unfold isAgg
        rw [Sem.run_bind, run_underlying hu w]
        cases d <;> simp_all
      simp [loadVar, Sem.run_bind, hagg, sizeOf, typeInfo, hq, hs, hl]
  unfold execOp
  simp only [ho, hx, Instr.loadAt, Instr.sureAddr, Sem.run_bind, Sem.run_pure, Result.andThen_ok, hv]
theorem run_eqlT {t t' : TypeId} (xs : Array Value) (hse : Se 10000 t (.agg xs)) (hm : Try.prog.eqGuardType Try.prog.depth t = false) {op : Oper} {a : Act} {w : World} (x y : Operand) (ho : op.op = .binOp .eql t x y t')
    (hx : a.eval x = .agg xs) (hy : a.eval y = .agg xs) : (execOp a.eval op).run Try.prog w = .ok (.value (.bool true)) w := by
  unfold execOp
  simp only [ho, hx, hy, Sem.run_bind, run_eqGuard_agg w .eql t x y xs xs hm, run_eql_struct, hse w, Result.andThen_ok, Sem.run_pure]
theorem run_neqT {t t' : TypeId} (xs : Array Value) (hse : Se 10000 t (.agg xs)) (hm : Try.prog.eqGuardType Try.prog.depth t = false) {op : Oper} {a : Act} {w : World} (x y : Operand) (ho : op.op = .binOp .neq t x y t')
    (hx : a.eval x = .agg xs) (hy : a.eval y = .agg xs) : (execOp a.eval op).run Try.prog w = .ok (.value (.bool false)) w := by
  unfold execOp
  simp only [ho, hx, hy, Sem.run_bind, run_eqGuard_agg w .neq t x y xs xs hm, run_neq_struct, hse w, Result.andThen_ok, Sem.run_pure, Bool.not_true]
end Go.Proofs.Ytoddadohmnaolab
