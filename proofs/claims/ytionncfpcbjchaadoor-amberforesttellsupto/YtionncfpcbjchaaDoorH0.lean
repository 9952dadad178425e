import Derived.Test.YtionncfpcbjchaaDoorF4
import Derived.Deep.RegionHeld
import Derived.Great.BuildSlice
namespace Go.Proofs.YtionncfpcbjchaaDoor
open Go.RowKit
section
variable {P : Program} {ops : Array Oper} {Q : Exit → Act → World → Prop} {S : World → Prop} {fuel : Nat} {listed : Array Bool} {a : Act} {w : World}
/-- a store of a whole struct, the one operation that may come up -/
theorem held_store (i : Nat) {o : Oper} (hr : Region.ready .any ops listed = [i]) (ho : ops[i]? = some o) (hw : Region.wanted o (yielded ops a.tmps) = true) {ty : TypeId} {x y : Operand} (hop : o.op = .store ty x y) (hd : o.dst = none)
    {b off : Nat} {cells : List Value} (hx : a.eval x = .pointer (some ⟨b, off, none⟩)) (hy : a.eval y = .agg cells.toArray) (ht : w.there b off cells.length) (hi : (P.info? ty).map (·.size) = some cells.length) (h1 : ∀ v ∈ cells, v.oneCell' = true)
    (hS : S (w.setCells b off cells)) (h : wpAnyH P .any ops Q S fuel (listed.setIfInBounds i true) a (w.setCells b off cells)) : wpAnyH P .any ops Q S (fuel + 1) listed a w := by
  refine wpAnyH_ready hr (by simp) (AllReadyH.cons ho (fun K hK => ?_) AllReadyH.nil)
  rw [if_pos hw]
  refine wp_store_mid ty x y hop b off cells.toArray hx hy (by simpa using ht) (by simpa using hi) (all_oneCell_toArray h1) ?_
  rw [hd]
  exact hK.out _ _ hS (fun _ => h)
/-- a call, the one operation that may come up -/
theorem held_call (i : Nat) {o : Oper} (hr : Region.ready .any ops listed = [i]) (ho : ops[i]? = some o) (hw : Region.wanted o (yielded ops a.tmps) = true)
    (h : ∀ K : Act → World → Prop, (∀ a w, S w → wpAnyH P .any ops Q S fuel (listed.setIfInBounds i true) a w → K a w) → Oper.wp P o a w K Q) : wpAnyH P .any ops Q S (fuel + 1) listed a w := by
  refine wpAnyH_ready hr (by simp) (AllReadyH.cons ho (fun K hK => ?_) AllReadyH.nil)
  rw [if_pos hw]
  exact h K (fun a w hS hh => hK.out a w hS (fun _ => hh))
theorem held_load (i : Nat) {o : Oper} (hs : Region.noSelect ops = true) (hf : Region.free .any ops listed i = true) (hr : (Region.ready .any ops listed).contains i = true) (ho : ops[i]? = some o) (hw : Region.wanted o (yielded ops a.tmps) = true) {ty : TypeId} {x : Operand} (hop : o.op = .load ty x)
    {b off : Nat} (cs : List Value) {d : TypeDesc} (hx : a.eval x = .pointer (some ⟨b, off, none⟩)) (hS : ∀ w, S w → w.rangeAt b off cs) (hu : P.underlying ty = some d) (hd : d.isRow = true) (hi : (P.info? ty).map (·.size) = some cs.length)
    (hQ : ∀ c a w, Q (.panic c) (a.put o.dst (.agg cs.toArray)) w → Q (.panic c) a w) (h0 : S w) (h : wpAnyH P .any ops Q S fuel (listed.setIfInBounds i true) (a.put o.dst (.agg cs.toArray)) w) : wpAnyH P .any ops Q S (fuel + 1) listed a w :=
  wpAnyH_take ho hs hf hr hQ (yieldsIf_load_mid hw ty x hop b off hx cs d hS hu hd hi) h0 h
/-- what yields in whatever world -/
theorem held_take (i : Nat) {o : Oper} (v : Value) (hs : Region.noSelect ops = true) (hf : Region.free .any ops listed i = true) (hr : (Region.ready .any ops listed).contains i = true) (ho : ops[i]? = some o) (hw : Region.wanted o (yielded ops a.tmps) = true)
    (hy : ∀ w, S w → (execOp a.eval o).run P w = .ok (.value v) w)
    (hQ : ∀ c a w, Q (.panic c) (a.put o.dst v) w → Q (.panic c) a w) (h0 : S w) (h : wpAnyH P .any ops Q S fuel (listed.setIfInBounds i true) (a.put o.dst v) w) : wpAnyH P .any ops Q S (fuel + 1) listed a w :=
  wpAnyH_take ho hs hf hr hQ (Or.inl ⟨hw, hy⟩) h0 h
end
section
variable {P : Program} {ops : Array Oper} {Q : Exit → Act → World → Prop} {S : World → Prop} {fuel : Nat} {listed : Array Bool} {a : Act} {w : World}
theorem hd_call (i : Nat) {o : Oper} (hr : Region.ready .any ops listed = [i]) (ho : ops[i]? = some o) (hw : Region.wanted o (yielded ops a.tmps) = true)
    (h : ∀ K : Act → World → Prop, (∀ a w, S w → wpAnyH P .any ops Q S fuel (listed.setIfInBounds i true) a w → K a w) → Oper.wp P o a w K Q) : wpAnyH P .any ops Q S (fuel + 1) listed a w := held_call i hr ho hw h
theorem hd_take (i : Nat) {o : Oper} (v : Value) (hs : Region.noSelect ops = true) (hf : Region.free .any ops listed i = true) (hr : (Region.ready .any ops listed).contains i = true) (ho : ops[i]? = some o) (hw : Region.wanted o (yielded ops a.tmps) = true)
    (hy : ∀ w, S w → (execOp a.eval o).run P w = .ok (.value v) w)
    (hQ : ∀ c a w, Q (.panic c) (a.put o.dst v) w → Q (.panic c) a w) (h0 : S w) (h : wpAnyH P .any ops Q S fuel (listed.setIfInBounds i true) (a.put o.dst v) w) : wpAnyH P .any ops Q S (fuel + 1) listed a w := held_take i v hs hf hr ho hw hy hQ h0 h
theorem hd_both (i j : Nat) {o1 o2 : Oper} (hr : Region.ready .any ops listed = [i, j]) (ho1 : ops[i]? = some o1) (ho2 : ops[j]? = some o2) (hw1 : Region.wanted o1 (yielded ops a.tmps) = true) (hw2 : Region.wanted o2 (yielded ops a.tmps) = true)
    (h1 : ∀ K : Act → World → Prop, (∀ a w, S w → wpAnyH P .any ops Q S fuel (listed.setIfInBounds i true) a w → K a w) → Oper.wp P o1 a w K Q)
    (h2 : ∀ K : Act → World → Prop, (∀ a w, S w → wpAnyH P .any ops Q S fuel (listed.setIfInBounds j true) a w → K a w) → Oper.wp P o2 a w K Q) : wpAnyH P .any ops Q S (fuel + 1) listed a w := by
  refine wpAnyH_ready hr (by simp) (AllReadyH.cons ho1 (fun K hK => ?_) (AllReadyH.cons ho2 (fun K hK => ?_) AllReadyH.nil))
  · rw [if_pos hw1]; exact h1 K (fun a w hS hh => hK.out a w hS (fun _ => hh))
  · rw [if_pos hw2]; exact h2 K (fun a w hS hh => hK.out a w hS (fun _ => hh))
theorem hd_three (i j k : Nat) {o1 o2 o3 : Oper} (hr : Region.ready .any ops listed = [i, j, k]) (ho1 : ops[i]? = some o1) (ho2 : ops[j]? = some o2) (ho3 : ops[k]? = some o3) (hw1 : Region.wanted o1 (yielded ops a.tmps) = true) (hw2 : Region.wanted o2 (yielded ops a.tmps) = true) (hw3 : Region.wanted o3 (yielded ops a.tmps) = true)
    (h1 : ∀ K : Act → World → Prop, (∀ a w, S w → wpAnyH P .any ops Q S fuel (listed.setIfInBounds i true) a w → K a w) → Oper.wp P o1 a w K Q)
    (h2 : ∀ K : Act → World → Prop, (∀ a w, S w → wpAnyH P .any ops Q S fuel (listed.setIfInBounds j true) a w → K a w) → Oper.wp P o2 a w K Q)
    (h3 : ∀ K : Act → World → Prop, (∀ a w, S w → wpAnyH P .any ops Q S fuel (listed.setIfInBounds k true) a w → K a w) → Oper.wp P o3 a w K Q) : wpAnyH P .any ops Q S (fuel + 1) listed a w := by
  refine wpAnyH_ready hr (by simp) (AllReadyH.cons ho1 (fun K hK => ?_) (AllReadyH.cons ho2 (fun K hK => ?_) (AllReadyH.cons ho3 (fun K hK => ?_) AllReadyH.nil)))
  · rw [if_pos hw1]; exact h1 K (fun a w hS hh => hK.out a w hS (fun _ => hh))
  · rw [if_pos hw2]; exact h2 K (fun a w hS hh => hK.out a w hS (fun _ => hh))
  · rw [if_pos hw3]; exact h3 K (fun a w hS hh => hK.out a w hS (fun _ => hh))
end
theorem run_loadT {t : TypeId} {d : TypeDesc} (hu : Tryd.prog.underlying t = some d) (hd : (match d with | .struct _ | .array _ _ => true | _ => false) = true) (cs : List Value) (hi : (Tryd.prog.info? t).map (·.size) = some cs.length) {op : Oper} {a : Act} {w : World} (x : Operand) (ho : op.op = .load t x) (ad : Addr)
    (hx : a.eval x = .pointer (some ad)) (hc : ∀ (j : Nat) (v : Value), cs[j]? = some v → w.cell? (ad.add j) = some v) : (execOp a.eval op).run Tryd.prog w = .ok (.value (.agg cs.toArray)) w := by
  have hl : (loadCells ad cs.length).run Tryd.prog w = .ok cs.toArray w := run_loadCells_list w ad cs hc
  have hv : (loadVar t ad).run Tryd.prog w = .ok (.agg cs.toArray) w := by
    cases hq : Tryd.prog.info? t with
    | none => simp [hq] at hi
    | some i =>
      have hs : i.size = cs.length := by simpa [hq] using hi
      have hagg : (isAgg t).run Tryd.prog w = .ok true w := by
        unfold isAgg
        rw [Sem.run_bind, run_underlying hu w]
        cases d <;> simp_all
      simp [loadVar, Sem.run_bind, hagg, sizeOf, typeInfo, hq, hs, hl]
  unfold execOp
  simp only [ho, hx, Instr.loadAt, Instr.sureAddr, Sem.run_bind, Sem.run_pure, Result.andThen_ok, hv]
section
variable {P : Program} {ops : Array Oper} {Q : Exit → Act → World → Prop} {S : World → Prop} {fuel : Nat} {listed : Array Bool} {a : Act} {w : World}
theorem hd_skip (i : Nat) {o : Oper} (hs : Region.noSelect ops = true) (hf : Region.free .any ops listed i = true) (hr : (Region.ready .any ops listed).contains i = true) (ho : ops[i]? = some o) (hw : Region.wanted o (yielded ops a.tmps) = false)
    (hQ : ∀ c a w, Q (.panic c) (a.put o.dst undef) w → Q (.panic c) a w) (h0 : S w) (h : wpAnyH P .any ops Q S fuel (listed.setIfInBounds i true) (a.put o.dst undef) w) : wpAnyH P .any ops Q S (fuel + 1) listed a w :=
  wpAnyH_take ho hs hf hr hQ (Or.inr ⟨hw, rfl⟩) h0 h
end
theorem wp_storeB {t : TypeId} (vs : List Value) (hi : (Tryd.prog.info? t).map (·.size) = some vs.length) (h1 : vs.all (fun u => u.oneCell') = true) {op : Oper} {a : Act} {w : World} {K : Act → World → Prop} {Q : Exit → Act → World → Prop} (x y : Operand) (ho : op.op = .store t x y) (N : Nat)
    (hx : a.eval x = .pointer (some ⟨N, 0, none⟩)) (hy : a.eval y = .agg vs.toArray) {T : TypeId} (cs : List Value) (hc : Blk w N T cs) (hl : cs.length = vs.length) (h : K (a.put op.dst undef) (putB w N vs T)) : op.wp Tryd.prog a w K Q :=
  wp_store_mid t x y ho N 0 vs.toArray hx hy (fun j hj => by
    rw [List.size_toArray] at hj
    refine ⟨?_, hc.frz _⟩
    rw [cell_of_row _ _ _ _ _ _ hc.out]
    have hlt : j < cs.length := by omega
    simp [hlt]) (by rw [List.size_toArray]; exact hi) (all_oneCell_toArray (by simpa using h1)) (by rw [set_all w N T cs vs hc.out hl]; exact h)
/-- a struct loaded out of whatever address -/
theorem loadT {t : TypeId} {d : TypeDesc} (hu : Tryd.prog.underlying t = some d) (hd : (match d with | .struct _ | .array _ _ => true | _ => false) = true) (cs : List Value) (hi : (Tryd.prog.info? t).map (·.size) = some cs.length) {ops : Array Oper} {rest : List Oper} {op : Oper} {a : Act} {w : World} {Q : Exit → Act → World → Prop} (hw : Region.wanted op (yielded ops a.tmps) = true) (x : Operand) (ho : op.op = .load t x) (ad : Addr)
    (hx : a.eval x = .pointer (some ad)) (hc : ∀ (j : Nat) (v : Value), cs[j]? = some v → w.cell? (ad.add j) = some v) (h : wpList Tryd.prog ops Q rest (a.put op.dst (.agg cs.toArray)) w) : wpList Tryd.prog ops Q (op :: rest) a w :=
  BigFrame.wpList_want hw fun _ hK => by
    have hl : (loadCells ad cs.length).run Tryd.prog w = .ok cs.toArray w := run_loadCells_list w ad cs hc
    have hv : (loadVar t ad).run Tryd.prog w = .ok (.agg cs.toArray) w := by
      cases hq : Tryd.prog.info? t with
      | none => simp [hq] at hi
      | some i =>
        have hs : i.size = cs.length := by simpa [hq] using hi
        have hagg : (isAgg t).run Tryd.prog w = .ok true w := by
          unfold isAgg
          rw [Sem.run_bind, run_underlying hu w]
          cases d <;> simp_all
        simp [loadVar, Sem.run_bind, hagg, sizeOf, typeInfo, hq, hs, hl]
    unfold Oper.wp execOp
    simp only [ho, hx, Instr.loadAt, Instr.sureAddr, Sem.run_bind, Sem.run_pure, Result.andThen_ok, hv]
    exact hK _ _ h
section
variable {w : World} {o : Oper} {a : Act} {K : Act → World → Prop} {Q : Exit → Act → World → Prop}
theorem wp_row (t e : TypeId) (z : Value) (hu : Tryd.prog.underlying t = some (.slice e)) (hi : ∃ i, Tryd.prog.info? e = some i ∧ i.zero = some z ∧ i.size = 1) (len : Nat) (parts : Array (Nat × Operand)) (ho : o.op = .buildSlice t len parts) (vs : List Value) (hlen : vs.length = len) (hpos : 0 < len) (hsm : len ≤ 100)
    (h1 : ∀ v ∈ vs, v.oneCell' = true) (hp : (parts.map fun (i, x) => (i, a.eval x)).toList = (vs.zipIdx 0).map fun x => (x.2, x.1))
    (h : K (a.put o.dst (.slice (some ⟨w.heap.size, 0, none⟩) len len)) (w.alloc (.cells vs.toArray e))) : o.wp Tryd.prog a w K Q := by
  obtain ⟨i, hie, hz, hs⟩ := hi
  refine wp_buildSlice t e len parts ho _ i z hu hie hz (by rw [hs]; omega) (by rw [hs]; omega) ?_ h
  rw [hp, hs]
  exact Great.fill_flat _ _ (fun v hv => by have := h1 v hv; cases v <;> first | rfl | cases this) (by simp [hlen])
theorem wp_app_str (sl x : Operand) (ho : o.op = .call { callee := .builtin .append, args := #[sl, x], argTypes := #[50, 9] }) (base : Nat) (v : Value) (T : Tx) (hs : a.eval sl = v) (hO : OwB w base v T) (s : Tx) (hx : a.eval x = .string ⟨s.toArray⟩)
    (hl : T.length + s.length ≤ 1000000000) (hbase : base ≤ w.heap.size) (h : ∀ v' w', OwB w' base v' (T ++ s) → w.grownBy w' v.ownBlock → K (a.put o.dst v') w') : o.wp Tryd.prog a w K Q := by
  obtain ⟨i, hi, hz, hsz, hb⟩ := info_b
  obtain ⟨v', w', hr, h2, h3, h4⟩ := Lib.run_append_own_string (P := Tryd.prog) w base 50 9 o.type 5 i Tryd.underlying50 Tryd.underlying9 hi hz hsz hb v T.length _ hO ⟨s.toArray⟩ (by rw [str_size]; unfold maxLen; omega) (by rw [str_size]; omega) hbase
  unfold Oper.wp execOp
  simp only [ho, resolve, invoke, builtin, Sem.run_bind, Sem.run_pure, Result.andThen_ok, List.map_toArray, List.map_cons, List.map_nil, hs, hx, hr]
  refine h v' w' ?_ h3
  rw [str_size, str_cells] at h2
  unfold OwB
  rw [List.length_append, List.map_append]
  exact h2
theorem wp_app_bys (sl x : Operand) (ho : o.op = .call { callee := .builtin .append, args := #[sl, x], argTypes := #[50, 50] }) (base : Nat) (v : Value) (T : Tx) (hs : a.eval sl = v) (hO : OwB w base v T) (s : Tx) (g n c : Nat) (hn : s.length = n) (hx : a.eval x = .slice (some ⟨g, 0, none⟩) n c)
    (hc : ∀ (j : Nat) (u : UInt8), s[j]? = some u → w.cell? ⟨g, j, none⟩ = some (By u)) (hl : T.length + s.length ≤ 1000000000) (hbase : base ≤ w.heap.size) (h : ∀ v' w', OwB w' base v' (T ++ s) → w.grownBy w' v.ownBlock → K (a.put o.dst v') w') : o.wp Tryd.prog a w K Q := by
  obtain ⟨i, hi, hz, hsz, hb⟩ := info_b
  subst hn
  refine wp_append_own _ sl x _ ho base _ i _ 1 1 Tryd.underlying50 hi hz hsz hb rfl (by decide) v T.length _ hs hO ⟨g, 0, none⟩ s.length c (s.map By) hx (by simp) (fun j u hu => ?_) (By_one s) (by unfold maxLen; omega) (by omega) hbase fun v' w' h1 h2 _ => h v' w' ?_ h2
  · rw [add0]
    rw [List.getElem?_map] at hu
    cases e : s[j]? with
    | none => rw [e] at hu; cases hu
    | some d => rw [e] at hu; cases hu; exact hc j d e
  · unfold OwB
    rw [List.length_append, List.map_append]
    exact h1
theorem wp_app_ints (sl x : Operand) (ho : o.op = .call { callee := .builtin .append, args := #[sl, x], argTypes := #[56, 56] }) (base : Nat) (v : Value) (L : List Int) (hs : a.eval sl = v) (hO : OwI w base v L) (s : List Int) (g n c : Nat) (hx : a.eval x = .slice (some ⟨g, 0, none⟩) n c)
    (hR : RdI w (.slice (some ⟨g, 0, none⟩) n c) s) (hl : L.length + s.length ≤ 1000000000) (hbase : base ≤ w.heap.size) (h : ∀ v' w', OwI w' base v' (L ++ s) → w.grownBy w' v.ownBlock → K (a.put o.dst v') w') : o.wp Tryd.prog a w K Q := by
  obtain ⟨i, hi, hz, hsz, hb⟩ := info_i
  rcases hR with ⟨h1, _⟩ | ⟨g', cap, cur, f, h1, h2, hg, hc⟩
  · cases h1
  · cases h1
    refine wp_append_own _ sl x _ ho base _ i _ 1 8 Tryd.underlying56 hi hz hsz hb rfl (by decide) v L.length _ hs hO ⟨g, 0, none⟩ s.length c (s.map In) hx (by simp) (fun j u hu => ?_) (In_one s) (by unfold maxLen; omega) (by omega) hbase fun v' w' h1 h2 _ => h v' w' ?_ h2
    · rw [add0]
      rw [List.getElem?_map] at hu
      cases e : s[j]? with
      | none => rw [e] at hu; cases hu
      | some d => rw [e] at hu; cases hu; rw [Lib.cell_of_heap hg]; exact hc j d e
    · unfold OwI
      rw [List.length_append, List.map_append]
      exact h1
end
theorem info_b1 : ∃ i, Tryd.prog.info? 5 = some i ∧ i.zero = some (.int .u8 0) ∧ i.size = 1 := by
  obtain ⟨i, h1, h2, h3, _⟩ := info_b
  exact ⟨i, h1, h2, h3⟩
theorem info_i1 : ∃ i, Tryd.prog.info? 3 = some i ∧ i.zero = some (.int .i64 0) ∧ i.size = 1 := by
  obtain ⟨i, h1, h2, h3, _⟩ := info_i
  exact ⟨i, h1, h2, h3⟩
end Go.Proofs.YtionncfpcbjchaaDoor
