import Derived.Test.YtimfgjndgfjjgaaRC
namespace Go.Proofs.Ytimfgjndgfjjgaa
open Go.RowKit Go.Shelf

section
variable {P : Program} {ops : Array Oper} {Q : Exit → Act → World → Prop} {S : World → Prop} {fuel : Nat} {listed : Array Bool} {a : Act} {w : World}
/-- two operations that may come up -/
theorem hd_two (i j : Nat) {o1 o2 : Oper} (hr : Region.ready .any ops listed = [i, j]) (ho1 : ops[i]? = some o1) (ho2 : ops[j]? = some o2) (hw1 : Region.wanted o1 (yielded ops a.tmps) = true) (hw2 : Region.wanted o2 (yielded ops a.tmps) = true)
    (h1 : ∀ K : Act → World → Prop, (∀ a w, S w → wpAnyH P .any ops Q S fuel (listed.setIfInBounds i true) a w → K a w) → Oper.wp P o1 a w K Q)
    (h2 : ∀ K : Act → World → Prop, (∀ a w, S w → wpAnyH P .any ops Q S fuel (listed.setIfInBounds j true) a w → K a w) → Oper.wp P o2 a w K Q) : wpAnyH P .any ops Q S (fuel + 1) listed a w := by
  refine wpAnyH_ready hr (by simp) (AllReadyH.cons ho1 (fun K hK => ?_) (AllReadyH.cons ho2 (fun K hK => ?_) AllReadyH.nil))
  · rw [if_pos hw1]
    exact h1 K (fun a w hS hh => hK.out a w hS (fun _ => hh))
  · rw [if_pos hw2]
    exact h2 K (fun a w hS hh => hK.out a w hS (fun _ => hh))
end
/-- where the tail of a slice begins -/
def adB (g cap i : Nat) : Addr := if cap = i + 1 then ⟨g, 0, none⟩ else ⟨g, (i + 1) * 2, none⟩
theorem run_head {g n cap i : Nat} (h : i ≤ cap) (w : World) : (Instr.slice 29 (.slice (some ⟨g, 0, none⟩) n cap) none (some (.int .i64 (i : Int))) (some (.int .i64 (i : Int)))).run Try.prog w = .ok (.slice (some ⟨g, 0, none⟩) i i) w := by
  unfold Instr.slice
  rw [Sem.run_bind, run_underlying Try.underlying29 w]
  have h1 : (0 : Int) ≤ (i : Int) ∧ (i : Int) ≤ (cap : Int) := by omega
  have h2 : (0 : Int) ≤ (i : Int) ∧ (i : Int) ≤ (i : Int) := by omega
  simp [Instr.sliceBounds, Instr.sliceBound, asIntOf, h, Addr.add]
theorem run_tail {g n cap i : Nat} (h : i + 1 ≤ n) (w : World) : (Instr.slice 29 (.slice (some ⟨g, 0, none⟩) n cap) (some (.int .i64 ((i : Int) + 1))) none none).run Try.prog w = .ok (.slice (some (adB g cap i)) (n - (i + 1)) (cap - (i + 1))) w := by
  unfold Instr.slice
  rw [Sem.run_bind, run_underlying Try.underlying29 w]
  have h1 : (0 : Int) ≤ (i : Int) + 1 ∧ (i : Int) + 1 ≤ (n : Int) := by omega
  have h3 : ((i : Int) + 1).toNat = i + 1 := by omega
  simp [Instr.sliceBounds, Instr.sliceBound, asIntOf, h1, h3, Addr.add, adB]
  split <;> simp
theorem encPs_len' (M : List (Nat × Nat)) : (encPs M).length = M.length * 2 := by
  induction M with
  | nil => rfl
  | cons x t ih => simp only [encPs, List.flatMap_cons, List.length_append, List.length_cons] at ih ⊢; rw [ih]; simp [encP]; omega
theorem pr_of_row {w : World} {base : Nat} {v : Value} {M : List (Nat × Nat)} (h : w.ownsRow base 28 2 v M.length (encPs M)) : PR w v M := by
  have h' := h
  obtain ⟨h1, ⟨h2, h3⟩ | ⟨g, cap, cur, rfl, _, h5, h6, h7, h8, h9⟩⟩ := h
  · exact .inl ⟨h2, List.length_eq_zero_iff.1 h3⟩
  · refine .inr ⟨g, cap, cur, rfl, h5, h6, h7, by omega, fun k hk => ?_⟩
    have c0 := h'.cellAt (k * 2) (by omega)
    have c1 := h'.cellAt (k * 2 + 1) (by omega)
    rw [cell_of_row _ _ _ _ _ _ h5] at c0 c1
    exact ⟨c0.trans (encPs_at hk).1, c1.trans (encPs_at hk).2⟩
/-- the tail laid behind the head: a new row, or the head alone -/
theorem wp_append_cut {o : Oper} {a : Act} {K : Act → World → Prop} {Q : Exit → Act → World → Prop} (s x : Operand) (hop : o.op = Op.call { callee := Callee.builtin Builtin.append, args := #[s, x], argTypes := #[29, 29] }) (w : World) (g n cap i : Nat) (M : List (Nat × Nat)) (cur : Array Value)
    (hg : w.heap[g]? = some (.cells cur 28 (0, 0))) (hn : M.length = n) (hnc : n ≤ cap) (hcm : cap ≤ maxLen) (hcu : cap * 2 ≤ cur.size) (hel : ∀ k (hk : k < M.length), cur[k * 2]? = some (.int .i64 (M[k].1 : Int)) ∧ cur[k * 2 + 1]? = some (.int .i64 (M[k].2 : Int))) (hi : i + 1 ≤ n) (hn2 : n ≤ 2000)
    (hs : a.eval s = .slice (some ⟨g, 0, none⟩) i i) (hx : a.eval x = .slice (some (adB g cap i)) (n - (i + 1)) (cap - (i + 1)))
    (hK : ∀ v' w', PR w' v' (M.take i ++ M.drop (i + 1)) → (∀ g', v'.ownBlock = some g' → g' = g ∨ w.heap.size ≤ g') → Below w.heap.size w w' → K (a.put o.dst v') w') : Oper.wp Try.prog o a w K Q := by
  obtain ⟨ti, t1, t2, t3, t4⟩ := info28'
  have hcell : ∀ j, w.cell? ⟨g, j, none⟩ = cur[j]? := fun j => cell_of_row _ _ _ _ _ _ hg
  have hM : M = M.take i ++ M[i]'(by omega) :: M.drop (i + 1) := by rw [← List.drop_eq_getElem_cons (by omega), List.take_append_drop]
  have hold : ∀ j u, (encPs (M.take i))[j]? = some u → w.cell? ((⟨g, 0, none⟩ : Addr).add j) = some u := by
    intro j u hu
    have hj : j < i * 2 := by have := (List.getElem?_eq_some_iff.1 hu).1; rw [encPs_len', List.length_take] at this; omega
    obtain ⟨q, b, hb, rfl⟩ : ∃ q b, b < 2 ∧ j = q * 2 + b := ⟨j / 2, j % 2, Nat.mod_lt _ (by omega), by omega⟩
    have hq : q < (M.take i).length := by rw [List.length_take]; omega
    have hq2 : q < M.length := by omega
    rw [add0, hcell, ← hu]
    have hget : (M.take i)[q] = M[q] := List.getElem_take
    rcases (by omega : b = 0 ∨ b = 1) with rfl | rfl
    · simp only [Nat.add_zero]
      rw [(hel q hq2).1, (encPs_at hq).1, hget]
    · rw [(hel q hq2).2, (encPs_at hq).2, hget]
  rcases Nat.lt_or_ge (i + 1) n with hlt | hge
  · have had : adB g cap i = ⟨g, (i + 1) * 2, none⟩ := by unfold adB; rw [if_neg (by omega)]
    have hnew : ∀ j u, (encPs (M.drop (i + 1)))[j]? = some u → w.cell? ((⟨g, (i + 1) * 2, none⟩ : Addr).add j) = some u := by
      intro j u hu
      have hj : j < (n - (i + 1)) * 2 := by have := (List.getElem?_eq_some_iff.1 hu).1; rw [encPs_len', List.length_drop] at this; omega
      obtain ⟨q, b, hb, rfl⟩ : ∃ q b, b < 2 ∧ j = q * 2 + b := ⟨j / 2, j % 2, Nat.mod_lt _ (by omega), by omega⟩
      have hq : q < (M.drop (i + 1)).length := by rw [List.length_drop]; omega
      have hq2 : i + 1 + q < M.length := by omega
      have hget : (M.drop (i + 1))[q] = M[i + 1 + q] := List.getElem_drop
      rw [Addr.add_lit, hcell, ← hu]
      rcases (by omega : b = 0 ∨ b = 1) with rfl | rfl
      · simp only [Nat.add_zero]
        rw [(encPs_at hq).1, hget, show (i + 1) * 2 + (q * 2) = (i + 1 + q) * 2 by omega, (hel _ hq2).1]
      · rw [(encPs_at hq).2, hget, show (i + 1) * 2 + (q * 2 + 1) = (i + 1 + q) * 2 + 1 by omega, (hel _ hq2).2]
    rw [had] at hx
    obtain ⟨v', w', hrun, r1, r2⟩ := run_append_arg_grows (P := Try.prog) w 29 o.type 28 ti (.agg #[.int .i64 0, .int .i64 0]) 2 16 Try.underlying29 t1 t2 t3 t4 rfl (by decide) ⟨g, 0, none⟩ i i (encPs (M.take i)) (by rw [encPs_len', List.length_take]; omega) hold ⟨g, (i + 1) * 2, none⟩ (n - (i + 1)) (cap - (i + 1)) (encPs (M.drop (i + 1))) (by rw [encPs_len', List.length_drop]; omega) hnew (by omega) (by unfold maxLen; omega) (by omega)
    unfold Oper.wp
    simp [execOp, hop, resolve, invoke, builtin, hs, hx, hrun, Result.andThen]
    refine hK v' w' (pr_of_row (base := w.heap.size) ?_) (fun g' hg' => .inr (r1.lt g' hg').1) ⟨r2.os, r2.tape, r2.output, r2.size, fun k hk => r2.block k hk (by simp)⟩
    rw [show encPs (M.take i ++ M.drop (i + 1)) = encPs (M.take i) ++ encPs (M.drop (i + 1)) by simp [encPs]]
    rw [show (M.take i ++ M.drop (i + 1)).length = i + (n - (i + 1)) by rw [List.length_append, List.length_take, List.length_drop]; omega]
    exact r1
  · have h0 : n - (i + 1) = 0 := by omega
    have hd : M.drop (i + 1) = [] := List.drop_eq_nil_of_le (by omega)
    rw [h0] at hx
    have hrun := run_append_room_cells (P := Try.prog) w 29 o.type 28 ti Try.underlying29 t1 g 0 i i (adB g cap i) 0 (cap - (i + 1)) [] (by simp) (fun j u h => by simp at h) (fun u h => by simp at h) (by omega) (fun j hj => by simp at hj) (fun j hj => by simp at hj)
    unfold Oper.wp
    simp [execOp, hop, resolve, invoke, builtin, hs, hx, hrun, Result.andThen, World.setCells]
    refine hK _ w ?_ (fun g' hg' => .inl (by cases hg'; rfl)) (Below.refl _ _)
    rw [hd, List.append_nil]
    have hl : (M.take i).length = i := by rw [List.length_take]; omega
    refine .inr ⟨g, i, cur, by rw [hl], hg, by omega, by omega, by omega, fun k hk => ?_⟩
    rw [List.getElem_take]
    exact hel k (by omega)
theorem slice_head {a : Act} {o : Oper} {x y z : Operand} {g n cap i : Nat} (ho : o.op = .slice 29 x none (some y) (some z)) (hx : a.eval x = .slice (some ⟨g, 0, none⟩) n cap) (hy : a.eval y = .int .i64 (i : Int)) (hz : a.eval z = .int .i64 (i : Int)) (h : i ≤ cap) (w : World) : (execOp a.eval o).run Try.prog w = .ok (.value (.slice (some ⟨g, 0, none⟩) i i)) w := by
  have h1 := run_head (g := g) (n := n) h w
  unfold execOp
  simp only [ho, Option.map_some, Option.map_none, Instr.sliceAt, hx, hy, hz, Sem.run_bind, run_underlying Try.underlying29 w, h1, Result.andThen_ok, Sem.run_pure]
theorem slice_tail {a : Act} {o : Oper} {x y : Operand} {g n cap i : Nat} (ho : o.op = .slice 29 x (some y) none none) (hx : a.eval x = .slice (some ⟨g, 0, none⟩) n cap) (hy : a.eval y = .int .i64 ((i : Int) + 1)) (h : i + 1 ≤ n) (w : World) : (execOp a.eval o).run Try.prog w = .ok (.value (.slice (some (adB g cap i)) (n - (i + 1)) (cap - (i + 1)))) w := by
  have h1 := run_tail (g := g) (cap := cap) h w
  unfold execOp
  simp only [ho, Option.map_some, Option.map_none, Instr.sliceAt, hx, hy, Sem.run_bind, run_underlying Try.underlying29 w, h1, Result.andThen_ok, Sem.run_pure]
set_option maxRecDepth 8000 in
set_option maxHeartbeats 8000000 in
theorem cut_any (w : World) (Mb : Nat) (v : Value) (M : List (Nat × Nat)) (hm : w.heap[Mb]? = some (.cells #[v] 65 (0, 0))) (hp : PR w v M) (hne : ∀ g, v.ownBlock = some g → g ≠ Mb) (hn : M.length ≤ 2000) (e s : Int) :
    Calls Try.prog 59 #[.pointer (some ⟨Mb, 0, none⟩), .agg #[.int .i64 e, .int .i64 s]] w fun x w' => x = .returned (.tuple #[]) ∧ ∃ v', w'.heap[Mb]? = some (.cells #[v'] 65 (0, 0)) ∧ PR w' v' (cutM M e s) ∧ (∀ g, v'.ownBlock = some g → v.ownBlock = some g ∨ w.heap.size ≤ g) ∧ Mod (fun b => b = Mb) w w' := by
  have hb0 := (Below.refl w.heap.size w).alloc (Nat.le_refl _) (.cells #[.int .i64 e, .int .i64 s] 28)
  have hp0 := heap_alloc_new w (.cells #[.int .i64 e, .int .i64 s] 28)
  have hMl := (Array.getElem?_eq_some_iff.1 hm).1
  have hm0 := (hb0.block Mb hMl).trans hm
  have hpr0 := hp.keep (w' := w.alloc (.cells #[.int .i64 e, .int .i64 s] 28)) (fun g hg => hb0.block g (hp.lt g hg))
  have HAt := hide (at_any _ Mb v M hm0 hpr0 hn e s)
  have HB0 := hide hb0
  have HM0 := hide hm
  have HP0 := hide hp
  have HNe := hide hne
  obtain ⟨c0, c1, -, -⟩ := blk2 hp0
  clear hb0 hp0 hm0 hpr0 hm hp hne
  go_enter Try.func59, Try.ntmps59
  go_upto_region 1 with fail
  generalize w.alloc (.cells #[.int .i64 e, .int .i64 s] 28) = w0 at *
  go_wp2_with fail
  refine HAt.out.mono ?_
  rintro x w1 ⟨rfl, hb1⟩
  have HB1 := hide (HB0.out.trans (hb1.mono HB0.out.size))
  clear HAt hb1 c0 c1 HB0
  have HMod : Hid (∀ w2 : World, Below w.heap.size w w2 → Mod (fun b => b = Mb) w w2) := hide fun w2 h => ⟨h.os, h.tape, h.output, h.size, fun b hb _ => h.block b hb⟩
  cases hf : M.findIdx? (isP e s) with
  | none =>
    have hix : ixM M e s = -1 := by unfold ixM; rw [hf]
    have hcut : cutM M e s = M := by unfold cutM; rw [hf]
    rw [hix]
    have HFin := hide (show ∃ v', w1.heap[Mb]? = some (.cells #[v'] 65 (0, 0)) ∧ PR w1 v' (cutM M e s) ∧ (∀ g, v'.ownBlock = some g → v.ownBlock = some g ∨ w.heap.size ≤ g) ∧ Mod (fun b => b = Mb) w w1 from ⟨v, (HB1.out.block Mb hMl).trans HM0.out, by rw [hcut]; exact HP0.out.keep (fun g hg => HB1.out.block g (HP0.out.lt g hg)), fun g hg => .inl hg, HMod.out _ HB1.out⟩)
    clear hf hix hcut
    go_wp2
    go_end0
    exact ⟨rfl, HFin.out⟩
  | some i =>
    have hix : ixM M e s = (i : Int) := by unfold ixM; rw [hf]
    have hcut : cutM M e s = M.take i ++ M.drop (i + 1) := by unfold cutM; rw [hf]
    obtain ⟨hi, -, -⟩ := List.findIdx?_eq_some_iff_getElem.1 hf
    rw [hix]
    have HCut := hide hcut
    rcases HP0.out with ⟨_, rfl⟩ | ⟨g, cap, cur, rfl, hg, h2, h3, h4, h5⟩
    · cases hi
    obtain ⟨n, hL⟩ : ∃ n, M.length = n := ⟨_, rfl⟩
    rw [hL] at hi h2 hn HM0 HNe
    have hgw : g < w.heap.size := (Array.getElem?_eq_some_iff.1 hg).1
    have hg1 := (HB1.out.block g hgw).trans hg
    have hm1 := (HB1.out.block Mb hMl).trans HM0.out
    obtain ⟨w2, hw2⟩ : ∃ w2, w2 = w1.drew := ⟨_, rfl⟩
    have HG : Hid (w2.heap[g]? = some (.cells cur 28 (0, 0))) := by rw [hw2]; exact hg1
    have HM : Hid (w2.heap[Mb]? = some (.cells #[.slice (some ⟨g, 0, none⟩) n cap] 65 (0, 0))) := by rw [hw2]; exact hm1
    have HB2 : Hid (Below w.heap.size w w2) := by rw [hw2]; exact HB1.out.drew
    have HNn := hide hL
    have HNc := hide h2
    have HCm := hide h3
    have HCu := hide h4
    have HEl := hide h5
    have HLt := hide (show i + 1 ≤ n by omega)
    have HCap := hide (show i ≤ cap by omega)
    have HN2 := hide hn
    have hmc : w2.cell? ⟨Mb, 0, none⟩ = some (.slice (some ⟨g, 0, none⟩) n cap) := by rw [cell_of_row _ _ _ _ _ _ HM.out]; rfl
    have hib : (i : Int) < 9223372036854775807 := by omega
    have HFn : Hid (∀ (v8 : Value) (w8 : World), PR w8 v8 (M.take i ++ M.drop (i + 1)) → (∀ g', v8.ownBlock = some g' → g' = g ∨ w2.heap.size ≤ g') → Below w2.heap.size w2 w8 → (w8.setCell ⟨Mb, 0, none⟩ v8).heap[Mb]? = some (.cells #[v8] 65 (0, 0)) →
        ∃ v', (w8.setCell ⟨Mb, 0, none⟩ v8).heap[Mb]? = some (.cells #[v'] 65 (0, 0)) ∧ PR (w8.setCell ⟨Mb, 0, none⟩ v8) v' (M.take i ++ M.drop (i + 1)) ∧ (∀ g', v'.ownBlock = some g' → (Value.slice (some ⟨g, 0, none⟩) n cap).ownBlock = some g' ∨ w.heap.size ≤ g') ∧ Mod (fun b => b = Mb) w (w8.setCell ⟨Mb, 0, none⟩ v8)) := by
      refine hide fun v8 w8 q1 q2 q3 q4 => ⟨v8, q4, q1.keep (fun g' hg' => ?_), fun g' hg' => ?_, ?_⟩
      · refine heap_setCell_other _ _ _ _ (fun e => ?_)
        have e' : g' = Mb := e
        rcases q2 g' hg' with h | h
        · exact HNe.out g rfl (h.symm.trans e')
        · have := HB2.out.size; omega
      · rcases q2 g' hg' with h | h
        · exact .inl (by rw [h]; rfl)
        · exact .inr (Nat.le_trans HB2.out.size h)
      · have hb8 := HB2.out.trans (q3.mono HB2.out.size)
        refine ⟨hb8.os, hb8.tape, hb8.output, ?_, fun b hb hf => ?_⟩
        · simpa [World.setCell] using hb8.size
        · rw [heap_setCell_other _ _ _ _ hf]; exact hb8.block b hb
    have hi0 : decide ((0 : Int) ≤ (i : Int)) = true := by simp
    have HWr : Hid (IntKind.i64.wrap ((i : Int) + 1) = (i : Int) + 1) := hide (by simp [IntKind.wrap, IntKind.signed, IntKind.bits]; omega)
    clear hf hix hcut h2 h3 h4 h5 hg1 hm1 hg HP0 HM0
    go_upto_region 3 with fail
    refine wp_region_held_drew (S := fun _ => True) (by kernel_rfl) trivial (fun _ => ?_)
    rw [← hw2]
    clear hw2
    refine hd_take 0 (o := ⟨some 10, _, _, _, _, _⟩) (.pointer (some ⟨Mb, 0, none⟩)) (by kernel_rfl) (by kernel_rfl) (by kernel_rfl) rfl (by rfl) (fun W hSw => by go_simp) (fun _ _ _ h => h) trivial ?_
    simp only [Act.put, List.setIfInBounds_toArray, List.set_cons_zero, List.set_cons_succ]
    refine hd_take 1 (o := ⟨some 11, _, _, _, _, _⟩) (.pointer (some ⟨Mb, 0, none⟩)) (by kernel_rfl) (by kernel_rfl) (by kernel_rfl) rfl (by rfl) (fun W hSw => by go_simp) (fun _ _ _ h => h) trivial ?_
    simp only [Act.put, List.setIfInBounds_toArray, List.set_cons_zero, List.set_cons_succ]
    refine hd_take 2 (o := ⟨some 12, _, _, _, _, _⟩) (.pointer (some ⟨Mb, 0, none⟩)) (by kernel_rfl) (by kernel_rfl) (by kernel_rfl) rfl (by rfl) (fun W hSw => by go_simp) (fun _ _ _ h => h) trivial ?_
    simp only [Act.put, List.setIfInBounds_toArray, List.set_cons_zero, List.set_cons_succ]
    refine hd_take 3 (o := ⟨some 13, _, _, _, _, _⟩) (.pointer (some ⟨Mb, 0, none⟩)) (by kernel_rfl) (by kernel_rfl) (by kernel_rfl) rfl (by rfl) (fun W hSw => by go_simp) (fun _ _ _ h => h) trivial ?_
    simp only [Act.put, List.setIfInBounds_toArray, List.set_cons_zero, List.set_cons_succ]
    refine hd_take 5 (o := ⟨some 15, _, _, _, _, _⟩) (.int .i64 (i : Int)) (by kernel_rfl) (by kernel_rfl) (by kernel_rfl) rfl (by rfl) (fun W hSw => by go_simp) (fun _ _ _ h => h) trivial ?_
    simp only [Act.put, List.setIfInBounds_toArray, List.set_cons_zero, List.set_cons_succ]
    refine hd_take 6 (o := ⟨some 16, _, _, _, _, _⟩) (.int .i64 (i : Int)) (by kernel_rfl) (by kernel_rfl) (by kernel_rfl) rfl (by rfl) (fun W hSw => by go_simp) (fun _ _ _ h => h) trivial ?_
    simp only [Act.put, List.setIfInBounds_toArray, List.set_cons_zero, List.set_cons_succ]
    refine hd_take 8 (o := ⟨some 18, _, _, _, _, _⟩) (.pointer (some ⟨Mb, 0, none⟩)) (by kernel_rfl) (by kernel_rfl) (by kernel_rfl) rfl (by rfl) (fun W hSw => by go_simp) (fun _ _ _ h => h) trivial ?_
    simp only [Act.put, List.setIfInBounds_toArray, List.set_cons_zero, List.set_cons_succ]
    refine hd_take 9 (o := ⟨some 19, _, _, _, _, _⟩) (.pointer (some ⟨Mb, 0, none⟩)) (by kernel_rfl) (by kernel_rfl) (by kernel_rfl) rfl (by rfl) (fun W hSw => by go_simp) (fun _ _ _ h => h) trivial ?_
    simp only [Act.put, List.setIfInBounds_toArray, List.set_cons_zero, List.set_cons_succ]
    refine hd_take 10 (o := ⟨some 20, _, _, _, _, _⟩) (.pointer (some ⟨Mb, 0, none⟩)) (by kernel_rfl) (by kernel_rfl) (by kernel_rfl) rfl (by rfl) (fun W hSw => by go_simp) (fun _ _ _ h => h) trivial ?_
    simp only [Act.put, List.setIfInBounds_toArray, List.set_cons_zero, List.set_cons_succ]
    refine hd_take 12 (o := ⟨some 22, _, _, _, _, _⟩) (.int .i64 (i : Int)) (by kernel_rfl) (by kernel_rfl) (by kernel_rfl) rfl (by rfl) (fun W hSw => by go_simp) (fun _ _ _ h => h) trivial ?_
    simp only [Act.put, List.setIfInBounds_toArray, List.set_cons_zero, List.set_cons_succ]
    refine hd_take 13 (o := ⟨some 23, _, _, _, _, _⟩) (.int .i64 ((i : Int) + 1)) (by kernel_rfl) (by kernel_rfl) (by kernel_rfl) rfl (by rfl) (fun W hSw => by go_simp; exact HWr.out) (fun _ _ _ h => h) trivial ?_
    simp only [Act.put, List.setIfInBounds_toArray, List.set_cons_zero, List.set_cons_succ]
    refine hd_two 4 11 (o1 := ⟨some 14, _, _, _, _, _⟩) (o2 := ⟨some 21, _, _, _, _, _⟩) (by kernel_rfl) rfl rfl (by rfl) (by rfl) (fun K hK => ?_) (fun K hK => ?_)
    · go_simp
      refine hK _ _ trivial ?_
      clear hK K
      try simp only [Act.put, List.setIfInBounds_toArray, List.set_cons_zero, List.set_cons_succ]
      refine hd_take 7 (o := ⟨some 17, _, _, _, _, _⟩) (.slice (some ⟨g, 0, none⟩) i i) (by kernel_rfl) (by kernel_rfl) (by kernel_rfl) rfl (by rfl) (fun W _ => by exact slice_head rfl rfl rfl rfl HCap.out W) (fun _ _ _ h => h) trivial ?_
      simp only [Act.put, List.setIfInBounds_toArray, List.set_cons_zero, List.set_cons_succ]
      refine hd_call 11 (o := ⟨some 21, _, _, _, _, _⟩) (by kernel_rfl) rfl (by rfl) (fun K hK => ?_)
      go_simp
      refine hK _ _ trivial ?_
      clear hK K
      try simp only [Act.put, List.setIfInBounds_toArray, List.set_cons_zero, List.set_cons_succ]
      refine hd_take 14 (o := ⟨some 24, _, _, _, _, _⟩) (.slice (some (adB g cap i)) (n - (i + 1)) (cap - (i + 1))) (by kernel_rfl) (by kernel_rfl) (by kernel_rfl) rfl (by rfl) (fun W _ => by exact slice_tail rfl rfl rfl HLt.out W) (fun _ _ _ h => h) trivial ?_
      simp only [Act.put, List.setIfInBounds_toArray, List.set_cons_zero, List.set_cons_succ]
      clear hmc
      refine hd_call 15 (o := ⟨some 25, _, _, _, _, _⟩) (by kernel_rfl) rfl (by rfl) (fun K hK => ?_)
      refine wp_append_cut (.tmp 17) (.tmp 24) rfl w2 g n cap i M cur HG.out HNn.out HNc.out HCm.out HCu.out HEl.out HLt.out HN2.out (by simp [Act.eval]) (by simp [Act.eval]) ?_
      intro v8 w8 hp8 hg8 hb8
      obtain ⟨a8, c8, rfl⟩ := hp8.len
      have ⟨L8, hL8⟩ : ∃ L, (M.take i ++ M.drop (i + 1)).length = L := ⟨_, rfl⟩
      rw [hL8] at hp8 hg8 ⊢
      clear hL8
      refine hK _ _ trivial ?_
      clear hK K
      try simp only [Act.put, List.setIfInBounds_toArray, List.set_cons_zero, List.set_cons_succ]
      have HP8 := hide hp8
      have HG8 := hide hg8
      have HB8 := hide hb8
      have hm8 : w8.heap[Mb]? = some (.cells #[.slice (some ⟨g, 0, none⟩) n cap] 65 (0, 0)) := (hb8.block Mb (Array.getElem?_eq_some_iff.1 HM.out).1).trans HM.out
      have m0 : w8.cell? ⟨Mb, 0, none⟩ = some (.slice (some ⟨g, 0, none⟩) n cap) := by rw [cell_of_row _ _ _ _ _ _ hm8]; rfl
      have mf : w8.frozen? ⟨Mb, 0, none⟩ = false := frozen_of_row _ _ _ _ _ hm8
      have HM8 := hide (heap_setCell_same w8 Mb 0 _ _ (.slice a8 L8 c8) hm8)
      clear hp8 hg8 hb8 hm8
      refine hd_take 16 (o := ⟨some 26, _, _, _, _, _⟩) (.pointer (some ⟨Mb, 0, none⟩)) (by kernel_rfl) (by kernel_rfl) (by kernel_rfl) rfl (by rfl) (fun W hSw => by go_simp) (fun _ _ _ h => h) trivial ?_
      simp only [Act.put, List.setIfInBounds_toArray, List.set_cons_zero, List.set_cons_succ]
      refine hd_take 17 (o := ⟨some 27, _, _, _, _, _⟩) (.pointer (some ⟨Mb, 0, none⟩)) (by kernel_rfl) (by kernel_rfl) (by kernel_rfl) rfl (by rfl) (fun W hSw => by go_simp) (fun _ _ _ h => h) trivial ?_
      simp only [Act.put, List.setIfInBounds_toArray, List.set_cons_zero, List.set_cons_succ]
      refine hd_call 18 (o := ⟨none, _, _, _, _, _⟩) (by kernel_rfl) rfl (by rfl) (fun K hK => ?_)
      go_simp
      refine hK _ _ trivial ?_
      clear hK K
      refine wpAnyH_done (by kernel_rfl) ?_ _
      go_wp2
      go_end0
      rw [HCut.out]
      exact ⟨rfl, HFn.out _ _ HP8.out HG8.out HB8.out HM8.out⟩
    · go_simp
      refine hK _ _ trivial ?_
      clear hK K
      try simp only [Act.put, List.setIfInBounds_toArray, List.set_cons_zero, List.set_cons_succ]
      refine hd_take 14 (o := ⟨some 24, _, _, _, _, _⟩) (.slice (some (adB g cap i)) (n - (i + 1)) (cap - (i + 1))) (by kernel_rfl) (by kernel_rfl) (by kernel_rfl) rfl (by rfl) (fun W _ => by exact slice_tail rfl rfl rfl HLt.out W) (fun _ _ _ h => h) trivial ?_
      simp only [Act.put, List.setIfInBounds_toArray, List.set_cons_zero, List.set_cons_succ]
      refine hd_call 4 (o := ⟨some 14, _, _, _, _, _⟩) (by kernel_rfl) rfl (by rfl) (fun K hK => ?_)
      go_simp
      refine hK _ _ trivial ?_
      clear hK K
      try simp only [Act.put, List.setIfInBounds_toArray, List.set_cons_zero, List.set_cons_succ]
      refine hd_take 7 (o := ⟨some 17, _, _, _, _, _⟩) (.slice (some ⟨g, 0, none⟩) i i) (by kernel_rfl) (by kernel_rfl) (by kernel_rfl) rfl (by rfl) (fun W _ => by exact slice_head rfl rfl rfl rfl HCap.out W) (fun _ _ _ h => h) trivial ?_
      simp only [Act.put, List.setIfInBounds_toArray, List.set_cons_zero, List.set_cons_succ]
      clear hmc
      refine hd_call 15 (o := ⟨some 25, _, _, _, _, _⟩) (by kernel_rfl) rfl (by rfl) (fun K hK => ?_)
      refine wp_append_cut (.tmp 17) (.tmp 24) rfl w2 g n cap i M cur HG.out HNn.out HNc.out HCm.out HCu.out HEl.out HLt.out HN2.out (by simp [Act.eval]) (by simp [Act.eval]) ?_
      intro v8 w8 hp8 hg8 hb8
      obtain ⟨a8, c8, rfl⟩ := hp8.len
      have ⟨L8, hL8⟩ : ∃ L, (M.take i ++ M.drop (i + 1)).length = L := ⟨_, rfl⟩
      rw [hL8] at hp8 hg8 ⊢
      clear hL8
      refine hK _ _ trivial ?_
      clear hK K
      try simp only [Act.put, List.setIfInBounds_toArray, List.set_cons_zero, List.set_cons_succ]
      have HP8 := hide hp8
      have HG8 := hide hg8
      have HB8 := hide hb8
      have hm8 : w8.heap[Mb]? = some (.cells #[.slice (some ⟨g, 0, none⟩) n cap] 65 (0, 0)) := (hb8.block Mb (Array.getElem?_eq_some_iff.1 HM.out).1).trans HM.out
      have m0 : w8.cell? ⟨Mb, 0, none⟩ = some (.slice (some ⟨g, 0, none⟩) n cap) := by rw [cell_of_row _ _ _ _ _ _ hm8]; rfl
      have mf : w8.frozen? ⟨Mb, 0, none⟩ = false := frozen_of_row _ _ _ _ _ hm8
      have HM8 := hide (heap_setCell_same w8 Mb 0 _ _ (.slice a8 L8 c8) hm8)
      clear hp8 hg8 hb8 hm8
      refine hd_take 16 (o := ⟨some 26, _, _, _, _, _⟩) (.pointer (some ⟨Mb, 0, none⟩)) (by kernel_rfl) (by kernel_rfl) (by kernel_rfl) rfl (by rfl) (fun W hSw => by go_simp) (fun _ _ _ h => h) trivial ?_
      simp only [Act.put, List.setIfInBounds_toArray, List.set_cons_zero, List.set_cons_succ]
      refine hd_take 17 (o := ⟨some 27, _, _, _, _, _⟩) (.pointer (some ⟨Mb, 0, none⟩)) (by kernel_rfl) (by kernel_rfl) (by kernel_rfl) rfl (by rfl) (fun W hSw => by go_simp) (fun _ _ _ h => h) trivial ?_
      simp only [Act.put, List.setIfInBounds_toArray, List.set_cons_zero, List.set_cons_succ]
      refine hd_call 18 (o := ⟨none, _, _, _, _, _⟩) (by kernel_rfl) rfl (by rfl) (fun K hK => ?_)
      go_simp
      refine hK _ _ trivial ?_
      clear hK K
      refine wpAnyH_done (by kernel_rfl) ?_ _
      go_wp2
      go_end0
      rw [HCut.out]
      exact ⟨rfl, HFn.out _ _ HP8.out HG8.out HB8.out HM8.out⟩
end Go.Proofs.Ytimfgjndgfjjgaa
