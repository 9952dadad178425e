import Derived.Test.YtimfgjndgfjjgaaRE
namespace Go.Proofs.Ytimfgjndgfjjgaa
open Go.RowKit Go.Shelf

theorem encPs_app (M : List (Nat × Nat)) (p : Nat × Nat) : encPs (M ++ [p]) = encPs M ++ [.int .i64 (p.1 : Int), .int .i64 (p.2 : Int)] := encPs_snoc _ _
/-- one more place -/
theorem wp_append_one {o : Oper} {a : Act} {K : Act → World → Prop} {Q : Exit → Act → World → Prop} (s x : Operand) (hop : o.op = Op.call { callee := Callee.builtin Builtin.append, args := #[s, x], argTypes := #[29, 29] }) (w : World) (v : Value) (M : List (Nat × Nat)) (hp : PR w v M) (hs : a.eval s = v)
    (N : Nat) (p : Nat × Nat) (hN : w.heap[N]? = some (.cells #[.int .i64 (p.1 : Int), .int .i64 (p.2 : Int)] 28 (0, 0))) (hx : a.eval x = .slice (some ⟨N, 0, none⟩) 1 1) (hn : M.length ≤ 2000)
    (hK : ∀ v' w', PR w' v' (M ++ [p]) → (∀ g, v'.ownBlock = some g → v.ownBlock = some g ∨ w.heap.size ≤ g) → w.grownBy w' v.ownBlock → K (a.put o.dst v') w') : Oper.wp Try.prog o a w K Q := by
  obtain ⟨ti, t1, t2, t3, t4⟩ := info28'
  have hnew : ∀ j u, ([.int .i64 (p.1 : Int), .int .i64 (p.2 : Int)] : List Value)[j]? = some u → w.cell? ((⟨N, 0, none⟩ : Addr).add j) = some u := fun j u hu => by rw [add0, cell_of_row _ _ _ _ _ _ hN]; simpa using hu
  have hone : ∀ u ∈ ([.int .i64 (p.1 : Int), .int .i64 (p.2 : Int)] : List Value), u.oneCell' = true := fun u hu => by simp at hu; rcases hu with rfl | rfl <;> rfl
  rcases hp with ⟨rfl, rfl⟩ | ⟨g, cap, cur, rfl, hg, h2, h3, h4, h5⟩
  · obtain ⟨v', w', hrun, r1, r2, _⟩ := run_append_own (P := Try.prog) w w.heap.size 29 o.type 28 ti (.agg #[.int .i64 0, .int .i64 0]) 2 16 Try.underlying29 t1 t2 t3 t4 rfl (by decide) (.slice none 0 0) 0 [] (World.ownsRow_nil w _ _ 2) ⟨N, 0, none⟩ 1 1 [.int .i64 (p.1 : Int), .int .i64 (p.2 : Int)] rfl hnew hone (by unfold maxLen; omega) (by omega) (Nat.le_refl _)
    unfold Oper.wp
    simp [execOp, hop, resolve, invoke, builtin, hs, hx, hrun, Result.andThen]
    exact hK v' w' (pr_of_row (base := w.heap.size) (by rw [encPs_app]; exact r1)) (fun g hg => .inr (r1.lt g hg).1) r2
  · have hcell : ∀ j, w.cell? ⟨g, j, none⟩ = cur[j]? := fun j => cell_of_row _ _ _ _ _ _ hg
    rcases Nat.lt_or_ge M.length cap with hlt | hge
    · have hrun := run_append_room_cells (P := Try.prog) w 29 o.type 28 ti Try.underlying29 t1 g 0 M.length cap ⟨N, 0, none⟩ 1 1 [.int .i64 (p.1 : Int), .int .i64 (p.2 : Int)] (by rw [t3]; rfl) hnew hone (by omega) (fun j hj => by
        rw [t3, hcell, Array.getElem?_eq_getElem (by simp at hj; omega)]; rfl) (fun j hj => frozen_of_row _ _ _ _ _ hg)
      rw [t3] at hrun
      unfold Oper.wp
      simp only [execOp, hop, resolve, invoke, builtin, Sem.run_bind, Sem.run_pure, Result.andThen_ok, List.map_toArray, List.map_cons, List.map_nil, hs, hx, hrun]
      obtain ⟨cs', q1, q2, q3⟩ := heap_setCells g 28 [.int .i64 (p.1 : Int), .int .i64 (p.2 : Int)] (0 + M.length * 2) w cur hg
      obtain ⟨r1, r2, r3, r4⟩ := setCells_rest g [.int .i64 (p.1 : Int), .int .i64 (p.2 : Int)] (0 + M.length * 2) w
      refine hK _ _ (.inr ⟨g, cap, cs', by rw [List.length_append]; rfl, q1, by rw [List.length_append]; exact hlt, h3, by rw [q2]; exact h4, fun k hk => ?_⟩) (fun g' hg' => .inl hg') ⟨r1, r2, r3, by rw [r4]; exact Nat.le_refl _, fun k _ hk => heap_setCells_other g k (fun e => hk (by rw [e]; rfl)) _ _ _⟩
      rw [List.length_append] at hk
      have hk' : k < M.length + 1 := hk
      rcases Nat.lt_or_ge k M.length with h | h
      · rw [List.getElem_append_left h, q3 _ (by omega), q3 _ (by omega), if_neg (by omega), if_neg (by omega)]
        exact h5 k h
      · obtain rfl : k = M.length := by omega
        rw [List.getElem_append_right (Nat.le_refl _), q3 _ (by omega), q3 _ (by omega), if_pos (by simp), if_pos (by simp)]
        simp [show M.length * 2 + 1 - M.length * 2 = 1 by omega]
    · have hold : ∀ j u, (encPs M)[j]? = some u → w.cell? ((⟨g, 0, none⟩ : Addr).add j) = some u := by
        intro j u hu
        have hj : j < M.length * 2 := by have := (List.getElem?_eq_some_iff.1 hu).1; rw [encPs_len'] at this; exact this
        obtain ⟨q, b, hb, rfl⟩ : ∃ q b, b < 2 ∧ j = q * 2 + b := ⟨j / 2, j % 2, Nat.mod_lt _ (by omega), by omega⟩
        have hq : q < M.length := by omega
        rw [add0, hcell, ← hu]
        rcases (by omega : b = 0 ∨ b = 1) with rfl | rfl
        · simp only [Nat.add_zero]
          rw [(h5 q hq).1, (encPs_at hq).1]
        · rw [(h5 q hq).2, (encPs_at hq).2]
      obtain ⟨v', w', hrun, r1, r2⟩ := run_append_arg_grows (P := Try.prog) w 29 o.type 28 ti (.agg #[.int .i64 0, .int .i64 0]) 2 16 Try.underlying29 t1 t2 t3 t4 rfl (by decide) ⟨g, 0, none⟩ M.length cap (encPs M) (encPs_len' M) hold ⟨N, 0, none⟩ 1 1 [.int .i64 (p.1 : Int), .int .i64 (p.2 : Int)] rfl hnew (by omega) (by unfold maxLen; omega) (by omega)
      unfold Oper.wp
      simp only [execOp, hop, resolve, invoke, builtin, Sem.run_bind, Sem.run_pure, Result.andThen_ok, List.map_toArray, List.map_cons, List.map_nil, hs, hx, hrun]
      exact hK v' w' (pr_of_row (base := w.heap.size) (by rw [encPs_app, List.length_append]; exact r1)) (fun g hg => .inr (r1.lt g hg).1) ⟨r2.os, r2.tape, r2.output, r2.size, fun k hk _ => r2.block k hk (by simp)⟩
/-- the marks beside the book -/
structure Ms (n0 : Nat) (wr : World) (F : Nat → Prop) (Mb : Nat) (v : Value) (M : List (Nat × Nat)) : Prop where
  at_ : wr.heap[Mb]? = some (.cells #[v] 65 (0, 0))
  pr : PR wr v M
  lo : n0 ≤ Mb
  nf : ¬ F Mb
  vb : ∀ g, v.ownBlock = some g → n0 ≤ g ∧ ¬ F g ∧ g ≠ Mb
section
variable {n0 : Nat} {w w' : World} {F F' : Nat → Prop} {Mb B : Nat} {v v' : Value} {M M' : List (Nat × Nat)} {bk : List (Option Lst)}
theorem Ms.lt (h : Ms n0 w F Mb v M) : Mb < w.heap.size := (Array.getElem?_eq_some_iff.1 h.at_).1
theorem Ms.ext (h : Ms n0 w F Mb v M) (hE : Ext F w F' w') : Ms n0 w' F' Mb v M := by
  have hnew : ∀ b, b < w.heap.size → ¬ F b → ¬ F' b := fun b hb hf hf' => by
    rcases hE.new b hf' with h1 | h1
    · exact hf h1
    · omega
  exact ⟨(hE.mod.block Mb h.lt h.nf).trans h.at_, h.pr.keep (fun g hg => hE.mod.block g (h.pr.lt g hg) (h.vb g hg).2.1), h.lo, hnew _ h.lt h.nf, fun g hg => ⟨(h.vb g hg).1, hnew _ (h.pr.lt g hg) (h.vb g hg).2.1, (h.vb g hg).2.2⟩⟩
theorem Ms.mr (h : Ms n0 w F Mb v M) (hB : Book w F B bk) (hn : n0 ≤ w.heap.size) (hm : Mr w w' Mb v v' M') : Ms n0 w' F Mb v' M' ∧ Book w' F B bk := by
  refine ⟨⟨hm.at_, hm.pr, h.lo, h.nf, fun g hg => ?_⟩, hB.keep hm.mod.size (fun b hb => hm.mod.block b (hB.lt b hb) (fun e => h.nf (by rw [← e]; exact hb)))⟩
  rcases hm.from_ g hg with h1 | h1
  · exact h.vb g h1
  · exact ⟨Nat.le_trans hn h1, fun hf => by have := hB.lt g hf; omega, fun e => by have := h.lt; omega⟩
/-- what follow may touch -/
structure Fr (w : World) (F : Nat → Prop) (Mb : Nat) (v : Value) (w' : World) (F' : Nat → Prop) : Prop where
  mod : Mod (fun b => F b ∨ b = Mb ∨ v.ownBlock = some b) w w'
  new : ∀ b, F' b → F b ∨ w.heap.size ≤ b
theorem Fr.of_ext (hE : Ext F w F' w') : Fr w F Mb v w' F' :=
  ⟨⟨hE.mod.os, hE.mod.tape, hE.mod.output, hE.mod.size, fun b hb hf => hE.mod.block b hb (fun h => hf (.inl h))⟩, hE.new⟩
theorem Fr.mr {w1 w2 : World} {F1 : Nat → Prop} {v1 : Value} (h : Fr w F Mb v w1 F1) (hm : Mr w1 w2 Mb v1 v' M') : Fr w F Mb v w2 F1 := by
  refine ⟨⟨hm.mod.os.trans h.mod.os, hm.mod.tape.trans h.mod.tape, hm.mod.output.trans h.mod.output, Nat.le_trans h.mod.size hm.mod.size, fun b hb hf => (hm.mod.block b (Nat.lt_of_lt_of_le hb h.mod.size) (fun e => hf (.inr (.inl e)))).trans (h.mod.block b hb hf)⟩, h.new⟩
theorem Fr.below {w1 w2 : World} {F1 : Nat → Prop} (h : Fr w F Mb v w1 F1) (hb : Below w1.heap.size w1 w2) : Fr w F Mb v w2 F1 :=
  ⟨⟨hb.os.trans h.mod.os, hb.tape.trans h.mod.tape, hb.output.trans h.mod.output, Nat.le_trans h.mod.size hb.size, fun b hlt hf => (hb.block b (Nat.lt_of_lt_of_le hlt h.mod.size)).trans (h.mod.block b hlt hf)⟩, h.new⟩
end
end Go.Proofs.Ytimfgjndgfjjgaa
