import Derived.Test.YteacmcdmdeckmaaGreatX1
import Derived.Deep.RegionHeld
namespace Go.Proofs.YteacmcdmdeckmaaGreat
open Go.RowKit Go.Shelf

section
variable {P : Program} {ops : Array Oper} {Q : Exit → Act → World → Prop} {S : World → Prop} {fuel : Nat} {listed : Array Bool} {a : Act} {w : World}
/-- the one operation that may come up -/
theorem hd_call (i : Nat) {o : Oper} (hr : Region.ready .any ops listed = [i]) (ho : ops[i]? = some o) (hw : Region.wanted o (yielded ops a.tmps) = true)
    (h : ∀ K : Act → World → Prop, (∀ a w, S w → wpAnyH P .any ops Q S fuel (listed.setIfInBounds i true) a w → K a w) → Oper.wp P o a w K Q) : wpAnyH P .any ops Q S (fuel + 1) listed a w := by
  refine wpAnyH_ready hr (by simp) (AllReadyH.cons ho (fun K hK => ?_) AllReadyH.nil)
  rw [if_pos hw]
  exact h K (fun a w hS hh => hK.out a w hS (fun _ => hh))
/-- what yields in whatever world that meets S -/
theorem hd_take (i : Nat) {o : Oper} (v : Value) (hs : Region.noSelect ops = true) (hf : Region.free .any ops listed i = true) (hr : (Region.ready .any ops listed).contains i = true) (ho : ops[i]? = some o) (hw : Region.wanted o (yielded ops a.tmps) = true)
    (hy : ∀ w, S w → (execOp a.eval o).run P w = .ok (.value v) w)
    (hQ : ∀ c a w, Q (.panic c) (a.put o.dst v) w → Q (.panic c) a w) (h0 : S w) (h : wpAnyH P .any ops Q S fuel (listed.setIfInBounds i true) (a.put o.dst v) w) : wpAnyH P .any ops Q S (fuel + 1) listed a w :=
  wpAnyH_take ho hs hf hr hQ (Or.inl ⟨hw, hy⟩) h0 h
/-- append to a row of the call's own, as one operation -/
theorem wp_append_at {o : Oper} {K : Act → World → Prop}
    (s x : Operand) (t : TypeId) (hop : o.op = Op.call { callee := Callee.builtin Builtin.append, args := #[s, x], argTypes := #[t, t] })
    (base : Nat) (e : TypeId) (i : TypeInfo) (z : Value) (size bytes : Nat) (h1 : P.underlying t = some (.slice e)) (h2 : P.info? e = some i) (h3 : i.zero = some z) (h4 : i.size = size) (h5 : i.bytes = bytes) (h6 : z.cells.size = size) (h7 : 0 < size)
    (v : Value) (n : Nat) (xs : List Value) (hs : a.eval s = v) (hown : w.ownsRow base e size v n xs)
    (ad : Addr) (m c : Nat) (news : List Value) (hx : a.eval x = .slice (some ad) m c) (hn : news.length = m * size) (hc : ∀ j u, news[j]? = some u → w.cell? (ad.add j) = some u) (h1c : ∀ u ∈ news, u.oneCell' = true)
    (b1 : n + m ≤ maxLen) (b2 : (n + m) * bytes ≤ 140737488355328) (hbase : base ≤ w.heap.size)
    (hK : ∀ v' w', w'.ownsRow base e size v' (n + m) (xs ++ news) → w.grownBy w' v.ownBlock → (v'.ownBlock = v.ownBlock ∨ v'.ownBlock = some w.heap.size) → K (a.put o.dst v') w') : Oper.wp P o a w K Q := by
  obtain ⟨v', w', hr, r2, r3, _, r5⟩ := run_append_own_at (P := P) w base t o.type e i z size bytes h1 h2 h3 h4 h5 h6 h7 v n xs hown ad m c news hn hc h1c b1 b2 hbase
  unfold Oper.wp execOp
  simp only [hop, resolve, invoke, builtin, Sem.run_bind, Sem.run_pure, Result.andThen_ok, List.map_toArray, List.map_cons, List.map_nil, hs, hx, hr]
  exact hK v' w' r2 r3 r5
end
theorem ext_own {F F' : Nat → Prop} {a w w1 : World} (h : Ext F a F' w) {e : TypeId} {s k : Nat} {v : Value} {xs : List Value} (ho : w.ownsRow a.heap.size e s v k xs) (hg : w.grownBy w1 v.ownBlock) : Ext F a F' w1 :=
  ⟨⟨hg.os.trans h.mod.os, hg.tape.trans h.mod.tape, hg.output.trans h.mod.output, Nat.le_trans h.mod.size hg.size, fun b hb hf => (hg.block b (by have := h.mod.size; omega) (fun e => by have := (ho.lt b e.symm).1; omega)).trans (h.mod.block b hb hf)⟩, h.new⟩
theorem book_own {w w1 : World} {F : Nat → Prop} {B n : Nat} {bk : List (Option Lst)} (h : Book w F B bk) (hF : ∀ x, F x → x < n) {e : TypeId} {s k : Nat} {v : Value} {xs : List Value} (ho : w.ownsRow n e s v k xs) (hg : w.grownBy w1 v.ownBlock) : Book w1 F B bk :=
  h.keep hg.size (fun b hb => hg.block b (h.lt b hb) (fun e => by have := (ho.lt b e.symm).1; have := hF b hb; omega))
/-- a book without these -/
def rmv (bk : List (Option Lst)) (ps : List (Nat × Nat)) : List (Option Lst) := ps.foldl (fun b p => setAt b p.1 p.2 none) bk
theorem rmv_snoc (bk : List (Option Lst)) (ps : List (Nat × Nat)) (p : Nat × Nat) : rmv bk (ps ++ [p]) = setAt (rmv bk ps) p.1 p.2 none := by simp [rmv]
theorem rmv_at : ∀ (ps : List (Nat × Nat)) (bk : List (Option Lst)), ps.Nodup → (∀ p ∈ ps, ∃ r, atB bk (p.1 : Int) (p.2 : Int) = some r) → Shape bk (rmv bk ps) ∧ ∀ a b : Nat, atB (rmv bk ps) (a : Int) (b : Int) = if (a, b) ∈ ps then none else atB bk (a : Int) (b : Int)
  | [], bk, _, _ => ⟨Shape.refl _, fun a b => by simp [rmv]⟩
  | p :: ps, bk, hnd, hex => by
    obtain ⟨r, hr⟩ := hex p (by simp)
    obtain ⟨i', j', l, ei, ej, hl, hlj, hlf⟩ := atB_some hr
    have e1 : p.1 = i' := by omega
    have e2 : p.2 = j' := by omega
    have hs := atB_setAt (o := none) hl (List.getElem?_eq_some_iff.1 hlj).1
    rw [← e1, ← e2] at hs
    rw [← e1] at hl
    obtain ⟨hn1, hn2⟩ := List.nodup_cons.1 hnd
    obtain ⟨q1, q2⟩ := rmv_at ps (setAt bk p.1 p.2 none) hn2 (fun q hq => by
      obtain ⟨rq, hrq⟩ := hex q (by simp [hq])
      refine ⟨rq, ?_⟩
      rw [hs, if_neg (fun e => hn1 (by rw [show p = q from Prod.ext e.1.symm e.2.symm]; exact hq))]
      exact hrq)
    refine ⟨(shape_setAt hl).trans q1, fun a b => ?_⟩
    show atB (rmv (setAt bk p.1 p.2 none) ps) _ _ = _
    rw [q2, hs]
    by_cases h : (a, b) ∈ ps
    · simp [h]
    · simp only [h, if_false, List.mem_cons, or_false]
      by_cases h2 : a = p.1 ∧ b = p.2
      · rw [if_pos h2, if_pos (Prod.ext h2.1 h2.2)]
      · rw [if_neg h2, if_neg (fun e => h2 ⟨congrArg Prod.fst e, congrArg Prod.snd e⟩)]
/-- what is told of them -/
def encT (bk : List (Option Lst)) (ps : List (Nat × Nat)) : List Value := ps.flatMap (fun p => match atB bk (p.1 : Int) (p.2 : Int) with | some r => encH (p.1 : Int) (p.2, r) | none => [])
theorem encT_snoc {bk : List (Option Lst)} {p : Nat × Nat} {r : Rc} (ps : List (Nat × Nat)) (h : atB bk (p.1 : Int) (p.2 : Int) = some r) : encT bk (ps ++ [p]) = encT bk ps ++ [.int .i64 (p.1 : Int), .int .i64 (p.2 : Int), .int .i64 r.k, .int .i64 r.o, .int .i64 r.s, .int .i64 r.r] := by
  simp [encT, h, encH]
theorem take_next {ps : List (Nat × Nat)} {k : Nat} (h : k < ps.length) : ps.take (k + 1) = ps.take k ++ [ps[k]] := by rw [List.take_add_one, List.getElem?_eq_getElem h]; rfl
set_option maxRecDepth 8000 in
set_option maxHeartbeats 8000000 in
theorem take_any (w : World) (F : Nat → Prop) (B : Nat) (bk : List (Option Lst)) (h : Book w F B bk) (ps : List (Nat × Nat)) (hnd : ps.Nodup) (hex : ∀ p ∈ ps, ∃ r, atB bk (p.1 : Int) (p.2 : Int) = some r) (hle : ps.length ≤ 768) (n0 : Nat) (v : Value) (hrow : w.ownsRow n0 48 2 v ps.length (encPs ps)) (hF : ∀ x, F x → x < n0) :
    Calls Tryz.prog 86 #[.pointer (some ⟨B, 0, none⟩), v] w fun x w' => ∃ v', x = .returned v' ∧ w'.ownsRow w.heap.size 78 6 v' ps.length (encT bk ps) ∧ Book w' F B (rmv bk ps) ∧ Ext F w F w' := by
  obtain ⟨i54, hi, hz, hs, hb⟩ := info54'
  obtain ⟨a5, c5, rfl⟩ := own_shape hrow
  have HRow := hide hrow
  have HBk := hide h
  have HEx := hide hex
  have HNd := hide hnd
  have HFl := hide hF
  clear h hrow hex hnd hF
  go_enter Tryz.func86, Tryz.ntmps86
  go_wp2_with fail
  go_loopw [5, 10] (fun u x wr => ∃ (k : Nat), k ≤ ps.length ∧ x = .int .i64 (k : Int) ∧ Hid (Book wr F B (rmv bk (ps.take k))) ∧ Hid (Ext F w F wr) ∧ Hid (wr.ownsRow w.heap.size 78 6 u k (encT bk (ps.take k)))) (fun _ x _ => ps.length - (intOf x).toNat)
  case atStart => exact ⟨0, by omega, rfl, HBk, Ext.refl _ _, ⟨rfl, .inl ⟨rfl, rfl⟩⟩⟩
  case round =>
  obtain ⟨k, hk, rfl, K1, K2, K3⟩ := hrel
  obtain ⟨au, cu, rfl⟩ := own_shape K3.out
  by_cases hlt : k < ps.length
  · obtain ⟨r, hr⟩ := HEx.out ps[k] (List.getElem_mem hlt)
    obtain ⟨gq, rfl, hcq⟩ : ∃ gq, a5 = some ⟨gq, 0, none⟩ ∧ wr.cell? ⟨gq, k * 2, none⟩ = some (.int .i64 ((ps[k].1 : Nat) : Int)) ∧ wr.cell? ⟨gq, k * 2 + 1, none⟩ = some (.int .i64 ((ps[k].2 : Nat) : Int)) := by
      obtain ⟨_, ⟨h0, h00⟩ | ⟨g0, cap, cur, hv0, hgb, hg0, _⟩⟩ := HRow.out
      · omega
      · cases hv0
        have hkeep := K2.out.mod.block g0 (Array.getElem?_eq_some_iff.1 hg0).1 (fun hf => by have := HFl.out g0 hf; omega)
        have hw : wr.ownsRow n0 48 2 (.slice (some ⟨g0, 0, none⟩) ps.length c5) ps.length (encPs ps) := by
          obtain ⟨q1, ⟨h0, h00⟩ | ⟨g1, cap1, cur1, hv1, hgb1, hg1, hr1⟩⟩ := HRow.out
          · cases h0
          · cases hv1
            exact ⟨q1, .inr ⟨g0, c5, cur1, rfl, hgb1, hkeep.trans hg1, hr1⟩⟩
        refine ⟨g0, rfl, ?_, ?_⟩
        · rw [hw.cellAt (k * 2) (by omega)]; exact (encPs_at hlt).1
        · rw [hw.cellAt (k * 2 + 1) (by omega)]; exact (encPs_at hlt).2
    have HAt : Hid (atB (rmv bk (ps.take k)) ((ps[k].1 : Nat) : Int) ((ps[k].2 : Nat) : Int) = some r) := by
      show _ = _
      have hnd2 : (ps.take k ++ ps.drop k).Nodup := by rw [List.take_append_drop]; exact HNd.out
      rw [(rmv_at (ps.take k) bk (List.nodup_append.1 hnd2).1 (fun p hp => HEx.out p (List.mem_of_mem_take hp))).2, if_neg]
      · exact hr
      · intro hin
        have hd : ps[k] ∈ ps.drop k := by rw [List.drop_eq_getElem_cons hlt]; exact List.mem_cons_self
        exact (List.nodup_append.1 hnd2).2.2 _ hin _ hd rfl
    have HT := hide (encT_snoc (ps.take k) hr)
    have HR2 := hide (rmv_snoc bk (ps.take k) ps[k])
    rw [← take_next hlt] at HT HR2
    clear hr
    generalize ps[k].1 = pi at *
    generalize ps[k].2 = pj at *
    obtain ⟨cq0, cq1⟩ := hcq
    have hkl : (k : Int) < (ps.length : Int) := by omega
    have hwk : k * 2 + 1 < ps.length * 2 := by omega
    go_upto_region 5 with fail
    have hb6 := (Below.refl wr.heap.size wr).alloc (Nat.le_refl _) (.cells #[.int .i64 (pi : Int), .int .i64 (pj : Int)] 48)
    have hN6 := heap_alloc_new wr (.cells #[.int .i64 (pi : Int), .int .i64 (pj : Int)] 48)
    generalize wr.alloc (.cells #[.int .i64 (pi : Int), .int .i64 (pj : Int)] 48) = w6 at *
    have HBk6 := hide (K1.out.below hb6.drew)
    have HE6 := hide (K2.out.trans (Ext.of_below hb6.drew))
    have HK6 : Hid (w6.drew.ownsRow w.heap.size 78 6 (.slice au k cu) k (encT bk (ps.take k)) ∧ ∀ g, au.map (·.block) = some g → g < wr.heap.size) := by
      refine hide ?_
      obtain ⟨q1, ⟨h0, h00⟩ | ⟨g1, cap1, cur1, hv1, hgb1, hg1, hr1⟩⟩ := K3.out
      · cases h0
        exact ⟨⟨q1, .inl ⟨rfl, h00⟩⟩, fun g e => by cases e⟩
      · have hlt1 := (Array.getElem?_eq_some_iff.1 hg1).1
        cases hv1
        refine ⟨⟨q1, .inr ⟨g1, cu, cur1, rfl, hgb1, (hb6.drew.block g1 hlt1).trans hg1, hr1⟩⟩, fun g e => by cases e; exact hlt1⟩
    have HFw : Hid (∀ x, F x → x < wr.heap.size) := hide (fun x hx => K1.out.lt x hx)
    have HN6 : Hid (w6.drew.heap[wr.heap.size]? = some (.cells #[.int .i64 (pi : Int), .int .i64 (pj : Int)] 48 (0, 0))) := hN6
    clear hb6 hN6 cq0 cq1 K1 K2 K3
    generalize hnw : wr.heap.size = nw at *
    have hSof : ∀ W : World, W.heap[nw]? = some (.cells #[.int .i64 (pi : Int), .int .i64 (pj : Int)] 48 (0, 0)) → W.cell? ⟨nw, 0, none⟩ = some (.int .i64 (pi : Int)) ∧ W.cell? ⟨nw, 1, none⟩ = some (.int .i64 (pj : Int)) := fun W hW => ⟨(blk2 hW).1, (blk2 hW).2.1⟩
    have HSof := hide hSof
    clear hSof
    refine wp_region_held_drew (S := fun W => W.cell? ⟨nw, 0, none⟩ = some (.int .i64 (pi : Int)) ∧ W.cell? ⟨nw, 1, none⟩ = some (.int .i64 (pj : Int))) (by kernel_rfl) (HSof.out _ HN6.out) (fun hHeld => ?_)
    refine hd_take 0 (o := ⟨some 14, _, _, _, _, _⟩) (.slice au k cu) (by kernel_rfl) (by kernel_rfl) (by kernel_rfl) rfl (by rfl) (fun W hSw => by go_simp) (fun _ _ _ h => h) hHeld ?_
    simp only [Act.put, List.setIfInBounds_toArray, List.set_cons_zero, List.set_cons_succ]
    refine hd_take 1 (o := ⟨some 15, _, _, _, _, _⟩) (.pointer (some ⟨nw, 0, none⟩)) (by kernel_rfl) (by kernel_rfl) (by kernel_rfl) rfl (by rfl) (fun W hSw => by go_simp) (fun _ _ _ h => h) hHeld ?_
    simp only [Act.put, List.setIfInBounds_toArray, List.set_cons_zero, List.set_cons_succ]
    refine hd_take 2 (o := ⟨some 16, _, _, _, _, _⟩) (.int .i64 (pi : Int)) (by kernel_rfl) (by kernel_rfl) (by kernel_rfl) rfl (by rfl) (fun W hSw => by obtain ⟨s0, s1⟩ := hSw; go_simp) (fun _ _ _ h => h) hHeld ?_
    simp only [Act.put, List.setIfInBounds_toArray, List.set_cons_zero, List.set_cons_succ]
    refine hd_take 3 (o := ⟨some 17, _, _, _, _, _⟩) (.pointer (some ⟨nw, 1, none⟩)) (by kernel_rfl) (by kernel_rfl) (by kernel_rfl) rfl (by rfl) (fun W hSw => by go_simp) (fun _ _ _ h => h) hHeld ?_
    simp only [Act.put, List.setIfInBounds_toArray, List.set_cons_zero, List.set_cons_succ]
    refine hd_take 4 (o := ⟨some 18, _, _, _, _, _⟩) (.int .i64 (pj : Int)) (by kernel_rfl) (by kernel_rfl) (by kernel_rfl) rfl (by rfl) (fun W hSw => by obtain ⟨s0, s1⟩ := hSw; go_simp) (fun _ _ _ h => h) hHeld ?_
    simp only [Act.put, List.setIfInBounds_toArray, List.set_cons_zero, List.set_cons_succ]
    refine hd_take 5 (o := ⟨some 19, _, _, _, _, _⟩) (.pointer (some ⟨B, 0, none⟩)) (by kernel_rfl) (by kernel_rfl) (by kernel_rfl) rfl (by rfl) (fun W hSw => by go_simp) (fun _ _ _ h => h) hHeld ?_
    simp only [Act.put, List.setIfInBounds_toArray, List.set_cons_zero, List.set_cons_succ]
    refine hd_take 6 (o := ⟨some 20, _, _, _, _, _⟩) (.agg #[.int .i64 (pi : Int), .int .i64 (pj : Int)]) (by kernel_rfl) (by kernel_rfl) (by kernel_rfl) rfl (by rfl) (fun W hSw => by obtain ⟨s0, s1⟩ := hSw; go_simp) (fun _ _ _ h => h) hHeld ?_
    simp only [Act.put, List.setIfInBounds_toArray, List.set_cons_zero, List.set_cons_succ]
    refine hd_call 7 (o := ⟨some 21, _, _, _, _, _⟩) (by kernel_rfl) rfl (by rfl) (fun K hK => ?_)
    go_simp
    go_wp2_with (go_at_call 93; refine (remove_any w6.drew F B _ HBk6.out pi pj r HAt.out).mono ?_; rintro e1 w7 ⟨rfl, hB7, hE7⟩)
    have hN7 : w7.heap[nw]? = some (.cells #[.int .i64 (pi : Int), .int .i64 (pj : Int)] 48 (0, 0)) := (hE7.mod.block nw (Array.getElem?_eq_some_iff.1 HN6.out).1 (fun hf => by have := HFw.out nw hf; omega)).trans HN6.out
    have hS7 := HSof.out _ hN7
    have HB7 := hide hB7
    have HE7 := hide (HE6.out.trans hE7)
    have HK7 : Hid (w7.ownsRow w.heap.size 78 6 (.slice au k cu) k (encT bk (ps.take k))) := by
      refine hide ?_
      obtain ⟨q1, ⟨h0, h00⟩ | ⟨g1, cap1, cur1, hv1, hgb1, hg1, hr1⟩⟩ := HK6.out.1
      · exact ⟨q1, .inl ⟨h0, h00⟩⟩
      · refine ⟨q1, .inr ⟨g1, cap1, cur1, hv1, hgb1, ?_, hr1⟩⟩
        rw [hE7.mod.block g1 (Array.getElem?_eq_some_iff.1 hg1).1 (fun hf => by have := HBk.out.lt g1 hf; omega)]
        exact hg1
    clear hHeld hB7 hE7
    refine hK _ _ hS7 ?_
    clear hK K
    simp only [Rc.val]
    refine hd_take 8 (o := ⟨some 22, _, _, _, _, _⟩) (.agg #[.int .i64 r.k, .int .i64 r.o, .int .i64 r.s, .int .i64 r.r]) (by kernel_rfl) (by kernel_rfl) (by kernel_rfl) rfl (by rfl) (fun W hSw => by go_simp; kernel_rfl) (fun _ _ _ h => h) hS7 ?_
    simp only [Act.put, List.setIfInBounds_toArray, List.set_cons_zero, List.set_cons_succ]
    refine hd_take 9 (o := ⟨some 23, _, _, _, _, _⟩) (.agg #[.int .i64 (pi : Int), .int .i64 (pj : Int), .int .i64 r.k, .int .i64 r.o, .int .i64 r.s, .int .i64 r.r]) (by kernel_rfl) (by kernel_rfl) (by kernel_rfl) rfl (by rfl) (fun W hSw => by go_simp) (fun _ _ _ h => h) hS7 ?_
    simp only [Act.put, List.setIfInBounds_toArray, List.set_cons_zero, List.set_cons_succ]
    refine hd_call 10 (o := ⟨some 24, _, _, _, _, _⟩) (by kernel_rfl) rfl (by rfl) (fun K hK => ?_)
    go_simp
    refine hK _ _ (HSof.out _ ((Below.heap_alloc _ _ _ (Array.getElem?_eq_some_iff.1 hN7).1).trans hN7)) ?_
    clear hK K
    refine hd_call 11 (o := ⟨some 25, _, _, _, _, _⟩) (by kernel_rfl) rfl (by rfl) (fun K hK => ?_)
    refine wp_append_at (.tmp 14) (.tmp 24) 52 rfl w.heap.size 78 i54 (.agg #[.int .i64 0, .int .i64 0, .int .i64 0, .int .i64 0, .int .i64 0, .int .i64 0]) 6 48 Tryz.underlying52 hi hz hs hb rfl (by decide) (.slice au k cu) k (encT bk (ps.take k)) (by simp [Act.eval]) (HK7.out.alloc _) ⟨w7.heap.size, 0, none⟩ 1 1 [.int .i64 (pi : Int), .int .i64 (pj : Int), .int .i64 r.k, .int .i64 r.o, .int .i64 r.s, .int .i64 r.r] (by simp [Act.eval]) rfl (cell_six_new _ _ _ _ _ _ _ _) (by simp [Value.oneCell']) (by unfold maxLen; omega) (by omega) (by have := HE7.out.mod.size; simp; omega) ?_
    intro v8 w8 ho8 hg8 hl8
    have hN8 : w8.heap[nw]? = some (.cells #[.int .i64 (pi : Int), .int .i64 (pj : Int)] 48 (0, 0)) := by
      rw [hg8.block nw (by have := (Array.getElem?_eq_some_iff.1 hN7).1; simp; omega) (fun e => ?_), Below.heap_alloc _ _ _ (Array.getElem?_eq_some_iff.1 hN7).1]
      · exact hN7
      · cases au with
        | none => cases e
        | some x => have := HK6.out.2 x.block rfl; cases e; omega
    have HB8 : Hid (Book w8 F B (rmv bk (ps.take (k + 1)))) := by
      refine hide ?_
      rw [HR2.out]
      exact book_own (HB7.out.below ((Below.refl _ _).alloc (Nat.le_refl _) _)) (fun x hx => HBk.out.lt x hx) (HK7.out.alloc _) hg8
    have HE8 : Hid (Ext F w F w8) := hide (ext_own (HE7.out.trans (Ext.of_below ((Below.refl _ _).alloc (Nat.le_refl _) _))) (HK7.out.alloc _) hg8)
    have HO8 : Hid (w8.ownsRow w.heap.size 78 6 v8 (k + 1) (encT bk (ps.take (k + 1)))) := by
      refine hide ?_
      rw [HT.out]
      exact ho8
    refine hK _ _ (HSof.out _ hN8) ?_
    clear hK K ho8 hg8 hl8
    simp only [Act.put, List.setIfInBounds_toArray, List.set_cons_zero, List.set_cons_succ]
    refine hd_take 12 (o := ⟨some 5, _, _, _, _, _⟩) (v8) (by kernel_rfl) (by kernel_rfl) (by kernel_rfl) rfl (by rfl) (fun W hSw => by go_simp) (fun _ _ _ h => h) (HSof.out _ hN8) ?_
    simp only [Act.put, List.setIfInBounds_toArray, List.set_cons_zero, List.set_cons_succ]
    refine wpAnyH_done (by kernel_rfl) ?_ _
    clear hS7 hN7 hN8 HN6 HSof HT HR2 HAt HK7 HB7 HE7 HK6 HBk6 HE6 HFw
    go_wp2
    go_roundw
    case rel =>
      first
        | exact ⟨k + 1, by omega, by go_num, HB8, HE8, HO8⟩
        | ((repeat apply Exists.intro); refine ⟨?_, rfl⟩; exact ⟨k + 1, by omega, by go_num, HB8, HE8, HO8⟩)
    case measure => simp [intOf]; omega
  · have hd : decide ((k : Int) < (ps.length : Int)) = false := by simp; omega
    have hd2 : decide (k < ps.length) = false := by simp; omega
    have e : k = ps.length := by omega
    have K4 : Hid (Book wr F B (rmv bk ps)) := by have h9 := K1.out; rw [e, List.take_length] at h9; exact hide h9
    have K5 : Hid (wr.ownsRow w.heap.size 78 6 (.slice au k cu) ps.length (encT bk ps)) := by
      have h9 := K3.out
      refine hide ?_
      rw [show encT bk ps = encT bk (ps.take k) by rw [e, List.take_length], ← e]
      exact h9
    clear e
    go_wp2
    go_ret
    exact ⟨_, rfl, K5.out, K4.out, K2.out⟩
end Go.Proofs.YteacmcdmdeckmaaGreat
