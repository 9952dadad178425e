import Derived.Deep.RegionHeld
import Derived.Sort.Grow
import Derived.Deep.DeepCutAuto
import Derived.Shelf.GgSortFunc.InsertionK
import Derived.Test.YtimfgjndgfjjgaaMC
namespace Go.Proofs.Ytimfgjndgfjjgaa
open Go.RowKit Go.Shelf

section
variable {P : Program} {ops : Array Oper} {Q : Exit → Act → World → Prop} {S : World → Prop} {fuel : Nat} {listed : Array Bool} {a : Act} {w : World}
/-- the one operation that may come up -/
theorem hd_call (i : Nat) {o : Oper} (hr : Region.ready .any ops listed = [i]) (ho : ops[i]? = some o) (hw : Region.wanted o (yielded ops a.tmps) = true)
    (h : ∀ K : Act → World → Prop, (∀ a w, S w → wpAnyH P .any ops Q S fuel (listed.setIfInBounds i true) a w → K a w) → Oper.wp P o a w K Q) : wpAnyH P .any ops Q S (fuel + 1) listed a w := by
  refine wpAnyH_ready hr (by simp) (AllReadyH.cons ho (fun K hK => ?_) AllReadyH.nil)
  rw [if_pos hw]
  exact h K (fun a w hS hh => hK.out a w hS (fun _ => hh))
/-- what yields in whatever world that meets S -/
theorem hd_take (i : Nat) {o : Oper} (v : Value) (hs : Region.noSelect ops = true) (hf : Region.free .any ops listed i = true) (hr : (Region.ready .any ops listed).contains i = true) (ho : ops[i]? = some o) (hw : Region.wanted o (yielded ops a.tmps) = true)
    (hy : ∀ w, S w → (execOp a.eval o).run P w = .ok (.value v) w)
    (hQ : ∀ c a w, Q (.panic c) (a.put o.dst v) w → Q (.panic c) a w) (h0 : S w) (h : wpAnyH P .any ops Q S fuel (listed.setIfInBounds i true) (a.put o.dst v) w) : wpAnyH P .any ops Q S (fuel + 1) listed a w :=
  wpAnyH_take ho hs hf hr hQ (Or.inl ⟨hw, hy⟩) h0 h
/-- append to a row of the call's own, as one operation -/
theorem wp_append_at {o : Oper} {K : Act → World → Prop}
    (s x : Operand) (t : TypeId) (hop : o.op = Op.call { callee := Callee.builtin Builtin.append, args := #[s, x], argTypes := #[t, t] })
    (base : Nat) (e : TypeId) (i : TypeInfo) (z : Value) (size bytes : Nat) (h1 : P.underlying t = some (.slice e)) (h2 : P.info? e = some i) (h3 : i.zero = some z) (h4 : i.size = size) (h5 : i.bytes = bytes) (h6 : z.cells.size = size) (h7 : 0 < size)
    (v : Value) (n : Nat) (xs : List Value) (hs : a.eval s = v) (hown : w.ownsRow base e size v n xs)
    (ad : Addr) (m c : Nat) (news : List Value) (hx : a.eval x = .slice (some ad) m c) (hn : news.length = m * size) (hc : ∀ j u, news[j]? = some u → w.cell? (ad.add j) = some u) (h1c : ∀ u ∈ news, u.oneCell' = true)
    (b1 : n + m ≤ maxLen) (b2 : (n + m) * bytes ≤ 140737488355328) (hbase : base ≤ w.heap.size)
    (hK : ∀ v' w', w'.ownsRow base e size v' (n + m) (xs ++ news) → w.grownBy w' v.ownBlock → (v'.ownBlock = v.ownBlock ∨ v'.ownBlock = some w.heap.size) → K (a.put o.dst v') w') : Oper.wp P o a w K Q := by
  obtain ⟨v', w', hr, r2, r3, _, r5⟩ := run_append_own_at (P := P) w base t o.type e i z size bytes h1 h2 h3 h4 h5 h6 h7 v n xs hown ad m c news hn hc h1c b1 b2 hbase
  unfold Oper.wp execOp
  simp only [hop, resolve, invoke, builtin, Sem.run_bind, Sem.run_pure, Result.andThen_ok, List.map_toArray, List.map_cons, List.map_nil, hs, hx, hr]
  exact hK v' w' r2 r3 r5
end
theorem ext_own {F F' : Nat → Prop} {a w w1 : World} (h : Ext F a F' w) {e : TypeId} {s k : Nat} {v : Value} {xs : List Value} (ho : w.ownsRow a.heap.size e s v k xs) (hg : w.grownBy w1 v.ownBlock) : Ext F a F' w1 :=
  ⟨⟨hg.os.trans h.mod.os, hg.tape.trans h.mod.tape, hg.output.trans h.mod.output, Nat.le_trans h.mod.size hg.size, fun b hb hf => (hg.block b (by have := h.mod.size; omega) (fun e => by have := (ho.lt b e.symm).1; omega)).trans (h.mod.block b hb hf)⟩, h.new⟩
theorem book_own {w w1 : World} {F : Nat → Prop} {B n : Nat} {bk : List (Option Lst)} (h : Book w F B bk) (hF : ∀ x, F x → x < n) {e : TypeId} {s k : Nat} {v : Value} {xs : List Value} (ho : w.ownsRow n e s v k xs) (hg : w.grownBy w1 v.ownBlock) : Book w1 F B bk :=
  h.keep hg.size (fun b hb => hg.block b (h.lt b hb) (fun e => by have := (ho.lt b e.symm).1; have := hF b hb; omega))
/-- a book without these -/
def rmv (bk : List (Option Lst)) (ps : List (Nat × Nat)) : List (Option Lst) := ps.foldl (fun b p => setAt b p.1 p.2 none) bk
theorem rmv_snoc (bk : List (Option Lst)) (ps : List (Nat × Nat)) (p : Nat × Nat) : rmv bk (ps ++ [p]) = setAt (rmv bk ps) p.1 p.2 none := by simp [rmv]
theorem rmv_at : ∀ (ps : List (Nat × Nat)) (bk : List (Option Lst)), ps.Nodup → (∀ p ∈ ps, ∃ r, atB bk (p.1 : Int) (p.2 : Int) = some r) → Shape bk (rmv bk ps) ∧ ∀ a b : Nat, atB (rmv bk ps) (a : Int) (b : Int) = if (a, b) ∈ ps then none else atB bk (a : Int) (b : Int)
  | [], bk, _, _ => ⟨Shape.refl _, fun a b => by simp [rmv]⟩
  | p :: ps, bk, hnd, hex => by
    obtain ⟨r, hr⟩ := hex p (by simp)
    obtain ⟨i', j', l, ei, ej, hl, hlj, hlf⟩ := atB_some hr
    have e1 : p.1 = i' := by omega
    have e2 : p.2 = j' := by omega
    have hs := atB_setAt (o := none) hl (List.getElem?_eq_some_iff.1 hlj).1
    rw [← e1, ← e2] at hs
    rw [← e1] at hl
    obtain ⟨hn1, hn2⟩ := List.nodup_cons.1 hnd
    obtain ⟨q1, q2⟩ := rmv_at ps (setAt bk p.1 p.2 none) hn2 (fun q hq => by
      obtain ⟨rq, hrq⟩ := hex q (by simp [hq])
      refine ⟨rq, ?_⟩
      rw [hs, if_neg (fun e => hn1 (by rw [show p = q from Prod.ext e.1.symm e.2.symm]; exact hq))]
      exact hrq)
    refine ⟨(shape_setAt hl).trans q1, fun a b => ?_⟩
    show atB (rmv (setAt bk p.1 p.2 none) ps) _ _ = _
    rw [q2, hs]
    by_cases h : (a, b) ∈ ps
    · simp [h]
    · simp only [h, if_false, List.mem_cons, or_false]
      by_cases h2 : a = p.1 ∧ b = p.2
      · rw [if_pos h2, if_pos (Prod.ext h2.1 h2.2)]
      · rw [if_neg h2, if_neg (fun e => h2 ⟨congrArg Prod.fst e, congrArg Prod.snd e⟩)]
/-- what is told of them -/
def encT (bk : List (Option Lst)) (ps : List (Nat × Nat)) : List Value := ps.flatMap (fun p => match atB bk (p.1 : Int) (p.2 : Int) with | some r => encH (p.1 : Int) (p.2, r) | none => [])
theorem encT_snoc {bk : List (Option Lst)} {p : Nat × Nat} {r : Rc} (ps : List (Nat × Nat)) (h : atB bk (p.1 : Int) (p.2 : Int) = some r) : encT bk (ps ++ [p]) = encT bk ps ++ [.int .i64 (p.1 : Int), .int .i64 (p.2 : Int), .int .i64 r.k, .int .i64 r.o, .int .i64 r.s, .int .i64 r.r] := by
  simp [encT, h, encH]
theorem take_next {ps : List (Nat × Nat)} {k : Nat} (h : k < ps.length) : ps.take (k + 1) = ps.take k ++ [ps[k]] := by rw [List.take_add_one, List.getElem?_eq_getElem h]; rfl
set_option maxRecDepth 8000 in
set_option maxHeartbeats 8000000 in
theorem take_any (w : World) (F : Nat → Prop) (B : Nat) (bk : List (Option Lst)) (h : Book w F B bk) (ps : List (Nat × Nat)) (hnd : ps.Nodup) (hex : ∀ p ∈ ps, ∃ r, atB bk (p.1 : Int) (p.2 : Int) = some r) (hle : ps.length ≤ 768) (n0 : Nat) (v : Value) (hrow : w.ownsRow n0 28 2 v ps.length (encPs ps)) (hF : ∀ x, F x → x < n0) :
    Calls Try.prog 55 #[.pointer (some ⟨B, 0, none⟩), v] w fun x w' => ∃ v', x = .returned v' ∧ w'.ownsRow w.heap.size 54 6 v' ps.length (encT bk ps) ∧ Book w' F B (rmv bk ps) ∧ Ext F w F w' := by
  obtain ⟨i54, hi, hz, hs, hb⟩ := info54'
  obtain ⟨a5, c5, rfl⟩ := own_shape hrow
  have HRow := hide hrow
  have HBk := hide h
  have HEx := hide hex
  have HNd := hide hnd
  have HFl := hide hF
  clear h hrow hex hnd hF
  go_enter Try.func55, Try.ntmps55
  go_wp2_with fail
  go_loopw [5, 10] (fun u x wr => ∃ (k : Nat), k ≤ ps.length ∧ x = .int .i64 (k : Int) ∧ Hid (Book wr F B (rmv bk (ps.take k))) ∧ Hid (Ext F w F wr) ∧ Hid (wr.ownsRow w.heap.size 54 6 u k (encT bk (ps.take k)))) (fun _ x _ => ps.length - (intOf x).toNat)
  case atStart => exact ⟨0, by omega, rfl, HBk, Ext.refl _ _, ⟨rfl, .inl ⟨rfl, rfl⟩⟩⟩
  case round =>
  obtain ⟨k, hk, rfl, K1, K2, K3⟩ := hrel
  obtain ⟨au, cu, rfl⟩ := own_shape K3.out
  by_cases hlt : k < ps.length
  · obtain ⟨r, hr⟩ := HEx.out ps[k] (List.getElem_mem hlt)
    obtain ⟨gq, rfl, hcq⟩ : ∃ gq, a5 = some ⟨gq, 0, none⟩ ∧ wr.cell? ⟨gq, k * 2, none⟩ = some (.int .i64 ((ps[k].1 : Nat) : Int)) ∧ wr.cell? ⟨gq, k * 2 + 1, none⟩ = some (.int .i64 ((ps[k].2 : Nat) : Int)) := by
      obtain ⟨_, ⟨h0, h00⟩ | ⟨g0, cap, cur, hv0, hgb, hg0, _⟩⟩ := HRow.out
      · omega
      · cases hv0
        have hkeep := K2.out.mod.block g0 (Array.getElem?_eq_some_iff.1 hg0).1 (fun hf => by have := HFl.out g0 hf; omega)
        have hw : wr.ownsRow n0 28 2 (.slice (some ⟨g0, 0, none⟩) ps.length c5) ps.length (encPs ps) := by
          obtain ⟨q1, ⟨h0, h00⟩ | ⟨g1, cap1, cur1, hv1, hgb1, hg1, hr1⟩⟩ := HRow.out
          · cases h0
          · cases hv1
            exact ⟨q1, .inr ⟨g0, c5, cur1, rfl, hgb1, hkeep.trans hg1, hr1⟩⟩
        refine ⟨g0, rfl, ?_, ?_⟩
        · rw [hw.cellAt (k * 2) (by omega)]; exact (encPs_at hlt).1
        · rw [hw.cellAt (k * 2 + 1) (by omega)]; exact (encPs_at hlt).2
    have HAt : Hid (atB (rmv bk (ps.take k)) ((ps[k].1 : Nat) : Int) ((ps[k].2 : Nat) : Int) = some r) := by
      show _ = _
      have hnd2 : (ps.take k ++ ps.drop k).Nodup := by rw [List.take_append_drop]; exact HNd.out
      rw [(rmv_at (ps.take k) bk (List.nodup_append.1 hnd2).1 (fun p hp => HEx.out p (List.mem_of_mem_take hp))).2, if_neg]
      · exact hr
      · intro hin
        have hd : ps[k] ∈ ps.drop k := by rw [List.drop_eq_getElem_cons hlt]; exact List.mem_cons_self
        exact (List.nodup_append.1 hnd2).2.2 _ hin _ hd rfl
    have HT := hide (encT_snoc (ps.take k) hr)
    have HR2 := hide (rmv_snoc bk (ps.take k) ps[k])
    rw [← take_next hlt] at HT HR2
    clear hr
    generalize ps[k].1 = pi at *
    generalize ps[k].2 = pj at *
    obtain ⟨cq0, cq1⟩ := hcq
    have hkl : (k : Int) < (ps.length : Int) := by omega
    have hwk : k * 2 + 1 < ps.length * 2 := by omega
    go_upto_region 5 with fail
    have hb6 := (Below.refl wr.heap.size wr).alloc (Nat.le_refl _) (.cells #[.int .i64 (pi : Int), .int .i64 (pj : Int)] 28)
    have hN6 := heap_alloc_new wr (.cells #[.int .i64 (pi : Int), .int .i64 (pj : Int)] 28)
    generalize wr.alloc (.cells #[.int .i64 (pi : Int), .int .i64 (pj : Int)] 28) = w6 at *
    have HBk6 := hide (K1.out.below hb6.drew)
    have HE6 := hide (K2.out.trans (Ext.of_below hb6.drew))
    have HK6 : Hid (w6.drew.ownsRow w.heap.size 54 6 (.slice au k cu) k (encT bk (ps.take k)) ∧ ∀ g, au.map (·.block) = some g → g < wr.heap.size) := by
      refine hide ?_
      obtain ⟨q1, ⟨h0, h00⟩ | ⟨g1, cap1, cur1, hv1, hgb1, hg1, hr1⟩⟩ := K3.out
      · cases h0
        exact ⟨⟨q1, .inl ⟨rfl, h00⟩⟩, fun g e => by cases e⟩
      · have hlt1 := (Array.getElem?_eq_some_iff.1 hg1).1
        cases hv1
        refine ⟨⟨q1, .inr ⟨g1, cu, cur1, rfl, hgb1, (hb6.drew.block g1 hlt1).trans hg1, hr1⟩⟩, fun g e => by cases e; exact hlt1⟩
    have HFw : Hid (∀ x, F x → x < wr.heap.size) := hide (fun x hx => K1.out.lt x hx)
    have HN6 : Hid (w6.drew.heap[wr.heap.size]? = some (.cells #[.int .i64 (pi : Int), .int .i64 (pj : Int)] 28 (0, 0))) := hN6
    clear hb6 hN6 cq0 cq1 K1 K2 K3
    generalize hnw : wr.heap.size = nw at *
    have hSof : ∀ W : World, W.heap[nw]? = some (.cells #[.int .i64 (pi : Int), .int .i64 (pj : Int)] 28 (0, 0)) → W.cell? ⟨nw, 0, none⟩ = some (.int .i64 (pi : Int)) ∧ W.cell? ⟨nw, 1, none⟩ = some (.int .i64 (pj : Int)) := fun W hW => ⟨(blk2 hW).1, (blk2 hW).2.1⟩
    have HSof := hide hSof
    clear hSof
    refine wp_region_held_drew (S := fun W => W.cell? ⟨nw, 0, none⟩ = some (.int .i64 (pi : Int)) ∧ W.cell? ⟨nw, 1, none⟩ = some (.int .i64 (pj : Int))) (by kernel_rfl) (HSof.out _ HN6.out) (fun hHeld => ?_)
    refine hd_take 0 (o := ⟨some 14, _, _, _, _, _⟩) (.slice au k cu) (by kernel_rfl) (by kernel_rfl) (by kernel_rfl) rfl (by rfl) (fun W hSw => by go_simp) (fun _ _ _ h => h) hHeld ?_
    simp only [Act.put, List.setIfInBounds_toArray, List.set_cons_zero, List.set_cons_succ]
    refine hd_take 1 (o := ⟨some 15, _, _, _, _, _⟩) (.pointer (some ⟨nw, 0, none⟩)) (by kernel_rfl) (by kernel_rfl) (by kernel_rfl) rfl (by rfl) (fun W hSw => by go_simp) (fun _ _ _ h => h) hHeld ?_
    simp only [Act.put, List.setIfInBounds_toArray, List.set_cons_zero, List.set_cons_succ]
    refine hd_take 2 (o := ⟨some 16, _, _, _, _, _⟩) (.int .i64 (pi : Int)) (by kernel_rfl) (by kernel_rfl) (by kernel_rfl) rfl (by rfl) (fun W hSw => by obtain ⟨s0, s1⟩ := hSw; go_simp) (fun _ _ _ h => h) hHeld ?_
    simp only [Act.put, List.setIfInBounds_toArray, List.set_cons_zero, List.set_cons_succ]
    refine hd_take 3 (o := ⟨some 17, _, _, _, _, _⟩) (.pointer (some ⟨nw, 1, none⟩)) (by kernel_rfl) (by kernel_rfl) (by kernel_rfl) rfl (by rfl) (fun W hSw => by go_simp) (fun _ _ _ h => h) hHeld ?_
    simp only [Act.put, List.setIfInBounds_toArray, List.set_cons_zero, List.set_cons_succ]
    refine hd_take 4 (o := ⟨some 18, _, _, _, _, _⟩) (.int .i64 (pj : Int)) (by kernel_rfl) (by kernel_rfl) (by kernel_rfl) rfl (by rfl) (fun W hSw => by obtain ⟨s0, s1⟩ := hSw; go_simp) (fun _ _ _ h => h) hHeld ?_
    simp only [Act.put, List.setIfInBounds_toArray, List.set_cons_zero, List.set_cons_succ]
    refine hd_take 5 (o := ⟨some 19, _, _, _, _, _⟩) (.pointer (some ⟨B, 0, none⟩)) (by kernel_rfl) (by kernel_rfl) (by kernel_rfl) rfl (by rfl) (fun W hSw => by go_simp) (fun _ _ _ h => h) hHeld ?_
    simp only [Act.put, List.setIfInBounds_toArray, List.set_cons_zero, List.set_cons_succ]
    refine hd_take 6 (o := ⟨some 20, _, _, _, _, _⟩) (.agg #[.int .i64 (pi : Int), .int .i64 (pj : Int)]) (by kernel_rfl) (by kernel_rfl) (by kernel_rfl) rfl (by rfl) (fun W hSw => by obtain ⟨s0, s1⟩ := hSw; go_simp) (fun _ _ _ h => h) hHeld ?_
    simp only [Act.put, List.setIfInBounds_toArray, List.set_cons_zero, List.set_cons_succ]
    refine hd_call 7 (o := ⟨some 21, _, _, _, _, _⟩) (by kernel_rfl) rfl (by rfl) (fun K hK => ?_)
    go_simp
    go_wp2_with (go_at_call 65; refine (remove_any w6.drew F B _ HBk6.out pi pj r HAt.out).mono ?_; rintro e1 w7 ⟨rfl, hB7, hE7⟩)
    have hN7 : w7.heap[nw]? = some (.cells #[.int .i64 (pi : Int), .int .i64 (pj : Int)] 28 (0, 0)) := (hE7.mod.block nw (Array.getElem?_eq_some_iff.1 HN6.out).1 (fun hf => by have := HFw.out nw hf; omega)).trans HN6.out
    have hS7 := HSof.out _ hN7
    have HB7 := hide hB7
    have HE7 := hide (HE6.out.trans hE7)
    have HK7 : Hid (w7.ownsRow w.heap.size 54 6 (.slice au k cu) k (encT bk (ps.take k))) := by
      refine hide ?_
      obtain ⟨q1, ⟨h0, h00⟩ | ⟨g1, cap1, cur1, hv1, hgb1, hg1, hr1⟩⟩ := HK6.out.1
      · exact ⟨q1, .inl ⟨h0, h00⟩⟩
      · refine ⟨q1, .inr ⟨g1, cap1, cur1, hv1, hgb1, ?_, hr1⟩⟩
        rw [hE7.mod.block g1 (Array.getElem?_eq_some_iff.1 hg1).1 (fun hf => by have := HBk.out.lt g1 hf; omega)]
        exact hg1
    clear hHeld hB7 hE7
    refine hK _ _ hS7 ?_
    clear hK K
    simp only [Rc.val]
    refine hd_take 8 (o := ⟨some 22, _, _, _, _, _⟩) (.agg #[.int .i64 r.k, .int .i64 r.o, .int .i64 r.s, .int .i64 r.r]) (by kernel_rfl) (by kernel_rfl) (by kernel_rfl) rfl (by rfl) (fun W hSw => by go_simp; kernel_rfl) (fun _ _ _ h => h) hS7 ?_
    simp only [Act.put, List.setIfInBounds_toArray, List.set_cons_zero, List.set_cons_succ]
    refine hd_take 9 (o := ⟨some 23, _, _, _, _, _⟩) (.agg #[.int .i64 (pi : Int), .int .i64 (pj : Int), .int .i64 r.k, .int .i64 r.o, .int .i64 r.s, .int .i64 r.r]) (by kernel_rfl) (by kernel_rfl) (by kernel_rfl) rfl (by rfl) (fun W hSw => by go_simp) (fun _ _ _ h => h) hS7 ?_
    simp only [Act.put, List.setIfInBounds_toArray, List.set_cons_zero, List.set_cons_succ]
    refine hd_call 10 (o := ⟨some 24, _, _, _, _, _⟩) (by kernel_rfl) rfl (by rfl) (fun K hK => ?_)
    go_simp
    refine hK _ _ (HSof.out _ ((Below.heap_alloc _ _ _ (Array.getElem?_eq_some_iff.1 hN7).1).trans hN7)) ?_
    clear hK K
    refine hd_call 11 (o := ⟨some 25, _, _, _, _, _⟩) (by kernel_rfl) rfl (by rfl) (fun K hK => ?_)
    refine wp_append_at (.tmp 14) (.tmp 24) 51 rfl w.heap.size 54 i54 (.agg #[.int .i64 0, .int .i64 0, .int .i64 0, .int .i64 0, .int .i64 0, .int .i64 0]) 6 48 Try.underlying51 hi hz hs hb rfl (by decide) (.slice au k cu) k (encT bk (ps.take k)) (by simp [Act.eval]) (HK7.out.alloc _) ⟨w7.heap.size, 0, none⟩ 1 1 [.int .i64 (pi : Int), .int .i64 (pj : Int), .int .i64 r.k, .int .i64 r.o, .int .i64 r.s, .int .i64 r.r] (by simp [Act.eval]) rfl (cell_six_new _ _ _ _ _ _ _ _) (by simp [Value.oneCell']) (by unfold maxLen; omega) (by omega) (by have := HE7.out.mod.size; simp; omega) ?_
    intro v8 w8 ho8 hg8 hl8
    have hN8 : w8.heap[nw]? = some (.cells #[.int .i64 (pi : Int), .int .i64 (pj : Int)] 28 (0, 0)) := by
      rw [hg8.block nw (by have := (Array.getElem?_eq_some_iff.1 hN7).1; simp; omega) (fun e => ?_), Below.heap_alloc _ _ _ (Array.getElem?_eq_some_iff.1 hN7).1]
      · exact hN7
      · cases au with
        | none => cases e
        | some x => have := HK6.out.2 x.block rfl; cases e; omega
    have HB8 : Hid (Book w8 F B (rmv bk (ps.take (k + 1)))) := by
      refine hide ?_
      rw [HR2.out]
      exact book_own (HB7.out.below ((Below.refl _ _).alloc (Nat.le_refl _) _)) (fun x hx => HBk.out.lt x hx) (HK7.out.alloc _) hg8
    have HE8 : Hid (Ext F w F w8) := hide (ext_own (HE7.out.trans (Ext.of_below ((Below.refl _ _).alloc (Nat.le_refl _) _))) (HK7.out.alloc _) hg8)
    have HO8 : Hid (w8.ownsRow w.heap.size 54 6 v8 (k + 1) (encT bk (ps.take (k + 1)))) := by
      refine hide ?_
      rw [HT.out]
      exact ho8
    refine hK _ _ (HSof.out _ hN8) ?_
    clear hK K ho8 hg8 hl8
    simp only [Act.put, List.setIfInBounds_toArray, List.set_cons_zero, List.set_cons_succ]
    refine hd_take 12 (o := ⟨some 5, _, _, _, _, _⟩) (v8) (by kernel_rfl) (by kernel_rfl) (by kernel_rfl) rfl (by rfl) (fun W hSw => by go_simp) (fun _ _ _ h => h) (HSof.out _ hN8) ?_
    simp only [Act.put, List.setIfInBounds_toArray, List.set_cons_zero, List.set_cons_succ]
    refine wpAnyH_done (by kernel_rfl) ?_ _
    clear hS7 hN7 hN8 HN6 HSof HT HR2 HAt HK7 HB7 HE7 HK6 HBk6 HE6 HFw
    go_wp2
    go_roundw
    case rel =>
      first
        | exact ⟨k + 1, by omega, by go_num, HB8, HE8, HO8⟩
        | ((repeat apply Exists.intro); refine ⟨?_, rfl⟩; exact ⟨k + 1, by omega, by go_num, HB8, HE8, HO8⟩)
    case measure => simp [intOf]; omega
  · have hd : decide ((k : Int) < (ps.length : Int)) = false := by simp; omega
    have hd2 : decide (k < ps.length) = false := by simp; omega
    have e : k = ps.length := by omega
    have K4 : Hid (Book wr F B (rmv bk ps)) := by have h9 := K1.out; rw [e, List.take_length] at h9; exact hide h9
    have K5 : Hid (wr.ownsRow w.heap.size 54 6 (.slice au k cu) ps.length (encT bk ps)) := by
      have h9 := K3.out
      refine hide ?_
      rw [show encT bk ps = encT bk (ps.take k) by rw [e, List.take_length], ← e]
      exact h9
    clear e
    go_wp2
    go_ret
    exact ⟨_, rfl, K5.out, K4.out, K2.out⟩
end Go.Proofs.Ytimfgjndgfjjgaa

namespace Go.Proofs.Ytimfgjndgfjjgaa
open Go.RowKit Go.Shelf

def PLt (p q : Nat × Nat) : Prop := p.1 < q.1 ∨ (p.1 = q.1 ∧ p.2 < q.2)
theorem pls_sorted (P : Rc → Bool) (bk : List (Option Lst)) : (pls P bk).Pairwise PLt := by
  unfold pls plsI
  rw [List.pairwise_flatMap]
  constructor
  · intro i _
    unfold one fit
    rw [List.pairwise_map, List.pairwise_map]
    exact ((prsL_sorted (lf bk i) 0).filter _).imp (fun h => .inr ⟨rfl, h⟩)
  · unfold idx
    rw [List.pairwise_map]
    refine (prsL_sorted bk 0).imp (fun {a b} h => ?_)
    intro x hx y hy
    obtain ⟨s, _, rfl⟩ := List.mem_map.1 hx
    obtain ⟨t, _, rfl⟩ := List.mem_map.1 hy
    exact .inl h
theorem PLt.ne {p q : Nat × Nat} (h : PLt p q) : p ≠ q := by
  rintro rfl
  rcases h with h | ⟨_, h⟩ <;> omega
theorem pls_nodup (P : Rc → Bool) (bk : List (Option Lst)) : (pls P bk).Nodup := (pls_sorted P bk).imp PLt.ne
theorem own_base {w : World} {b b' : Nat} {e : TypeId} {s n : Nat} {v : Value} {xs : List Value} (h : w.ownsRow b' e s v n xs) (hb : b ≤ b') : w.ownsRow b e s v n xs := by
  obtain ⟨h1, h2 | ⟨g, cap, cur, h2, h3, h4⟩⟩ := h
  · exact ⟨h1, .inl h2⟩
  · exact ⟨h1, .inr ⟨g, cap, cur, h2, by omega, h4⟩⟩
set_option maxHeartbeats 1600000 in
theorem purge_any (w : World) (F : Nat → Prop) (B : Nat) (bk : List (Option Lst)) (h : Book w F B bk) (k o : Int) :
    Calls Try.prog 48 #[.pointer (some ⟨B, 0, none⟩), .int .i64 k, .int .i64 o] w fun x w' => ∃ v', x = .returned v' ∧ w'.ownsRow w.heap.size 54 6 v' (pls (fun r => decide (r.k = k) && decide (r.o = o)) bk).length (encT bk (pls (fun r => decide (r.k = k) && decide (r.o = o)) bk)) ∧ Book w' F B (rmv bk (pls (fun r => decide (r.k = k) && decide (r.o = o)) bk)) ∧ Ext F w F w' := by
  have H := hide h
  clear h
  go_enter Try.func48, Try.ntmps48
  go_wp2_with fail
  refine (same_object w k o).mono ?_
  rintro e w4 ⟨rfl, hf4, hv4, hb4⟩
  have H4 := hide (H.out.below hb4)
  go_wp2_with fail
  refine (places_any F B bk w4 H4.out 72 w.heap.size (w.heap.size + 1) _ _ _ (fits_object _ _ k o) hf4 hv4).mono ?_
  rintro e w5 ⟨v5, rfl, hrow, hb5⟩
  have HB := hide (hb4.trans (hb5.mono hb4.size))
  have H5 := hide (H4.out.below hb5)
  have hle := pls_le H5.out (fun r => decide (r.k = k) && decide (r.o = o))
  have HN := hide (pls_nodup (fun r => decide (r.k = k) && decide (r.o = o)) bk)
  have HM : Hid (∀ p ∈ pls (fun r => decide (r.k = k) && decide (r.o = o)) bk, ∃ r, atB bk (p.1 : Int) (p.2 : Int) = some r) := hide (fun p hp => by
    obtain ⟨r, hr, _⟩ := mem_pls.1 (show (p.1, p.2) ∈ _ from hp)
    exact ⟨r, hr⟩)
  generalize hps : pls (fun r => decide (r.k = k) && decide (r.o = o)) bk = ps at *
  replace hps := hide hps
  have HRow := hide hrow
  have HF : Hid (∀ x, F x → x < w4.heap.size) := hide H4.out.lt
  clear hrow hb5 hb4 hf4 hv4
  go_wp2_with fail
  refine (take_any w5 F B bk H5.out ps HN.out HM.out hle w4.heap.size v5 HRow.out HF.out).mono ?_
  rintro e w6 ⟨v6, rfl, ho6, hB6, hE6⟩
  have K1 := hide (own_base ho6 HB.out.size)
  have K2 := hide hB6
  have K3 := hide ((Ext.of_below HB.out).trans hE6)
  clear ho6 hB6 hE6
  go_wp2
  go_ret
  have e := hps.out
  subst e
  exact ⟨_, rfl, K1.out, K2.out, K3.out⟩
end Go.Proofs.Ytimfgjndgfjjgaa

namespace Go.Proofs.Ytimfgjndgfjjgaa
open Go.RowKit Go.Shelf

theorem encHs_len (e : Int) (l : List (Nat × Rc)) : (encHs e l).length = l.length * 6 := by
  unfold encHs
  induction l with
  | nil => rfl
  | cons x t ih => rw [List.flatMap_cons, List.length_append, ih, List.length_cons]; simp [encH]; omega
theorem encHs_at {e : Int} {l : List (Nat × Rc)} {k : Nat} (hk : k < l.length) (j : Nat) (hj : j < 6) : (encHs e l)[k * 6 + j]? = (encH e l[k])[j]? := by
  have e1 : encHs e l = encHs e (l.take k) ++ (encH e l[k] ++ encHs e (l.drop (k + 1))) := by
    unfold encHs
    rw [← List.flatMap_cons, ← List.drop_eq_getElem_cons hk, ← List.flatMap_append, List.take_append_drop]
  have hl : (encHs e (l.take k)).length = k * 6 := by rw [encHs_len, List.length_take, Nat.min_eq_left (by omega)]
  rw [e1, List.getElem?_append_right (by omega), hl, show k * 6 + j - k * 6 = j by omega, List.getElem?_append_left (by simp [encH]; omega)]
/-- one after another is dropped -/
inductive Drops : List (Nat × Nat) → List (Option Lst) → List (Option Lst) → Prop
  | nil (bk : List (Option Lst)) : Drops [] bk bk
  | snoc {ps : List (Nat × Nat)} {bk m bk' : List (Option Lst)} {p : Nat × Nat} {r : Rc} : Drops ps bk m → atB m (p.1 : Int) (p.2 : Int) = some r → DropR m p.1 p.2 r bk' → Drops (ps ++ [p]) bk bk'
theorem Drops.here {ps : List (Nat × Nat)} {bk bk' : List (Option Lst)} (h : Drops ps bk bk') : Shape bk bk' ∧ ∀ a b : Nat, (atB bk' (a : Int) (b : Int)).isSome = (decide ((a, b) ∉ ps) && (atB bk (a : Int) (b : Int)).isSome) := by
  induction h with
  | nil bk => exact ⟨Shape.refl _, fun a b => by simp⟩
  | snoc h0 hr hd ih =>
    rename_i ps bk m bk' p r
    clear h0 hr
    refine ⟨ih.1.trans hd.1, fun a b => ?_⟩
    rw [hd.2]
    by_cases e : a = p.1 ∧ b = p.2
    · rw [if_pos e]
      have : (a, b) = p := Prod.ext e.1 e.2
      simp [this]
    · rw [if_neg e, Option.isSome_map, ih.2]
      have : (a, b) ≠ p := fun h => e ⟨congrArg Prod.fst h, congrArg Prod.snd h⟩
      simp [this]
theorem own_ext {F : Nat → Prop} {w w1 : World} (h : Ext F w F w1) {b : Nat} (hF : ∀ x, F x → x < b) {e : TypeId} {s k : Nat} {v : Value} {xs : List Value} (ho : w.ownsRow b e s v k xs) : w1.ownsRow b e s v k xs := by
  obtain ⟨h1, h2 | ⟨g, cap, cur, h2, h3, h4, h5⟩⟩ := ho
  · exact ⟨h1, .inl h2⟩
  · exact ⟨h1, .inr ⟨g, cap, cur, h2, h3, (h.mod.block g (Array.getElem?_eq_some_iff.1 h4).1 (fun hf => by have := hF g hf; omega)).trans h4, h5⟩⟩
theorem shape_open {bk bk' : List (Option Lst)} (h : Shape bk bk') {i : Nat} {l : Lst} (hl : bk[i]? = some (some l)) : ∃ l', bk'[i]? = some (some l') := by
  have h1 := h (i : Int)
  rw [look_nat, look_nat, hl] at h1
  cases hb : bk'[i]? with
  | none => rw [hb] at h1; cases h1
  | some o => cases o with
    | none => rw [hb] at h1; cases h1
    | some l' => exact ⟨l', rfl⟩
set_option maxHeartbeats 1600000 in
theorem list_none (w : World) (F : Nat → Prop) (B : Nat) (bk : List (Option Lst)) (h : Book w F B bk) (e : Int) (hn : look bk e = none) :
    Calls Try.prog 22 #[.pointer (some ⟨B, 0, none⟩), .int .i64 e] w fun x w' => x = .returned (.tuple #[.slice none 0 0, .int .i64 83]) ∧ Below w.heap.size w w' := by
  have hb0 := (Below.refl w.heap.size w).alloc (Nat.le_refl _) (.cells #[.int .i64 e] 3)
  obtain ⟨T, G, m, fs, hA⟩ := h.below hb0
  have HB := hide hb0.drew
  have hX : (w.alloc (.cells #[.int .i64 e] 3)).cell? ⟨w.heap.size, 0, none⟩ = some (.int .i64 e) := (Boxed.new w 3 (.int .i64 e)).cell
  have c0 : (w.alloc (.cells #[.int .i64 e] 3)).drew.cell? ⟨B, 0, none⟩ = some (.pointer (some ⟨T, 0, none⟩)) ∧ (w.alloc (.cells #[.int .i64 e] 3)).drew.cell? ⟨w.heap.size, 0, none⟩ = some (.int .i64 e) := ⟨hA.cell, hX⟩
  have HG := hide (getL_any (w.alloc (.cells #[.int .i64 e] 3)).drew G T m (hA.tab.below (Below.refl _ _).drew) e)
  rcases hA.cases e with ⟨h1, h2⟩ | ⟨i, b, l, rfl, h1, h2, h3, h4, h5, h6⟩
  · rw [h1] at HG
    simp only [ptr, Option.isSome_none] at HG
    clear hA h1 h2 h hb0 hn hX
    go_enter Try.func22, Try.ntmps22
    go_upto_region 1 with fail
    generalize w.alloc (.cells #[.int .i64 e] 3) = w0 at *
    go_region_held (fun W => W.cell? ⟨B, 0, none⟩ = some (.pointer (some ⟨T, 0, none⟩)) ∧ W.cell? ⟨w.heap.size, 0, none⟩ = some (.int .i64 e))
      (first | assumption | exact c0)
      (first | (go_at_call 29; refine HG.out.mono ?_; rintro e1 w1 ⟨rfl, hw1⟩; subst hw1))
    go_wp2
    go_ret2
    exact ⟨rfl, HB.out⟩
  · exact absurd hn (by simp_all)
set_option maxHeartbeats 1600000 in
theorem shut_none (w : World) (F : Nat → Prop) (B : Nat) (bk : List (Option Lst)) (h : Book w F B bk) (e : Int) (hn : look bk e = none) :
    Calls Try.prog 47 #[.pointer (some ⟨B, 0, none⟩), .int .i64 e] w fun x w' => x = .returned (.tuple #[.slice none 0 0, .int .i64 83]) ∧ Below w.heap.size w w' := by
  have HL := hide (list_none w F B bk h e hn)
  clear h hn
  go_enter Try.func47, Try.ntmps47
  go_wp2_with fail
  refine HL.out.mono ?_
  rintro e1 w1 ⟨rfl, hb⟩
  have HB := hide hb
  clear hb
  go_wp2
  go_ret2
  exact ⟨rfl, HB.out⟩
end Go.Proofs.Ytimfgjndgfjjgaa

namespace Go.Proofs.Ytimfgjndgfjjgaa
open Go.RowKit Go.Shelf

/-- the places of a list -/
def plc (i : Nat) (xs : List (Nat × Rc)) : List (Nat × Nat) := xs.map (fun x => (i, x.1))
theorem plc_fresh {i : Nat} {l : Lst} {k : Nat} (hk : k < (prs l 0).length) : (i, (prs l 0)[k].1) ∉ plc i ((prs l 0).take k) := by
  intro h
  obtain ⟨x, hx, e⟩ := List.mem_map.1 h
  have hs : ((prs l 0).take k ++ (prs l 0).drop k).Pairwise (fun a b => a.1 < b.1) := by rw [List.take_append_drop]; exact prsL_sorted _ 0
  have hd : (prs l 0)[k] ∈ (prs l 0).drop k := by rw [List.drop_eq_getElem_cons hk]; exact List.mem_cons_self
  have := (List.pairwise_append.1 hs).2.2 x hx _ hd
  simp at e
  omega
set_option maxRecDepth 8000 in
set_option maxHeartbeats 8000000 in
theorem shut_some (w : World) (F : Nat → Prop) (B : Nat) (bk : List (Option Lst)) (h : Book w F B bk) (i : Nat) (l : Lst) (hl : bk[i]? = some (some l)) :
    Calls Try.prog 47 #[.pointer (some ⟨B, 0, none⟩), .int .i64 (i : Int)] w fun x w' => ∃ v bk', x = .returned (.tuple #[v, .int .i64 0]) ∧ w'.ownsRow w.heap.size 54 6 v (prs l 0).length (encHs (i : Int) (prs l 0)) ∧ Book w' F B (bk'.set i none) ∧ Ext F w F w' ∧ Drops (plc i (prs l 0)) bk bk' := by
  have HL : Hid (Calls Try.prog 22 #[.pointer (some ⟨B, 0, none⟩), .int .i64 (i : Int)] w fun e W' => ∃ v, e = .returned (.tuple #[v, .int .i64 0]) ∧ W'.ownsRow w.heap.size 54 6 v (prs l 0).length (encHs (i : Int) (prs l 0)) ∧ Below w.heap.size w W') := by
    obtain ⟨T, G, m, fs, h⟩ := h
    exact hide ((callsIn_wide (n := 3)).1 (list_in 3 (Nat.le_refl _) F B T G m fs bk w h i l hl))
  have HBk := hide h
  have HO := hide hl
  have HFl := hide h.lt
  have hn48 : (prs l 0).length ≤ 48 := by rw [prs_len, ← h.l48 hl]; exact count_le
  clear h hl
  go_enter Try.func47, Try.ntmps47
  go_wp2_with fail
  refine HL.out.mono ?_
  rintro e1 w1 ⟨v1, rfl, hrow, hb1⟩
  obtain ⟨a1, c1, rfl⟩ := own_shape hrow
  have HRow := hide hrow
  have HB1 := hide (HBk.out.below hb1)
  have HE1 := hide (Ext.of_below (F := F) hb1)
  clear hrow hb1 HL
  generalize hpn : (prs l 0).length = pn at *
  replace hpn := hide hpn
  go_wp2_with fail
  go_loopw [21] (fun x wr => ∃ (k : Nat) (bk' : List (Option Lst)), k ≤ pn ∧ x = .int .i64 (k : Int) ∧ Hid (Book wr F B bk') ∧ Hid (Ext F w1 F wr) ∧ Hid (Drops (plc i ((prs l 0).take k)) bk bk')) (fun x _ => pn - (intOf x).toNat)
  case atStart => exact ⟨0, bk, by omega, rfl, HB1, Ext.refl _ _, Drops.nil _⟩
  case round =>
  obtain ⟨k, bk', hk, rfl, K1, K2, K3⟩ := hrel
  by_cases hlt : k < pn
  · have hlt' : k < (prs l 0).length := by rw [hpn.out]; exact hlt
    obtain ⟨⟨s, r⟩, hx⟩ : ∃ x, x = (prs l 0)[k] := ⟨_, rfl⟩
    have hls : l[s]? = some (some r) := prs_mem.1 (by rw [hx]; exact List.getElem_mem hlt')
    have hfr := plc_fresh (i := i) hlt'
    rw [← hx] at hfr
    obtain ⟨r', hr'⟩ : ∃ r', atB bk' (i : Int) (s : Int) = some r' := by
      refine Option.isSome_iff_exists.1 ?_
      rw [K3.out.here.2, atN_eq HO.out, hls]
      simp [hfr]
    obtain ⟨gq, rfl, hcq⟩ : ∃ gq, a1 = some ⟨gq, 0, none⟩ ∧ ∀ j, j < 6 → wr.cell? ⟨gq, k * 6 + j, none⟩ = (encH (i : Int) (s, r))[j]? := by
      obtain ⟨_, ⟨h0, h00⟩ | ⟨g0, cap, cur, hv0, hgb, hg0, _⟩⟩ := HRow.out
      · omega
      · cases hv0
        have hw := own_ext K2.out HFl.out HRow.out
        refine ⟨g0, rfl, fun j hj => ?_⟩
        rw [hw.cellAt (k * 6 + j) (by omega), encHs_at hlt' j hj, hx]
    have HT : Hid (plc i ((prs l 0).take (k + 1)) = plc i ((prs l 0).take k) ++ [(i, s)]) := by
      refine hide ?_
      unfold plc
      rw [List.take_add_one, List.getElem?_eq_getElem hlt', ← hx, List.map_append]; rfl
    have q0 : wr.cell? ⟨gq, k * 6, none⟩ = some (.int .i64 (i : Int)) := hcq 0 (by omega)
    have q1 : wr.cell? ⟨gq, k * 6 + 1, none⟩ = some (.int .i64 (s : Int)) := hcq 1 (by omega)
    have q2 : wr.cell? ⟨gq, k * 6 + 2, none⟩ = some (.int .i64 r.k) := hcq 2 (by omega)
    have q3 : wr.cell? ⟨gq, k * 6 + 3, none⟩ = some (.int .i64 r.o) := hcq 3 (by omega)
    have q4 : wr.cell? ⟨gq, k * 6 + 4, none⟩ = some (.int .i64 r.s) := hcq 4 (by omega)
    have q5 : wr.cell? ⟨gq, k * 6 + 5, none⟩ = some (.int .i64 r.r) := hcq 5 (by omega)
    have hkl : (k : Int) < (pn : Int) := by omega
    have hwk : k * 6 + 5 < pn * 6 := by omega
    have HR := hide hr'
    clear hcq hx hls hfr hr' hlt'
    go_upto_region 7 with fail
    have hb6 := (Below.refl wr.heap.size wr).alloc (Nat.le_refl _) (.cells #[.int .i64 (i : Int), .int .i64 (s : Int), .int .i64 r.k, .int .i64 r.o, .int .i64 r.s, .int .i64 r.r] 54)
    have hN6 := heap_alloc_new wr (.cells #[.int .i64 (i : Int), .int .i64 (s : Int), .int .i64 r.k, .int .i64 r.o, .int .i64 r.s, .int .i64 r.r] 54)
    generalize wr.alloc (.cells #[.int .i64 (i : Int), .int .i64 (s : Int), .int .i64 r.k, .int .i64 r.o, .int .i64 r.s, .int .i64 r.r] 54) = w6 at *
    obtain ⟨d0, d1, -, -, -, -, -, -, -, -, -, -⟩ := blk6 hN6
    have HB6 := hide (K1.out.below hb6)
    have HE6 := hide (K2.out.trans (Ext.of_below hb6))
    clear hb6 hN6 q0 q1 q2 q3 q4 q5
    go_wp2_with fail
    refine (drop_any w6 F B bk' HB6.out i s r' HR.out).mono ?_
    rintro e2 w7 ⟨rfl, bk2, hB7, hE7, hD7⟩
    have L1 := hide hB7
    have L2 := hide (HE6.out.trans hE7)
    have L3 : Hid (Drops (plc i ((prs l 0).take (k + 1))) bk bk2) := by
      refine hide ?_
      rw [HT.out]
      exact Drops.snoc K3.out HR.out hD7
    clear hB7 hE7 hD7 d0 d1
    go_wp2
    go_roundw
    case rel =>
      first
        | exact ⟨k + 1, _, by omega, by go_num, L1, L2, L3⟩
        | ((repeat apply Exists.intro); refine ⟨?_, rfl⟩; exact ⟨k + 1, _, by omega, by go_num, L1, L2, L3⟩)
    case measure => simp [intOf]; omega
  · have hd : decide ((k : Int) < (pn : Int)) = false := by simp; omega
    have hd2 : decide (k < pn) = false := by simp; omega
    have K4 : Hid (Drops (plc i (prs l 0)) bk bk') := by
      have e : k = (prs l 0).length := by have := hpn.out; omega
      have h9 := K3.out
      rw [e, List.take_length] at h9
      exact hide h9
    obtain ⟨l', hl'⟩ := shape_open K4.out.here.1 HO.out
    obtain ⟨T, G, m, fs, hA⟩ := K1.out
    obtain ⟨b, hm, hlm, h48, hTl⟩ := hA.open' hl'
    have c0 := hA.cell
    have HD := hide (dropL_some wr G T m hA.tab i b hm)
    have HA := hide hA
    have hil : i < m.length := (List.getElem?_eq_some_iff.1 hm).1
    clear hA hm hlm h48 hTl hl'
    go_wp2_with fail
    refine HD.out.mono ?_
    rintro e2 w7 ⟨rfl, hT7, hE7⟩
    have L1 := hide (HA.out.sht hil hT7 hE7)
    clear hT7 hE7 c0
    go_wp2
    go_ret2
    refine ⟨_, bk', rfl, ?_, ⟨_, _, _, _, L1.out.1⟩, HE1.out.trans (K2.out.trans L1.out.2), K4.out⟩
    have h9 := own_ext (K2.out.trans L1.out.2) HFl.out HRow.out
    rw [hpn.out]
    exact h9
end Go.Proofs.Ytimfgjndgfjjgaa

namespace Go.Proofs.Ytimfgjndgfjjgaa
open Go.RowKit Go.Shelf

def chP (a b : Nat) : Rc → Bool := fun r => decide (r.e = (a : Int)) && decide (r.t = (b : Int))
/-- all below a place, each ahead of what is below it -/
def bel : Nat → List (Option Lst) → Nat × Nat → List (Nat × Nat)
  | 0, _, _ => []
  | n + 1, bk, p => (pls (chP p.1 p.2) bk).flatMap (fun c => c :: bel n bk c)
/-- how deep -/
def Dep : Nat → List (Option Lst) → Nat × Nat → Prop
  | 0, _, _ => False
  | n + 1, bk, p => ∀ c ∈ pls (chP p.1 p.2) bk, Dep n bk c
/-- a row of the call's own grew -/
structure Grew (w : World) (v : Value) (w' : World) (v' : Value) : Prop where
  by' : w.grownBy w' v.ownBlock
  at' : ∀ g, v'.ownBlock = some g → v.ownBlock = some g ∨ w.heap.size ≤ g
theorem Grew.refl (w : World) (v : Value) : Grew w v w v := ⟨⟨rfl, rfl, rfl, Nat.le_refl _, fun _ _ _ => rfl⟩, fun _ h => .inl h⟩
theorem Grew.trans {w w1 w2 : World} {v v1 v2 : Value} (h : Grew w v w1 v1) (k : Grew w1 v1 w2 v2) : Grew w v w2 v2 where
  by' := ⟨k.by'.os.trans h.by'.os, k.by'.tape.trans h.by'.tape, k.by'.output.trans h.by'.output, Nat.le_trans h.by'.size k.by'.size, fun b hb hne => (k.by'.block b (Nat.lt_of_lt_of_le hb h.by'.size) (fun e => (h.at' b e.symm).elim (fun e2 => hne e2.symm) (fun e2 => by omega))).trans (h.by'.block b hb hne)⟩
  at' := fun g hg => (k.at' g hg).elim (fun e => h.at' g e) (fun e => .inr (Nat.le_trans h.by'.size e))
theorem Grew.of_below {w w1 : World} (v : Value) (h : Below w.heap.size w w1) : Grew w v w1 v := ⟨⟨h.os, h.tape, h.output, h.size, fun b hb _ => h.block b hb⟩, fun _ h => .inl h⟩
theorem own_lt {w : World} {b : Nat} {e : TypeId} {s n : Nat} {v : Value} {xs : List Value} (h : w.ownsRow b e s v n xs) {g : Nat} (hg : v.ownBlock = some g) : b ≤ g ∧ g < w.heap.size := h.lt g hg
theorem Grew.book {w w1 : World} {F : Nat → Prop} {B n : Nat} {bk : List (Option Lst)} {v v1 : Value} (k : Grew w v w1 v1) (h : Book w F B bk) (hF : ∀ x, F x → x < n) {e : TypeId} {s m : Nat} {xs : List Value} (ho : w.ownsRow n e s v m xs) : Book w1 F B bk := book_own h hF ho k.by'
theorem Grew.row {w w1 : World} {v v1 : Value} (k : Grew w v w1 v1) {b : Nat} {e : TypeId} {s n : Nat} {u : Value} {xs : List Value} (h : w.ownsRow b e s u n xs) (hne : ∀ g, u.ownBlock = some g → v.ownBlock ≠ some g) : w1.ownsRow b e s u n xs := by
  obtain ⟨h1, h2 | ⟨g, cap, cur, h2, h3, h4, h5⟩⟩ := h
  · exact ⟨h1, .inl h2⟩
  · subst h2
    exact ⟨h1, .inr ⟨g, cap, cur, rfl, h3, (k.by'.block g (Array.getElem?_eq_some_iff.1 h4).1 (fun e => hne g rfl e.symm)).trans h4, h5⟩⟩
theorem flat_next {α β : Type} (f : α → List β) {cs : List α} {k : Nat} (h : k < cs.length) : (cs.take (k + 1)).flatMap f = (cs.take k).flatMap f ++ f cs[k] := by
  rw [List.take_add_one, List.getElem?_eq_getElem h, List.flatMap_append]; simp
theorem flat_le {α β : Type} (f : α → List β) (cs : List α) (k : Nat) : ((cs.take k).flatMap f).length ≤ (cs.flatMap f).length := by
  conv => rhs; rw [← List.take_append_drop k cs, List.flatMap_append, List.length_append]
  omega
set_option maxRecDepth 8000 in
set_option maxHeartbeats 8000000 in
theorem below_any (n : Nat) : ∀ (w : World) (F : Nat → Prop) (B : Nat) (bk : List (Option Lst)), Book w F B bk → ∀ (pa pb : Nat), Dep n bk (pa, pb) → ∀ (n0 : Nat) (v : Value) (ps : List (Nat × Nat)), n0 ≤ w.heap.size → w.ownsRow n0 28 2 v ps.length (encPs ps) → (∀ x, F x → x < n0) → (ps ++ bel n bk (pa, pb)).length ≤ 768 →
    Calls Try.prog 50 #[.pointer (some ⟨B, 0, none⟩), .agg #[.int .i64 (pa : Int), .int .i64 (pb : Int)], v] w fun x w' => ∃ v', x = .returned v' ∧ w'.ownsRow n0 28 2 v' (ps ++ bel n bk (pa, pb)).length (encPs (ps ++ bel n bk (pa, pb))) ∧ Grew w v w' v' := by
  induction n with
  | zero => intro w F B bk h pa pb hd; exact hd.elim
  | succ n ih =>
  intro w F B bk h pa pb hdep n0 v ps hn0 hrow hF hle
  obtain ⟨i28, hi, hz, hs, hb⟩ := info28'
  have hb0 := (Below.refl w.heap.size w).alloc (Nat.le_refl _) (.cells #[.int .i64 (pa : Int), .int .i64 (pb : Int)] 28)
  have hP := heap_alloc_new w (.cells #[.int .i64 (pa : Int), .int .i64 (pb : Int)] 28)
  have HIH := hide ih
  have HDep := hide hdep
  have HBk := hide (h.below hb0)
  have HRow0 := hide hrow
  have HB0 := hide hb0
  have HFl := hide hF
  have HLe := hide hle
  clear h hdep hrow hF hle ih hb0
  go_enter Try.func50, Try.ntmps50
  go_upto_region 1 with fail
  generalize w.alloc (.cells #[.int .i64 (pa : Int), .int .i64 (pb : Int)] 28) = w0 at *
  obtain ⟨p0, p1, _, _⟩ := blk2 hP
  go_wp2_with fail
  refine (same_parent w0 (pa : Int) (pb : Int)).mono ?_
  rintro e w4 ⟨rfl, hf4, hv4, hb4⟩
  have H4 := hide (HBk.out.below hb4)
  have HB4 := hide (HB0.out.trans (hb4.mono HB0.out.size))
  clear hb4 p0 p1 hP HB0
  go_wp2_with fail
  refine (places_any F B bk w4 H4.out 83 w0.heap.size (w0.heap.size + 1) _ _ _ (fits_parent _ _ (pa : Int) (pb : Int)) hf4 hv4).mono ?_
  rintro e w5 ⟨v5, rfl, hrow5, hb5⟩
  have H5 := hide (H4.out.below hb5)
  have HB5 := hide (HB4.out.trans (hb5.mono HB4.out.size))
  have HV := hide (own_below HRow0.out HB5.out)
  have HG5 := hide (Grew.of_below v HB5.out)
  have HNe : Hid (∀ g, v5.ownBlock = some g → v.ownBlock ≠ some g) := hide (fun g h1 h2 => by
    have e1 := (own_lt hrow5 h1).1
    have e2 := (own_lt HRow0.out h2).2
    have e3 := HB4.out.size
    omega)
  have HCs : Hid (∀ c ∈ pls (fun r => decide (r.e = (pa : Int)) && decide (r.t = (pb : Int))) bk, Dep n bk c) := hide (fun c hc => HDep.out c hc)
  have hbe : Hid (bel (n + 1) bk (pa, pb) = (pls (fun r => decide (r.e = (pa : Int)) && decide (r.t = (pb : Int))) bk).flatMap (fun c => c :: bel n bk c)) := hide rfl
  have hn5 : n0 ≤ w5.heap.size := Nat.le_trans hn0 HB5.out.size
  have hcl := pls_le H5.out (fun r => decide (r.e = (pa : Int)) && decide (r.t = (pb : Int)))
  rw [hbe.out] at HLe
  generalize pls (fun r => decide (r.e = (pa : Int)) && decide (r.t = (pb : Int))) bk = cs at *
  obtain ⟨a5, c5, rfl⟩ := own_shape hrow5
  have HRow := hide hrow5
  clear hrow5 hb5 H4 HB4 hf4 hv4 HDep HBk
  obtain ⟨f, hf⟩ : ∃ f, f = (fun c : Nat × Nat => c :: bel n bk c) := ⟨_, rfl⟩
  rw [← hf] at HLe hbe
  replace hf := hide hf
  go_wp2_with fail
  go_loopw [2, 14] (fun u x wr => ∃ (k : Nat), k ≤ cs.length ∧ x = .int .i64 (k : Int) ∧ Hid (Grew w5 v wr u) ∧ Hid (wr.ownsRow n0 28 2 u (ps ++ (cs.take k).flatMap f).length (encPs (ps ++ (cs.take k).flatMap f)))) (fun _ x _ => cs.length - (intOf x).toNat)
  case atStart => exact ⟨0, by omega, rfl, Grew.refl _ _, by rw [List.take_zero, List.flatMap_nil, List.append_nil]; exact HV⟩
  case round =>
  obtain ⟨k, hk, rfl, K1, K2⟩ := hrel
  have hqn : (ps ++ (cs.take k).flatMap f).length ≤ 768 := by have h1 := HLe.out; have h2 := flat_le f cs k; simp only [List.length_append] at h1 ⊢; omega
  have HQ : Hid (∀ hk : k < cs.length, ps ++ (cs.take (k + 1)).flatMap f = (ps ++ (cs.take k).flatMap f) ++ f cs[k]) := hide (fun hk => by rw [flat_next f hk, List.append_assoc])
  have HQ1 : Hid ((ps ++ (cs.take (k + 1)).flatMap f).length ≤ 768) := hide (by have h1 := HLe.out; have h2 := flat_le f cs (k + 1); simp only [List.length_append] at h1 ⊢; omega)
  have HEnd : Hid (k = cs.length → ps ++ (cs.take k).flatMap f = ps ++ bel (n + 1) bk (pa, pb)) := hide (fun e => by rw [e, List.take_length, hbe.out])
  generalize ps ++ (cs.take k).flatMap f = qs at *
  obtain ⟨L, hL⟩ : ∃ L, L = qs.length := ⟨_, rfl⟩
  rw [← hL] at K2 hqn
  replace hL := hide hL
  obtain ⟨au, cu, rfl⟩ := own_shape K2.out
  by_cases hlt : k < cs.length
  · obtain ⟨gq, rfl, hcq⟩ : ∃ gq, a5 = some ⟨gq, 0, none⟩ ∧ wr.cell? ⟨gq, k * 2, none⟩ = some (.int .i64 ((cs[k].1 : Nat) : Int)) ∧ wr.cell? ⟨gq, k * 2 + 1, none⟩ = some (.int .i64 ((cs[k].2 : Nat) : Int)) := by
      have hw := K1.out.row HRow.out HNe.out
      obtain ⟨_, ⟨h0, h00⟩ | ⟨g0, cap, cur, hv0, hgb, hg0, _⟩⟩ := HRow.out
      · omega
      · cases hv0
        refine ⟨g0, rfl, ?_, ?_⟩
        · rw [hw.cellAt (k * 2) (by omega)]; exact (encPs_at hlt).1
        · rw [hw.cellAt (k * 2 + 1) (by omega)]; exact (encPs_at hlt).2
    have HD := hide (HCs.out cs[k] (List.getElem_mem hlt))
    have HQ2 := hide (HQ.out hlt)
    have HBw := hide (K1.out.book H5.out HFl.out HV.out)
    have hf9 : f cs[k] = cs[k] :: bel n bk cs[k] := by rw [hf.out]
    rw [hf9] at HQ2
    clear hf9 HQ
    obtain ⟨c, hc⟩ : ∃ c, c = cs[k] := ⟨_, rfl⟩
    rw [← hc] at HD HQ2 hcq
    clear hc
    obtain ⟨ci, cj⟩ := c
    obtain ⟨cq0, cq1⟩ := hcq
    dsimp only at cq0 cq1
    have hkl : (k : Int) < (cs.length : Int) := by omega
    have hwk : k * 2 + 1 < cs.length * 2 := by omega
    have hnr : n0 ≤ wr.heap.size := Nat.le_trans hn5 K1.out.by'.size
    go_upto_region 4 with fail
    have hb6 := (Below.refl wr.heap.size wr).alloc (Nat.le_refl _) (.cells #[.int .i64 (ci : Int), .int .i64 (cj : Int)] 28)
    have hN6 := heap_alloc_new wr (.cells #[.int .i64 (ci : Int), .int .i64 (cj : Int)] 28)
    have hs6 : wr.heap.size < (wr.alloc (.cells #[.int .i64 (ci : Int), .int .i64 (cj : Int)] 28)).heap.size := by simp
    generalize wr.alloc (.cells #[.int .i64 (ci : Int), .int .i64 (cj : Int)] 28) = w6 at *
    have HBk6 := hide (HBw.out.below hb6.drew)
    have HK6 := hide (own_below K2.out hb6.drew)
    have HG6 := hide (K1.out.trans (Grew.of_below (.slice au L cu) hb6.drew))
    have HUl : Hid (∀ g, (Value.slice au L cu).ownBlock = some g → g < wr.heap.size) := hide (fun g hg => (own_lt K2.out hg).2)
    have HN6 : Hid (w6.drew.heap[wr.heap.size]? = some (.cells #[.int .i64 (ci : Int), .int .i64 (cj : Int)] 28 (0, 0))) := hN6
    have hs6' : wr.heap.size < w6.drew.heap.size := hs6
    clear hb6 hN6 cq0 cq1 K1 K2 HBw hs6
    generalize hnw : wr.heap.size = nw at *
    have HSof : Hid (∀ W : World, W.heap[nw]? = some (.cells #[.int .i64 (ci : Int), .int .i64 (cj : Int)] 28 (0, 0)) → W.cell? ⟨nw, 0, none⟩ = some (.int .i64 (ci : Int)) ∧ W.cell? ⟨nw, 1, none⟩ = some (.int .i64 (cj : Int))) := hide (fun W hW => ⟨(blk2 hW).1, (blk2 hW).2.1⟩)
    refine wp_region_held_drew (S := fun W => W.cell? ⟨nw, 0, none⟩ = some (.int .i64 (ci : Int)) ∧ W.cell? ⟨nw, 1, none⟩ = some (.int .i64 (cj : Int))) (by kernel_rfl) (HSof.out _ HN6.out) (fun hHeld => ?_)
    generalize w6.drew = w7 at *
    refine hd_take 0 (o := ⟨some 18, _, _, _, _, _⟩) (.pointer (some ⟨B, 0, none⟩)) (by kernel_rfl) (by kernel_rfl) (by kernel_rfl) rfl (by rfl) (fun W hSw => by go_simp) (fun _ _ _ h => h) hHeld ?_
    simp only [Act.put, List.setIfInBounds_toArray, List.set_cons_zero, List.set_cons_succ]
    refine hd_take 1 (o := ⟨some 19, _, _, _, _, _⟩) (.agg #[.int .i64 (ci : Int), .int .i64 (cj : Int)]) (by kernel_rfl) (by kernel_rfl) (by kernel_rfl) rfl (by rfl) (fun W hSw => by obtain ⟨s0, s1⟩ := hSw; go_simp) (fun _ _ _ h => h) hHeld ?_
    simp only [Act.put, List.setIfInBounds_toArray, List.set_cons_zero, List.set_cons_succ]
    refine hd_take 2 (o := ⟨some 20, _, _, _, _, _⟩) (.slice au L cu) (by kernel_rfl) (by kernel_rfl) (by kernel_rfl) rfl (by rfl) (fun W hSw => by go_simp) (fun _ _ _ h => h) hHeld ?_
    simp only [Act.put, List.setIfInBounds_toArray, List.set_cons_zero, List.set_cons_succ]
    refine hd_take 3 (o := ⟨some 21, _, _, _, _, _⟩) (.agg #[.int .i64 (ci : Int), .int .i64 (cj : Int)]) (by kernel_rfl) (by kernel_rfl) (by kernel_rfl) rfl (by rfl) (fun W hSw => by obtain ⟨s0, s1⟩ := hSw; go_simp) (fun _ _ _ h => h) hHeld ?_
    simp only [Act.put, List.setIfInBounds_toArray, List.set_cons_zero, List.set_cons_succ]
    refine hd_call 4 (o := ⟨some 22, _, _, _, _, _⟩) (by kernel_rfl) rfl (by rfl) (fun K hK => ?_)
    go_simp
    have hN7 := (Below.heap_alloc w7 (.cells #[.int .i64 (ci : Int), .int .i64 (cj : Int)] 28) nw hs6').trans HN6.out
    refine hK _ _ (HSof.out _ hN7) ?_
    clear hK K hHeld
    have hs8 : nw < (w7.alloc (.cells #[.int .i64 (ci : Int), .int .i64 (cj : Int)] 28)).heap.size := by simp; omega
    refine hd_call 5 (o := ⟨some 23, _, _, _, _, _⟩) (by kernel_rfl) rfl (by rfl) (fun K hK => ?_)
    refine wp_append_at (.tmp 20) (.tmp 22) 29 rfl n0 28 i28 (.agg #[.int .i64 0, .int .i64 0]) 2 16 Try.underlying29 hi hz hs hb rfl (by decide) (.slice au L cu) L (encPs qs) (by simp [Act.eval]) (HK6.out.alloc _) ⟨w7.heap.size, 0, none⟩ 1 1 [.int .i64 (ci : Int), .int .i64 (cj : Int)] (by simp [Act.eval]) rfl (cell_two_new _ _ _ _) (by simp [Value.oneCell']) (by unfold maxLen; omega) (by omega) (by simp; omega) ?_
    intro v8 w8 ho8 hg8 hl8
    have hN8 : w8.heap[nw]? = some (.cells #[.int .i64 (ci : Int), .int .i64 (cj : Int)] 28 (0, 0)) := (hg8.block nw hs8 (fun e => by have := HUl.out nw e.symm; omega)).trans hN7
    have HG8 : Hid (Grew (w7.alloc (.cells #[.int .i64 (ci : Int), .int .i64 (cj : Int)] 28)) (.slice au L cu) w8 v8) := hide ⟨hg8, fun g hg => by
      rcases hl8 with e | e
      · exact .inl (e.symm.trans hg)
      · rw [hg] at e; cases e; exact .inr (Nat.le_refl _)⟩
    have HB8 := hide (HG8.out.book (HBk6.out.below ((Below.refl _ _).alloc (Nat.le_refl _) _)) HFl.out (HK6.out.alloc _))
    have HGa : Hid (Grew w5 v w8 v8) := hide ((HG6.out.trans (Grew.of_below _ ((Below.refl w7.heap.size w7).alloc (Nat.le_refl _) (.cells #[.int .i64 (ci : Int), .int .i64 (cj : Int)] 28)))).trans HG8.out)
    have HO8 : Hid (w8.ownsRow n0 28 2 v8 (qs ++ [(ci, cj)]).length (encPs (qs ++ [(ci, cj)]))) := by
      refine hide ?_
      rw [List.length_append, ← hL.out, encPs_snoc]
      exact ho8
    have hV8 : ∀ g, v8.ownBlock = some g → g ≠ nw := fun g hg e => by
      rcases HG8.out.at' g hg with h1 | h1
      · have := HUl.out g h1; omega
      · omega
    have HIn := hide (HIH.out w8 F B bk HB8.out ci cj HD.out n0 v8 (qs ++ [(ci, cj)]) (Nat.le_trans hn5 HGa.out.by'.size) HO8.out HFl.out (by rw [List.append_assoc, List.singleton_append, ← HQ2.out]; exact HQ1.out))
    refine hK _ _ (HSof.out _ hN8) ?_
    clear hK K ho8 hg8 hl8
    simp only [Act.put, List.setIfInBounds_toArray, List.set_cons_zero, List.set_cons_succ]
    refine hd_call 6 (o := ⟨some 24, _, _, _, _, _⟩) (by kernel_rfl) rfl (by rfl) (fun K hK => ?_)
    go_simp
    go_wp2_with (go_at_call 50; refine HIn.out.mono ?_; rintro e1 w9 ⟨v9, rfl, ho9, hg9⟩)
    have hN9 : w9.heap[nw]? = some (.cells #[.int .i64 (ci : Int), .int .i64 (cj : Int)] 28 (0, 0)) := (hg9.by'.block nw (Array.getElem?_eq_some_iff.1 hN8).1 (fun e => hV8 nw e.symm rfl)).trans hN8
    have L1 := hide (HGa.out.trans hg9)
    have L2 : Hid (w9.ownsRow n0 28 2 v9 (ps ++ (cs.take (k + 1)).flatMap f).length (encPs (ps ++ (cs.take (k + 1)).flatMap f))) := by
      refine hide ?_
      rw [HQ2.out, ← List.singleton_append, ← List.append_assoc]
      exact ho9
    refine hK _ _ (HSof.out _ hN9) ?_
    clear hK K ho9 hg9
    refine hd_take 7 (o := ⟨some 2, _, _, _, _, _⟩) (v9) (by kernel_rfl) (by kernel_rfl) (by kernel_rfl) rfl (by rfl) (fun W hSw => by go_simp) (fun _ _ _ h => h) (HSof.out _ hN9) ?_
    simp only [Act.put, List.setIfInBounds_toArray, List.set_cons_zero, List.set_cons_succ]
    refine wpAnyH_done (by kernel_rfl) ?_ _
    clear hN7 hN8 hN9 HN6 HSof HIn HO8 HB8 HG8 HGa HK6 HG6 HBk6 HUl HQ2 HQ1 HEnd hV8
    go_wp2
    go_roundw
    case rel =>
      first
        | exact ⟨k + 1, by omega, by go_num, L1, L2⟩
        | ((repeat apply Exists.intro); refine ⟨?_, rfl⟩; exact ⟨k + 1, by omega, by go_num, L1, L2⟩)
    case measure => simp [intOf]; omega
  · have hd : decide ((k : Int) < (cs.length : Int)) = false := by simp; omega
    have hd2 : decide (k < cs.length) = false := by simp; omega
    have e : qs = ps ++ bel (n + 1) bk (pa, pb) := HEnd.out (by omega)
    have K4 : Hid (wr.ownsRow n0 28 2 (.slice au L cu) (ps ++ bel (n + 1) bk (pa, pb)).length (encPs (ps ++ bel (n + 1) bk (pa, pb)))) := by
      refine hide ?_
      rw [← e, ← hL.out]
      exact K2.out
    clear e
    go_wp2
    go_ret
    exact ⟨_, rfl, K4.out, HG5.out.trans K1.out⟩
end Go.Proofs.Ytimfgjndgfjjgaa

namespace Go.Proofs.Ytimfgjndgfjjgaa
open Go.RowKit Go.Shelf

/-- how two numbers lie -/
def ci (x y : Int) : Int := if x < y then -1 else if y < x then 1 else 0
theorem nan_any (w : World) (x : Int) : Calls Try.prog 78 #[.int .i64 x] w fun e w' => e = .returned (.bool false) ∧ w' = w := by
  go_enter Try.func78, Try.ntmps78
  go_wp2
  go_ret
  exact ⟨by simp, rfl⟩
theorem compare_any (w : World) (x y : Int) : Calls Try.prog 54 #[.int .i64 x, .int .i64 y] w fun e w' => e = .returned (.int .i64 (ci x y)) ∧ w' = w := by
  have HN := hide (fun w x => nan_any w x)
  unfold ci
  by_cases h1 : x < y
  · rw [if_pos h1]
    go_enter Try.func54, Try.ntmps54
    go_wp2_with (go_at_call 78; refine (HN.out _ _).mono ?_; rintro e w1 ⟨rfl, rfl⟩)
    go_ret
    exact ⟨rfl, rfl⟩
  · rw [if_neg h1]
    by_cases h2 : y < x
    · rw [if_pos h2]
      go_enter Try.func54, Try.ntmps54
      go_wp2_with (go_at_call 78; refine (HN.out _ _).mono ?_; rintro e w1 ⟨rfl, rfl⟩)
      go_ret
      exact ⟨rfl, rfl⟩
    · rw [if_neg h2]
      go_enter Try.func54, Try.ntmps54
      go_wp2_with (go_at_call 78; refine (HN.out _ _).mono ?_; rintro e w1 ⟨rfl, rfl⟩)
      go_ret
      exact ⟨rfl, rfl⟩
set_option maxHeartbeats 1600000 in
theorem or_any (w : World) (g c : Nat) (a b : Int) (h0 : w.cell? ⟨g, 0, none⟩ = some (.int .i64 a)) (h1 : w.cell? ⟨g, 1, none⟩ = some (.int .i64 b)) :
    Calls Try.prog 53 #[.slice (some ⟨g, 0, none⟩) 2 c] w fun e w' => e = .returned (.int .i64 (if a = 0 then b else a)) ∧ w' = w := by
  by_cases ha : a = 0
  · subst ha
    rw [if_pos rfl]
    by_cases hb : b = 0
    · subst hb
      go_enter Try.func53, Try.ntmps53
      go_wp2
      refine wp_loop_rounds 3 ?_
      rw [rounds_succ]
      go_wp2
      rw [rounds_succ]
      go_wp2
      rw [rounds_succ]
      go_wp2
      go_ret
      exact ⟨rfl, rfl⟩
    · go_enter Try.func53, Try.ntmps53
      go_wp2
      refine wp_loop_rounds 2 ?_
      rw [rounds_succ]
      go_wp2
      rw [rounds_succ]
      go_wp2
      go_ret
      exact ⟨rfl, rfl⟩
  · rw [if_neg ha]
    go_enter Try.func53, Try.ntmps53
    go_wp2
    refine wp_loop_rounds 1 ?_
    rw [rounds_succ]
    go_wp2
    go_ret
    exact ⟨rfl, rfl⟩
end Go.Proofs.Ytimfgjndgfjjgaa

namespace Go.Proofs.Ytimfgjndgfjjgaa
open Go.RowKit Go.Shelf Go.Sort

def orr (a b : Int) : Int := if a = 0 then b else a
theorem or_orr (w : World) (g c : Nat) (a b : Int) (h0 : w.cell? ⟨g, 0, none⟩ = some (.int .i64 a)) (h1 : w.cell? ⟨g, 1, none⟩ = some (.int .i64 b)) :
    Calls Try.prog 53 #[.slice (some ⟨g, 0, none⟩) 2 c] w fun e w' => e = .returned (.int .i64 (orr a b)) ∧ w' = w := or_any w g c a b h0 h1
/-- how two places lie -/
def cp (x y : Nat × Nat) : Int := orr (ci x.1 y.1) (ci x.2 y.2)
set_option maxHeartbeats 4000000 in
theorem closure_any (W : World) (x y : Nat × Nat) : Calls Try.prog 52 #[.agg #[.int .i64 (x.1 : Int), .int .i64 (x.2 : Int)], .agg #[.int .i64 (y.1 : Int), .int .i64 (y.2 : Int)]] W fun e w' => e = .returned (.int .i64 (cp x y)) ∧ ∃ q os', w' = grow (W.drewN q) os' := by
  obtain ⟨x1, x2⟩ := x
  obtain ⟨y1, y2⟩ := y
  have HC := hide (fun w a b => compare_any w a b)
  have h1 := heap_alloc2_old W (.cells #[.int .i64 (x1 : Int), .int .i64 (x2 : Int)] 28) (.cells #[.int .i64 (y1 : Int), .int .i64 (y2 : Int)] 28)
  have h2 := heap_alloc2_new W (.cells #[.int .i64 (x1 : Int), .int .i64 (x2 : Int)] 28) (.cells #[.int .i64 (y1 : Int), .int .i64 (y2 : Int)] 28)
  have HW : Hid (∃ q os', ((W.alloc (.cells #[.int .i64 (x1 : Int), .int .i64 (x2 : Int)] 28)).alloc (.cells #[.int .i64 (y1 : Int), .int .i64 (y2 : Int)] 28)) = grow (W.drewN q) os') := hide ⟨0, _, by rw [alloc_eq_grow, alloc_eq_grow, grow_grow]; rfl⟩
  dsimp only
  go_enter Try.func52, Try.ntmps52
  go_upto_region 1 with fail
  generalize ((W.alloc (.cells #[.int .i64 (x1 : Int), .int .i64 (x2 : Int)] 28)).alloc (.cells #[.int .i64 (y1 : Int), .int .i64 (y2 : Int)] 28)) = w0 at *
  have c0 : (w0.drew.cell? ⟨W.heap.size, 0, none⟩ = some (.int .i64 (x1 : Int)) ∧ w0.drew.cell? ⟨W.heap.size, 1, none⟩ = some (.int .i64 (x2 : Int))) ∧ (w0.drew.cell? ⟨W.heap.size + 1, 0, none⟩ = some (.int .i64 (y1 : Int)) ∧ w0.drew.cell? ⟨W.heap.size + 1, 1, none⟩ = some (.int .i64 (y2 : Int))) := ⟨⟨(blk2 h1).1, (blk2 h1).2.1⟩, (blk2 h2).1, (blk2 h2).2.1⟩
  have HK : Hid (∀ o, ((w0.drew.alloc o).cell? ⟨W.heap.size, 0, none⟩ = some (.int .i64 (x1 : Int)) ∧ (w0.drew.alloc o).cell? ⟨W.heap.size, 1, none⟩ = some (.int .i64 (x2 : Int))) ∧ ((w0.drew.alloc o).cell? ⟨W.heap.size + 1, 0, none⟩ = some (.int .i64 (y1 : Int)) ∧ (w0.drew.alloc o).cell? ⟨W.heap.size + 1, 1, none⟩ = some (.int .i64 (y2 : Int)))) := hide (fun o => by
    have e1 : (w0.drew.alloc o).heap[W.heap.size]? = _ := (Below.heap_alloc w0.drew o _ (Array.getElem?_eq_some_iff.1 h1).1).trans h1
    have e2 : (w0.drew.alloc o).heap[W.heap.size + 1]? = _ := (Below.heap_alloc w0.drew o _ (Array.getElem?_eq_some_iff.1 h2).1).trans h2
    exact ⟨⟨(blk2 e1).1, (blk2 e1).2.1⟩, (blk2 e2).1, (blk2 e2).2.1⟩)
  have HO := hide (fun (w : World) (t : TypeId) (a b : Int) => or_orr (w.alloc (.cells #[.int .i64 a, .int .i64 b] t)).drew w.heap.size 2 a b (by have := heap_alloc_new w (.cells #[.int .i64 a, .int .i64 b] t); exact (blk2 this).1) (by have := heap_alloc_new w (.cells #[.int .i64 a, .int .i64 b] t); exact (blk2 this).2.1))
  clear h1 h2
  go_region_held (fun w => (w.cell? ⟨W.heap.size, 0, none⟩ = some (.int .i64 (x1 : Int)) ∧ w.cell? ⟨W.heap.size, 1, none⟩ = some (.int .i64 (x2 : Int))) ∧ (w.cell? ⟨W.heap.size + 1, 0, none⟩ = some (.int .i64 (y1 : Int)) ∧ w.cell? ⟨W.heap.size + 1, 1, none⟩ = some (.int .i64 (y2 : Int))))
    (first | assumption | exact c0 | exact HK.out _)
    (first | (go_at_call 54; refine (HC.out _ _ _).mono ?_; rintro e1 w1 ⟨rfl, hw1⟩; subst hw1) | (go_at_call 53; refine (HO.out _ _ _ _).mono ?_; rintro e1 w1 ⟨rfl, hw1⟩; subst hw1))
  all_goals
    go_wp2
    go_ret
    obtain ⟨q, os, hq⟩ := HW.out
    exact ⟨rfl, q + 1, _, by rw [hq, alloc_eq_grow, grow_grow, drew_grow]; rfl⟩
end Go.Proofs.Ytimfgjndgfjjgaa

namespace Go.Proofs.Ytimfgjndgfjjgaa
open Go.RowKit

/-- a number that falls from child to parent; each parent is there -/
def Rk (bk : List (Option Lst)) (f : Int → Int → Nat) : Prop := ∀ e s r, atB bk e s = some r → (r.e = -1 ∧ r.t = -1) ∨ ((∃ r', atB bk r.e r.t = some r') ∧ f r.e r.t < f e s)
/-- going up from a place to the nearest one in the lists of ins -/
inductive Ups (bk : List (Option Lst)) (ins : Int → Bool) : Int → Int → Int → Int → Prop
  | none : Ups bk ins (-1) (-1) (-1) (-1)
  | here (e s : Int) (r : Rc) : atB bk e s = some r → ins e = true → Ups bk ins e s e s
  | up (e s x y : Int) (r : Rc) : atB bk e s = some r → ins e = false → Ups bk ins r.e r.t x y → Ups bk ins e s x y
/-- a slice of numbers that came in -/
def IsInts' (w : World) (a : Option Addr) (len : Nat) (Z : Nat → Int) : Prop := ∀ k, k < len → ∃ x, a = some x ∧ w.cell? (x.add k) = some (.int .i64 (Z k))
theorem cell_lt2 {w : World} {a : Addr} {v : Value} (h : w.cell? a = some v) : a.block < w.heap.size := by
  unfold World.cell? at h
  cases hb : w.heap[a.block]? with
  | none => rw [hb] at h; simp at h
  | some o => exact (Array.getElem?_eq_some_iff.1 hb).1
theorem IsInts'.at {w : World} {a : Option Addr} {len : Nat} {Z : Nat → Int} (h : IsInts' w a len Z) {k : Nat} (hk : k < len) : ∃ x, a = some x ∧ ∀ W, Below w.heap.size w W → W.cell? (x.add k) = some (.int .i64 (Z k)) := by
  obtain ⟨x, h1, h2⟩ := h k hk
  exact ⟨x, h1, fun W hW => (hW.cell (cell_lt2 h2)).trans h2⟩
/-- which lists stand among the first k -/
def insB (Z : Nat → Int) (k : Nat) : List Bool := (List.range 16).map (fun i : Nat => (List.range k).any (fun j => decide (Z j = (i : Int))))
theorem insB_len (Z : Nat → Int) (k : Nat) : (insB Z k).length = 16 := by simp [insB]
theorem insB_zero (Z : Nat → Int) : insB Z 0 = List.replicate 16 false := by simp [insB]; decide
theorem insB_get (Z : Nat → Int) (k i : Nat) (hi : i < 16) : (insB Z k)[i]? = some ((List.range k).any (fun j => decide (Z j = (i : Int)))) := by simp [insB, hi]
theorem insB_in (Z : Nat → Int) (k i : Nat) (hz : Z k = (i : Int)) : insB Z (k + 1) = (insB Z k).set i true := by
  apply List.ext_getElem?
  intro q
  rcases Nat.lt_or_ge q 16 with hq | hq
  · rw [insB_get _ _ _ hq, List.getElem?_set]
    by_cases e : i = q
    · subst e
      rw [if_pos rfl, if_pos (by rw [insB_len]; exact hq)]
      simp [List.range_succ, hz]
    · rw [if_neg e, insB_get _ _ _ hq]
      have : ¬ Z k = (q : Int) := by omega
      simp [List.range_succ, this]
  · rw [List.getElem?_eq_none (by rw [insB_len]; exact hq), List.getElem?_eq_none (by rw [List.length_set, insB_len]; exact hq)]
theorem insB_out (Z : Nat → Int) (k : Nat) (hz : ¬ (0 ≤ Z k ∧ Z k < 16)) : insB Z (k + 1) = insB Z k := by
  apply List.ext_getElem?
  intro q
  rcases Nat.lt_or_ge q 16 with hq | hq
  · rw [insB_get _ _ _ hq, insB_get _ _ _ hq]
    have : ¬ Z k = (q : Int) := by omega
    simp [List.range_succ, this]
  · rw [List.getElem?_eq_none (by rw [insB_len]; exact hq), List.getElem?_eq_none (by rw [insB_len]; exact hq)]
def insF (Z : Nat → Int) (len : Nat) (e : Int) : Bool := ((insB Z len)[e.toNat]?).getD false
theorem atB_lt {w : World} {F : Nat → Prop} {B : Nat} {bk : List (Option Lst)} (h : Book w F B bk) {e s : Int} {r : Rc} (hr : atB bk e s = some r) : ∃ i j : Nat, e = i ∧ s = j ∧ i < 16 ∧ j < 48 := by
  obtain ⟨i, j, l, h1, h2, h3, h4, _⟩ := atB_some hr
  refine ⟨i, j, h1, h2, ?_, ?_⟩
  · have := (List.getElem?_eq_some_iff.1 h3).1; rw [h.blen] at this; exact this
  · have := (List.getElem?_eq_some_iff.1 h4).1; rw [h.l48 h3] at this; exact this
/-- what lies on the heap beside the array of lists -/
structure UpAt (w wr : World) (n8 n10 n12 : Nat) (r : Rc) (ins : List Bool) : Prop where
  res : wr.heap[n8]? = some (.cells #[.int .i64 0, .int .i64 0] 28 (0, 0))
  rcd : wr.heap[n10]? = some (.cells #[.int .i64 r.k, .int .i64 r.o, .int .i64 r.s, .int .i64 r.r, .int .i64 r.e, .int .i64 r.t] 78 (0, 0))
  arr : wr.heap[n12]? = some (.cells (ins.map Value.bool).toArray 84 (0, 0))
  bel : Below w.heap.size w wr
  ne1 : n8 ≠ n12
  ne2 : n10 ≠ n12
  lo8 : w.heap.size ≤ n8
  lo : w.heap.size ≤ n12
theorem UpAt.store {w wr : World} {n8 n10 n12 : Nat} {r : Rc} {ins : List Bool} (h : UpAt w wr n8 n10 n12 r ins) (i : Nat) (t : Bool) : UpAt w (wr.setCell ⟨n12, i, none⟩ (.bool t)) n8 n10 n12 r (ins.set i t) := by
  refine ⟨(heap_setCell_other _ _ _ _ h.ne1).trans h.res, (heap_setCell_other _ _ _ _ h.ne2).trans h.rcd, ?_, h.bel.setCell (p := ⟨n12, i, none⟩) h.lo _, h.ne1, h.ne2, h.lo8, h.lo⟩
  rw [heap_setCell_same _ n12 i _ _ _ h.arr, List.map_set]
  simp
theorem UpAt.cell {w wr : World} {n8 n10 n12 : Nat} {r : Rc} {ins : List Bool} (h : UpAt w wr n8 n10 n12 r ins) {i : Nat} {t : Bool} (hi : ins[i]? = some t) : wr.cell? ⟨n12, i, none⟩ = some (.bool t) ∧ wr.frozen? ⟨n12, i, none⟩ = false :=
  ⟨by rw [cell_of_row _ _ _ _ _ _ h.arr]; simp [hi], frozen_of_row _ _ _ _ _ h.arr⟩
structure UpL (w wr : World) (n8 n12 n15 : Nat) (ins : List Bool) (pe pt : Int) : Prop where
  res : wr.heap[n8]? = some (.cells #[.int .i64 0, .int .i64 0] 28 (0, 0))
  arr : wr.heap[n12]? = some (.cells (ins.map Value.bool).toArray 84 (0, 0))
  pl : wr.heap[n15]? = some (.cells #[.int .i64 pe, .int .i64 pt] 28 (0, 0))
  bel : Below w.heap.size w wr
  ne1 : n8 ≠ n15
  ne2 : n12 ≠ n15
  lo8 : w.heap.size ≤ n8
  lo : w.heap.size ≤ n15
theorem UpL.below {w wr w' : World} {n8 n12 n15 : Nat} {ins : List Bool} {pe pt : Int} (h : UpL w wr n8 n12 n15 ins pe pt) (hb : Below wr.heap.size wr w') : UpL w w' n8 n12 n15 ins pe pt :=
  ⟨(hb.block n8 (Array.getElem?_eq_some_iff.1 h.res).1).trans h.res, (hb.block n12 (Array.getElem?_eq_some_iff.1 h.arr).1).trans h.arr, (hb.block n15 (Array.getElem?_eq_some_iff.1 h.pl).1).trans h.pl, h.bel.trans (hb.mono h.bel.size), h.ne1, h.ne2, h.lo8, h.lo⟩
theorem UpL.put {w wr : World} {n8 n12 n15 : Nat} {ins : List Bool} {pe pt : Int} (h : UpL w wr n8 n12 n15 ins pe pt) (x y : Int) : UpL w ((wr.setCell ⟨n15, 0, none⟩ (.int .i64 x)).setCell ⟨n15, 1, none⟩ (.int .i64 y)) n8 n12 n15 ins x y :=
  ⟨((heap_setCell_other _ _ _ _ h.ne1).trans (heap_setCell_other _ _ _ _ h.ne1)).trans h.res, ((heap_setCell_other _ _ _ _ h.ne2).trans (heap_setCell_other _ _ _ _ h.ne2)).trans h.arr, set2a h.pl _ _, (h.bel.setCell (p := ⟨n15, 0, none⟩) h.lo _).setCell (p := ⟨n15, 1, none⟩) h.lo _, h.ne1, h.ne2, h.lo8, h.lo⟩
theorem UpL.cell {w wr : World} {n8 n12 n15 : Nat} {ins : List Bool} {pe pt : Int} (h : UpL w wr n8 n12 n15 ins pe pt) {i : Nat} {t : Bool} (hi : ins[i]? = some t) : wr.cell? ⟨n12, i, none⟩ = some (.bool t) := by
  rw [cell_of_row _ _ _ _ _ _ h.arr]; simp [hi]
def upMeas (f : Int → Int → Nat) (n15 : Nat) (wr : World) : Nat := match wr.cell? ⟨n15, 0, none⟩, wr.cell? ⟨n15, 1, none⟩ with
  | some (.int _ e), some (.int _ s) => if e = -1 then 0 else f e s + 1
  | _, _ => 0
set_option maxRecDepth 8000 in
set_option maxHeartbeats 8000000 in
theorem upSome_any (w : World) (F : Nat → Prop) (B : Nat) (bk : List (Option Lst)) (h : Book w F B bk) (f : Int → Int → Nat) (hf : Rk bk f) (e s : Int) (r : Rc) (hr : atB bk e s = some r) (a : Option Addr) (len cap : Nat) (Z : Nat → Int) (hl : len ≤ maxLen) (hz : IsInts' w a len Z) :
    Calls Try.prog 13 #[.pointer (some ⟨B, 0, none⟩), .int .i64 e, .int .i64 s, .slice a len cap] w fun x w' => ∃ p q : Int, x = .returned (.tuple #[.agg #[.int .i64 p, .int .i64 q], .int .i64 0]) ∧ Ups bk (insF Z len) r.e r.t p q ∧ Below w.heap.size w w' := by
  have hb0 := (Below.refl w.heap.size w).alloc (Nat.le_refl _) (.cells #[.int .i64 0, .int .i64 0] 28)
  have HL := hide (look_any _ F B bk (h.below hb0) e s)
  have hZ := heap_alloc_new w (.cells #[.int .i64 0, .int .i64 0] 28)
  have HB0 := hide hb0
  have HK := hide h
  have HI := hide hz
  have HFr := hide hf
  have HRr := hide hr
  rw [hr, lcode_some hr] at HL
  simp only [Rc.val, Option.getD_some] at HL
  clear h hb0 hz hf hr
  go_enter Try.func13, Try.ntmps13
  go_wp2_with fail
  generalize hgw : w.alloc (.cells #[.int .i64 0, .int .i64 0] 28) = w0 at *
  clear hgw
  refine HL.out.mono ?_
  rintro e1 w1 ⟨rfl, hb1⟩
  have hlt := (Array.getElem?_eq_some_iff.1 hZ).1
  have hZ1 := (hb1.block w.heap.size hlt).trans hZ
  have hb1' := HB0.out.trans (hb1.mono HB0.out.size)
  clear hb1 HL hZ
  go_upto_region 5 with fail
  have hR2 := heap_alloc2_old w1 (.cells #[.int .i64 r.k, .int .i64 r.o, .int .i64 r.s, .int .i64 r.r, .int .i64 r.e, .int .i64 r.t] 78) (.cells #[.bool false, .bool false, .bool false, .bool false, .bool false, .bool false, .bool false, .bool false, .bool false, .bool false, .bool false, .bool false, .bool false, .bool false, .bool false, .bool false] 84)
  have hA2 := heap_alloc2_new w1 (.cells #[.int .i64 r.k, .int .i64 r.o, .int .i64 r.s, .int .i64 r.r, .int .i64 r.e, .int .i64 r.t] 78) (.cells #[.bool false, .bool false, .bool false, .bool false, .bool false, .bool false, .bool false, .bool false, .bool false, .bool false, .bool false, .bool false, .bool false, .bool false, .bool false, .bool false] 84)
  have hb2 := ((Below.refl w1.heap.size w1).alloc (Nat.le_refl _) (.cells #[.int .i64 r.k, .int .i64 r.o, .int .i64 r.s, .int .i64 r.r, .int .i64 r.e, .int .i64 r.t] 78)).alloc (by simp) (.cells #[.bool false, .bool false, .bool false, .bool false, .bool false, .bool false, .bool false, .bool false, .bool false, .bool false, .bool false, .bool false, .bool false, .bool false, .bool false, .bool false] 84)
  have HU : Hid (UpAt w ((w1.alloc (.cells #[.int .i64 r.k, .int .i64 r.o, .int .i64 r.s, .int .i64 r.r, .int .i64 r.e, .int .i64 r.t] 78)).alloc (.cells #[.bool false, .bool false, .bool false, .bool false, .bool false, .bool false, .bool false, .bool false, .bool false, .bool false, .bool false, .bool false, .bool false, .bool false, .bool false, .bool false] 84)) w.heap.size w1.heap.size (w1.heap.size + 1) r (insB Z 0)) := by
    have hlt1 := (Array.getElem?_eq_some_iff.1 hZ1).1
    have hge := hb1'.size
    rw [insB_zero]
    exact ⟨(hb2.block w.heap.size hlt1).trans hZ1, hR2, hA2, hb1'.trans (hb2.mono hge), by omega, by omega, Nat.le_refl _, by omega⟩
  generalize (w1.alloc (.cells #[.int .i64 r.k, .int .i64 r.o, .int .i64 r.s, .int .i64 r.r, .int .i64 r.e, .int .i64 r.t] 78)).alloc (.cells #[.bool false, .bool false, .bool false, .bool false, .bool false, .bool false, .bool false, .bool false, .bool false, .bool false, .bool false, .bool false, .bool false, .bool false, .bool false, .bool false] 84) = W0 at *
  generalize hn12 : w1.heap.size + 1 = n12 at *
  generalize w1.heap.size = n10 at *
  clear hR2 hA2 hb2 hZ1 hb1' hn12
  have hml : (len : Int) ≤ 9223372036854775807 := by unfold maxLen at hl; omega
  go_wp2_with fail
  go_loopw [31] (fun x wr => ∃ k : Nat, k ≤ len ∧ x = .int .i64 (k : Int) ∧ Hid (UpAt w wr w.heap.size n10 n12 r (insB Z k))) (fun x _ => len - (intOf x).toNat)
  case atStart => exact ⟨0, by omega, rfl, HU⟩
  case round =>
  obtain ⟨k, hk, rfl, K1⟩ := hrel
  clear HU
  by_cases hlt : k < len
  · obtain ⟨x, rfl, hx⟩ := HI.out.at hlt
    have cx := hx wr K1.out.bel
    have hki : (k : Int) < (len : Int) := by omega
    clear hx
    by_cases hr1 : 0 ≤ Z k
    · by_cases hr2 : Z k < 16
      · obtain ⟨d, hd⟩ : ∃ d : Nat, Z k = (d : Int) := ⟨(Z k).toNat, by omega⟩
        have hd16 : d < 16 := by omega
        obtain ⟨ct, ft⟩ := K1.out.cell (insB_get Z k d hd16)
        have K2 : Hid (UpAt w (wr.setCell ⟨n12, d, none⟩ (.bool true)) w.heap.size n10 n12 r (insB Z (k + 1))) := by
          rw [insB_in Z k d hd]; exact K1.out.store d true
        rw [hd] at cx
        have hd3 : (d : Int) < 16 := by omega
        clear K1 hr1 hr2 hd
        go_wp2
        go_roundw
        case rel =>
          first
            | exact ⟨k + 1, by omega, by go_num, K2⟩
            | ((repeat apply Exists.intro); refine ⟨?_, rfl⟩; exact ⟨k + 1, by omega, by go_num, K2⟩)
        case measure => simp [intOf]; omega
      · have K2 : Hid (UpAt w wr w.heap.size n10 n12 r (insB Z (k + 1))) := by rw [insB_out Z k (by omega)]; exact K1
        go_wp2
        go_roundw
        case rel =>
          first
            | exact ⟨k + 1, by omega, by go_num, K2⟩
            | ((repeat apply Exists.intro); refine ⟨?_, rfl⟩; exact ⟨k + 1, by omega, by go_num, K2⟩)
        case measure => simp [intOf]; omega
    · have K2 : Hid (UpAt w wr w.heap.size n10 n12 r (insB Z (k + 1))) := by rw [insB_out Z k (by omega)]; exact K1
      go_wp2
      go_roundw
      case rel =>
        first
          | exact ⟨k + 1, by omega, by go_num, K2⟩
          | ((repeat apply Exists.intro); refine ⟨?_, rfl⟩; exact ⟨k + 1, by omega, by go_num, K2⟩)
      case measure => simp [intOf]; omega
  have hd1 : decide ((k : Int) < (len : Int)) = false := by simp; omega
  have hd2 : decide (k < len) = false := by simp; omega
  have HU : Hid (UpAt w wr w.heap.size n10 n12 r (insB Z len)) := by
    have e : k = len := by omega
    rw [e] at K1
    exact K1
  obtain ⟨x0, x1, x2, x3, x4, x5, -, -, -, -, -, -⟩ := blk6 HU.out.rcd
  have HP := hide (parent_any wr r)
  simp only [Rc.val] at HP
  clear K1
  go_wp2_with fail
  refine HP.out.mono ?_
  rintro e1 w5 ⟨rfl, hb5⟩
  have hb6 := hb5.alloc hb5.size (.cells #[.int .i64 r.e, .int .i64 r.t] 28)
  have hN15 := heap_alloc_new w5 (.cells #[.int .i64 r.e, .int .i64 r.t] 28)
  have HV : Hid (UpL w (w5.alloc (.cells #[.int .i64 r.e, .int .i64 r.t] 28)) w.heap.size n12 w5.heap.size (insB Z len) r.e r.t) := by
    have h8 := (Array.getElem?_eq_some_iff.1 HU.out.res).1
    have h12 := (Array.getElem?_eq_some_iff.1 HU.out.arr).1
    have h5 := hb5.size
    exact ⟨(hb6.block _ h8).trans HU.out.res, (hb6.block _ h12).trans HU.out.arr, hN15, HU.out.bel.trans (hb6.mono HU.out.bel.size), by omega, by omega, Nat.le_refl _, by have := HU.out.bel.size; omega⟩
  clear hb5 hb6 hN15 HU x0 x1 x2 x3 x4 x5 HP hlt hd1 hd2 hk
  have HE0 : Hid ((r.e = -1 ∧ r.t = -1) ∨ ∃ r', atB bk r.e r.t = some r') := (HFr.out e s r HRr.out).imp id (fun h => h.1)
  go_wp2_with fail
  generalize w5.alloc (.cells #[.int .i64 r.e, .int .i64 r.t] 28) = w6 at *
  generalize w5.heap.size = n15 at *
  go_loopw [17] (fun _ wr => ∃ pe pt : Int, Hid (UpL w wr w.heap.size n12 n15 (insB Z len) pe pt) ∧ Hid ((pe = -1 ∧ pt = -1) ∨ ∃ r', atB bk pe pt = some r') ∧ Hid (∀ p q, Ups bk (insF Z len) pe pt p q → Ups bk (insF Z len) r.e r.t p q)) (fun _ wr => upMeas f n15 wr)
  case atStart => exact ⟨r.e, r.t, HV, HE0, fun p q h => h⟩
  case round =>
  obtain ⟨pe, pt, K1, K2, K3⟩ := hrel
  clear HV HE0
  obtain ⟨c0, c1, f0, f1⟩ := blk2 K1.out.pl
  rcases K2.out with ⟨rfl, rfl⟩ | ⟨r', hr'⟩
  · clear c0 c1 f0 f1
    go_upto_region 12 with fail
    refine region_below (by kernel_rfl) (by kernel_rfl) ?_
    refine wpQuiet_step (fun K hK => ?_)
    go_simp
    refine ⟨.agg #[.int .i64 (-1), .int .i64 (-1)], fun w' hw' => ?_, hK _ ?_⟩
    · obtain ⟨d0, d1, _, _⟩ := blk2 ((K1.out.below hw').pl)
      go_simp
    clear hK K
    refine wpQuiet_step (fun K hK => ?_)
    go_simp
    refine ⟨.agg #[.int .i64 (-1), .int .i64 (-1)], fun w' hw' => calls_below hw' (nowhere_any w'), hK _ ?_⟩
    clear hK K
    refine wpQuiet_step (fun K hK => ?_)
    go_simp
    refine ⟨.bool false, fun w' hw' => ?_, hK _ ?_⟩
    · go_simp
    clear hK K
    refine wpQuiet_step (fun K hK => ?_)
    go_simp
    refine ⟨_, fun _ _ => rfl, hK _ ?_⟩
    clear hK K
    refine BigFrame.wpQuiet_skip (by rfl) ?_
    go_simp
    refine BigFrame.wpQuiet_skip (by rfl) ?_
    go_simp
    refine BigFrame.wpQuiet_skip (by rfl) ?_
    go_simp
    refine BigFrame.wpQuiet_skip (by rfl) ?_
    go_simp
    refine BigFrame.wpQuiet_skip (by rfl) ?_
    go_simp
    refine wpQuiet_step (fun K hK => ?_)
    go_simp
    refine ⟨.bool false, fun w' hw' => ?_, hK _ ?_⟩
    · go_simp
    clear hK K
    refine wpQuiet_nil ?_
    intro w7 hw7
    have K7 := hide (K1.out.below hw7)
    clear hw7
    obtain ⟨d0, d1, -, -⟩ := blk2 K7.out.pl
    obtain ⟨e0, e1, f0, f1⟩ := blk2 K7.out.res
    have HS := hide (fun a b => set2a K7.out.res a b)
    go_wp2
    refine bodyPost_ret (results_row2 rfl _ _ w.heap.size 28 #[.int .i64 (-1), .int .i64 (-1)] (0, 0) _ rfl (HS.out _ _) Try.underlying28 rfl (by kernel_rfl)) rfl ?_
    exact ⟨(-1), (-1), rfl, K3.out _ _ .none, (K7.out.bel.setCell (p := ⟨w.heap.size, 0, none⟩) (Nat.le_refl _) _).setCell (p := ⟨w.heap.size, 1, none⟩) (Nat.le_refl _) _⟩
  · obtain ⟨pi, pj, rfl, rfl, hpi, hpj⟩ := atB_lt HK.out hr'
    clear c0 c1 f0 f1
    obtain ⟨t, ht⟩ : ∃ t, (insB Z len)[pi]? = some t := ⟨_, List.getElem?_eq_getElem (by rw [insB_len]; exact hpi)⟩
    have hins : insF Z len (pi : Int) = t := by unfold insF; simp [ht]
    have hp1 : ¬ ((pi : Int) = -1) := by omega
    have hp2 : (pi : Int) < 16 := by omega
    have HR' := hide hr'
    have HIN := hide hins
    have HT := hide ht
    clear hr' hins ht
    go_upto_region 12 with fail
    refine region_below (by kernel_rfl) (by kernel_rfl) ?_
    refine wpQuiet_step (fun K hK => ?_)
    go_simp
    refine ⟨.agg #[.int .i64 (pi : Int), .int .i64 (pj : Int)], fun w' hw' => ?_, hK _ ?_⟩
    · obtain ⟨d0, d1, _, _⟩ := blk2 ((K1.out.below hw').pl)
      go_simp
    clear hK K
    refine wpQuiet_step (fun K hK => ?_)
    go_simp
    refine ⟨.agg #[.int .i64 (-1), .int .i64 (-1)], fun w' hw' => calls_below hw' (nowhere_any w'), hK _ ?_⟩
    clear hK K
    refine wpQuiet_step (fun K hK => ?_)
    go_simp
    refine ⟨.bool true, fun w' hw' => ?_, hK _ ?_⟩
    · go_simp
    clear hK K
    refine wpQuiet_step (fun K hK => ?_)
    go_simp
    refine ⟨_, fun _ _ => rfl, hK _ ?_⟩
    clear hK K
    refine BigFrame.wpQuiet_want (by rfl) (fun K hK => ?_)
    go_simp
    refine ⟨_, fun _ _ => rfl, hK _ ?_⟩
    clear hK K
    refine BigFrame.wpQuiet_want (by rfl) (fun K hK => ?_)
    go_simp
    refine ⟨.int .i64 (pi : Int), fun w' hw' => ?_, hK _ ?_⟩
    · obtain ⟨d0, d1, _, _⟩ := blk2 ((K1.out.below hw').pl)
      go_simp
    clear hK K
    refine BigFrame.wpQuiet_want (by rfl) (fun K hK => ?_)
    go_simp
    refine ⟨.pointer (some ⟨n12, pi, none⟩), fun w' hw' => ?_, hK _ ?_⟩
    · go_simp
    clear hK K
    refine BigFrame.wpQuiet_want (by rfl) (fun K hK => ?_)
    go_simp
    refine ⟨.bool t, fun w' hw' => ?_, hK _ ?_⟩
    · have d0 := (K1.out.below hw').cell HT.out
      go_simp
    clear hK K
    refine BigFrame.wpQuiet_want (by rfl) (fun K hK => ?_)
    go_simp
    refine ⟨.bool (!t), fun w' hw' => ?_, hK _ ?_⟩
    · go_simp
    clear hK K
    cases t
    · refine wpQuiet_step (fun K hK => ?_)
      go_simp
      refine ⟨.bool true, fun w' hw' => ?_, hK _ ?_⟩
      · go_simp
      clear hK K
      refine wpQuiet_nil ?_
      intro w7 hw7
      have K7 := hide (K1.out.below hw7)
      have HLk := hide (look_any w7 F B bk (HK.out.below K7.out.bel) pi pj)
      rw [HR'.out, lcode_some HR'.out] at HLk
      simp only [Rc.val, Option.getD_some] at HLk
      clear hw7
      obtain ⟨d0, d1, -, -⟩ := blk2 K7.out.pl
      go_wp2_with fail
      refine HLk.out.mono ?_
      rintro e1 w8 ⟨rfl, hb8⟩
      have hX9 := heap_alloc_new w8 (.cells #[.int .i64 r'.k, .int .i64 r'.o, .int .i64 r'.s, .int .i64 r'.r, .int .i64 r'.e, .int .i64 r'.t] 78)
      have K9 := hide (K7.out.below (hb8.alloc hb8.size (.cells #[.int .i64 r'.k, .int .i64 r'.o, .int .i64 r'.s, .int .i64 r'.r, .int .i64 r'.e, .int .i64 r'.t] 78)))
      go_upto_region 14 with fail
      generalize hgw : w8.alloc (.cells #[.int .i64 r'.k, .int .i64 r'.o, .int .i64 r'.s, .int .i64 r'.r, .int .i64 r'.e, .int .i64 r'.t] 78) = w9 at *
      clear hgw hb8 d0 d1 K7 HLk
      generalize w8.heap.size = n16 at *
      obtain ⟨x0, x1, x2, x3, x4, x5, -, -, -, -, -, -⟩ := blk6 hX9
      have HP := hide (parent_any w9 r')
      simp only [Rc.val] at HP
      go_wp2_with fail
      refine HP.out.mono ?_
      rintro e1 w10 ⟨rfl, hb10⟩
      have K10 := hide (K9.out.below hb10)
      obtain ⟨d0, d1, f0, f1⟩ := blk2 K10.out.pl
      have K11 := hide (K10.out.put r'.e r'.t)
      clear hb10 HP x0 x1 x2 x3 x4 x5 hX9 K9
      go_wp2
      go_roundw
      case rel =>
        have HA : Hid ((r'.e = -1 ∧ r'.t = -1) ∨ ∃ r2, atB bk r'.e r'.t = some r2) := (HFr.out pi pj r' HR'.out).imp id (fun h => h.1)
        have HB : Hid (∀ p q, Ups bk (insF Z len) r'.e r'.t p q → Ups bk (insF Z len) r.e r.t p q) := fun p q h => K3.out p q (.up _ _ _ _ r' HR'.out HIN.out h)
        first
          | exact ⟨r'.e, r'.t, K11, HA, HB⟩
          | ((repeat apply Exists.intro); refine ⟨?_, rfl⟩; exact ⟨r'.e, r'.t, K11, HA, HB⟩)
      case measure =>
        obtain ⟨g0, g1, -, -⟩ := blk2 K11.out.pl
        obtain ⟨g2, g3, -, -⟩ := blk2 K1.out.pl
        unfold upMeas
        rw [g0, g1, g2, g3]
        simp only
        rw [if_neg hp1]
        rcases HFr.out pi pj r' HR'.out with ⟨h1, _⟩ | ⟨_, h1⟩
        · rw [if_pos h1]; omega
        · split <;> omega
    · refine wpQuiet_step (fun K hK => ?_)
      go_simp
      refine ⟨.bool false, fun w' hw' => ?_, hK _ ?_⟩
      · go_simp
      clear hK K
      refine wpQuiet_nil ?_
      intro w7 hw7
      have K7 := hide (K1.out.below hw7)
      clear hw7
      obtain ⟨d0, d1, -, -⟩ := blk2 K7.out.pl
      obtain ⟨e0, e1, f0, f1⟩ := blk2 K7.out.res
      have HS := hide (fun a b => set2a K7.out.res a b)
      go_wp2
      refine bodyPost_ret (results_row2 rfl _ _ w.heap.size 28 #[.int .i64 (pi : Int), .int .i64 (pj : Int)] (0, 0) _ rfl (HS.out _ _) Try.underlying28 rfl (by kernel_rfl)) rfl ?_
      exact ⟨(pi : Int), (pj : Int), rfl, K3.out _ _ (.here _ _ r' HR'.out HIN.out), (K7.out.bel.setCell (p := ⟨w.heap.size, 0, none⟩) (Nat.le_refl _) _).setCell (p := ⟨w.heap.size, 1, none⟩) (Nat.le_refl _) _⟩
end Go.Proofs.Ytimfgjndgfjjgaa

namespace Go.Proofs.Ytimfgjndgfjjgaa
open Go.RowKit Go.Shelf

theorem nodup_le {α : Type} [BEq α] [LawfulBEq α] : ∀ (l m : List α), l.Nodup → (∀ x ∈ l, x ∈ m) → l.length ≤ m.length
  | [], _, _, _ => Nat.zero_le _
  | x :: l, m, hn, hs => by
    obtain ⟨h1, h2⟩ := List.nodup_cons.1 hn
    have hx : x ∈ m := hs x List.mem_cons_self
    have h3 := nodup_le l (m.erase x) h2 (fun y hy => (List.mem_erase_of_ne (by rintro rfl; exact h1 hy)).2 (hs y (List.mem_cons_of_mem _ hy)))
    rw [List.length_erase_of_mem hx] at h3
    have := List.length_pos_of_mem hx
    rw [List.length_cons]
    omega
variable {bk : List (Option Lst)} {f : Int → Int → Nat}
theorem child_at {p c : Nat × Nat} (h : c ∈ pls (chP p.1 p.2) bk) : ∃ r, atB bk (c.1 : Int) (c.2 : Int) = some r ∧ r.e = (p.1 : Int) ∧ r.t = (p.2 : Int) := by
  obtain ⟨r, h1, h2⟩ := mem_pls.1 (show (c.1, c.2) ∈ _ from h)
  simp [chP] at h2
  exact ⟨r, h1, h2.1, h2.2⟩
theorem child_lt (hf : Rk bk f) {p c : Nat × Nat} (h : c ∈ pls (chP p.1 p.2) bk) : f p.1 p.2 < f c.1 c.2 := by
  obtain ⟨r, h1, h2, h3⟩ := child_at h
  rcases hf _ _ _ h1 with ⟨e1, _⟩ | ⟨_, h4⟩
  · omega
  · rw [h2, h3] at h4; exact h4
/-- what is below is there, and its parent is the place or below it -/
theorem bel_up : ∀ (n : Nat) {p x : Nat × Nat}, x ∈ bel n bk p → ∃ (r : Rc) (q : Nat × Nat), atB bk (x.1 : Int) (x.2 : Int) = some r ∧ r.e = (q.1 : Int) ∧ r.t = (q.2 : Int) ∧ (q = p ∨ q ∈ bel n bk p)
  | 0, _, _, h => by cases h
  | n + 1, p, x, h => by
    obtain ⟨c, hc, hx⟩ := List.mem_flatMap.1 h
    rcases List.mem_cons.1 hx with rfl | hx
    · obtain ⟨r, h1, h2, h3⟩ := child_at hc
      exact ⟨r, p, h1, h2, h3, .inl rfl⟩
    · obtain ⟨r, q, h1, h2, h3, h4⟩ := bel_up n hx
      refine ⟨r, q, h1, h2, h3, .inr (List.mem_flatMap.2 ⟨c, hc, ?_⟩)⟩
      rcases h4 with rfl | h4
      · exact List.mem_cons_self
      · exact List.mem_cons_of_mem _ h4
theorem bel_lt (hf : Rk bk f) : ∀ (n : Nat) {p x : Nat × Nat}, x ∈ bel n bk p → f p.1 p.2 < f x.1 x.2
  | 0, _, _, h => by cases h
  | n + 1, p, x, h => by
    obtain ⟨c, hc, hx⟩ := List.mem_flatMap.1 h
    have h1 := child_lt hf hc
    rcases List.mem_cons.1 hx with rfl | hx
    · exact h1
    · have := bel_lt hf n hx; omega
/-- two children of one place have nothing below them in common -/
theorem bel_apart (hf : Rk bk f) (n : Nat) {p c d : Nat × Nat} (hc : c ∈ pls (chP p.1 p.2) bk) (hd : d ∈ pls (chP p.1 p.2) bk) (hne : c ≠ d) : ∀ (k : Nat) (x : Nat × Nat), f x.1 x.2 = k → x ∈ c :: bel n bk c → x ∈ d :: bel n bk d → False := by
  intro k
  induction k using Nat.strongRecOn with
  | _ k ih =>
    intro x hk h1 h2
    have up : ∀ {a b : Nat × Nat}, b ∈ pls (chP p.1 p.2) bk → a ∈ pls (chP p.1 p.2) bk → a ∈ bel n bk b → False := by
      intro a b hb ha h
      obtain ⟨r, q, e1, e2, e3, e4⟩ := bel_up n h
      obtain ⟨r', g1, g2, g3⟩ := child_at ha
      rw [e1] at g1; cases g1
      have eq : q = p := Prod.ext (by omega) (by omega)
      have l1 := child_lt hf hb
      rcases e4 with e4 | e4
      · rw [← eq, e4] at l1; omega
      · have := bel_lt hf n e4
        rw [eq] at this; omega
    rcases List.mem_cons.1 h1 with rfl | h1
    · rcases List.mem_cons.1 h2 with rfl | h2
      · exact hne rfl
      · exact up hd hc h2
    · rcases List.mem_cons.1 h2 with rfl | h2
      · exact up hc hd h1
      · obtain ⟨r, q, e1, e2, e3, e4⟩ := bel_up n h1
        obtain ⟨r', q', g1, g2, g3, g4⟩ := bel_up n h2
        rw [e1] at g1; cases g1
        have eq : q' = q := Prod.ext (by omega) (by omega)
        subst eq
        have hl : f q'.1 q'.2 < k := by
          rcases hf _ _ _ e1 with ⟨z1, _⟩ | ⟨_, z⟩
          · omega
          · rw [e2, e3] at z; omega
        exact ih _ hl q' rfl (List.mem_cons.2 e4) (List.mem_cons.2 g4)
theorem bel_nodup (hf : Rk bk f) : ∀ (n : Nat) (p : Nat × Nat), (bel n bk p).Nodup
  | 0, _ => List.nodup_nil
  | n + 1, p => by
    show List.Pairwise _ (List.flatMap _ _)
    rw [List.pairwise_flatMap]
    refine ⟨fun c hc => ?_, ?_⟩
    · exact List.nodup_cons.2 ⟨fun h => by have := bel_lt hf n h; omega, bel_nodup hf n c⟩
    · refine List.Pairwise.imp_of_mem (fun {c d} hc hd hne x hx y hy e => ?_) (pls_nodup (chP p.1 p.2) bk)
      subst e
      exact bel_apart hf n hc hd hne _ x rfl hx hy
theorem bel_mem (n : Nat) {p x : Nat × Nat} (h : x ∈ bel n bk p) : ∃ r, atB bk (x.1 : Int) (x.2 : Int) = some r := by
  obtain ⟨r, _, h1, _⟩ := bel_up n h
  exact ⟨r, h1⟩
theorem bel_le {w : World} {F : Nat → Prop} {B : Nat} (h : Book w F B bk) (hf : Rk bk f) (n : Nat) (p : Nat × Nat) : (bel n bk p).length ≤ 768 := by
  refine Nat.le_trans (nodup_le _ (pls (fun _ => true) bk) (bel_nodup hf n p) (fun x hx => ?_)) (pls_le h _)
  obtain ⟨r, hr⟩ := bel_mem n hx
  exact mem_pls.2 ⟨r, hr, rfl⟩
/-- the greatest number -/
theorem rk_top (bk : List (Option Lst)) (f : Int → Int → Nat) : ∃ M, ∀ p ∈ pls (fun _ => true) bk, f p.1 p.2 ≤ M := by
  generalize pls (fun _ => true) bk = l
  induction l with
  | nil => exact ⟨0, fun p hp => by cases hp⟩
  | cons q l ih =>
    obtain ⟨M, hM⟩ := ih
    refine ⟨max M (f q.1 q.2), fun p hp => ?_⟩
    rcases List.mem_cons.1 hp with rfl | hp
    · omega
    · have := hM p hp; omega
theorem dep_of (hf : Rk bk f) {M : Nat} (hM : ∀ p ∈ pls (fun _ => true) bk, f p.1 p.2 ≤ M) : ∀ (n : Nat) (p : Nat × Nat), M - f p.1 p.2 < n → Dep n bk p
  | 0, _, h => by omega
  | n + 1, p, h => fun c hc => by
    have h1 := child_lt hf hc
    obtain ⟨r, h2, _⟩ := child_at hc
    have h3 := hM c (mem_pls.2 ⟨r, h2, rfl⟩)
    exact dep_of hf hM n c (by omega)
end Go.Proofs.Ytimfgjndgfjjgaa

namespace Go.Proofs.Ytimfgjndgfjjgaa
open Go.RowKit Go.Shelf Go.Sort Go.Proofs

theorem flat_encPs (ps : List (Nat × Nat)) : (flatK encP 2 ps.toArray).toList = encPs ps := by
  apply List.ext_getElem?
  intro t
  by_cases h : t < ps.length * 2
  · have hk : t / 2 < ps.length := by omega
    have hz : t < (flatK encP 2 ps.toArray).size := by rw [size_flatK]; simpa using h
    have e0 := get_flatK encP 2 ps.toArray t (by simpa using h)
    rw [getElem!_pos _ t hz] at e0
    have e1 : ps.toArray[t / 2]! = ps[t / 2] := by rw [getElem!_pos _ _ (by simpa using hk)]; simp
    rw [Array.getElem?_toList, Array.getElem?_eq_getElem hz, e0, e1]
    rcases Nat.mod_two_eq_zero_or_one t with h2 | h2
    · have h3 := (encPs_at hk).1
      rw [show t / 2 * 2 = t by omega] at h3
      rw [h3, h2]; rfl
    · have h3 := (encPs_at hk).2
      rw [show t / 2 * 2 + 1 = t by omega] at h3
      rw [h3, h2]; rfl
  · rw [List.getElem?_eq_none (by rw [Array.length_toList, size_flatK]; simp; omega), List.getElem?_eq_none (by rw [encPs_len]; omega)]
theorem holdsK_own {w : World} {g : Nat} {cur : Array Value} {e : TypeId} {ps : List (Nat × Nat)} (hb : w.heap[g]? = some (.cells cur e (0, 0))) (ht : cur.toList.take (ps.length * 2) = encPs ps) : HoldsK encP 2 w g 0 ps.toArray := by
  intro j hj
  have hj' : j < ps.length * 2 := by simpa using hj
  refine ⟨?_, by simp [World.frozen?, hb]⟩
  have h1 : (cur.toList.take (ps.length * 2))[j]? = (encPs ps)[j]? := by rw [ht]
  rw [List.getElem?_take_of_lt hj', ← flat_encPs, Array.getElem?_toList, Array.getElem?_toList, Array.getElem?_eq_getElem hj] at h1
  simp only [World.cell?, hb, Nat.zero_add]
  simp only [Option.isSome_none, Bool.false_eq_true, if_false]
  rw [h1, getElem!_pos _ j hj]; rfl
theorem heap_sortedK {w : World} {g n : Nat} {os : Array Obj} {cur : Array Value} {e : TypeId} {fr : Nat × Nat} (d : Array (Nat × Nat)) (hb : w.heap[g]? = some (.cells cur e fr)) :
    (sortWorldK encP 2 w g 0 n d os).heap[g]? = some (.cells (putCells id 0 (flatK encP 2 d) cur) e fr) := by
  have hg : g < w.heap.size := (Array.getElem?_eq_some_iff.1 hb).1
  unfold sortWorldK putRowK
  rw [heap_grow_old _ _ (by simpa using hg)]
  simp [putRow, mapBlock, Sort.ahead, Array.getElem?_modify, hb, onCells]
theorem grownBy_sortedK {w : World} {g n : Nat} {os : Array Obj} (d : Array (Nat × Nat)) : w.grownBy (sortWorldK encP 2 w g 0 n d os) (some g) := by
  unfold sortWorldK putRowK
  refine ⟨rfl, rfl, rfl, by simp, fun k hk hne => ?_⟩
  rw [heap_grow_old _ _ (by simpa using hk)]
  have : g ≠ k := fun e => hne (by rw [e])
  simp [putRow, mapBlock, Sort.ahead, Array.getElem?_modify, this]
theorem take_putCellsK (cur D : Array Value) (h : D.size ≤ cur.size) : (putCells id 0 D cur).toList.take D.size = D.toList := by
  apply List.ext_getElem?
  intro j
  by_cases hj : j < D.size
  · rw [List.getElem?_take_of_lt hj, Array.getElem?_toList]
    simp [putCells, hj, show j < cur.size by omega]
  · rw [List.getElem?_take_eq_none (by omega), List.getElem?_eq_none (by simp; omega)]
/-- behind the sort the same slice owns the sorted list -/
theorem ownsRow_sortedK {w : World} {base g cap n : Nat} {e : TypeId} {os : Array Obj} {cur : Array Value} {ss ts : List (Nat × Nat)} (hl : ts.length = ss.length) (hbase : base ≤ g) (hb : w.heap[g]? = some (.cells cur e (0, 0)))
    (h1 : ss.length ≤ cap) (h2 : cap ≤ maxLen) (h3 : cur.size = cap * 2) :
    (sortWorldK encP 2 w g 0 n ts.toArray os).ownsRow base e 2 (.slice (some ⟨g, 0, none⟩) ss.length cap) ss.length (encPs ts) := by
  have hz : (flatK encP 2 ts.toArray).size = ss.length * 2 := by rw [size_flatK]; simp [hl]
  refine ⟨by rw [encPs_len, hl], .inr ⟨g, cap, _, rfl, hbase, heap_sortedK _ hb, h1, h2, by simp [putCells, h3], ?_⟩⟩
  have h4 := take_putCellsK cur (flatK encP 2 ts.toArray) (by omega)
  rw [hz, flat_encPs] at h4
  exact h4
theorem grew_sorted {w : World} {g n len cap : Nat} {os : Array Obj} (d : Array (Nat × Nat)) : Grew w (.slice (some ⟨g, 0, none⟩) len cap) (sortWorldK encP 2 w g 0 n d os) (.slice (some ⟨g, 0, none⟩) len cap) := ⟨grownBy_sortedK d, fun _ h => .inl h⟩
/-- the order of places -/
theorem ci_neg (x y : Nat) : (ci (x : Int) (y : Int) < 0) = (x < y) := by
  unfold ci
  split
  · simp; omega
  · split
    · simp; omega
    · simp; omega
theorem ci_zero (x y : Nat) : (ci (x : Int) (y : Int) = 0) = (x = y) := by
  unfold ci
  split
  · simp; omega
  · split
    · simp; omega
    · simp; omega
theorem cp_neg (x y : Nat × Nat) : cp x y < 0 ↔ PLt x y := by
  unfold cp orr PLt
  split
  · rename_i h
    rw [ci_zero] at h
    rw [ci_neg]; omega
  · rename_i h
    rw [ci_zero] at h
    rw [ci_neg]; omega
end Go.Proofs.Ytimfgjndgfjjgaa
