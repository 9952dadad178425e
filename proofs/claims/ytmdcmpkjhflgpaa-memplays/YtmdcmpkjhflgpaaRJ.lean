import Derived.Test.YtmdcmpkjhflgpaaRI
namespace Go.Proofs.Ytmdcmpkjhflgpaa
open Go.RowKit

section
variable {P : Program} {ops : Array Oper} {Q : Exit → Act → World → Prop} {S : World → Prop} {fuel : Nat} {listed : Array Bool} {a : Act} {w : World}
/-- the one operation that may come up -/
theorem hd_call (i : Nat) {o : Oper} (hr : Region.ready .any ops listed = [i]) (ho : ops[i]? = some o) (hw : Region.wanted o (yielded ops a.tmps) = true)
    (h : ∀ K : Act → World → Prop, (∀ a w, S w → wpAnyH P .any ops Q S fuel (listed.setIfInBounds i true) a w → K a w) → Oper.wp P o a w K Q) : wpAnyH P .any ops Q S (fuel + 1) listed a w := by
  refine wpAnyH_ready hr (by simp) (AllReadyH.cons ho (fun K hK => ?_) AllReadyH.nil)
  rw [if_pos hw]
  exact h K (fun a w hS hh => hK.out a w hS (fun _ => hh))
/-- what yields in whatever world that meets S -/
theorem hd_take (i : Nat) {o : Oper} (v : Value) (hs : Region.noSelect ops = true) (hf : Region.free .any ops listed i = true) (hr : (Region.ready .any ops listed).contains i = true) (ho : ops[i]? = some o) (hw : Region.wanted o (yielded ops a.tmps) = true)
    (hy : ∀ w, S w → (execOp a.eval o).run P w = .ok (.value v) w)
    (hQ : ∀ c a w, Q (.panic c) (a.put o.dst v) w → Q (.panic c) a w) (h0 : S w) (h : wpAnyH P .any ops Q S fuel (listed.setIfInBounds i true) (a.put o.dst v) w) : wpAnyH P .any ops Q S (fuel + 1) listed a w :=
  wpAnyH_take ho hs hf hr hQ (Or.inl ⟨hw, hy⟩) h0 h
/-- what its guard leaves out -/
theorem hd_skip (i : Nat) {o : Oper} (hs : Region.noSelect ops = true) (hf : Region.free .any ops listed i = true) (hr : (Region.ready .any ops listed).contains i = true) (ho : ops[i]? = some o) (hw : Region.wanted o (yielded ops a.tmps) = false)
    (hQ : ∀ c a w, Q (.panic c) (a.put o.dst undef) w → Q (.panic c) a w) (h0 : S w) (h : wpAnyH P .any ops Q S fuel (listed.setIfInBounds i true) (a.put o.dst undef) w) : wpAnyH P .any ops Q S (fuel + 1) listed a w :=
  wpAnyH_take ho hs hf hr hQ (Or.inr ⟨hw, rfl⟩) h0 h
theorem held_load (i : Nat) {o : Oper} (hs : Region.noSelect ops = true) (hf : Region.free .any ops listed i = true) (hr : (Region.ready .any ops listed).contains i = true) (ho : ops[i]? = some o) (hw : Region.wanted o (yielded ops a.tmps) = true) {ty : TypeId} {x : Operand} (hop : o.op = .load ty x)
    {b off : Nat} (cs : List Value) {d : TypeDesc} (hx : a.eval x = .pointer (some ⟨b, off, none⟩)) (hS : ∀ w, S w → w.rangeAt b off cs) (hu : P.underlying ty = some d) (hd : d.isRow = true) (hi : (P.info? ty).map (·.size) = some cs.length)
    (hQ : ∀ c a w, Q (.panic c) (a.put o.dst (.agg cs.toArray)) w → Q (.panic c) a w) (h0 : S w) (h : wpAnyH P .any ops Q S fuel (listed.setIfInBounds i true) (a.put o.dst (.agg cs.toArray)) w) : wpAnyH P .any ops Q S (fuel + 1) listed a w :=
  wpAnyH_take ho hs hf hr hQ (yieldsIf_load_mid hw ty x hop b off hx cs d hS hu hd hi) h0 h
end
section
variable {w : World} {x : Ix} {m r : Nat → Fr} {o : Ost}
set_option maxRecDepth 10000 in
set_option maxHeartbeats 2000000 in
theorem ch_7 (h : Pr w x m r) (hk : o.kd = 7) :
    Calls Try.prog 21 #[.pointer (some ⟨x.B, 0, none⟩), .pointer (some ⟨x.B', 0, none⟩), .agg o.cells.toArray] w fun e w' => e = .returned (.bool true) ∧ PPost w w' x m := by
  have hN := h.not_own
  have hO := Ob.new w o
  have hB0 : Below w.heap.size w (w.alloc (.cells o.cells.toArray 31)) := (Below.refl _ _).alloc (Nat.le_refl _) _
  have h1 := h.below hB0
  go_enter Try.func21, Try.ntmps21
  go_upto_region 1 with fail
  generalize w.alloc (.cells o.cells.toArray 31) = w0 at *
  obtain ⟨_, c1, c2, c3, c4, c5⟩ := hO.c
  have r5 := hO.pg
  rw [hk] at c1
  have HK := hide hk
  have HB : Hid (∀ w', PPost w0 w' x m → PPost w w' x m) := hide (fun _ h => h.pre hB0)
  have H1 := hide h1
  have HO := hide hO
  have HN := hide hN
  clear hO h hk hB0 h1 hN
  generalize w.heap.size = N at *
  obtain ⟨c, Q, hc1, hc2⟩ := two_setPage H1.out.drew o.fa o.p
  have HC1 := hide hc1
  have HC2 := hide hc2
  clear hc1 hc2
  have HT : Hid (Ob w0.drew N o) := hide ⟨HO.out.out⟩
  have HSW : Hid (∀ W, Ob W N o → W.cell? ⟨N, 2, none⟩ = some (.int .i64 o.fa) ∧ W.rangeAt N 5 (page o.p)) := hide (fun W h => ⟨h.c.2.2.1, h.pg⟩)
  go_upto_region 15 with fail
  clear c1 c2 c3 c4 c5 r5
  refine wp_region_held_drew (S := fun W => Ob W N o) (by kernel_rfl) HT.out (fun _ => ?_)
  have HM : Hid (∀ w', PPost w0.drew w' x m → PPost w w' x m) := hide (fun w' h => HB.out w' h.drew)
  clear HB
  generalize w0.drew = wq0 at *
  refine hd_take 0 (o := ⟨some 103, _, _, _, _, _⟩) (.pointer (some ⟨x.B, 0, none⟩)) (by kernel_rfl) (by kernel_rfl) (by kernel_rfl) rfl (by rfl) (fun W hSw => by go_simp) (fun _ _ _ h => h) HT.out ?_
  simp only [Act.put, List.setIfInBounds_toArray, List.set_cons_zero, List.set_cons_succ]
  refine hd_take 1 (o := ⟨some 104, _, _, _, _, _⟩) (.pointer (some ⟨N, 2, none⟩)) (by kernel_rfl) (by kernel_rfl) (by kernel_rfl) rfl (by rfl) (fun W hSw => by go_simp) (fun _ _ _ h => h) HT.out ?_
  simp only [Act.put, List.setIfInBounds_toArray, List.set_cons_zero, List.set_cons_succ]
  refine hd_take 2 (o := ⟨some 105, _, _, _, _, _⟩) (.int .i64 o.fa) (by kernel_rfl) (by kernel_rfl) (by kernel_rfl) rfl (by rfl) (fun W hSw => by have c2 := (HSW.out W hSw).1; go_simp) (fun _ _ _ h => h) HT.out ?_
  simp only [Act.put, List.setIfInBounds_toArray, List.set_cons_zero, List.set_cons_succ]
  refine hd_take 3 (o := ⟨some 106, _, _, _, _, _⟩) (.pointer (some ⟨N, 5, none⟩)) (by kernel_rfl) (by kernel_rfl) (by kernel_rfl) rfl (by rfl) (fun W hSw => by go_simp) (fun _ _ _ h => h) HT.out ?_
  simp only [Act.put, List.setIfInBounds_toArray, List.set_cons_zero, List.set_cons_succ]
  refine held_load 4 (o := ⟨some 107, _, _, _, _, _⟩) (by kernel_rfl) (by kernel_rfl) (by kernel_rfl) rfl (by rfl) rfl (page o.p) rfl (fun W hSw => (HSW.out W hSw).2) Try.underlying29 rfl info24 (fun _ _ _ h => h) HT.out ?_
  simp only [Act.put, List.setIfInBounds_toArray, List.set_cons_zero, List.set_cons_succ]
  refine hd_take 6 (o := ⟨some 109, _, _, _, _, _⟩) (.pointer (some ⟨x.B', 0, none⟩)) (by kernel_rfl) (by kernel_rfl) (by kernel_rfl) rfl (by rfl) (fun W hSw => by go_simp) (fun _ _ _ h => h) HT.out ?_
  simp only [Act.put, List.setIfInBounds_toArray, List.set_cons_zero, List.set_cons_succ]
  refine hd_take 7 (o := ⟨some 110, _, _, _, _, _⟩) (.pointer (some ⟨N, 2, none⟩)) (by kernel_rfl) (by kernel_rfl) (by kernel_rfl) rfl (by rfl) (fun W hSw => by go_simp) (fun _ _ _ h => h) HT.out ?_
  simp only [Act.put, List.setIfInBounds_toArray, List.set_cons_zero, List.set_cons_succ]
  refine hd_take 8 (o := ⟨some 111, _, _, _, _, _⟩) (.int .i64 o.fa) (by kernel_rfl) (by kernel_rfl) (by kernel_rfl) rfl (by rfl) (fun W hSw => by have c2 := (HSW.out W hSw).1; go_simp) (fun _ _ _ h => h) HT.out ?_
  simp only [Act.put, List.setIfInBounds_toArray, List.set_cons_zero, List.set_cons_succ]
  refine hd_take 9 (o := ⟨some 112, _, _, _, _, _⟩) (.pointer (some ⟨N, 5, none⟩)) (by kernel_rfl) (by kernel_rfl) (by kernel_rfl) rfl (by rfl) (fun W hSw => by go_simp) (fun _ _ _ h => h) HT.out ?_
  simp only [Act.put, List.setIfInBounds_toArray, List.set_cons_zero, List.set_cons_succ]
  refine held_load 10 (o := ⟨some 113, _, _, _, _, _⟩) (by kernel_rfl) (by kernel_rfl) (by kernel_rfl) rfl (by rfl) rfl (page o.p) rfl (fun W hSw => (HSW.out W hSw).2) Try.underlying29 rfl info24 (fun _ _ _ h => h) HT.out ?_
  simp only [Act.put, List.setIfInBounds_toArray, List.set_cons_zero, List.set_cons_succ]
  refine hd_call 5 (o := ⟨some 108, _, _, _, _, _⟩) (by kernel_rfl) rfl (by rfl) (fun K hK => ?_)
  go_simp
  go_wp2_with (go_at_call 33; refine (show Calls Try.prog 33 #[.pointer (some ⟨x.B, 0, none⟩), .int .i64 o.fa, .agg (page o.p).toArray] _ _ from HC1.out).mono ?_; rintro e1 w1 ⟨rfl, hQ, hMd⟩)
  have HT1 : Hid (Ob w1 N o) := hide (HT.out.mod hMd HN.out)
  have HQ := hide hQ
  clear hQ hMd
  refine hK _ _ HT1.out ?_
  clear hK K
  try simp only [Act.put, List.setIfInBounds_toArray, List.set_cons_zero, List.set_cons_succ]
  refine hd_call 11 (o := ⟨some 114, _, _, _, _, _⟩) (by kernel_rfl) rfl (by rfl) (fun K hK => ?_)
  go_simp
  go_wp2_with (go_at_call 34; refine (show Calls Try.prog 34 #[.pointer (some ⟨x.B', 0, none⟩), .int .i64 o.fa, .agg (page o.p).toArray] _ _ from HC2.out _ HQ.out).mono ?_; rintro e1 w2 ⟨rfl, hP⟩)
  have HT2 : Hid (Ob w2 N o) := hide (HT.out.mod hP.mod HN.out)
  have HP := hide hP
  clear hP
  refine hK _ _ HT2.out ?_
  clear hK K
  try simp only [Act.put, List.setIfInBounds_toArray, List.set_cons_zero, List.set_cons_succ]
  refine hd_take 12 (o := ⟨some 115, _, _, _, _, _⟩) (.bool true) (by kernel_rfl) (by kernel_rfl) (by kernel_rfl) rfl (by rfl) (fun W hSw => by go_simp) (fun _ _ _ h => h) HT2.out ?_
  simp only [Act.put, List.setIfInBounds_toArray, List.set_cons_zero, List.set_cons_succ]
  refine hd_take 13 (o := ⟨some 6, _, _, _, _, _⟩) (.bool true) (by kernel_rfl) (by kernel_rfl) (by kernel_rfl) rfl (by rfl) (fun W hSw => by go_simp) (fun _ _ _ h => h) HT2.out ?_
  simp only [Act.put, List.setIfInBounds_toArray, List.set_cons_zero, List.set_cons_succ]
  refine wpAnyH_done (by kernel_rfl) ?_ _
  go_wp2
  go_ret
  exact ⟨rfl, HM.out _ HP.out⟩
end
end Go.Proofs.Ytmdcmpkjhflgpaa
