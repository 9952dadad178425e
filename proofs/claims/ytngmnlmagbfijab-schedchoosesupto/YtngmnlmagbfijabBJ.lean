import Derived.Test.YtngmnlmagbfijabBI
namespace Go.Proofs.Ytngmnlmagbfijab
open Go.RowKit
section
variable {P : Program} {ops : Array Oper} {Q : Exit → Act → World → Prop} {S : World → Prop} {fuel : Nat} {listed : Array Bool} {a : Act} {w : World}
/-- the one operation that may come up -/
theorem hd_call (i : Nat) {o : Oper} (hr : Region.ready .any ops listed = [i]) (ho : ops[i]? = some o) (hw : Region.wanted o (yielded ops a.tmps) = true)
    (h : ∀ K : Act → World → Prop, (∀ a w, S w → wpAnyH P .any ops Q S fuel (listed.setIfInBounds i true) a w → K a w) → Oper.wp P o a w K Q) : wpAnyH P .any ops Q S (fuel + 1) listed a w := by
  refine wpAnyH_ready hr (by simp) (AllReadyH.cons ho (fun K hK => ?_) AllReadyH.nil)
  rw [if_pos hw]
  exact h K (fun a w hS hh => hK.out a w hS (fun _ => hh))
/-- what yields in whatever world that meets S -/
theorem hd_take (i : Nat) {o : Oper} (v : Value) (hs : Region.noSelect ops = true) (hf : Region.free .any ops listed i = true) (hr : (Region.ready .any ops listed).contains i = true) (ho : ops[i]? = some o) (hw : Region.wanted o (yielded ops a.tmps) = true)
    (hy : ∀ w, S w → (execOp a.eval o).run P w = .ok (.value v) w)
    (hQ : ∀ c a w, Q (.panic c) (a.put o.dst v) w → Q (.panic c) a w) (h0 : S w) (h : wpAnyH P .any ops Q S fuel (listed.setIfInBounds i true) (a.put o.dst v) w) : wpAnyH P .any ops Q S (fuel + 1) listed a w :=
  wpAnyH_take ho hs hf hr hQ (Or.inl ⟨hw, hy⟩) h0 h
theorem hd_skip (i : Nat) {o : Oper} (hs : Region.noSelect ops = true) (hf : Region.free .any ops listed i = true) (hr : (Region.ready .any ops listed).contains i = true) (ho : ops[i]? = some o) (hw : Region.wanted o (yielded ops a.tmps) = false)
    (hQ : ∀ c a w, Q (.panic c) (a.put o.dst undef) w → Q (.panic c) a w) (h0 : S w) (h : wpAnyH P .any ops Q S fuel (listed.setIfInBounds i true) (a.put o.dst undef) w) : wpAnyH P .any ops Q S (fuel + 1) listed a w :=
  wpAnyH_take ho hs hf hr hQ (Or.inr ⟨hw, rfl⟩) h0 h
end
/-- what is told of a serial -/
structure Sh where
  s : Int
  w : Int
  p : Int
def shL (x : Sh) : List Value := [.int .i64 x.s, .int .i64 x.w, .int .i64 x.p]
def shs (l : List Sh) : List Value := l.flatMap shL
theorem shs_len (l : List Sh) : (shs l).length = l.length * 3 := by
  induction l with
  | nil => rfl
  | cons a t ih => simp only [shs, List.flatMap_cons, List.length_append, List.length_cons] at ih ⊢; rw [ih]; simp [shL]; omega
theorem shs_snoc (l : List Sh) (x : Sh) : shs (l ++ [x]) = shs l ++ shL x := by simp [shs]
/-- v is a list of shares of the call's own -/
def Os (w : World) (base : Nat) (v : Value) (l : List Sh) : Prop := w.ownsRow base 74 3 v l.length (shs l)
/-- the number that is told -/
def psv (s : Pl) (k : Int) : Int := if s.kind = 1 then (if k = s.last then 1 else 0) else val s.ps k
def told (s : Pl) (ks : List Int) : List Sh := ks.map (fun k => ⟨k, val s.wt k, psv s k⟩)
theorem info37 : ∃ i, Try.prog.info? 74 = some i ∧ i.zero = some (.agg #[.int .i64 0, .int .i64 0, .int .i64 0]) ∧ i.size = 3 ∧ i.bytes = 24 := info_parts (by kernel_rfl)
theorem ownsRow_apart {w : World} {b1 b2 : Nat} {e1 e2 : TypeId} {s1 s2 n1 n2 : Nat} {v1 v2 : Value} {x1 x2 : List Value} (h1 : w.ownsRow b1 e1 s1 v1 n1 x1) (h2 : w.ownsRow b2 e2 s2 v2 n2 x2) (hne : e1 ≠ e2) : v1.ownBlock = none ∨ v1.ownBlock ≠ v2.ownBlock := by
  rcases h1.2 with ⟨rfl, _⟩ | ⟨g, cap, cur, rfl, _, hg, _⟩
  · exact .inl rfl
  · rcases h2.2 with ⟨rfl, _⟩ | ⟨g', cap', cur', rfl, _, hg', _⟩
    · exact .inr (by simp [Value.ownBlock])
    · refine .inr (fun e => ?_)
      simp [Value.ownBlock] at e
      subst e
      rw [hg] at hg'
      cases hg'
      exact hne rfl
section
variable {w w' : World}
theorem Oi.kept {base : Nat} {v : Value} {zs : List Int} (h : Oi w base v zs) {row : Option Nat} (hg : w.grownBy w' row) (hne : v.ownBlock = none ∨ v.ownBlock ≠ row) : Oi w' base v zs := World.ownsRow.kept h hg hne
theorem pass1 {X : Nat → Prop} {m q n : Nat} {s : Pl} (hW : WayAt w X m q n s) (e : s.kind = 1) (k : Int) : Calls Try.prog 72 #[.pointer (some ⟨q, 0, none⟩), .int .i64 k] w fun e w' => e = .returned (.int .i64 (psv s k)) ∧ w' = w := by
  rcases hW with ⟨_, hq⟩ | ⟨h1, _⟩ | ⟨h1, _⟩
  · have := tpass_any w q k s.last hq
    unfold psv
    rw [if_pos e]
    exact this
  · omega
  · omega
theorem pass2 {X : Nat → Prop} {m q n : Nat} {s : Pl} (hW : WayAt w X m q n s) (e : s.kind = 2) (k : Int) : Calls Try.prog 77 #[.pointer (some ⟨q, 0, none⟩), .int .i64 k] w fun e w' => e = .returned (.int .i64 (psv s k)) ∧ w' = w := by
  rcases hW with ⟨h1, _⟩ | ⟨_, pm, hq, hp, _⟩ | ⟨h1, _⟩
  · omega
  · have := spass_any w q pm n k s.last s.ps hq hp
    unfold psv
    rw [if_neg (by omega)]
    exact this
  · omega
theorem pass3 {X : Nat → Prop} {m q n : Nat} {s : Pl} (hW : WayAt w X m q n s) (e : s.kind = 3) (k : Int) : Calls Try.prog 84 #[.pointer (some ⟨q, 0, none⟩), .int .i64 k] w fun e w' => e = .returned (.int .i64 (psv s k)) ∧ w' = w := by
  rcases hW with ⟨h1, _⟩ | ⟨h1, _⟩ | ⟨_, mo, hq, hmo⟩
  · omega
  · omega
  · have hL : Lk w mo n s.ps := by
      rcases hmo with h | ⟨pm, h1, h2, _⟩
      · exact .inl h
      · exact .inr ⟨pm, h1, h2⟩
    have := rpass_any w q mo k (val s.ps k) hq (hL.look k)
    unfold psv
    rw [if_neg (by omega)]
    exact this
end
theorem len_map {w : World} {r n : Nat} {f : Int → Option Int} (h : Mp w r n f) (ty : TypeId) : ∃ k : Nat, k ≤ n ∧ (Builtin.len_ #[53] ty #[.map (some r)]).run Try.prog w = .ok (.int .i64 (k : Nat)) w := by
  obtain ⟨ps, ⟨es, clock, hb, hes, _⟩, _, _, hl⟩ := h
  have hsz : es.size = ps.length := by simpa using congrArg List.length hes
  refine ⟨es.size, by omega, ?_⟩
  simp [Builtin.len_, run_underlying Try.underlying53, MapKept.run_getObj_map hb, goInt, Result.andThen]
theorem plS {w : World} {X : Nat → Prop} {g m q n : Nat} {s : Pl} (h : PlM w X g m q n s) {T : TypeId} (hT : wayT s.kind = T) {a u : Int} (hu : val s.wt a = u) : w.cell? ⟨g, 0, none⟩ = some (.map (some m)) ∧ w.cell? ⟨g, 1, none⟩ = some (.iface T (.pointer (some ⟨q, 0, none⟩))) ∧ (Instr.lookup 53 (.map (some m)) (.int .i64 a) false).run Try.prog w = .ok (.int .i64 u) w := by
  have c0 := cell_of_row _ _ 0 _ _ _ h.top
  have c1 := cell_of_row _ _ 1 _ _ _ h.top
  simp only [List.getElem?_toArray, List.getElem?_cons_zero, List.getElem?_cons_succ] at c0 c1
  rw [hT] at c1
  rw [← hu]
  exact ⟨c0, c1, h.wts.look1 a⟩
section
variable (w : World)
set_option maxRecDepth 100000 in
set_option maxHeartbeats 4000000 in
theorem Told_any (g n : Nat) (X : Nat → Prop) (s : Pl) (hP : PlAt w X g n s) (hn : n ≤ 4194304) :
    Calls Try.prog 18 #[.pointer (some ⟨g, 0, none⟩)] w fun e w' => ∃ v ks, e = .returned v ∧ Os w' w.heap.size v (told s ks) ∧ ks.Pairwise (fun a b => a < b) ∧ (∀ k, k ∈ ks ↔ (s.wt k).isSome = true) ∧ ks.length ≤ n ∧ Below w.heap.size w w' := by
  obtain ⟨m, q, hP⟩ := hP
  obtain ⟨i37, hi, hz, hs, hb⟩ := info37
  have c0 := cell_of_row _ _ 0 _ _ _ hP.top
  simp only [List.getElem?_toArray, List.getElem?_cons_zero] at c0
  have HP := hide hP
  obtain ⟨L, hL, hlen⟩ := len_map hP.wts 3
  have hlenN := fun ty => (len_map hP.wts ty)
  clear hP hlenN
  go_enter Try.func18, Try.ntmps18
  go_upto_region 2 with (refine wpList_make_own _ rfl _ _ 48 rfl w.heap.size 74 i37 _ 3 Try.underlying48 hi hz hs .i64 .i64 (L : Int) L rfl rfl rfl (by rw [hb]; omega) (by unfold maxLen; omega) (Nat.le_refl _) ?_; intro w1 ho hg)
  have HB1 : Hid (Below w.heap.size w w1) := hide ((Below.refl _ w).grown hg (Nat.le_refl _) (fun k hk => by cases hk))
  have HO1 : Hid (Os w1 w.heap.size (.slice (some ⟨w.heap.size, 0, none⟩) 0 L) []) := hide ho
  have hs1 : w.heap.size < w1.heap.size := (World.ownsRow.lt ho w.heap.size rfl).2
  have HP1 := hide (HP.out.keep HB1.out.size (fun b hb => HB1.out.block b (HP.out.lt b hb)))
  have c0 := cell_of_row _ _ 0 _ _ _ HP1.out.top
  simp only [List.getElem?_toArray, List.getElem?_cons_zero] at c0
  clear ho hg hlen
  go_wp2_with fail
  refine (callsIn_wide.1 (keys_in w1 m)).mono ?_
  rintro e w2 ⟨rfl, rfl⟩
  have hI : ∀ a, (s.wt a).isSome = true → I64 a := fun a ha => by
    obtain ⟨u, hu⟩ := Option.isSome_iff_exists.1 ha
    have := HP1.out.ok.wt a u hu
    exact ⟨by omega, by omega⟩
  go_wp2_with fail
  refine (callsIn_wide.1 (sortedK_in w1 m n s.wt HP1.out.wts hn hI)).mono ?_
  rintro e w2 ⟨r, ks, rfl, h1, h2, h3, h4, h5⟩
  have HB2 := hide (HB1.out.trans (h5.mono HB1.out.size))
  have HK := hide (And.intro h2 (And.intro h3 h4))
  have HO2 : Hid (Os w2 w.heap.size (.slice (some ⟨w.heap.size, 0, none⟩) 0 L) []) := hide (own_low (World.ownsRow.kept HO1.out (row := none) ⟨h5.os, h5.tape, h5.output, h5.size, fun b hb _ => h5.block b hb⟩ (.inr (by simp [Value.ownBlock]))) (Nat.le_refl _))
  have HKs := hide (h1.low (base' := w.heap.size) (by omega))
  have hs2 := h5.size
  obtain ⟨ar, cr, rfl⟩ := own_shape h1
  obtain ⟨kl, hkl⟩ : ∃ kl, ks.length = kl := ⟨_, rfl⟩
  have HLk := hide hkl
  have hkn := h4
  rw [hkl] at HKs hkn ⊢
  clear h1 h2 h3 h4 h5 hI HO1 HB1 HP1 c0 hkl
  have HT : Hid (ks.take kl = ks) := hide (by rw [← HLk.out]; exact List.take_length)
  have HN : Hid (∀ k, k < kl → told s (ks.take k) ++ [⟨ks.getD k 0, val s.wt (ks.getD k 0), psv s (ks.getD k 0)⟩] = told s (ks.take (k + 1))) := hide (by
    intro k hk
    have hk' : k < ks.length := by rw [HLk.out]; exact hk
    have hg : ks.getD k 0 = ks[k] := by rw [List.getD_eq_getElem?_getD, List.getElem?_eq_getElem hk', Option.getD_some]
    rw [hg, List.take_succ_eq_append_getElem hk']
    unfold told
    rw [List.map_append]; rfl)
  go_upto_region 3 with fail
  go_loopw [3, 19] (fun v i wr => ∃ k : Nat, k ≤ kl ∧ i = .int .i64 (k : Nat) ∧ Hid (Os wr w.heap.size v (told s (ks.take k))) ∧ Hid (Oi wr w.heap.size (.slice ar kl cr) ks) ∧ Hid (Below w.heap.size w wr)) (fun _ i _ => kl - (RowKit.intOf i).toNat)
  case atStart => exact ⟨0, by omega, rfl, HO2, HKs, HB2⟩
  case round =>
    obtain ⟨k, hk, rfl, HOr, HKr, HBr⟩ := hrel
    by_cases hlt : k < kl
    · have HPr := hide (HP.out.keep HBr.out.size (fun b hb => HBr.out.block b (HP.out.lt b hb)))
      have c0 := cell_of_row _ _ 0 _ _ _ HPr.out.top
      have c1 := cell_of_row _ _ 1 _ _ _ HPr.out.top
      simp only [List.getElem?_toArray, List.getElem?_cons_zero, List.getElem?_cons_succ] at c0 c1
      obtain ⟨x, rfl, _, hc⟩ := HKr.out.rd.some_of (by rw [HLk.out]; omega)
      have d0 := hc k (by rw [HLk.out]; omega)
      have hki : (k : Int) < kl := by omega
      have hN := HN.out k hlt
      have hlk := (HPr.out.wts.keep (w' := wr.drew) rfl).look1 (ks.getD k 0)
      rw [show (s.wt (ks.getD k 0)).getD 0 = val s.wt (ks.getD k 0) from rfl] at hlk
      have HNk := hide hN
      clear hc hN
      have htl : (told s (ks.take k)).length = k := by unfold told; rw [List.length_map, List.length_take, HLk.out]; omega
      have hOr2 := HOr.out
      obtain ⟨ao, co, hsh⟩ := own_shape hOr2
      rw [htl] at hsh
      obtain ⟨w7, hw7⟩ : ∃ w7, w7 = wr.drew := ⟨_, rfl⟩
      have HWr : Hid (WayAt w7 X m q n s) := hide (by rw [hw7]; exact HPr.out.way.keep (w' := wr.drew) (Nat.le_refl _) rfl (fun _ _ _ => rfl))
      have HP7 : Hid (PlM w7 X g m q n s) := hide (by rw [hw7]; exact HPr.out.keep (w' := wr.drew) (Nat.le_refl _) (fun _ _ => rfl))
      have HBr7 : Hid (Below w.heap.size w w7) := hide (by rw [hw7]; exact HBr.out.drew)
      have HKr7 : Hid (Oi w7 w.heap.size (.slice (some x) kl cr) ks) := hide (by rw [hw7]; exact HKr.out)
      have HOr7 : Hid (w7.ownsRow w.heap.size 74 3 (.slice ao k co) k (shs (told s (ks.take k)))) := hide (by rw [hw7, ← hsh]; have := HOr.out; unfold Os at this; rw [htl] at this; exact this)
      have hu : val s.wt (ks.getD k 0) = val s.wt (ks.getD k 0) := rfl
      generalize ks.getD k 0 = a at *
      obtain ⟨u, hu⟩ : ∃ u, val s.wt a = u := ⟨_, rfl⟩
      rw [hu] at hlk HNk
      have HU := hide hu
      have HTl := hide htl
      clear hOr2 htl hu HOr HKr HBr
      subst hsh
      go_upto_region 5 with fail
      rcases HPr.out.ok.kind with e | e | e
      · rw [wayT1 e] at c1
        have HS0 : Hid ((fun W => W.cell? ⟨g, 0, none⟩ = some (.map (some m)) ∧ W.cell? ⟨g, 1, none⟩ = some (.iface 76 (.pointer (some ⟨q, 0, none⟩))) ∧ (Instr.lookup 53 (.map (some m)) (.int .i64 a) false).run Try.prog W = .ok (.int .i64 u) W) w7) := hide ⟨by rw [hw7]; exact c0, by rw [hw7]; exact c1, by rw [hw7]; exact hlk⟩
        refine wp_region_held_drew (S := fun W => W.cell? ⟨g, 0, none⟩ = some (.map (some m)) ∧ W.cell? ⟨g, 1, none⟩ = some (.iface 76 (.pointer (some ⟨q, 0, none⟩))) ∧ (Instr.lookup 53 (.map (some m)) (.int .i64 a) false).run Try.prog W = .ok (.int .i64 u) W) (by kernel_rfl) (by rw [← hw7]; exact HS0.out) (fun hHeld => ?_)
        rw [← hw7]
        clear hHeld c0 c1 hlk hw7
        refine hd_take 0 (o := ⟨some 23, _, _, _, _, _⟩) (.slice ao k co) (by kernel_rfl) (by kernel_rfl) (by kernel_rfl) rfl (by rfl) (fun W hSw => by go_simp) (fun _ _ _ h => h) HS0.out ?_
        simp only [Act.put, List.setIfInBounds_toArray, List.set_cons_zero, List.set_cons_succ]
        refine hd_take 1 (o := ⟨some 24, _, _, _, _, _⟩) (.int .i64 a) (by kernel_rfl) (by kernel_rfl) (by kernel_rfl) rfl (by rfl) (fun W hSw => by go_simp) (fun _ _ _ h => h) HS0.out ?_
        simp only [Act.put, List.setIfInBounds_toArray, List.set_cons_zero, List.set_cons_succ]
        refine hd_take 2 (o := ⟨some 25, _, _, _, _, _⟩) (.pointer (some ⟨g, 0, none⟩)) (by kernel_rfl) (by kernel_rfl) (by kernel_rfl) rfl (by rfl) (fun W hSw => by go_simp) (fun _ _ _ h => h) HS0.out ?_
        simp only [Act.put, List.setIfInBounds_toArray, List.set_cons_zero, List.set_cons_succ]
        refine hd_take 3 (o := ⟨some 26, _, _, _, _, _⟩) (.pointer (some ⟨g, 0, none⟩)) (by kernel_rfl) (by kernel_rfl) (by kernel_rfl) rfl (by rfl) (fun W hSw => by go_simp) (fun _ _ _ h => h) HS0.out ?_
        simp only [Act.put, List.setIfInBounds_toArray, List.set_cons_zero, List.set_cons_succ]
        refine hd_take 4 (o := ⟨some 27, _, _, _, _, _⟩) (.pointer (some ⟨g, 0, none⟩)) (by kernel_rfl) (by kernel_rfl) (by kernel_rfl) rfl (by rfl) (fun W hSw => by go_simp) (fun _ _ _ h => h) HS0.out ?_
        simp only [Act.put, List.setIfInBounds_toArray, List.set_cons_zero, List.set_cons_succ]
        refine hd_take 5 (o := ⟨some 28, _, _, _, _, _⟩) (.map (some m)) (by kernel_rfl) (by kernel_rfl) (by kernel_rfl) rfl (by rfl) (fun W hSw => by have k := hSw.1; go_simp) (fun _ _ _ h => h) HS0.out ?_
        simp only [Act.put, List.setIfInBounds_toArray, List.set_cons_zero, List.set_cons_succ]
        refine hd_take 6 (o := ⟨some 29, _, _, _, _, _⟩) (.int .i64 a) (by kernel_rfl) (by kernel_rfl) (by kernel_rfl) rfl (by rfl) (fun W hSw => by go_simp) (fun _ _ _ h => h) HS0.out ?_
        simp only [Act.put, List.setIfInBounds_toArray, List.set_cons_zero, List.set_cons_succ]
        refine hd_take 7 (o := ⟨some 30, _, _, _, _, _⟩) (.int .i64 u) (by kernel_rfl) (by kernel_rfl) (by kernel_rfl) rfl (by rfl) (fun W hSw => by have k := hSw.2.2; go_simp) (fun _ _ _ h => h) HS0.out ?_
        simp only [Act.put, List.setIfInBounds_toArray, List.set_cons_zero, List.set_cons_succ]
        refine hd_take 8 (o := ⟨some 31, _, _, _, _, _⟩) (.pointer (some ⟨g, 0, none⟩)) (by kernel_rfl) (by kernel_rfl) (by kernel_rfl) rfl (by rfl) (fun W hSw => by go_simp) (fun _ _ _ h => h) HS0.out ?_
        simp only [Act.put, List.setIfInBounds_toArray, List.set_cons_zero, List.set_cons_succ]
        refine hd_take 9 (o := ⟨some 32, _, _, _, _, _⟩) (.pointer (some ⟨g, 0, none⟩)) (by kernel_rfl) (by kernel_rfl) (by kernel_rfl) rfl (by rfl) (fun W hSw => by go_simp) (fun _ _ _ h => h) HS0.out ?_
        simp only [Act.put, List.setIfInBounds_toArray, List.set_cons_zero, List.set_cons_succ]
        refine hd_take 10 (o := ⟨some 33, _, _, _, _, _⟩) (.pointer (some ⟨g, 1, none⟩)) (by kernel_rfl) (by kernel_rfl) (by kernel_rfl) rfl (by rfl) (fun W hSw => by go_simp) (fun _ _ _ h => h) HS0.out ?_
        simp only [Act.put, List.setIfInBounds_toArray, List.set_cons_zero, List.set_cons_succ]
        refine hd_take 11 (o := ⟨some 34, _, _, _, _, _⟩) (.iface 76 (.pointer (some ⟨q, 0, none⟩))) (by kernel_rfl) (by kernel_rfl) (by kernel_rfl) rfl (by rfl) (fun W hSw => by have k := hSw.2.1; go_simp) (fun _ _ _ h => h) HS0.out ?_
        simp only [Act.put, List.setIfInBounds_toArray, List.set_cons_zero, List.set_cons_succ]
        refine hd_take 12 (o := ⟨some 35, _, _, _, _, _⟩) (.int .i64 a) (by kernel_rfl) (by kernel_rfl) (by kernel_rfl) rfl (by rfl) (fun W hSw => by go_simp) (fun _ _ _ h => h) HS0.out ?_
        simp only [Act.put, List.setIfInBounds_toArray, List.set_cons_zero, List.set_cons_succ]
        refine hd_call 13 (o := ⟨some 36, _, _, _, _, _⟩) (by kernel_rfl) rfl (by rfl) (fun K' hK => ?_)
        go_wp2_with fail
        refine (pass1 HWr.out e a).mono ?_
        rintro e2 w5 ⟨rfl, rfl⟩
        refine hK _ _ HS0.out ?_
        clear hK K'
        try simp only [Act.put, List.setIfInBounds_toArray, List.set_cons_zero, List.set_cons_succ]
        refine hd_take 14 (o := ⟨some 37, _, _, _, _, _⟩) (.agg #[.int .i64 a, .int .i64 u, .int .i64 (psv s a)]) (by kernel_rfl) (by kernel_rfl) (by kernel_rfl) rfl (by rfl) (fun W hSw => by go_simp) (fun _ _ _ h => h) HS0.out ?_
        simp only [Act.put, List.setIfInBounds_toArray, List.set_cons_zero, List.set_cons_succ]
        refine hd_call 15 (o := ⟨some 38, _, _, _, _, _⟩) (by kernel_rfl) rfl (by rfl) (fun K' hK => ?_)
        go_wp2_with fail
        have HP8 := hide (HP7.out.keep (w' := w5.alloc (.cells #[.int .i64 a, .int .i64 u, .int .i64 (psv s a)] 74)) (by simp) (fun b hb => Below.heap_alloc _ _ _ (HP7.out.lt b hb)))
        have HS1 : Hid ((fun W => W.cell? ⟨g, 0, none⟩ = some (.map (some m)) ∧ W.cell? ⟨g, 1, none⟩ = some (.iface 76 (.pointer (some ⟨q, 0, none⟩))) ∧ (Instr.lookup 53 (.map (some m)) (.int .i64 a) false).run Try.prog W = .ok (.int .i64 u) W) (w5.alloc (.cells #[.int .i64 a, .int .i64 u, .int .i64 (psv s a)] 74))) := hide (plS HP8.out (wayT1 e) HU.out)
        refine hK _ _ HS1.out ?_
        clear hK K'
        try simp only [Act.put, List.setIfInBounds_toArray, List.set_cons_zero, List.set_cons_succ]
        refine hd_call 16 (o := ⟨some 39, _, _, _, _, _⟩) (by kernel_rfl) rfl (by rfl) (fun K' hK => ?_)
        refine wp_append_own _ (.tmp 23) (.tmp 38) 48 rfl w.heap.size 74 i37 _ 3 24 Try.underlying48 hi hz hs hb rfl (by decide) _ k _ rfl (HOr7.out.alloc _) (⟨w5.heap.size, 0, none⟩) 1 1 (shL ⟨a, u, psv s a⟩) rfl rfl (cell_row_new _ #[.int .i64 a, .int .i64 u, .int .i64 (psv s a)] _) (by simp [shL, Value.oneCell']) (by unfold maxLen; omega) (by omega) (by have := HBr7.out.size; simp; omega) ?_
        intro v' w6 hown hg6 _
        have HB6 : Hid (Below w.heap.size w w6) := hide ((HBr7.out.alloc HBr7.out.size _).grown hg6 (by have := HBr7.out.size; simp; omega) (fun j hj => (World.ownsRow.lt HOr7.out j hj).1))
        have HK6 := hide (Oi.kept (World.ownsRow.alloc HKr7.out (.cells #[.int .i64 a, .int .i64 u, .int .i64 (psv s a)] 74)) hg6 (ownsRow_apart HKr7.out HOr7.out (by decide)))
        have HP6 := hide (HP.out.keep HB6.out.size (fun b hb => HB6.out.block b (HP.out.lt b hb)))
        have HS2 : Hid ((fun W => W.cell? ⟨g, 0, none⟩ = some (.map (some m)) ∧ W.cell? ⟨g, 1, none⟩ = some (.iface 76 (.pointer (some ⟨q, 0, none⟩))) ∧ (Instr.lookup 53 (.map (some m)) (.int .i64 a) false).run Try.prog W = .ok (.int .i64 u) W) w6) := hide (plS HP6.out (wayT1 e) HU.out)
        have HO6 := hide hown
        obtain ⟨gg, cg, rfl⟩ := ownsRow_succ hown
        clear hg6 hown
        refine hK _ _ HS2.out ?_
        clear hK K'
        try simp only [Act.put, List.setIfInBounds_toArray, List.set_cons_zero, List.set_cons_succ]
        refine hd_take 17 (o := ⟨some 3, _, _, _, _, _⟩) (.slice (some ⟨gg, 0, none⟩) (k + 1) cg) (by kernel_rfl) (by kernel_rfl) (by kernel_rfl) rfl (by rfl) (fun W hSw => by go_simp) (fun _ _ _ h => h) HS2.out ?_
        simp only [Act.put, List.setIfInBounds_toArray, List.set_cons_zero, List.set_cons_succ]
        refine wpAnyH_done (by kernel_rfl) ?_ _
        go_wp2
        go_roundw
        case rel =>
          refine ⟨k + 1, by omega, by go_num, hide ?_, HK6, HB6⟩
          have h9 := HO6.out
          unfold Os
          rw [← HNk.out, shs_snoc, List.length_append, HTl.out]
          exact h9
        case measure => simp [RowKit.intOf]; omega
      · rw [wayT2 e] at c1
        have HS0 : Hid ((fun W => W.cell? ⟨g, 0, none⟩ = some (.map (some m)) ∧ W.cell? ⟨g, 1, none⟩ = some (.iface 79 (.pointer (some ⟨q, 0, none⟩))) ∧ (Instr.lookup 53 (.map (some m)) (.int .i64 a) false).run Try.prog W = .ok (.int .i64 u) W) w7) := hide ⟨by rw [hw7]; exact c0, by rw [hw7]; exact c1, by rw [hw7]; exact hlk⟩
        refine wp_region_held_drew (S := fun W => W.cell? ⟨g, 0, none⟩ = some (.map (some m)) ∧ W.cell? ⟨g, 1, none⟩ = some (.iface 79 (.pointer (some ⟨q, 0, none⟩))) ∧ (Instr.lookup 53 (.map (some m)) (.int .i64 a) false).run Try.prog W = .ok (.int .i64 u) W) (by kernel_rfl) (by rw [← hw7]; exact HS0.out) (fun hHeld => ?_)
        rw [← hw7]
        clear hHeld c0 c1 hlk hw7
        refine hd_take 0 (o := ⟨some 23, _, _, _, _, _⟩) (.slice ao k co) (by kernel_rfl) (by kernel_rfl) (by kernel_rfl) rfl (by rfl) (fun W hSw => by go_simp) (fun _ _ _ h => h) HS0.out ?_
        simp only [Act.put, List.setIfInBounds_toArray, List.set_cons_zero, List.set_cons_succ]
        refine hd_take 1 (o := ⟨some 24, _, _, _, _, _⟩) (.int .i64 a) (by kernel_rfl) (by kernel_rfl) (by kernel_rfl) rfl (by rfl) (fun W hSw => by go_simp) (fun _ _ _ h => h) HS0.out ?_
        simp only [Act.put, List.setIfInBounds_toArray, List.set_cons_zero, List.set_cons_succ]
        refine hd_take 2 (o := ⟨some 25, _, _, _, _, _⟩) (.pointer (some ⟨g, 0, none⟩)) (by kernel_rfl) (by kernel_rfl) (by kernel_rfl) rfl (by rfl) (fun W hSw => by go_simp) (fun _ _ _ h => h) HS0.out ?_
        simp only [Act.put, List.setIfInBounds_toArray, List.set_cons_zero, List.set_cons_succ]
        refine hd_take 3 (o := ⟨some 26, _, _, _, _, _⟩) (.pointer (some ⟨g, 0, none⟩)) (by kernel_rfl) (by kernel_rfl) (by kernel_rfl) rfl (by rfl) (fun W hSw => by go_simp) (fun _ _ _ h => h) HS0.out ?_
        simp only [Act.put, List.setIfInBounds_toArray, List.set_cons_zero, List.set_cons_succ]
        refine hd_take 4 (o := ⟨some 27, _, _, _, _, _⟩) (.pointer (some ⟨g, 0, none⟩)) (by kernel_rfl) (by kernel_rfl) (by kernel_rfl) rfl (by rfl) (fun W hSw => by go_simp) (fun _ _ _ h => h) HS0.out ?_
        simp only [Act.put, List.setIfInBounds_toArray, List.set_cons_zero, List.set_cons_succ]
        refine hd_take 5 (o := ⟨some 28, _, _, _, _, _⟩) (.map (some m)) (by kernel_rfl) (by kernel_rfl) (by kernel_rfl) rfl (by rfl) (fun W hSw => by have k := hSw.1; go_simp) (fun _ _ _ h => h) HS0.out ?_
        simp only [Act.put, List.setIfInBounds_toArray, List.set_cons_zero, List.set_cons_succ]
        refine hd_take 6 (o := ⟨some 29, _, _, _, _, _⟩) (.int .i64 a) (by kernel_rfl) (by kernel_rfl) (by kernel_rfl) rfl (by rfl) (fun W hSw => by go_simp) (fun _ _ _ h => h) HS0.out ?_
        simp only [Act.put, List.setIfInBounds_toArray, List.set_cons_zero, List.set_cons_succ]
        refine hd_take 7 (o := ⟨some 30, _, _, _, _, _⟩) (.int .i64 u) (by kernel_rfl) (by kernel_rfl) (by kernel_rfl) rfl (by rfl) (fun W hSw => by have k := hSw.2.2; go_simp) (fun _ _ _ h => h) HS0.out ?_
        simp only [Act.put, List.setIfInBounds_toArray, List.set_cons_zero, List.set_cons_succ]
        refine hd_take 8 (o := ⟨some 31, _, _, _, _, _⟩) (.pointer (some ⟨g, 0, none⟩)) (by kernel_rfl) (by kernel_rfl) (by kernel_rfl) rfl (by rfl) (fun W hSw => by go_simp) (fun _ _ _ h => h) HS0.out ?_
        simp only [Act.put, List.setIfInBounds_toArray, List.set_cons_zero, List.set_cons_succ]
        refine hd_take 9 (o := ⟨some 32, _, _, _, _, _⟩) (.pointer (some ⟨g, 0, none⟩)) (by kernel_rfl) (by kernel_rfl) (by kernel_rfl) rfl (by rfl) (fun W hSw => by go_simp) (fun _ _ _ h => h) HS0.out ?_
        simp only [Act.put, List.setIfInBounds_toArray, List.set_cons_zero, List.set_cons_succ]
        refine hd_take 10 (o := ⟨some 33, _, _, _, _, _⟩) (.pointer (some ⟨g, 1, none⟩)) (by kernel_rfl) (by kernel_rfl) (by kernel_rfl) rfl (by rfl) (fun W hSw => by go_simp) (fun _ _ _ h => h) HS0.out ?_
        simp only [Act.put, List.setIfInBounds_toArray, List.set_cons_zero, List.set_cons_succ]
        refine hd_take 11 (o := ⟨some 34, _, _, _, _, _⟩) (.iface 79 (.pointer (some ⟨q, 0, none⟩))) (by kernel_rfl) (by kernel_rfl) (by kernel_rfl) rfl (by rfl) (fun W hSw => by have k := hSw.2.1; go_simp) (fun _ _ _ h => h) HS0.out ?_
        simp only [Act.put, List.setIfInBounds_toArray, List.set_cons_zero, List.set_cons_succ]
        refine hd_take 12 (o := ⟨some 35, _, _, _, _, _⟩) (.int .i64 a) (by kernel_rfl) (by kernel_rfl) (by kernel_rfl) rfl (by rfl) (fun W hSw => by go_simp) (fun _ _ _ h => h) HS0.out ?_
        simp only [Act.put, List.setIfInBounds_toArray, List.set_cons_zero, List.set_cons_succ]
        refine hd_call 13 (o := ⟨some 36, _, _, _, _, _⟩) (by kernel_rfl) rfl (by rfl) (fun K' hK => ?_)
        go_wp2_with fail
        refine (pass2 HWr.out e a).mono ?_
        rintro e2 w5 ⟨rfl, rfl⟩
        refine hK _ _ HS0.out ?_
        clear hK K'
        try simp only [Act.put, List.setIfInBounds_toArray, List.set_cons_zero, List.set_cons_succ]
        refine hd_take 14 (o := ⟨some 37, _, _, _, _, _⟩) (.agg #[.int .i64 a, .int .i64 u, .int .i64 (psv s a)]) (by kernel_rfl) (by kernel_rfl) (by kernel_rfl) rfl (by rfl) (fun W hSw => by go_simp) (fun _ _ _ h => h) HS0.out ?_
        simp only [Act.put, List.setIfInBounds_toArray, List.set_cons_zero, List.set_cons_succ]
        refine hd_call 15 (o := ⟨some 38, _, _, _, _, _⟩) (by kernel_rfl) rfl (by rfl) (fun K' hK => ?_)
        go_wp2_with fail
        have HP8 := hide (HP7.out.keep (w' := w5.alloc (.cells #[.int .i64 a, .int .i64 u, .int .i64 (psv s a)] 74)) (by simp) (fun b hb => Below.heap_alloc _ _ _ (HP7.out.lt b hb)))
        have HS1 : Hid ((fun W => W.cell? ⟨g, 0, none⟩ = some (.map (some m)) ∧ W.cell? ⟨g, 1, none⟩ = some (.iface 79 (.pointer (some ⟨q, 0, none⟩))) ∧ (Instr.lookup 53 (.map (some m)) (.int .i64 a) false).run Try.prog W = .ok (.int .i64 u) W) (w5.alloc (.cells #[.int .i64 a, .int .i64 u, .int .i64 (psv s a)] 74))) := hide (plS HP8.out (wayT2 e) HU.out)
        refine hK _ _ HS1.out ?_
        clear hK K'
        try simp only [Act.put, List.setIfInBounds_toArray, List.set_cons_zero, List.set_cons_succ]
        refine hd_call 16 (o := ⟨some 39, _, _, _, _, _⟩) (by kernel_rfl) rfl (by rfl) (fun K' hK => ?_)
        refine wp_append_own _ (.tmp 23) (.tmp 38) 48 rfl w.heap.size 74 i37 _ 3 24 Try.underlying48 hi hz hs hb rfl (by decide) _ k _ rfl (HOr7.out.alloc _) (⟨w5.heap.size, 0, none⟩) 1 1 (shL ⟨a, u, psv s a⟩) rfl rfl (cell_row_new _ #[.int .i64 a, .int .i64 u, .int .i64 (psv s a)] _) (by simp [shL, Value.oneCell']) (by unfold maxLen; omega) (by omega) (by have := HBr7.out.size; simp; omega) ?_
        intro v' w6 hown hg6 _
        have HB6 : Hid (Below w.heap.size w w6) := hide ((HBr7.out.alloc HBr7.out.size _).grown hg6 (by have := HBr7.out.size; simp; omega) (fun j hj => (World.ownsRow.lt HOr7.out j hj).1))
        have HK6 := hide (Oi.kept (World.ownsRow.alloc HKr7.out (.cells #[.int .i64 a, .int .i64 u, .int .i64 (psv s a)] 74)) hg6 (ownsRow_apart HKr7.out HOr7.out (by decide)))
        have HP6 := hide (HP.out.keep HB6.out.size (fun b hb => HB6.out.block b (HP.out.lt b hb)))
        have HS2 : Hid ((fun W => W.cell? ⟨g, 0, none⟩ = some (.map (some m)) ∧ W.cell? ⟨g, 1, none⟩ = some (.iface 79 (.pointer (some ⟨q, 0, none⟩))) ∧ (Instr.lookup 53 (.map (some m)) (.int .i64 a) false).run Try.prog W = .ok (.int .i64 u) W) w6) := hide (plS HP6.out (wayT2 e) HU.out)
        have HO6 := hide hown
        obtain ⟨gg, cg, rfl⟩ := ownsRow_succ hown
        clear hg6 hown
        refine hK _ _ HS2.out ?_
        clear hK K'
        try simp only [Act.put, List.setIfInBounds_toArray, List.set_cons_zero, List.set_cons_succ]
        refine hd_take 17 (o := ⟨some 3, _, _, _, _, _⟩) (.slice (some ⟨gg, 0, none⟩) (k + 1) cg) (by kernel_rfl) (by kernel_rfl) (by kernel_rfl) rfl (by rfl) (fun W hSw => by go_simp) (fun _ _ _ h => h) HS2.out ?_
        simp only [Act.put, List.setIfInBounds_toArray, List.set_cons_zero, List.set_cons_succ]
        refine wpAnyH_done (by kernel_rfl) ?_ _
        go_wp2
        go_roundw
        case rel =>
          refine ⟨k + 1, by omega, by go_num, hide ?_, HK6, HB6⟩
          have h9 := HO6.out
          unfold Os
          rw [← HNk.out, shs_snoc, List.length_append, HTl.out]
          exact h9
        case measure => simp [RowKit.intOf]; omega
      · rw [wayT3 e] at c1
        have HS0 : Hid ((fun W => W.cell? ⟨g, 0, none⟩ = some (.map (some m)) ∧ W.cell? ⟨g, 1, none⟩ = some (.iface 82 (.pointer (some ⟨q, 0, none⟩))) ∧ (Instr.lookup 53 (.map (some m)) (.int .i64 a) false).run Try.prog W = .ok (.int .i64 u) W) w7) := hide ⟨by rw [hw7]; exact c0, by rw [hw7]; exact c1, by rw [hw7]; exact hlk⟩
        refine wp_region_held_drew (S := fun W => W.cell? ⟨g, 0, none⟩ = some (.map (some m)) ∧ W.cell? ⟨g, 1, none⟩ = some (.iface 82 (.pointer (some ⟨q, 0, none⟩))) ∧ (Instr.lookup 53 (.map (some m)) (.int .i64 a) false).run Try.prog W = .ok (.int .i64 u) W) (by kernel_rfl) (by rw [← hw7]; exact HS0.out) (fun hHeld => ?_)
        rw [← hw7]
        clear hHeld c0 c1 hlk hw7
        refine hd_take 0 (o := ⟨some 23, _, _, _, _, _⟩) (.slice ao k co) (by kernel_rfl) (by kernel_rfl) (by kernel_rfl) rfl (by rfl) (fun W hSw => by go_simp) (fun _ _ _ h => h) HS0.out ?_
        simp only [Act.put, List.setIfInBounds_toArray, List.set_cons_zero, List.set_cons_succ]
        refine hd_take 1 (o := ⟨some 24, _, _, _, _, _⟩) (.int .i64 a) (by kernel_rfl) (by kernel_rfl) (by kernel_rfl) rfl (by rfl) (fun W hSw => by go_simp) (fun _ _ _ h => h) HS0.out ?_
        simp only [Act.put, List.setIfInBounds_toArray, List.set_cons_zero, List.set_cons_succ]
        refine hd_take 2 (o := ⟨some 25, _, _, _, _, _⟩) (.pointer (some ⟨g, 0, none⟩)) (by kernel_rfl) (by kernel_rfl) (by kernel_rfl) rfl (by rfl) (fun W hSw => by go_simp) (fun _ _ _ h => h) HS0.out ?_
        simp only [Act.put, List.setIfInBounds_toArray, List.set_cons_zero, List.set_cons_succ]
        refine hd_take 3 (o := ⟨some 26, _, _, _, _, _⟩) (.pointer (some ⟨g, 0, none⟩)) (by kernel_rfl) (by kernel_rfl) (by kernel_rfl) rfl (by rfl) (fun W hSw => by go_simp) (fun _ _ _ h => h) HS0.out ?_
        simp only [Act.put, List.setIfInBounds_toArray, List.set_cons_zero, List.set_cons_succ]
        refine hd_take 4 (o := ⟨some 27, _, _, _, _, _⟩) (.pointer (some ⟨g, 0, none⟩)) (by kernel_rfl) (by kernel_rfl) (by kernel_rfl) rfl (by rfl) (fun W hSw => by go_simp) (fun _ _ _ h => h) HS0.out ?_
        simp only [Act.put, List.setIfInBounds_toArray, List.set_cons_zero, List.set_cons_succ]
        refine hd_take 5 (o := ⟨some 28, _, _, _, _, _⟩) (.map (some m)) (by kernel_rfl) (by kernel_rfl) (by kernel_rfl) rfl (by rfl) (fun W hSw => by have k := hSw.1; go_simp) (fun _ _ _ h => h) HS0.out ?_
        simp only [Act.put, List.setIfInBounds_toArray, List.set_cons_zero, List.set_cons_succ]
        refine hd_take 6 (o := ⟨some 29, _, _, _, _, _⟩) (.int .i64 a) (by kernel_rfl) (by kernel_rfl) (by kernel_rfl) rfl (by rfl) (fun W hSw => by go_simp) (fun _ _ _ h => h) HS0.out ?_
        simp only [Act.put, List.setIfInBounds_toArray, List.set_cons_zero, List.set_cons_succ]
        refine hd_take 7 (o := ⟨some 30, _, _, _, _, _⟩) (.int .i64 u) (by kernel_rfl) (by kernel_rfl) (by kernel_rfl) rfl (by rfl) (fun W hSw => by have k := hSw.2.2; go_simp) (fun _ _ _ h => h) HS0.out ?_
        simp only [Act.put, List.setIfInBounds_toArray, List.set_cons_zero, List.set_cons_succ]
        refine hd_take 8 (o := ⟨some 31, _, _, _, _, _⟩) (.pointer (some ⟨g, 0, none⟩)) (by kernel_rfl) (by kernel_rfl) (by kernel_rfl) rfl (by rfl) (fun W hSw => by go_simp) (fun _ _ _ h => h) HS0.out ?_
        simp only [Act.put, List.setIfInBounds_toArray, List.set_cons_zero, List.set_cons_succ]
        refine hd_take 9 (o := ⟨some 32, _, _, _, _, _⟩) (.pointer (some ⟨g, 0, none⟩)) (by kernel_rfl) (by kernel_rfl) (by kernel_rfl) rfl (by rfl) (fun W hSw => by go_simp) (fun _ _ _ h => h) HS0.out ?_
        simp only [Act.put, List.setIfInBounds_toArray, List.set_cons_zero, List.set_cons_succ]
        refine hd_take 10 (o := ⟨some 33, _, _, _, _, _⟩) (.pointer (some ⟨g, 1, none⟩)) (by kernel_rfl) (by kernel_rfl) (by kernel_rfl) rfl (by rfl) (fun W hSw => by go_simp) (fun _ _ _ h => h) HS0.out ?_
        simp only [Act.put, List.setIfInBounds_toArray, List.set_cons_zero, List.set_cons_succ]
        refine hd_take 11 (o := ⟨some 34, _, _, _, _, _⟩) (.iface 82 (.pointer (some ⟨q, 0, none⟩))) (by kernel_rfl) (by kernel_rfl) (by kernel_rfl) rfl (by rfl) (fun W hSw => by have k := hSw.2.1; go_simp) (fun _ _ _ h => h) HS0.out ?_
        simp only [Act.put, List.setIfInBounds_toArray, List.set_cons_zero, List.set_cons_succ]
        refine hd_take 12 (o := ⟨some 35, _, _, _, _, _⟩) (.int .i64 a) (by kernel_rfl) (by kernel_rfl) (by kernel_rfl) rfl (by rfl) (fun W hSw => by go_simp) (fun _ _ _ h => h) HS0.out ?_
        simp only [Act.put, List.setIfInBounds_toArray, List.set_cons_zero, List.set_cons_succ]
        refine hd_call 13 (o := ⟨some 36, _, _, _, _, _⟩) (by kernel_rfl) rfl (by rfl) (fun K' hK => ?_)
        go_wp2_with fail
        refine (pass3 HWr.out e a).mono ?_
        rintro e2 w5 ⟨rfl, rfl⟩
        refine hK _ _ HS0.out ?_
        clear hK K'
        try simp only [Act.put, List.setIfInBounds_toArray, List.set_cons_zero, List.set_cons_succ]
        refine hd_take 14 (o := ⟨some 37, _, _, _, _, _⟩) (.agg #[.int .i64 a, .int .i64 u, .int .i64 (psv s a)]) (by kernel_rfl) (by kernel_rfl) (by kernel_rfl) rfl (by rfl) (fun W hSw => by go_simp) (fun _ _ _ h => h) HS0.out ?_
        simp only [Act.put, List.setIfInBounds_toArray, List.set_cons_zero, List.set_cons_succ]
        refine hd_call 15 (o := ⟨some 38, _, _, _, _, _⟩) (by kernel_rfl) rfl (by rfl) (fun K' hK => ?_)
        go_wp2_with fail
        have HP8 := hide (HP7.out.keep (w' := w5.alloc (.cells #[.int .i64 a, .int .i64 u, .int .i64 (psv s a)] 74)) (by simp) (fun b hb => Below.heap_alloc _ _ _ (HP7.out.lt b hb)))
        have HS1 : Hid ((fun W => W.cell? ⟨g, 0, none⟩ = some (.map (some m)) ∧ W.cell? ⟨g, 1, none⟩ = some (.iface 82 (.pointer (some ⟨q, 0, none⟩))) ∧ (Instr.lookup 53 (.map (some m)) (.int .i64 a) false).run Try.prog W = .ok (.int .i64 u) W) (w5.alloc (.cells #[.int .i64 a, .int .i64 u, .int .i64 (psv s a)] 74))) := hide (plS HP8.out (wayT3 e) HU.out)
        refine hK _ _ HS1.out ?_
        clear hK K'
        try simp only [Act.put, List.setIfInBounds_toArray, List.set_cons_zero, List.set_cons_succ]
        refine hd_call 16 (o := ⟨some 39, _, _, _, _, _⟩) (by kernel_rfl) rfl (by rfl) (fun K' hK => ?_)
        refine wp_append_own _ (.tmp 23) (.tmp 38) 48 rfl w.heap.size 74 i37 _ 3 24 Try.underlying48 hi hz hs hb rfl (by decide) _ k _ rfl (HOr7.out.alloc _) (⟨w5.heap.size, 0, none⟩) 1 1 (shL ⟨a, u, psv s a⟩) rfl rfl (cell_row_new _ #[.int .i64 a, .int .i64 u, .int .i64 (psv s a)] _) (by simp [shL, Value.oneCell']) (by unfold maxLen; omega) (by omega) (by have := HBr7.out.size; simp; omega) ?_
        intro v' w6 hown hg6 _
        have HB6 : Hid (Below w.heap.size w w6) := hide ((HBr7.out.alloc HBr7.out.size _).grown hg6 (by have := HBr7.out.size; simp; omega) (fun j hj => (World.ownsRow.lt HOr7.out j hj).1))
        have HK6 := hide (Oi.kept (World.ownsRow.alloc HKr7.out (.cells #[.int .i64 a, .int .i64 u, .int .i64 (psv s a)] 74)) hg6 (ownsRow_apart HKr7.out HOr7.out (by decide)))
        have HP6 := hide (HP.out.keep HB6.out.size (fun b hb => HB6.out.block b (HP.out.lt b hb)))
        have HS2 : Hid ((fun W => W.cell? ⟨g, 0, none⟩ = some (.map (some m)) ∧ W.cell? ⟨g, 1, none⟩ = some (.iface 82 (.pointer (some ⟨q, 0, none⟩))) ∧ (Instr.lookup 53 (.map (some m)) (.int .i64 a) false).run Try.prog W = .ok (.int .i64 u) W) w6) := hide (plS HP6.out (wayT3 e) HU.out)
        have HO6 := hide hown
        obtain ⟨gg, cg, rfl⟩ := ownsRow_succ hown
        clear hg6 hown
        refine hK _ _ HS2.out ?_
        clear hK K'
        try simp only [Act.put, List.setIfInBounds_toArray, List.set_cons_zero, List.set_cons_succ]
        refine hd_take 17 (o := ⟨some 3, _, _, _, _, _⟩) (.slice (some ⟨gg, 0, none⟩) (k + 1) cg) (by kernel_rfl) (by kernel_rfl) (by kernel_rfl) rfl (by rfl) (fun W hSw => by go_simp) (fun _ _ _ h => h) HS2.out ?_
        simp only [Act.put, List.setIfInBounds_toArray, List.set_cons_zero, List.set_cons_succ]
        refine wpAnyH_done (by kernel_rfl) ?_ _
        go_wp2
        go_roundw
        case rel =>
          refine ⟨k + 1, by omega, by go_num, hide ?_, HK6, HB6⟩
          have h9 := HO6.out
          unfold Os
          rw [← HNk.out, shs_snoc, List.length_append, HTl.out]
          exact h9
        case measure => simp [RowKit.intOf]; omega
    · obtain rfl : k = kl := by omega
      go_wp2
      go_ret
      have h9 := HOr.out
      rw [HT.out] at h9
      exact ⟨_, ks, rfl, h9, HK.out.1, HK.out.2.1, HK.out.2.2, HBr.out⟩
end
end Go.Proofs.Ytngmnlmagbfijab
