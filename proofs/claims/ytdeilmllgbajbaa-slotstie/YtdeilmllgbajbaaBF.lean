import Derived.Test.YtdeilmllgbajbaaBE
namespace Go.Proofs.Ytdeilmllgbajbaa
open Go.RowKit

section
variable {P : Program} {ops : Array Oper} {Q : Exit → Act → World → Prop} {S : World → Prop} {fuel : Nat} {listed : Array Bool} {a : Act} {w : World}
/-- what its guard leaves out -/
theorem hd_skip (i : Nat) {o : Oper} (hs : Region.noSelect ops = true) (hf : Region.free .any ops listed i = true) (hr : (Region.ready .any ops listed).contains i = true) (ho : ops[i]? = some o) (hw : Region.wanted o (yielded ops a.tmps) = false)
    (hQ : ∀ c a w, Q (.panic c) (a.put o.dst undef) w → Q (.panic c) a w) (h0 : S w) (h : wpAnyH P .any ops Q S fuel (listed.setIfInBounds i true) (a.put o.dst undef) w) : wpAnyH P .any ops Q S (fuel + 1) listed a w :=
  wpAnyH_take ho hs hf hr hQ (Or.inr ⟨hw, rfl⟩) h0 h
end
/-- the program's tie: Cells on the left (true) or on the right -/
def PT (w : World) (F : Nat → Prop) (tn : Bool) (X : Nat) (L : List (Int × Int)) : Prop := match tn with
  | true => TQ w F X L
  | false => TP w F X L
section
variable {w w' : World} {F : Nat → Prop} {tn : Bool} {X : Nat} {L : List (Int × Int)}
theorem PT.keep (h : PT w F tn X L) (hs : w.heap.size ≤ w'.heap.size) (hk : ∀ b, F b → w'.heap[b]? = w.heap[b]?) : PT w' F tn X L := by
  cases tn
  · exact Tie.keep (show TP w F X L from h) hs hk
  · exact Tie.keep (show TQ w F X L from h) hs hk
theorem PT.lt (h : PT w F tn X L) : ∀ b, F b → b < w.heap.size := by
  cases tn
  · exact Tie.lt (show TP w F X L from h)
  · exact Tie.lt (show TQ w F X L from h)
theorem PT.below (h : PT w F tn X L) (hb : Below w.heap.size w w') : PT w' F tn X L := h.keep hb.size (fun b hf => hb.block b (h.lt b hf))
theorem PT.apart (h : PT w F tn X L) {G G' : Nat → Prop} (hx : Ext G w G' w') (hd : ∀ b, F b → ¬ G b) : PT w' F tn X L := h.keep hx.mod.size (fun b hb => hx.mod.block b (h.lt b hb) (hd b hb))
end
/-- one tie twice, with boxes beside it -/
structure ZkAt (w0 : World) (G0 : Nat → Prop) (W : World) (tn : Bool) (X R : Nat) (a r : List (Int × Int)) (bs : List (Nat × Obj)) (FX FR : Nat → Prop) : Prop where
  hX : PT W FX tn X a
  hR : Rb W FR R r
  d : ∀ x, FX x → ¬ FR x
  bx : ∀ q ∈ bs, W.heap[q.1]? = some q.2 ∧ w0.heap.size ≤ q.1 ∧ ¬ FX q.1 ∧ ¬ FR q.1
  ex : Ext G0 w0 (fun x => FX x ∨ FR x) W
def Zk (w0 : World) (G0 : Nat → Prop) (W : World) (tn : Bool) (X R : Nat) (a r : List (Int × Int)) (bs : List (Nat × Obj)) : Prop := ∃ FX FR, ZkAt w0 G0 W tn X R a r bs FX FR
section
variable {w0 W W' : World} {G0 : Nat → Prop} {tn : Bool} {X R : Nat} {a a' r r' : List (Int × Int)} {bs : List (Nat × Obj)} {FX FR F' : Nat → Prop}
theorem heap_lt {w : World} {b : Nat} {o : Obj} (h : w.heap[b]? = some o) : b < w.heap.size := (Array.getElem?_eq_some_iff.1 h).1
theorem ext_join {G0 F1 F1' F2 : Nat → Prop} {w0 W W' : World} (hE : Ext G0 w0 (fun x => F1 x ∨ F2 x) W) (hx : Ext F1 W F1' W') : Ext G0 w0 (fun x => F1' x ∨ F2 x) W' := by
  refine ⟨⟨hx.mod.os.trans hE.mod.os, hx.mod.tape.trans hE.mod.tape, hx.mod.output.trans hE.mod.output, Nat.le_trans hE.mod.size hx.mod.size, fun x h1 h2 => ?_⟩, ?_⟩
  · rw [hx.mod.block x (Nat.lt_of_lt_of_le h1 hE.mod.size) (fun h3 => by rcases hE.new x (.inl h3) with h4 | h4; exact h2 h4; omega)]
    exact hE.mod.block x h1 h2
  · rintro x (h1 | h1)
    · rcases hx.new x h1 with h2 | h2
      · exact hE.new x (.inl h2)
      · exact .inr (Nat.le_trans hE.mod.size h2)
    · exact hE.new x (.inr h1)
theorem ZkAt.stepX (h : ZkAt w0 G0 W tn X R a r bs FX FR) (hT : PT W' FX tn X a') (hx : Ext FX W FX W') : ZkAt w0 G0 W' tn X R a' r bs FX FR := by
  refine ⟨hT, h.hR.apart hx (fun x h1 h2 => h.d x h2 h1), h.d, fun q hq => ?_, ext_join h.ex hx⟩
  obtain ⟨h1, h2, h3, h4⟩ := h.bx q hq
  exact ⟨(hx.mod.block q.1 (heap_lt h1) h3).trans h1, h2, h3, h4⟩
theorem ZkAt.stepR (h : ZkAt w0 G0 W tn X R a r bs FX FR) (hT : Rb W' F' R r') (hx : Ext FR W F' W') : ZkAt w0 G0 W' tn X R a r' bs FX F' := by
  have nw : ∀ x, x < W.heap.size → ¬ FR x → ¬ F' x := fun x h1 h2 h3 => by rcases hx.new x h3 with h4 | h4; exact h2 h4; omega
  have e := ext_join (F1 := FR) (F2 := FX) (F1' := F') ⟨h.ex.mod, fun x hx => h.ex.new x (hx.elim .inr .inl)⟩ hx
  refine ⟨h.hX.apart hx (fun x h1 h2 => h.d x h1 h2), hT, fun x h1 h2 => nw x (h.hX.lt x h1) (h.d x h1) h2, fun q hq => ?_, ⟨e.mod, fun x hx => e.new x (hx.elim .inr .inl)⟩⟩
  obtain ⟨h1, h2, h3, h4⟩ := h.bx q hq
  exact ⟨(hx.mod.block q.1 (heap_lt h1) h4).trans h1, h2, h3, nw q.1 (heap_lt h1) h4⟩
theorem Zk.below (h : Zk w0 G0 W tn X R a r bs) (hx : Below W.heap.size W W') : Zk w0 G0 W' tn X R a r bs := by
  obtain ⟨FX, FR, h⟩ := h
  refine ⟨FX, FR, h.hX.below hx, h.hR.below hx, h.d, fun q hq => ?_, ⟨⟨hx.os.trans h.ex.mod.os, hx.tape.trans h.ex.mod.tape, hx.output.trans h.ex.mod.output, Nat.le_trans h.ex.mod.size hx.size, fun x h1 h2 => (hx.block x (Nat.lt_of_lt_of_le h1 h.ex.mod.size)).trans (h.ex.mod.block x h1 h2)⟩, h.ex.new⟩⟩
  obtain ⟨h1, h2, h3, h4⟩ := h.bx q hq
  exact ⟨(hx.block q.1 (heap_lt h1)).trans h1, h2, h3, h4⟩
theorem Zk.alloc (h : Zk w0 G0 W tn X R a r bs) (o : Obj) : Zk w0 G0 (W.alloc o) tn X R a r ((W.heap.size, o) :: bs) := by
  have hx := (Below.refl W.heap.size W).alloc (Nat.le_refl _) o
  obtain ⟨FX, FR, h⟩ := h
  refine ⟨FX, FR, h.hX.below hx, h.hR.below hx, h.d, fun q hq => ?_, ⟨⟨hx.os.trans h.ex.mod.os, hx.tape.trans h.ex.mod.tape, hx.output.trans h.ex.mod.output, Nat.le_trans h.ex.mod.size hx.size, fun x h1 h2 => (hx.block x (Nat.lt_of_lt_of_le h1 h.ex.mod.size)).trans (h.ex.mod.block x h1 h2)⟩, h.ex.new⟩⟩
  rcases List.mem_cons.1 hq with rfl | hq
  · exact ⟨heap_alloc_new W o, h.ex.mod.size, fun hf => by have := h.hX.lt _ hf; simp at this, fun hf => by have := h.hR.lt _ hf; simp at this⟩
  · obtain ⟨h1, h2, h3, h4⟩ := h.bx q hq
    exact ⟨(hx.block q.1 (heap_lt h1)).trans h1, h2, h3, h4⟩
theorem Zk.mem (h : Zk w0 G0 W tn X R a r bs) {x : Nat} {o : Obj} (hm : (x, o) ∈ bs) : W.heap[x]? = some o := by
  obtain ⟨FX, FR, h⟩ := h; exact (h.bx _ hm).1
end
/-- a knot: one tie twice, of the same pairs -/
def Kt (w : World) (G : Nat → Prop) (tn : Bool) (X R : Nat) (L : List (Int × Int)) : Prop := Tight L ∧ ∃ FX FR, PT w FX tn X L ∧ Rb w FR R L ∧ (∀ x, FX x → ¬ FR x) ∧ ∀ x, G x ↔ FX x ∨ FR x
theorem Kt.zk {w : World} {G : Nat → Prop} {tn : Bool} {X R : Nat} {L : List (Int × Int)} (h : Kt w G tn X R L) : Zk w G w tn X R L L [] := by
  obtain ⟨_, FX, FR, h1, h2, h3, h4⟩ := h
  exact ⟨FX, FR, h1, h2, h3, by simp, Mod.refl _ _, fun x hx => .inl ((h4 x).2 hx)⟩
theorem Zk.kt {w0 W : World} {G0 : Nat → Prop} {tn : Bool} {X R : Nat} {L : List (Int × Int)} {bs : List (Nat × Obj)} (h : Zk w0 G0 W tn X R L L bs) (ht : Tight L) : ∃ G, Kt W G tn X R L ∧ Ext G0 w0 G W := by
  obtain ⟨FX, FR, h⟩ := h
  exact ⟨_, ⟨ht, FX, FR, h.hX, h.hR, h.d, fun x => Iff.rfl⟩, h.ex⟩
section
variable {w0 W : World} {G0 : Nat → Prop} {X R : Nat} {a r L : List (Int × Int)} {bs : List (Nat × Obj)} {tn : Bool}
theorem Zk.tieP (h : Zk w0 G0 W false X R a r bs) (x y : Int) : Calls Try.prog 7 #[.pointer (some ⟨X, 0, none⟩), .int .i64 x, (cl y).val] W fun e W' => e = .returned (.bool (tieR a x y)) ∧ Zk w0 G0 W' false X R (tieL a x y) r bs := by
  obtain ⟨FX, FR, h⟩ := h
  refine (tieP_L (show TP W FX X a from h.hX) x y).mono ?_
  rintro e W' ⟨rfl, hT, hx⟩
  exact ⟨rfl, FX, FR, h.stepX hT hx⟩
theorem Zk.tieQ (h : Zk w0 G0 W true X R a r bs) (x y : Int) : Calls Try.prog 26 #[.pointer (some ⟨X, 0, none⟩), (cl x).val, .int .i64 y] W fun e W' => e = .returned (.bool (tieR a x y)) ∧ Zk w0 G0 W' true X R (tieL a x y) r bs := by
  obtain ⟨FX, FR, h⟩ := h
  refine (tieQ_L (show TQ W FX X a from h.hX) x y).mono ?_
  rintro e W' ⟨rfl, hT, hx⟩
  exact ⟨rfl, FX, FR, h.stepX hT hx⟩
theorem Zk.cutP (h : Zk w0 G0 W false X R a r bs) (ht : Tight a) (x : Int) : Calls Try.prog 9 #[.pointer (some ⟨X, 0, none⟩), .int .i64 x] W fun e W' => e = .returned (.bool (atI a x).isSome) ∧ Zk w0 G0 W' false X R (cutL a x) r bs := by
  obtain ⟨FX, FR, h⟩ := h
  refine (cutP_L (show TP W FX X a from h.hX) ht x).mono ?_
  rintro e W' ⟨rfl, hT, hx⟩
  exact ⟨rfl, FX, FR, h.stepX hT hx⟩
theorem Zk.cutQ (h : Zk w0 G0 W true X R a r bs) (ht : Tight a) (x : Int) : Calls Try.prog 28 #[.pointer (some ⟨X, 0, none⟩), (cl x).val] W fun e W' => e = .returned (.bool (atI a x).isSome) ∧ Zk w0 G0 W' true X R (cutL a x) r bs := by
  obtain ⟨FX, FR, h⟩ := h
  refine (cutQ_L (show TQ W FX X a from h.hX) ht x).mono ?_
  rintro e W' ⟨rfl, hT, hx⟩
  exact ⟨rfl, FX, FR, h.stepX hT hx⟩
theorem Zk.tieRb (h : Zk w0 G0 W tn X R a r bs) (ht : Tight r) (hL : r.length < 4398046511104) (x y : Int) : Calls Try.prog 25 #[.pointer (some ⟨R, 0, none⟩), .int .i64 x, .int .i64 y] W fun e W' => e = .returned (.bool (tieR r x y)) ∧ Zk w0 G0 W' tn X R a (tieL r x y) bs := by
  obtain ⟨FX, FR, h⟩ := h
  refine (tieRb_any W FR R r h.hR ht hL x y).mono ?_
  rintro e W' ⟨F', rfl, hT, hx⟩
  exact ⟨rfl, FX, F', h.stepR hT hx⟩
theorem Zk.cutRb (h : Zk w0 G0 W tn X R a r bs) (ht : Tight r) (hL : r.length ≤ 4398046511104) (x : Int) : Calls Try.prog 27 #[.pointer (some ⟨R, 0, none⟩), .int .i64 x] W fun e W' => e = .returned (.bool (atI r x).isSome) ∧ Zk w0 G0 W' tn X R a (cutL r x) bs := by
  obtain ⟨FX, FR, h⟩ := h
  refine (cutRb_any W FR R r h.hR ht hL x).mono ?_
  rintro e W' ⟨F', rfl, hT, hx⟩
  exact ⟨rfl, FX, F', h.stepR hT hx⟩
theorem Zk.toRb (h : Zk w0 G0 W tn X R a r bs) (ht : Tight r) (hL : r.length ≤ 4398046511104) (x : Int) : Calls Try.prog 29 #[.pointer (some ⟨R, 0, none⟩), .int .i64 x] W fun e W' => e = .returned (.tuple #[.int .i64 ((atI r x).getD 0), .bool (atI r x).isSome]) ∧ W' = W := by
  obtain ⟨FX, FR, h⟩ := h; exact toRb_any W FR R r h.hR ht hL x
theorem Zk.backRb (h : Zk w0 G0 W tn X R a r bs) (ht : Tight r) (hL : r.length ≤ 4398046511104) (x : Int) : Calls Try.prog 32 #[.pointer (some ⟨R, 0, none⟩), .int .i64 x] W fun e W' => e = .returned (.tuple #[.int .i64 ((atI (sw r) x).getD 0), .bool (atI (sw r) x).isSome]) ∧ W' = W := by
  obtain ⟨FX, FR, h⟩ := h; exact backRb_any W FR R r h.hR ht hL x
theorem Zk.toP (h : Zk w0 G0 W false X R a r bs) (x : Int) : Calls Try.prog 14 #[.pointer (some ⟨X, 0, none⟩), .int .i64 x] W fun e W' => e = .returned (.tuple #[(((atI a x).map cl).getD Cl.zero).val, .bool (atI a x).isSome]) ∧ Below W.heap.size W W' := by
  obtain ⟨FX, FR, h⟩ := h; exact toP_L (show TP W FX X a from h.hX) x
theorem Zk.backP (h : Zk w0 G0 W false X R a r bs) (y : Int) : Calls Try.prog 33 #[.pointer (some ⟨X, 0, none⟩), (cl y).val] W fun e W' => e = .returned (.tuple #[.int .i64 ((atI (sw a) y).getD 0), .bool (atI (sw a) y).isSome]) ∧ Below W.heap.size W W' := by
  obtain ⟨FX, FR, h⟩ := h; exact backP_L (show TP W FX X a from h.hX) y
theorem Zk.toQ (h : Zk w0 G0 W true X R a r bs) (x : Int) : Calls Try.prog 15 #[.pointer (some ⟨X, 0, none⟩), (cl x).val] W fun e W' => e = .returned (.tuple #[.int .i64 ((atI a x).getD 0), .bool (atI a x).isSome]) ∧ Below W.heap.size W W' := by
  obtain ⟨FX, FR, h⟩ := h; exact toQ_L (show TQ W FX X a from h.hX) x
theorem Zk.backQ (h : Zk w0 G0 W true X R a r bs) (y : Int) : Calls Try.prog 16 #[.pointer (some ⟨X, 0, none⟩), .int .i64 y] W fun e W' => e = .returned (.tuple #[(((atI (sw a) y).map cl).getD Cl.zero).val, .bool (atI (sw a) y).isSome]) ∧ Below W.heap.size W W' := by
  obtain ⟨FX, FR, h⟩ := h; exact backQ_L (show TQ W FX X a from h.hX) y
theorem Zk.lenP (h : Zk w0 G0 W false X R a r bs) : Calls Try.prog 12 #[.pointer (some ⟨X, 0, none⟩)] W fun e W' => e = .returned (.int .i64 (a.length : Nat)) ∧ W' = W := by
  obtain ⟨FX, FR, h⟩ := h; exact lenP_L (show TP W FX X a from h.hX)
theorem Zk.lenQ (h : Zk w0 G0 W true X R a r bs) : Calls Try.prog 11 #[.pointer (some ⟨X, 0, none⟩)] W fun e W' => e = .returned (.int .i64 (a.length : Nat)) ∧ W' = W := by
  obtain ⟨FX, FR, h⟩ := h; exact lenQ_L (show TQ W FX X a from h.hX)
theorem Zk.lenR (h : Zk w0 G0 W tn X R a r bs) : ∃ ao cap, W.cell? ⟨R, 0, none⟩ = some (.slice ao r.length cap) := by
  obtain ⟨FX, FR, h⟩ := h
  obtain ⟨v, hv⟩ := h.hR
  obtain ⟨ao, cap, rfl⟩ := own_shape hv.row
  exact ⟨ao, cap, hv.cell.1⟩
end
theorem one_any (w : World) (o : Option Int) : Calls Try.prog 30 #[.int .i64 (o.getD 0), .bool o.isSome, .int .i64 (o.getD 0), .bool o.isSome] w fun e w' => e = .returned (.bool true) ∧ w' = w := by
  cases o with
  | none =>
    simp only [Option.getD_none, Option.isSome_none]
    go_enter Try.func30, Try.ntmps30
    go_wp2
    go_ret
    exact ⟨rfl, rfl⟩
  | some x =>
    simp only [Option.getD_some, Option.isSome_some]
    go_enter Try.func30, Try.ntmps30
    go_wp2
    go_ret
    exact ⟨rfl, rfl⟩
set_option maxHeartbeats 1600000 in
theorem two_any (w : World) (o : Option Int) : Calls Try.prog 31 #[((o.map cl).getD Cl.zero).val, .bool o.isSome, .int .i64 (o.getD 0), .bool o.isSome] w fun e w' => e = .returned (.bool true) ∧ Below w.heap.size w w' := by
  have h26 := eq26'
  obtain ⟨c, hc⟩ : ∃ c, (o.map cl).getD Cl.zero = c := ⟨_, rfl⟩
  have b0 := heap_alloc_new w (.cells #[.string c.s, .int .i64 c.a, .int .i64 c.b] 28)
  have hB := (Below.refl w.heap.size w).alloc (Nat.le_refl _) (.cells #[.string c.s, .int .i64 c.a, .int .i64 c.b] 28)
  have HB := hide hB
  obtain ⟨c0, c1, c2, _, _, _⟩ := blk3 b0
  rw [hc]
  simp only [Cl.val]
  cases o with
  | none =>
    simp only [Option.map_none, Option.getD_none, Cl.zero] at hc
    subst hc
    simp only [Option.getD_none, Option.isSome_none]
    clear b0 hB
    go_enter Try.func31, Try.ntmps31
    go_wp2
    generalize w.alloc (.cells #[.string ByteArray.empty, .int .i64 0, .int .i64 0] 28) = w1 at *
    go_region
    all_goals
      go_wp2
      go_ret
      exact ⟨rfl, HB.out.drew⟩
  | some x =>
    simp only [Option.map_some, Option.getD_some] at hc
    have HCl : Hid (∀ W, Calls Try.prog 8 #[.int .i64 x] W fun e w' => e = .returned (.agg #[.string c.s, .int .i64 c.a, .int .i64 c.b]) ∧ Below W.heap.size W w') := hide (fun W => by rw [← hc]; exact cell_agg W x)
    clear hc
    simp only [Option.getD_some, Option.isSome_some]
    have HK : Hid (∀ W, Below (w.alloc (.cells #[.string c.s, .int .i64 c.a, .int .i64 c.b] 28)).heap.size (w.alloc (.cells #[.string c.s, .int .i64 c.a, .int .i64 c.b] 28)) W → W.cell? ⟨w.heap.size, 0, none⟩ = some (.string c.s) ∧ W.cell? ⟨w.heap.size, 1, none⟩ = some (.int .i64 c.a) ∧ W.cell? ⟨w.heap.size, 2, none⟩ = some (.int .i64 c.b)) := hide (fun W hW => by
      obtain ⟨c0, c1, c2, _, _, _⟩ := blk3 ((hW.block _ (by simp)).trans b0)
      exact ⟨c0, c1, c2⟩)
    clear b0 hB
    go_enter Try.func31, Try.ntmps31
    go_wp2
    generalize w.alloc (.cells #[.string c.s, .int .i64 c.a, .int .i64 c.b] 28) = w1 at *
    have HBd : Hid (Below w1.heap.size w1 w1.drew) := hide (Below.refl _ _).drew
    obtain ⟨wD, hwD⟩ : ∃ wD, wD = w1.drew := ⟨_, rfl⟩
    have HBD : Hid (Below w1.heap.size w1 wD) := by rw [hwD]; exact HBd
    have HS0 := hide (HK.out _ HBD.out)
    refine wp_region_held_drew (S := fun W => W.cell? ⟨w.heap.size, 0, none⟩ = some (.string c.s) ∧ W.cell? ⟨w.heap.size, 1, none⟩ = some (.int .i64 c.a) ∧ W.cell? ⟨w.heap.size, 2, none⟩ = some (.int .i64 c.b)) (by kernel_rfl) (by rw [← hwD]; exact HS0.out) (fun _ => ?_)
    rw [← hwD]
    clear hwD HBd c0 c1 c2
    refine hd_take 0 (o := ⟨some 9, _, _, _, _, _⟩) (.bool true) (by kernel_rfl) (by kernel_rfl) (by kernel_rfl) rfl (by rfl) (fun W hSw => by go_simp) (fun _ _ _ h => h) HS0.out ?_
    try simp only [Act.put, List.setIfInBounds_toArray, List.set_cons_zero, List.set_cons_succ]
    refine hd_take 1 (o := ⟨some 10, _, _, _, _, _⟩) (.bool true) (by kernel_rfl) (by kernel_rfl) (by kernel_rfl) rfl (by rfl) (fun W hSw => by go_simp) (fun _ _ _ h => h) HS0.out ?_
    try simp only [Act.put, List.setIfInBounds_toArray, List.set_cons_zero, List.set_cons_succ]
    refine hd_take 2 (o := ⟨some 11, _, _, _, _, _⟩) (.bool true) (by kernel_rfl) (by kernel_rfl) (by kernel_rfl) rfl (by rfl) (fun W hSw => by go_simp) (fun _ _ _ h => h) HS0.out ?_
    try simp only [Act.put, List.setIfInBounds_toArray, List.set_cons_zero, List.set_cons_succ]
    refine hd_take 3 (o := ⟨some 12, _, _, _, _, _⟩) (.bool true) (by kernel_rfl) (by kernel_rfl) (by kernel_rfl) rfl (by rfl) (fun W hSw => by go_simp) (fun _ _ _ h => h) HS0.out ?_
    try simp only [Act.put, List.setIfInBounds_toArray, List.set_cons_zero, List.set_cons_succ]
    refine hd_take 4 (o := ⟨some 13, _, _, _, _, _⟩) (.bool true) (by kernel_rfl) (by kernel_rfl) (by kernel_rfl) rfl (by rfl) (fun W hSw => by go_simp) (fun _ _ _ h => h) HS0.out ?_
    try simp only [Act.put, List.setIfInBounds_toArray, List.set_cons_zero, List.set_cons_succ]
    refine hd_take 5 (o := ⟨some 14, _, _, _, _, _⟩) (.bool true) (by kernel_rfl) (by kernel_rfl) (by kernel_rfl) rfl (by rfl) (fun W hSw => by go_simp) (fun _ _ _ h => h) HS0.out ?_
    try simp only [Act.put, List.setIfInBounds_toArray, List.set_cons_zero, List.set_cons_succ]
    refine hd_take 6 (o := ⟨some 15, _, _, _, _, _⟩) (.agg #[.string c.s, .int .i64 c.a, .int .i64 c.b]) (by kernel_rfl) (by kernel_rfl) (by kernel_rfl) rfl (by rfl) (fun W hSw => by obtain ⟨s1, s2, s3⟩ := hSw; go_simp) (fun _ _ _ h => h) HS0.out ?_
    try simp only [Act.put, List.setIfInBounds_toArray, List.set_cons_zero, List.set_cons_succ]
    refine hd_take 7 (o := ⟨some 16, _, _, _, _, _⟩) (.int .i64 x) (by kernel_rfl) (by kernel_rfl) (by kernel_rfl) rfl (by rfl) (fun W hSw => by go_simp) (fun _ _ _ h => h) HS0.out ?_
    try simp only [Act.put, List.setIfInBounds_toArray, List.set_cons_zero, List.set_cons_succ]
    refine hd_call 8 (o := ⟨some 17, _, _, _, _, _⟩) (by kernel_rfl) rfl (by rfl) (fun K hK => ?_)
    go_simp
    go_wp2_with (go_at_call 8; refine (HCl.out _).mono ?_; rintro e1 w3 ⟨rfl, hb⟩)
    have Q3 := hide (HBD.out.trans (hb.mono HBD.out.size))
    have HS3 := hide (HK.out _ Q3.out)
    clear hb
    refine hK _ _ HS3.out ?_
    clear hK K
    try simp only [Act.put, List.setIfInBounds_toArray, List.set_cons_zero, List.set_cons_succ]
    refine hd_take 9 (o := ⟨some 18, _, _, _, _, _⟩) (.bool true) (by kernel_rfl) (by kernel_rfl) (by kernel_rfl) rfl (by rfl) (fun W hSw => by go_simp) (fun _ _ _ h => h) HS3.out ?_
    try simp only [Act.put, List.setIfInBounds_toArray, List.set_cons_zero, List.set_cons_succ]
    refine hd_take 10 (o := ⟨some 19, _, _, _, _, _⟩) (.bool true) (by kernel_rfl) (by kernel_rfl) (by kernel_rfl) rfl (by rfl) (fun W hSw => by go_simp) (fun _ _ _ h => h) HS3.out ?_
    try simp only [Act.put, List.setIfInBounds_toArray, List.set_cons_zero, List.set_cons_succ]
    refine hd_take 11 (o := ⟨some 20, _, _, _, _, _⟩) (.bool true) (by kernel_rfl) (by kernel_rfl) (by kernel_rfl) rfl (by rfl) (fun W hSw => by go_simp) (fun _ _ _ h => h) HS3.out ?_
    try simp only [Act.put, List.setIfInBounds_toArray, List.set_cons_zero, List.set_cons_succ]
    refine hd_skip 12 (o := ⟨some 21, _, _, _, _, _⟩) (by kernel_rfl) (by kernel_rfl) (by kernel_rfl) rfl (by rfl) (fun _ _ _ h => h) HS3.out ?_
    try simp only [Act.put, List.setIfInBounds_toArray, List.set_cons_zero, List.set_cons_succ]
    refine hd_skip 13 (o := ⟨some 22, _, _, _, _, _⟩) (by kernel_rfl) (by kernel_rfl) (by kernel_rfl) rfl (by rfl) (fun _ _ _ h => h) HS3.out ?_
    try simp only [Act.put, List.setIfInBounds_toArray, List.set_cons_zero, List.set_cons_succ]
    refine hd_skip 14 (o := ⟨some 23, _, _, _, _, _⟩) (by kernel_rfl) (by kernel_rfl) (by kernel_rfl) rfl (by rfl) (fun _ _ _ h => h) HS3.out ?_
    try simp only [Act.put, List.setIfInBounds_toArray, List.set_cons_zero, List.set_cons_succ]
    refine hd_skip 15 (o := ⟨some 24, _, _, _, _, _⟩) (by kernel_rfl) (by kernel_rfl) (by kernel_rfl) rfl (by rfl) (fun _ _ _ h => h) HS3.out ?_
    try simp only [Act.put, List.setIfInBounds_toArray, List.set_cons_zero, List.set_cons_succ]
    refine hd_skip 16 (o := ⟨some 25, _, _, _, _, _⟩) (by kernel_rfl) (by kernel_rfl) (by kernel_rfl) rfl (by rfl) (fun _ _ _ h => h) HS3.out ?_
    try simp only [Act.put, List.setIfInBounds_toArray, List.set_cons_zero, List.set_cons_succ]
    refine hd_skip 17 (o := ⟨some 26, _, _, _, _, _⟩) (by kernel_rfl) (by kernel_rfl) (by kernel_rfl) rfl (by rfl) (fun _ _ _ h => h) HS3.out ?_
    try simp only [Act.put, List.setIfInBounds_toArray, List.set_cons_zero, List.set_cons_succ]
    refine hd_skip 18 (o := ⟨some 27, _, _, _, _, _⟩) (by kernel_rfl) (by kernel_rfl) (by kernel_rfl) rfl (by rfl) (fun _ _ _ h => h) HS3.out ?_
    try simp only [Act.put, List.setIfInBounds_toArray, List.set_cons_zero, List.set_cons_succ]
    refine hd_take 19 (o := ⟨some 28, _, _, _, _, _⟩) (.bool true) (by kernel_rfl) (by kernel_rfl) (by kernel_rfl) rfl (by rfl) (fun W hSw => by go_simp) (fun _ _ _ h => h) HS3.out ?_
    try simp only [Act.put, List.setIfInBounds_toArray, List.set_cons_zero, List.set_cons_succ]
    refine hd_take 20 (o := ⟨some 29, _, _, _, _, _⟩) (.bool true) (by kernel_rfl) (by kernel_rfl) (by kernel_rfl) rfl (by rfl) (fun W hSw => by go_simp) (fun _ _ _ h => h) HS3.out ?_
    try simp only [Act.put, List.setIfInBounds_toArray, List.set_cons_zero, List.set_cons_succ]
    refine hd_take 21 (o := ⟨some 8, _, _, _, _, _⟩) (.bool true) (by kernel_rfl) (by kernel_rfl) (by kernel_rfl) rfl (by rfl) (fun W hSw => by go_simp) (fun _ _ _ h => h) HS3.out ?_
    try simp only [Act.put, List.setIfInBounds_toArray, List.set_cons_zero, List.set_cons_succ]
    refine wpAnyH_done (by kernel_rfl) ?_ _
    go_wp2
    go_ret
    exact ⟨rfl, HB.out.trans (Q3.out.mono HB.out.size)⟩
end Go.Proofs.Ytdeilmllgbajbaa
