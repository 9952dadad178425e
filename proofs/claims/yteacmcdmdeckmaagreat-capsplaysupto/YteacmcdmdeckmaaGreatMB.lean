import Derived.Test.YteacmcdmdeckmaaGreatX9
import Derived.Shelf.GgSortFunc.InsertionK
import Derived.Shelf.SlSortCmp.NoneTotal
import Derived.Shelf.SlGeneric
import Derived.Ground.SlsfProg
import Derived.Test.YteacmcdmdeckmaaGreatMA
namespace Go.Proofs.YteacmcdmdeckmaaGreat
open Go.RowKit

theorem cell_list_new (w : World) (t : TypeId) (l : List Value) : ∀ j v, l[j]? = some v → (w.alloc (.cells l.toArray t)).cell? ((⟨w.heap.size, 0, none⟩ : Addr).add j) = some v := by
  intro j v hj
  rw [add0, cell_of_row _ _ _ _ _ _ (heap_alloc_new w _)]
  simpa using hj
theorem infoRow : ∃ i, Tryz.prog.info? 60 = some i ∧ i.zero = some (.agg #[.int .i64 0, .int .i64 0, .int .i64 0, .int .i64 0, .int .i64 0, .int .i64 0, .int .i64 0, .int .i64 0]) ∧ i.size = 8 ∧ i.bytes = 64 := info_parts (by kernel_rfl)
theorem own_base0 {w : World} {base e size n : Nat} {v : Value} {xs : List Value} (h : w.ownsRow base e size v n xs) : w.ownsRow 0 e size v n xs := by
  obtain ⟨h1, h2 | ⟨g, cap, cur, h2, h3, h4⟩⟩ := h
  · exact ⟨h1, .inl h2⟩
  · exact ⟨h1, .inr ⟨g, cap, cur, h2, Nat.zero_le _, h4⟩⟩
theorem plt_tri (p q : Nat × Nat) (hne : p ≠ q) (h : ¬ PLt p q) : PLt q p := by
  unfold PLt at *
  obtain ⟨a, b⟩ := p
  obtain ⟨c, d⟩ := q
  simp at *
  rcases Nat.lt_trichotomy a c with h1 | h1 | h1
  · omega
  · subst h1
    rcases Nat.lt_trichotomy b d with h2 | h2 | h2
    · omega
    · exact absurd h2 (hne rfl)
    · exact .inr ⟨rfl, h2⟩
  · exact .inl h1
theorem plt_trans {p q r : Nat × Nat} (h : PLt p q) (k : PLt q r) : PLt p r := by unfold PLt at *; omega
theorem own_grown {w wr w2 : World} {e size n : Nat} {v : Value} {xs : List Value} {o : Obj} (hb : Below w.heap.size w wr) (ho : wr.ownsRow w.heap.size e size v n xs) (hg : (wr.alloc o).grownBy w2 v.ownBlock) : Below w.heap.size w w2 := by
  have hb1 : Below w.heap.size w (wr.alloc o) := hb.alloc hb.size o
  exact hb1.grown hg hb1.size (fun b hb' => (World.ownsRow.lt ho b hb').1)
theorem grew_keep {w wr w2 : World} {base e size n : Nat} {v : Value} {xs : List Value} {o : Obj} (hb : Below w.heap.size w wr) (ho : wr.ownsRow base e size v n xs) (hbase : w.heap.size ≤ base) (hg : (wr.alloc o).grownBy w2 v.ownBlock) : Below w.heap.size w w2 ∧ ∀ b, b < base → b < wr.heap.size → w2.heap[b]? = wr.heap[b]? := by
  have hb1 : Below w.heap.size w (wr.alloc o) := hb.alloc hb.size o
  refine ⟨hb1.grown hg hb1.size (fun b hb' => Nat.le_trans hbase (World.ownsRow.lt ho b hb').1), fun b h1 h2 => ?_⟩
  rw [hg.block b (by simp; omega) (fun e => by have := (World.ownsRow.lt ho b e.symm).1; omega), Below.heap_alloc _ _ _ h2]
theorem RbAt.row8 {w : World} {R : Nat} {bk : List (Option Lst)} {K : List Rw} {g L c i : Nat} {x : Rw} (h : RbAt w R (.slice (some ⟨g, 0, none⟩) L c) bk K) (hx : K[i]? = some x) : Row8 w g i x := by
  obtain ⟨g', c', hv, hr⟩ := h.at hx
  cases hv; exact hr
/-- how far the insertion has come -/
structure LayAt (x : Rw) (K : List Rw) (k : Nat) (acc : List Rw) (dn : Bool) : Prop where
  no : dn = false → acc = K.take k ∧ ∀ y ∈ K.take k, PLt y.1 x.1
  yes : dn = true → ∃ m, m ≤ k ∧ acc = K.take m ++ x :: (K.drop m).take (k - m) ∧ (∀ y ∈ K.take m, PLt y.1 x.1) ∧ ∀ y ∈ K.drop m, PLt x.1 y.1
theorem LayAt.start (x : Rw) (K : List Rw) : LayAt x K 0 [] false := ⟨fun _ => ⟨by simp, fun y hy => by simp at hy⟩, fun h => by cases h⟩
theorem take_get {α : Type} {K : List α} {k : Nat} {y : α} (h : K[k]? = some y) : K.take (k + 1) = K.take k ++ [y] := by
  obtain ⟨h1, h2⟩ := List.getElem?_eq_some_iff.1 h
  rw [List.take_succ_eq_append_getElem h1, h2]
theorem LayAt.put {x y : Rw} {K : List Rw} {k : Nat} {acc : List Rw} (h : LayAt x K k acc false) (hK : K.Pairwise (fun a b => PLt a.1 b.1)) (hy : K[k]? = some y) (hp : PLt x.1 y.1) : LayAt x K (k + 1) (acc ++ [x] ++ [y]) true := by
  refine ⟨(fun h => by cases h), fun _ => ⟨k, by omega, ?_, (h.no rfl).2, ?_⟩⟩
  · rw [(h.no rfl).1]
    obtain ⟨h1, h2⟩ := List.getElem?_eq_some_iff.1 hy
    rw [show k + 1 - k = 1 by omega, List.drop_eq_getElem_cons h1, h2]; simp
  · intro z hz
    obtain ⟨h1, h2⟩ := List.getElem?_eq_some_iff.1 hy
    rw [List.drop_eq_getElem_cons h1, h2] at hz
    rcases List.mem_cons.1 hz with rfl | hz
    · exact hp
    · refine plt_trans hp ?_
      have := hK
      rw [← List.take_append_drop k K, List.drop_eq_getElem_cons h1, h2] at this
      exact (List.pairwise_cons.1 (List.pairwise_append.1 this).2.1).1 z hz
theorem LayAt.go {x y : Rw} {K : List Rw} {k : Nat} {acc : List Rw} (h : LayAt x K k acc false) (hy : K[k]? = some y) (hp : PLt y.1 x.1) : LayAt x K (k + 1) (acc ++ [y]) false := by
  refine ⟨fun _ => ⟨by rw [(h.no rfl).1, take_get hy], fun z hz => ?_⟩, fun h => by cases h⟩
  rw [take_get hy] at hz
  rcases List.mem_append.1 hz with hz | hz
  · exact (h.no rfl).2 z hz
  · rw [List.mem_singleton.1 hz]; exact hp
theorem LayAt.on {x y : Rw} {K : List Rw} {k : Nat} {acc : List Rw} (h : LayAt x K k acc true) (hy : K[k]? = some y) : LayAt x K (k + 1) (acc ++ [y]) true := by
  refine ⟨(fun h => by cases h), fun _ => ?_⟩
  obtain ⟨m, h1, h2, h3, h4⟩ := h.yes rfl
  refine ⟨m, by omega, ?_, h3, h4⟩
  have hd : (K.drop m)[k - m]? = some y := by rw [List.getElem?_drop, show m + (k - m) = k by omega]; exact hy
  rw [h2, show k + 1 - m = (k - m) + 1 by omega, take_get hd]; simp
/-- the rows behind it -/
theorem LayAt.fin {x : Rw} {K : List Rw} {acc : List Rw} {dn : Bool} (h : LayAt x K K.length acc dn) {bk bk' : List (Option Lst)} (ha : Ag bk K) (hf : atB bk (x.1.1 : Int) (x.1.2 : Int) = none)
    (hv : ∀ a b : Nat, atB bk' (a : Int) (b : Int) = if a = x.1.1 ∧ b = x.1.2 then some x.2 else atB bk (a : Int) (b : Int)) : Ag bk' (if dn then acc else acc ++ [x]) := by
  obtain ⟨m, h2, h3, h4⟩ : ∃ m, (if dn then acc else acc ++ [x]) = K.take m ++ x :: K.drop m ∧ (∀ y ∈ K.take m, PLt y.1 x.1) ∧ ∀ y ∈ K.drop m, PLt x.1 y.1 := by
    cases dn with
    | false =>
      obtain ⟨q1, q2⟩ := h.no rfl
      exact ⟨K.length, by rw [q1]; simp, by rw [List.take_length] at q2 ⊢; exact q2, by simp⟩
    | true =>
      obtain ⟨m, q1, q2, q3, q4⟩ := h.yes rfl
      refine ⟨m, ?_, q3, q4⟩
      rw [if_pos rfl, q2, List.take_of_length_le (l := K.drop m) (by simp)]
  rw [h2]
  refine ⟨?_, fun a b r => ?_⟩
  · rw [List.pairwise_append]
    have hs := ha.srt
    rw [← List.take_append_drop m K] at hs
    obtain ⟨s1, s2, s3⟩ := List.pairwise_append.1 hs
    refine ⟨s1, List.pairwise_cons.2 ⟨h4, s2⟩, fun y hy z hz => ?_⟩
    rcases List.mem_cons.1 hz with rfl | hz
    · exact h3 y hy
    · exact s3 y hy z hz
  · have hm : ((a, b), r) ∈ K.take m ++ x :: K.drop m ↔ ((a, b), r) = x ∨ ((a, b), r) ∈ K := by
      rw [List.mem_append, List.mem_cons]
      conv => rhs; rw [← List.take_append_drop m K, List.mem_append]
      constructor
      · rintro (h | h | h)
        · exact .inr (.inl h)
        · exact .inl h
        · exact .inr (.inr h)
      · rintro (h | h | h)
        · exact .inr (.inl h)
        · exact .inl h
        · exact .inr (.inr h)
    rw [hm, hv, ha.mem]
    obtain ⟨⟨xa, xb⟩, xr⟩ := x
    simp only at hf ⊢
    constructor
    · rintro (h | h)
      · cases h; rw [if_pos ⟨rfl, rfl⟩]
      · rw [if_neg (fun e => by rw [e.1, e.2, hf] at h; cases h)]; exact h
    · intro h
      split at h
      · rename_i e; cases h; exact .inl (by rw [e.1, e.2])
      · exact .inr h
section
variable {w : World} {R : Nat} {bk bk' : List (Option Lst)} {F : Nat → Prop} {v : Value} {K : List Rw}
/-- the list of rows is another one -/
theorem RbAt.setRows {wr : World} {v' : Value} {K' : List Rw} (h : RbAt wr R v bk K) (hf : flg bk' = flg bk) (hr : wr.ownsRow w.heap.size 60 8 v' K'.length (encW K')) (hR : R < w.heap.size) : RbAt (wr.setCell ⟨R, 16, none⟩ v') R v' bk' K' := by
  refine ⟨?_, own_base0 (ownsRow_keep hr (fun b hb => heap_setCell_other _ _ _ _ (fun e => ?_))), fun e => ?_⟩
  · rw [heap_setCell_same _ _ _ _ _ _ h.top, hf]
    congr 2
  · have := (World.ownsRow.lt hr b hb).1
    have e2 : b = R := e
    omega
  · have := (World.ownsRow.lt hr R e).1; omega
set_option maxRecDepth 100000 in
set_option maxHeartbeats 6400000 in
theorem layD_any (h : RbA R bk w F) (hw : Wb bk) (xa xb : Nat) (xr : Rc) (hf : atB bk (xa : Int) (xb : Int) = none) (hfl : flg bk' = flg bk)
    (hv : ∀ a b : Nat, atB bk' (a : Int) (b : Int) = if a = xa ∧ b = xb then some xr else atB bk (a : Int) (b : Int)) :
    Calls Tryz.prog 80 #[tp R, .agg #[.int .i64 (xa : Int), .int .i64 (xb : Int), .int .i64 xr.k, .int .i64 xr.o, .int .i64 xr.s, .int .i64 xr.r, .int .i64 xr.e, .int .i64 xr.t]] w fun x w' => x = .returned (.tuple #[]) ∧ ∃ F', RbA R bk' w' F' ∧ Ext F w F' w' := by
  obtain ⟨v, K, h, ha, he⟩ := h
  obtain ⟨i8, hi, hz, hs, hb⟩ := infoRow
  have hR := h.lt
  have HR := hide h
  have HA := hide ha
  have HE := hide he
  have Hlt := hide hR
  have HF := hide hf
  have HV := hide hv
  have HFL := hide hfl
  obtain ⟨a, c, hvv⟩ := h.shape
  have hlen := ha.len hw.p8
  obtain ⟨L, hL⟩ : ∃ L, K.length = L := ⟨_, rfl⟩
  rw [hL] at hvv hlen
  have HL := hide hL
  subst hvv
  clear h ha he hR hf hv hfl hL hw
  go_enter Tryz.func80, Tryz.ntmps80
  go_wp2
  go_loopw [4, 5, 6] (fun rv dv x wr => ∃ k : Nat, k ≤ L ∧ x = .int .i64 (k : Int) ∧ ∃ (dn : Bool) (n : Nat) (a2 : Option Addr) (c2 : Nat), dv = .bool dn ∧ rv = .slice a2 n c2 ∧ n ≤ 2 * k ∧ Hid (∃ acc, acc.length = n ∧ LayAt ((xa, xb), xr) K k acc dn ∧ Below w.heap.size w wr ∧ wr.heap[w.heap.size]? = some (.cells #[.int .i64 (xa : Int), .int .i64 (xb : Int), .int .i64 xr.k, .int .i64 xr.o, .int .i64 xr.s, .int .i64 xr.r, .int .i64 xr.e, .int .i64 xr.t] 60 (0, 0)) ∧ wr.ownsRow (w.heap.size + 1) 60 8 (.slice a2 n c2) n (encW acc))) (fun _ _ x _ => L - (intOf x).toNat)
  case atStart => exact ⟨0, by omega, rfl, false, 0, none, 0, rfl, rfl, by omega, [], rfl, LayAt.start _ _, (Below.refl _ _).alloc (Nat.le_refl _) _, heap_alloc_last _ _, World.ownsRow_nil _ _ _ _⟩
  case round =>
  obtain ⟨k, hk, rfl, dn, n, a2, c2, rfl, rfl, hn, KK⟩ := hrel
  obtain ⟨acc, hacc, hlay, hbel, hbox, hown⟩ := KK.out
  by_cases hlt : k < L
  · have hd : decide ((k : Int) < (L : Int)) = true := by simp; omega
    have hki : (k : Int) < (L : Int) := by omega
    obtain ⟨⟨⟨ya, yb⟩, yr⟩, hy⟩ : ∃ y, K[k]? = some y := ⟨_, List.getElem?_eq_getElem (by rw [HL.out]; exact hlt)⟩
    have hRr := HR.out.below hbel
    obtain ⟨g, c', hv, hrow⟩ := hRr.at hy
    rw [HL.out] at hv
    cases hv
    have HY := hide hy
    have hyne : ((xa, xb) : Nat × Nat) ≠ (ya, yb) := fun e => by
      have := HA.out.get hy
      simp only at this
      rw [← (Prod.mk.inj e).1, ← (Prod.mk.inj e).2, HF.out] at this; cases this
    have HAcc := hide hacc
    have HLy := hide hlay
    have HInv : Hid ((fun W => Below w.heap.size w W ∧ W.heap[w.heap.size]? = some (.cells #[.int .i64 (xa : Int), .int .i64 (xb : Int), .int .i64 xr.k, .int .i64 xr.o, .int .i64 xr.s, .int .i64 xr.r, .int .i64 xr.e, .int .i64 xr.t] 60 (0, 0)) ∧ W.ownsRow (w.heap.size + 1) 60 8 (.slice a2 n c2) n (encW acc)) wr) := hide ⟨hbel, hbox, hown⟩
    have c16 := hRr.rowc
    clear hRr hy hacc hlay hbel hbox hown KK
    cases dn with
    | true =>
      have HLy2 := hide (HLy.out.on HY.out)
      have HQ : Hid (∀ q, (fun W => Below w.heap.size w W ∧ W.heap[w.heap.size]? = some (.cells #[.int .i64 (xa : Int), .int .i64 (xb : Int), .int .i64 xr.k, .int .i64 xr.o, .int .i64 xr.s, .int .i64 xr.r, .int .i64 xr.e, .int .i64 xr.t] 60 (0, 0)) ∧ W.ownsRow (w.heap.size + 1) 60 8 (.slice a2 n c2) n (encW acc)) (wr.drewN q)) := hide (fun q => ⟨below_dn HInv.out.1, HInv.out.2.1, HInv.out.2.2⟩)
      clear HInv hyne hrow
      go_wp2
      go_quiet (fail)
      have hI := HQ.out nq
      clear HQ c16
      generalize wr.drewN nq = W0 at *
      obtain ⟨hbel, hbox, hown⟩ := hI
      have hRr := HR.out.below hbel
      have c16 := hRr.rowc
      have HSz : Hid (w.heap.size + 1 ≤ W0.heap.size) := hide (by have := (Array.getElem?_eq_some_iff.1 hbox).1; omega)
      obtain ⟨r0, r1, r2, r3, r4, r5, r6, r7⟩ := hRr.row8 HY.out
      simp only at r0 r1 r2 r3 r4 r5 r6 r7
      have HOtb := hide hown
      have HJt := hide (And.intro hbel hbox)
      clear hbel hbox hown hRr
      go_upto_region 5 with (at_builtin; refine wpList_append_own _ rfl _ _ 41 rfl (w.heap.size + 1) 60 i8 (.agg #[.int .i64 0, .int .i64 0, .int .i64 0, .int .i64 0, .int .i64 0, .int .i64 0, .int .i64 0, .int .i64 0]) 8 64 Tryz.underlying41 hi hz hs hb rfl (by decide) _ n (encW acc) rfl (HOtb.out.alloc _) ⟨W0.heap.size, 0, none⟩ 1 1 [.int .i64 (ya : Int), .int .i64 (yb : Int), .int .i64 yr.k, .int .i64 yr.o, .int .i64 yr.s, .int .i64 yr.r, .int .i64 yr.e, .int .i64 yr.t] rfl rfl ?ptb1 ?ptb2 ?ptb3 ?ptb4 ?ptb5 ?_)
      case ptb1 => exact cell_list_new _ _ [.int .i64 (ya : Int), .int .i64 (yb : Int), .int .i64 yr.k, .int .i64 yr.o, .int .i64 yr.s, .int .i64 yr.r, .int .i64 yr.e, .int .i64 yr.t]
      case ptb2 => simp [Value.oneCell']
      case ptb3 => unfold maxLen; omega
      case ptb4 => omega
      case ptb5 => have := HSz.out; simp; omega
      intro v4 w4 hown4 hg4 _
      obtain ⟨hbel, hk4⟩ := grew_keep HJt.out.1 HOtb.out (by omega) hg4
      have hbox : w4.heap[w.heap.size]? = some (.cells #[.int .i64 (xa : Int), .int .i64 (xb : Int), .int .i64 xr.k, .int .i64 xr.o, .int .i64 xr.s, .int .i64 xr.r, .int .i64 xr.e, .int .i64 xr.t] 60 (0, 0)) := by rw [hk4 w.heap.size (by omega) (by have := HSz.out; omega)]; exact HJt.out.2
      obtain ⟨a5, c5, rfl⟩ := own_shape hown4
      have HEnd : Hid (∃ acc', acc'.length = n + 1 ∧ LayAt ((xa, xb), xr) K (k + 1) acc' true ∧ Below w.heap.size w w4 ∧ w4.heap[w.heap.size]? = some (.cells #[.int .i64 (xa : Int), .int .i64 (xb : Int), .int .i64 xr.k, .int .i64 xr.o, .int .i64 xr.s, .int .i64 xr.r, .int .i64 xr.e, .int .i64 xr.t] 60 (0, 0)) ∧ w4.ownsRow (w.heap.size + 1) 60 8 (.slice a5 (n + 1) c5) (n + 1) (encW acc')) := hide ⟨acc ++ [((ya, yb), yr)], by rw [List.length_append]; rw [HAcc.out]; rfl, HLy2.out, hbel, hbox, by rw [encW_app]; exact hown4⟩
      clear hown4 hg4 hk4 hbel hbox r0 r1 r2 r3 r4 r5 r6 r7 c16 HOtb HJt
      go_wp2
      go_roundw
      case rel => first | exact ⟨k + 1, by omega, by go_num, true, n + 1, a5, c5, rfl, rfl, by omega, HEnd⟩ | ((repeat apply Exists.intro); refine ⟨?_, rfl⟩; exact ⟨k + 1, by omega, by go_num, true, n + 1, a5, c5, rfl, rfl, by omega, HEnd⟩)
      case measure => simp [intOf]; omega
    | false =>
      have r0 := hrow.c0
      have r1 := hrow.c1
      simp only at r0 r1
      obtain ⟨Wd, hWd⟩ : ∃ W, W = wr.drew := ⟨_, rfl⟩
      have HId : Hid ((fun W => Below w.heap.size w W ∧ W.heap[w.heap.size]? = some (.cells #[.int .i64 (xa : Int), .int .i64 (xb : Int), .int .i64 xr.k, .int .i64 xr.o, .int .i64 xr.s, .int .i64 xr.r, .int .i64 xr.e, .int .i64 xr.t] 60 (0, 0)) ∧ W.ownsRow (w.heap.size + 1) 60 8 (.slice a2 n c2) n (encW acc)) Wd) := hide (by rw [hWd]; exact ⟨HInv.out.1.drew, HInv.out.2.1, HInv.out.2.2⟩)
      have b0 : Wd.cell? ⟨w.heap.size, 0, none⟩ = some (.int .i64 (xa : Int)) := by rw [cell_of_row _ _ _ _ _ _ HId.out.2.1]; rfl
      have b1 : Wd.cell? ⟨w.heap.size, 1, none⟩ = some (.int .i64 (xb : Int)) := by rw [cell_of_row _ _ _ _ _ _ HId.out.2.1]; rfl
      have HS : Hid (Wd.cell? ⟨R, 16, none⟩ = some (.slice (some ⟨g, 0, none⟩) L c) ∧ Wd.cell? ⟨w.heap.size, 0, none⟩ = some (.int .i64 (xa : Int)) ∧ Wd.cell? ⟨w.heap.size, 1, none⟩ = some (.int .i64 (xb : Int)) ∧ Wd.cell? ⟨g, k * 8, none⟩ = some (.int .i64 (ya : Int)) ∧ Wd.cell? ⟨g, k * 8 + 1, none⟩ = some (.int .i64 (yb : Int))) := hide ⟨by rw [hWd]; exact c16, b0, b1, by rw [hWd]; exact r0, by rw [hWd]; exact r1⟩
      have hca := aheadR_any Wd (xa : Int) (xb : Int) (ya : Int) (yb : Int)
      obtain ⟨tt, htt⟩ : ∃ tt, decide ((xa : Int) < (ya : Int) ∨ ((xa : Int) = (ya : Int) ∧ (xb : Int) < (yb : Int))) = tt := ⟨_, rfl⟩
      rw [htt] at hca
      have HCa := hide hca
      have Htt := hide htt
      clear hca htt
      go_upto_region 6 with fail
      refine wp_region_held_drew (S := fun W => W.cell? ⟨R, 16, none⟩ = some (.slice (some ⟨g, 0, none⟩) L c) ∧ W.cell? ⟨w.heap.size, 0, none⟩ = some (.int .i64 (xa : Int)) ∧ W.cell? ⟨w.heap.size, 1, none⟩ = some (.int .i64 (xb : Int)) ∧ W.cell? ⟨g, k * 8, none⟩ = some (.int .i64 (ya : Int)) ∧ W.cell? ⟨g, k * 8 + 1, none⟩ = some (.int .i64 (yb : Int))) (by kernel_rfl) (by rw [← hWd]; exact HS.out) (fun _ => ?_)
      rw [← hWd]
      clear hWd hrow r0 r1 b0 b1 c16 HInv
      refine hd_take 0 (o := ⟨some 16, _, _, _, _, _⟩) (.bool false) (by kernel_rfl) (by kernel_rfl) (by kernel_rfl) rfl (by rfl) (fun W hSw => by go_simp) (fun _ _ _ h => h) HS.out ?_
      simp only [Act.put, List.setIfInBounds_toArray, List.set_cons_zero, List.set_cons_succ]
      refine hd_take 1 (o := ⟨some 17, _, _, _, _, _⟩) (.bool true) (by kernel_rfl) (by kernel_rfl) (by kernel_rfl) rfl (by rfl) (fun W hSw => by go_simp) (fun _ _ _ h => h) HS.out ?_
      simp only [Act.put, List.setIfInBounds_toArray, List.set_cons_zero, List.set_cons_succ]
      refine hd_take 2 (o := ⟨some 18, _, _, _, _, _⟩) (.bool true) (by kernel_rfl) (by kernel_rfl) (by kernel_rfl) rfl (by rfl) (fun W hSw => by go_simp) (fun _ _ _ h => h) HS.out ?_
      simp only [Act.put, List.setIfInBounds_toArray, List.set_cons_zero, List.set_cons_succ]
      refine hd_take 3 (o := ⟨some 19, _, _, _, _, _⟩) (.pointer (some ⟨w.heap.size, 0, none⟩)) (by kernel_rfl) (by kernel_rfl) (by kernel_rfl) rfl (by rfl) (fun W hSw => by go_simp) (fun _ _ _ h => h) HS.out ?_
      simp only [Act.put, List.setIfInBounds_toArray, List.set_cons_zero, List.set_cons_succ]
      refine hd_take 4 (o := ⟨some 20, _, _, _, _, _⟩) (.agg #[.int .i64 (xa : Int), .int .i64 (xb : Int)]) (by kernel_rfl) (by kernel_rfl) (by kernel_rfl) rfl (by rfl) (fun W hSw => by obtain ⟨q0, q1, q2, q3, q4⟩ := hSw; go_simp) (fun _ _ _ h => h) HS.out ?_
      simp only [Act.put, List.setIfInBounds_toArray, List.set_cons_zero, List.set_cons_succ]
      refine hd_take 5 (o := ⟨some 21, _, _, _, _, _⟩) (tp R) (by kernel_rfl) (by kernel_rfl) (by kernel_rfl) rfl (by rfl) (fun W hSw => by go_simp) (fun _ _ _ h => h) HS.out ?_
      simp only [Act.put, List.setIfInBounds_toArray, List.set_cons_zero, List.set_cons_succ]
      refine hd_take 6 (o := ⟨some 22, _, _, _, _, _⟩) (tp R) (by kernel_rfl) (by kernel_rfl) (by kernel_rfl) rfl (by rfl) (fun W hSw => by go_simp) (fun _ _ _ h => h) HS.out ?_
      simp only [Act.put, List.setIfInBounds_toArray, List.set_cons_zero, List.set_cons_succ]
      refine hd_take 7 (o := ⟨some 23, _, _, _, _, _⟩) (.pointer (some ⟨R, 16, none⟩)) (by kernel_rfl) (by kernel_rfl) (by kernel_rfl) rfl (by rfl) (fun W hSw => by go_simp) (fun _ _ _ h => h) HS.out ?_
      simp only [Act.put, List.setIfInBounds_toArray, List.set_cons_zero, List.set_cons_succ]
      refine hd_take 8 (o := ⟨some 24, _, _, _, _, _⟩) (.slice (some ⟨g, 0, none⟩) L c) (by kernel_rfl) (by kernel_rfl) (by kernel_rfl) rfl (by rfl) (fun W hSw => by obtain ⟨q0, q1, q2, q3, q4⟩ := hSw; go_simp) (fun _ _ _ h => h) HS.out ?_
      simp only [Act.put, List.setIfInBounds_toArray, List.set_cons_zero, List.set_cons_succ]
      refine hd_take 9 (o := ⟨some 25, _, _, _, _, _⟩) (.int .i64 (k : Int)) (by kernel_rfl) (by kernel_rfl) (by kernel_rfl) rfl (by rfl) (fun W hSw => by go_simp) (fun _ _ _ h => h) HS.out ?_
      simp only [Act.put, List.setIfInBounds_toArray, List.set_cons_zero, List.set_cons_succ]
      refine hd_take 10 (o := ⟨some 26, _, _, _, _, _⟩) (.pointer (some ⟨g, k * 8, none⟩)) (by kernel_rfl) (by kernel_rfl) (by kernel_rfl) rfl (by rfl) (fun W hSw => by go_simp <;> omega) (fun _ _ _ h => h) HS.out ?_
      simp only [Act.put, List.setIfInBounds_toArray, List.set_cons_zero, List.set_cons_succ]
      refine hd_take 11 (o := ⟨some 27, _, _, _, _, _⟩) (.pointer (some ⟨g, k * 8, none⟩)) (by kernel_rfl) (by kernel_rfl) (by kernel_rfl) rfl (by rfl) (fun W hSw => by go_simp) (fun _ _ _ h => h) HS.out ?_
      simp only [Act.put, List.setIfInBounds_toArray, List.set_cons_zero, List.set_cons_succ]
      refine hd_take 12 (o := ⟨some 28, _, _, _, _, _⟩) (.agg #[.int .i64 (ya : Int), .int .i64 (yb : Int)]) (by kernel_rfl) (by kernel_rfl) (by kernel_rfl) rfl (by rfl) (fun W hSw => by obtain ⟨q0, q1, q2, q3, q4⟩ := hSw; go_simp) (fun _ _ _ h => h) HS.out ?_
      simp only [Act.put, List.setIfInBounds_toArray, List.set_cons_zero, List.set_cons_succ]
      refine hd_call 13 (o := ⟨some 29, _, _, _, _, _⟩) (by kernel_rfl) rfl (by rfl) (fun K' hK => ?_)
      go_simp
      go_wp2_with (go_at_call 99; refine HCa.out.mono ?_; rintro e1 W0 ⟨rfl, hb0⟩)
      have hI : (fun W => Below w.heap.size w W ∧ W.heap[w.heap.size]? = some (.cells #[.int .i64 (xa : Int), .int .i64 (xb : Int), .int .i64 xr.k, .int .i64 xr.o, .int .i64 xr.s, .int .i64 xr.r, .int .i64 xr.e, .int .i64 xr.t] 60 (0, 0)) ∧ W.ownsRow (w.heap.size + 1) 60 8 (.slice a2 n c2) n (encW acc)) W0 := ⟨HId.out.1.trans (hb0.mono HId.out.1.size), by rw [hb0.block _ (Array.getElem?_eq_some_iff.1 HId.out.2.1).1]; exact HId.out.2.1, ownsRow_keep HId.out.2.2 (fun b hb' => hb0.block b (ownsRow_lt HId.out.2.2 hb'))⟩
      have HS0 : Hid (W0.cell? ⟨R, 16, none⟩ = some (.slice (some ⟨g, 0, none⟩) L c) ∧ W0.cell? ⟨w.heap.size, 0, none⟩ = some (.int .i64 (xa : Int)) ∧ W0.cell? ⟨w.heap.size, 1, none⟩ = some (.int .i64 (xb : Int)) ∧ W0.cell? ⟨g, k * 8, none⟩ = some (.int .i64 (ya : Int)) ∧ W0.cell? ⟨g, k * 8 + 1, none⟩ = some (.int .i64 (yb : Int))) := hide ⟨cell_belowN hb0 HS.out.1, cell_belowN hb0 HS.out.2.1, cell_belowN hb0 HS.out.2.2.1, cell_belowN hb0 HS.out.2.2.2.1, cell_belowN hb0 HS.out.2.2.2.2⟩
      have HI0 := hide hI
      clear hI hb0
      refine hK _ _ HS0.out ?_
      clear hK K'
      try simp only [Act.put, List.setIfInBounds_toArray, List.set_cons_zero, List.set_cons_succ]
      refine hd_call 14 (o := ⟨some 30, _, _, _, _, _⟩) (by kernel_rfl) rfl (by rfl) (fun K' hK => ?_)
      go_simp
      refine hK _ _ HS0.out ?_
      clear hK K'
      try simp only [Act.put, List.setIfInBounds_toArray, List.set_cons_zero, List.set_cons_succ]
      refine wpAnyH_done (by kernel_rfl) ?_ _
      have hI := HI0.out
      clear HI0 HS0 HS HCa HId
      obtain ⟨hbel, hbox, hown⟩ := hI
      have hRr := HR.out.below hbel
      have c16 := hRr.rowc
      have HSz : Hid (w.heap.size + 1 ≤ W0.heap.size) := hide (by have := (Array.getElem?_eq_some_iff.1 hbox).1; omega)
      cases tt with
      | true =>
        have hp : PLt ((xa, xb) : Nat × Nat) (ya, yb) := by
          have := Htt.out; unfold PLt; simp at this ⊢; omega
        have HLy2 := hide (HLy.out.put HA.out.srt HY.out hp)
        clear hp hyne HLy
        have b0 : W0.cell? ⟨w.heap.size, 0, none⟩ = some (.int .i64 (xa : Int)) := by rw [cell_of_row _ _ _ _ _ _ hbox]; rfl
        have b1 : W0.cell? ⟨w.heap.size, 1, none⟩ = some (.int .i64 (xb : Int)) := by rw [cell_of_row _ _ _ _ _ _ hbox]; rfl
        have b2 : W0.cell? ⟨w.heap.size, 2, none⟩ = some (.int .i64 xr.k) := by rw [cell_of_row _ _ _ _ _ _ hbox]; rfl
        have b3 : W0.cell? ⟨w.heap.size, 3, none⟩ = some (.int .i64 xr.o) := by rw [cell_of_row _ _ _ _ _ _ hbox]; rfl
        have b4 : W0.cell? ⟨w.heap.size, 4, none⟩ = some (.int .i64 xr.s) := by rw [cell_of_row _ _ _ _ _ _ hbox]; rfl
        have b5 : W0.cell? ⟨w.heap.size, 5, none⟩ = some (.int .i64 xr.r) := by rw [cell_of_row _ _ _ _ _ _ hbox]; rfl
        have b6 : W0.cell? ⟨w.heap.size, 6, none⟩ = some (.int .i64 xr.e) := by rw [cell_of_row _ _ _ _ _ _ hbox]; rfl
        have b7 : W0.cell? ⟨w.heap.size, 7, none⟩ = some (.int .i64 xr.t) := by rw [cell_of_row _ _ _ _ _ _ hbox]; rfl
        have HOua := hide hown
        have HIu := hide (And.intro hbel hbox)
        clear hbel hbox hown hRr
        go_upto_region 8 with (at_builtin; refine wpList_append_own _ rfl _ _ 41 rfl (w.heap.size + 1) 60 i8 (.agg #[.int .i64 0, .int .i64 0, .int .i64 0, .int .i64 0, .int .i64 0, .int .i64 0, .int .i64 0, .int .i64 0]) 8 64 Tryz.underlying41 hi hz hs hb rfl (by decide) _ n (encW acc) rfl (HOua.out.alloc _) ⟨W0.heap.size, 0, none⟩ 1 1 [.int .i64 (xa : Int), .int .i64 (xb : Int), .int .i64 xr.k, .int .i64 xr.o, .int .i64 xr.s, .int .i64 xr.r, .int .i64 xr.e, .int .i64 xr.t] rfl rfl ?pua1 ?pua2 ?pua3 ?pua4 ?pua5 ?_)
        case pua1 => exact cell_list_new _ _ [.int .i64 (xa : Int), .int .i64 (xb : Int), .int .i64 xr.k, .int .i64 xr.o, .int .i64 xr.s, .int .i64 xr.r, .int .i64 xr.e, .int .i64 xr.t]
        case pua2 => simp [Value.oneCell']
        case pua3 => unfold maxLen; omega
        case pua4 => omega
        case pua5 => have := HSz.out; simp; omega
        intro v2 w2 hown2 hg2 _
        obtain ⟨hbel, hk2⟩ := grew_keep HIu.out.1 HOua.out (by omega) hg2
        have hbox : w2.heap[w.heap.size]? = some (.cells #[.int .i64 (xa : Int), .int .i64 (xb : Int), .int .i64 xr.k, .int .i64 xr.o, .int .i64 xr.s, .int .i64 xr.r, .int .i64 xr.e, .int .i64 xr.t] 60 (0, 0)) := by rw [hk2 w.heap.size (by omega) (by have := HSz.out; omega)]; exact HIu.out.2
        obtain ⟨a3, c3, rfl⟩ := own_shape hown2
        have hown : w2.ownsRow (w.heap.size + 1) 60 8 (.slice a3 (n + 1) c3) (n + 1) (encW (acc ++ [((xa, xb), xr)])) := by rw [encW_app]; exact hown2
        have hRr := HR.out.below hbel
        have c16' := hRr.rowc
        have HSz2 : Hid (w.heap.size + 1 ≤ w2.heap.size) := hide (by have := (Array.getElem?_eq_some_iff.1 hbox).1; omega)
        clear hown2 hg2 hk2 b0 b1 b2 b3 b4 b5 b6 b7 c16 HOua HIu
        go_upto_region 9 with fail
        obtain ⟨r0, r1, r2, r3, r4, r5, r6, r7⟩ := hRr.row8 HY.out
        simp only at r0 r1 r2 r3 r4 r5 r6 r7
        have HOub := hide hown
        have HJu := hide (And.intro hbel hbox)
        clear hbel hbox hown hRr
        go_upto_region 5 with (at_builtin; refine wpList_append_own _ rfl _ _ 41 rfl (w.heap.size + 1) 60 i8 (.agg #[.int .i64 0, .int .i64 0, .int .i64 0, .int .i64 0, .int .i64 0, .int .i64 0, .int .i64 0, .int .i64 0]) 8 64 Tryz.underlying41 hi hz hs hb rfl (by decide) _ (n + 1) (encW (acc ++ [((xa, xb), xr)])) rfl (HOub.out.alloc _) ⟨w2.heap.size, 0, none⟩ 1 1 [.int .i64 (ya : Int), .int .i64 (yb : Int), .int .i64 yr.k, .int .i64 yr.o, .int .i64 yr.s, .int .i64 yr.r, .int .i64 yr.e, .int .i64 yr.t] rfl rfl ?pub1 ?pub2 ?pub3 ?pub4 ?pub5 ?_)
        case pub1 => exact cell_list_new _ _ [.int .i64 (ya : Int), .int .i64 (yb : Int), .int .i64 yr.k, .int .i64 yr.o, .int .i64 yr.s, .int .i64 yr.r, .int .i64 yr.e, .int .i64 yr.t]
        case pub2 => simp [Value.oneCell']
        case pub3 => unfold maxLen; omega
        case pub4 => omega
        case pub5 => have := HSz2.out; simp; omega
        intro v4 w4 hown4 hg4 _
        obtain ⟨hbel, hk4⟩ := grew_keep HJu.out.1 HOub.out (by omega) hg4
        have hbox : w4.heap[w.heap.size]? = some (.cells #[.int .i64 (xa : Int), .int .i64 (xb : Int), .int .i64 xr.k, .int .i64 xr.o, .int .i64 xr.s, .int .i64 xr.r, .int .i64 xr.e, .int .i64 xr.t] 60 (0, 0)) := by rw [hk4 w.heap.size (by omega) (by have := HSz2.out; omega)]; exact HJu.out.2
        obtain ⟨a5, c5, rfl⟩ := own_shape hown4
        have HEnd : Hid (∃ acc', acc'.length = (n + 1) + 1 ∧ LayAt ((xa, xb), xr) K (k + 1) acc' true ∧ Below w.heap.size w w4 ∧ w4.heap[w.heap.size]? = some (.cells #[.int .i64 (xa : Int), .int .i64 (xb : Int), .int .i64 xr.k, .int .i64 xr.o, .int .i64 xr.s, .int .i64 xr.r, .int .i64 xr.e, .int .i64 xr.t] 60 (0, 0)) ∧ w4.ownsRow (w.heap.size + 1) 60 8 (.slice a5 ((n + 1) + 1) c5) ((n + 1) + 1) (encW acc')) := hide ⟨(acc ++ [((xa, xb), xr)]) ++ [((ya, yb), yr)], by rw [List.length_append]; rw [List.length_append, HAcc.out]; rfl, HLy2.out, hbel, hbox, by rw [encW_app]; exact hown4⟩
        clear hown4 hg4 hk4 hbel hbox r0 r1 r2 r3 r4 r5 r6 r7 c16' HOub HJu
        go_wp2
        go_roundw
        case rel => first | exact ⟨k + 1, by omega, by go_num, true, (n + 1) + 1, a5, c5, rfl, rfl, by omega, HEnd⟩ | ((repeat apply Exists.intro); refine ⟨?_, rfl⟩; exact ⟨k + 1, by omega, by go_num, true, (n + 1) + 1, a5, c5, rfl, rfl, by omega, HEnd⟩)
        case measure => simp [intOf]; omega
      | false =>
        have hp : ¬ PLt ((xa, xb) : Nat × Nat) (ya, yb) := by
          have := Htt.out; unfold PLt; simp at this ⊢; omega
        have HLy2 := hide (HLy.out.go HY.out (plt_tri _ _ hyne hp))
        clear hp hyne HLy
        obtain ⟨r0, r1, r2, r3, r4, r5, r6, r7⟩ := hRr.row8 HY.out
        simp only at r0 r1 r2 r3 r4 r5 r6 r7
        have HOzb := hide hown
        have HJz := hide (And.intro hbel hbox)
        clear hbel hbox hown hRr
        go_upto_region 5 with (at_builtin; refine wpList_append_own _ rfl _ _ 41 rfl (w.heap.size + 1) 60 i8 (.agg #[.int .i64 0, .int .i64 0, .int .i64 0, .int .i64 0, .int .i64 0, .int .i64 0, .int .i64 0, .int .i64 0]) 8 64 Tryz.underlying41 hi hz hs hb rfl (by decide) _ n (encW acc) rfl (HOzb.out.alloc _) ⟨W0.heap.size, 0, none⟩ 1 1 [.int .i64 (ya : Int), .int .i64 (yb : Int), .int .i64 yr.k, .int .i64 yr.o, .int .i64 yr.s, .int .i64 yr.r, .int .i64 yr.e, .int .i64 yr.t] rfl rfl ?pzb1 ?pzb2 ?pzb3 ?pzb4 ?pzb5 ?_)
        case pzb1 => exact cell_list_new _ _ [.int .i64 (ya : Int), .int .i64 (yb : Int), .int .i64 yr.k, .int .i64 yr.o, .int .i64 yr.s, .int .i64 yr.r, .int .i64 yr.e, .int .i64 yr.t]
        case pzb2 => simp [Value.oneCell']
        case pzb3 => unfold maxLen; omega
        case pzb4 => omega
        case pzb5 => have := HSz.out; simp; omega
        intro v4 w4 hown4 hg4 _
        obtain ⟨hbel, hk4⟩ := grew_keep HJz.out.1 HOzb.out (by omega) hg4
        have hbox : w4.heap[w.heap.size]? = some (.cells #[.int .i64 (xa : Int), .int .i64 (xb : Int), .int .i64 xr.k, .int .i64 xr.o, .int .i64 xr.s, .int .i64 xr.r, .int .i64 xr.e, .int .i64 xr.t] 60 (0, 0)) := by rw [hk4 w.heap.size (by omega) (by have := HSz.out; omega)]; exact HJz.out.2
        obtain ⟨a5, c5, rfl⟩ := own_shape hown4
        have HEnd : Hid (∃ acc', acc'.length = n + 1 ∧ LayAt ((xa, xb), xr) K (k + 1) acc' false ∧ Below w.heap.size w w4 ∧ w4.heap[w.heap.size]? = some (.cells #[.int .i64 (xa : Int), .int .i64 (xb : Int), .int .i64 xr.k, .int .i64 xr.o, .int .i64 xr.s, .int .i64 xr.r, .int .i64 xr.e, .int .i64 xr.t] 60 (0, 0)) ∧ w4.ownsRow (w.heap.size + 1) 60 8 (.slice a5 (n + 1) c5) (n + 1) (encW acc')) := hide ⟨acc ++ [((ya, yb), yr)], by rw [List.length_append]; rw [HAcc.out]; rfl, HLy2.out, hbel, hbox, by rw [encW_app]; exact hown4⟩
        clear hown4 hg4 hk4 hbel hbox r0 r1 r2 r3 r4 r5 r6 r7 c16 HOzb HJz
        go_wp2
        go_roundw
        case rel => first | exact ⟨k + 1, by omega, by go_num, false, n + 1, a5, c5, rfl, rfl, by omega, HEnd⟩ | ((repeat apply Exists.intro); refine ⟨?_, rfl⟩; exact ⟨k + 1, by omega, by go_num, false, n + 1, a5, c5, rfl, rfl, by omega, HEnd⟩)
        case measure => simp [intOf]; omega
  · obtain rfl : k = L := by omega
    have hd : decide ((k : Int) < (k : Int)) = false := by simp
    have hRr := HR.out.below hbel
    have c16 := hRr.rowc
    have f16 := hRr.frz 16
    have hFin : ∀ (w5 : World) (v5 : Value) (acc5 : List Rw), Below w.heap.size w w5 → w5.ownsRow (w.heap.size + 1) 60 8 v5 acc5.length (encW acc5) → Ag bk' acc5 → ∃ F', RbA R bk' (w5.setCell ⟨R, 16, none⟩ v5) F' ∧ Ext F w F' (w5.setCell ⟨R, 16, none⟩ v5) := by
      intro w5 v5 acc5 hb5 ho5 hag
      have ho5' : w5.ownsRow w.heap.size 60 8 v5 acc5.length (encW acc5) := by
        obtain ⟨q1, q2 | ⟨gg, cp, cur, q2, q3, q4⟩⟩ := ho5
        · exact ⟨q1, .inl q2⟩
        · exact ⟨q1, .inr ⟨gg, cp, cur, q2, by omega, q4⟩⟩
      have h5 := (HR.out.below hb5).setRows HFL.out ho5' Hlt.out
      refine ⟨fun b => b = R ∨ v5.ownBlock = some b, ⟨v5, acc5, h5, hag, fun b => Iff.rfl⟩, ?_, ?_⟩
      · exact (Mod.of_below hb5).setCell (.inl ((HE.out R).2 (.inl rfl))) _
      · rintro b (e | e)
        · exact .inl ((HE.out b).2 (.inl e))
        · exact .inr (World.ownsRow.lt ho5' b e).1
    have HFin := hide hFin
    have HAg : Hid (Ag bk' (if dn then acc else acc ++ [((xa, xb), xr)])) := hide ((by have := hlay; rw [← HL.out] at this; exact this : LayAt ((xa, xb), xr) K K.length acc dn).fin HA.out HF.out HV.out)
    have HSz : Hid (w.heap.size + 1 ≤ wr.heap.size) := hide (by have := (Array.getElem?_eq_some_iff.1 hbox).1; omega)
    cases dn with
    | true =>
      have HEnd := hide (HFin.out wr (.slice a2 n c2) acc hbel (by rw [hacc]; exact hown) HAg.out)
      clear hRr hFin HFin hlay hbox hown hbel KK
      go_upto_region 12 with fail
      have f16' := f16
      go_wp2
      go_end0
      exact ⟨rfl, HEnd.out⟩
    | false =>
      have b0 : wr.cell? ⟨w.heap.size, 0, none⟩ = some (.int .i64 (xa : Int)) := by rw [cell_of_row _ _ _ _ _ _ hbox]; rfl
      have b1 : wr.cell? ⟨w.heap.size, 1, none⟩ = some (.int .i64 (xb : Int)) := by rw [cell_of_row _ _ _ _ _ _ hbox]; rfl
      have b2 : wr.cell? ⟨w.heap.size, 2, none⟩ = some (.int .i64 xr.k) := by rw [cell_of_row _ _ _ _ _ _ hbox]; rfl
      have b3 : wr.cell? ⟨w.heap.size, 3, none⟩ = some (.int .i64 xr.o) := by rw [cell_of_row _ _ _ _ _ _ hbox]; rfl
      have b4 : wr.cell? ⟨w.heap.size, 4, none⟩ = some (.int .i64 xr.s) := by rw [cell_of_row _ _ _ _ _ _ hbox]; rfl
      have b5 : wr.cell? ⟨w.heap.size, 5, none⟩ = some (.int .i64 xr.r) := by rw [cell_of_row _ _ _ _ _ _ hbox]; rfl
      have b6 : wr.cell? ⟨w.heap.size, 6, none⟩ = some (.int .i64 xr.e) := by rw [cell_of_row _ _ _ _ _ _ hbox]; rfl
      have b7 : wr.cell? ⟨w.heap.size, 7, none⟩ = some (.int .i64 xr.t) := by rw [cell_of_row _ _ _ _ _ _ hbox]; rfl
      have HO := hide hown
      have HI0 := hide (And.intro hbel hbox)
      have HAcc := hide hacc
      clear hRr hFin hlay hbox hown hbel KK hacc
      go_upto_region 12 with (at_builtin; refine wpList_append_own _ rfl _ _ 41 rfl (w.heap.size + 1) 60 i8 (.agg #[.int .i64 0, .int .i64 0, .int .i64 0, .int .i64 0, .int .i64 0, .int .i64 0, .int .i64 0, .int .i64 0]) 8 64 Tryz.underlying41 hi hz hs hb rfl (by decide) _ n (encW acc) rfl (HO.out.alloc _) ⟨wr.heap.size, 0, none⟩ 1 1 [.int .i64 (xa : Int), .int .i64 (xb : Int), .int .i64 xr.k, .int .i64 xr.o, .int .i64 xr.s, .int .i64 xr.r, .int .i64 xr.e, .int .i64 xr.t] rfl rfl ?q1 ?q2 ?q3 ?q4 ?q5 ?_)
      case q1 => exact cell_list_new _ _ [.int .i64 (xa : Int), .int .i64 (xb : Int), .int .i64 xr.k, .int .i64 xr.o, .int .i64 xr.s, .int .i64 xr.r, .int .i64 xr.e, .int .i64 xr.t]
      case q2 => simp [Value.oneCell']
      case q3 => unfold maxLen; omega
      case q4 => omega
      case q5 => have := HSz.out; simp; omega
      intro v2 w2 hown2 hg2 _
      obtain ⟨hbel, _⟩ := grew_keep HI0.out.1 HO.out (by omega) hg2
      have hRr := HR.out.below hbel
      have c16' := hRr.rowc
      have f16' := hRr.frz 16
      have HEnd := hide (HFin.out w2 v2 (acc ++ [((xa, xb), xr)]) hbel (by rw [List.length_append, HAcc.out, encW_app]; exact hown2) HAg.out)
      obtain ⟨a3, c3, rfl⟩ := own_shape hown2
      clear hown2 hg2 hRr hbel HFin c16 f16 b0 b1 b2 b3 b4 b5 b6 b7
      go_upto_region 12 with fail
      go_wp2
      go_end0
      exact ⟨rfl, HEnd.out⟩
end
end Go.Proofs.YteacmcdmdeckmaaGreat

namespace Go.Proofs.YteacmcdmdeckmaaGreat
open Go.RowKit Go.Shelf Go.Sort Go.Proofs

theorem flat_encPs (ps : List (Nat × Nat)) : (flatK encP 2 ps.toArray).toList = encPs ps := by
  apply List.ext_getElem?
  intro t
  by_cases h : t < ps.length * 2
  · have hk : t / 2 < ps.length := by omega
    have hz : t < (flatK encP 2 ps.toArray).size := by rw [size_flatK]; simpa using h
    have e0 := get_flatK encP 2 ps.toArray t (by simpa using h)
    rw [getElem!_pos _ t hz] at e0
    have e1 : ps.toArray[t / 2]! = ps[t / 2] := by rw [getElem!_pos _ _ (by simpa using hk)]; simp
    rw [Array.getElem?_toList, Array.getElem?_eq_getElem hz, e0, e1]
    rcases Nat.mod_two_eq_zero_or_one t with h2 | h2
    · have h3 := (encPs_at hk).1
      rw [show t / 2 * 2 = t by omega] at h3
      rw [h3, h2]; rfl
    · have h3 := (encPs_at hk).2
      rw [show t / 2 * 2 + 1 = t by omega] at h3
      rw [h3, h2]; rfl
  · rw [List.getElem?_eq_none (by rw [Array.length_toList, size_flatK]; simp; omega), List.getElem?_eq_none (by rw [encPs_len]; omega)]
theorem holdsK_own {w : World} {g : Nat} {cur : Array Value} {e : TypeId} {ps : List (Nat × Nat)} (hb : w.heap[g]? = some (.cells cur e (0, 0))) (ht : cur.toList.take (ps.length * 2) = encPs ps) : HoldsK encP 2 w g 0 ps.toArray := by
  intro j hj
  have hj' : j < ps.length * 2 := by simpa using hj
  refine ⟨?_, by simp [World.frozen?, hb]⟩
  have h1 : (cur.toList.take (ps.length * 2))[j]? = (encPs ps)[j]? := by rw [ht]
  rw [List.getElem?_take_of_lt hj', ← flat_encPs, Array.getElem?_toList, Array.getElem?_toList, Array.getElem?_eq_getElem hj] at h1
  simp only [World.cell?, hb, Nat.zero_add]
  simp only [Option.isSome_none, Bool.false_eq_true, if_false]
  rw [h1, getElem!_pos _ j hj]; rfl
theorem heap_sortedK {w : World} {g n : Nat} {os : Array Obj} {cur : Array Value} {e : TypeId} {fr : Nat × Nat} (d : Array (Nat × Nat)) (hb : w.heap[g]? = some (.cells cur e fr)) :
    (sortWorldK encP 2 w g 0 n d os).heap[g]? = some (.cells (putCells id 0 (flatK encP 2 d) cur) e fr) := by
  have hg : g < w.heap.size := (Array.getElem?_eq_some_iff.1 hb).1
  unfold sortWorldK putRowK
  rw [heap_grow_old _ _ (by simpa using hg)]
  simp [putRow, mapBlock, Sort.ahead, Array.getElem?_modify, hb, onCells]
theorem grownBy_sortedK {w : World} {g n : Nat} {os : Array Obj} (d : Array (Nat × Nat)) : w.grownBy (sortWorldK encP 2 w g 0 n d os) (some g) := by
  unfold sortWorldK putRowK
  refine ⟨rfl, rfl, rfl, by simp, fun k hk hne => ?_⟩
  rw [heap_grow_old _ _ (by simpa using hk)]
  have : g ≠ k := fun e => hne (by rw [e])
  simp [putRow, mapBlock, Sort.ahead, Array.getElem?_modify, this]
theorem take_putCellsK (cur D : Array Value) (h : D.size ≤ cur.size) : (putCells id 0 D cur).toList.take D.size = D.toList := by
  apply List.ext_getElem?
  intro j
  by_cases hj : j < D.size
  · rw [List.getElem?_take_of_lt hj, Array.getElem?_toList]
    simp [putCells, hj, show j < cur.size by omega]
  · rw [List.getElem?_take_eq_none (by omega), List.getElem?_eq_none (by simp; omega)]
/-- behind the sort the same slice owns the sorted list -/
theorem ownsRow_sortedK {w : World} {base g cap n : Nat} {e : TypeId} {os : Array Obj} {cur : Array Value} {ss ts : List (Nat × Nat)} (hl : ts.length = ss.length) (hbase : base ≤ g) (hb : w.heap[g]? = some (.cells cur e (0, 0)))
    (h1 : ss.length ≤ cap) (h2 : cap ≤ maxLen) (h3 : cur.size = cap * 2) :
    (sortWorldK encP 2 w g 0 n ts.toArray os).ownsRow base e 2 (.slice (some ⟨g, 0, none⟩) ss.length cap) ss.length (encPs ts) := by
  have hz : (flatK encP 2 ts.toArray).size = ss.length * 2 := by rw [size_flatK]; simp [hl]
  refine ⟨by rw [encPs_len, hl], .inr ⟨g, cap, _, rfl, hbase, heap_sortedK _ hb, h1, h2, by simp [putCells, h3], ?_⟩⟩
  have h4 := take_putCellsK cur (flatK encP 2 ts.toArray) (by omega)
  rw [hz, flat_encPs] at h4
  exact h4
theorem grew_sorted {w : World} {g n len cap : Nat} {os : Array Obj} (d : Array (Nat × Nat)) : Grew w (.slice (some ⟨g, 0, none⟩) len cap) (sortWorldK encP 2 w g 0 n d os) (.slice (some ⟨g, 0, none⟩) len cap) := ⟨grownBy_sortedK d, fun _ h => .inl h⟩
/-- the order of places -/
theorem ci_neg (x y : Nat) : (ci (x : Int) (y : Int) < 0) = (x < y) := by
  unfold ci
  split
  · simp; omega
  · split
    · simp; omega
    · simp; omega
theorem ci_zero (x y : Nat) : (ci (x : Int) (y : Int) = 0) = (x = y) := by
  unfold ci
  split
  · simp; omega
  · split
    · simp; omega
    · simp; omega
theorem cp_neg (x y : Nat × Nat) : cp x y < 0 ↔ PLt x y := by
  unfold cp orr PLt
  split
  · rename_i h
    rw [ci_zero] at h
    rw [ci_neg]; omega
  · rename_i h
    rw [ci_zero] at h
    rw [ci_neg]; omega
end Go.Proofs.YteacmcdmdeckmaaGreat

namespace Go.Proofs.YteacmcdmdeckmaaGreat
open Go.RowKit Go.Shelf Go.Sort Go.Proofs Go.Lib

def Tryz.sortP_ren : Go.Shelf.Ren := ⟨fun | 6 => 82 | 15 => 101 | 14 => 100 | 28 => 115 | 29 => 116 | 20 => 107 | 21 => 108 | 22 => 109 | 23 => 110 | 24 => 111 | 25 => 112 | 26 => 113 | 27 => 114 | 46 => 117 | 47 => 118 | 48 => 119 | 49 => 120 | 50 => 121 | 57 => 122 | n => n, fun | 22 => 87 | 24 => 48 | 25 => 121 | 3 => 3 | 39 => 134 | 0 => 0 | 53 => 145 | 55 => 147 | 4 => 4 | 46 => 138 | 45 => 137 | 50 => 142 | 5 => 5 | 9 => 9 | 66 => 148 | 70 => 152 | 76 => 154 | 77 => 155 | n => n, fun | n => n⟩
theorem Tryz.sortP : Go.Proofs.SlLaysF0.n6 Tryz.prog Tryz.sortP_ren := {
  mixed := by kernel_rfl
  f6 := ⟨Tryz.f82.name, by decide, Tryz.func82.trans (congrArg some (by kernel_rfl))⟩
  f14 := ⟨Tryz.f100.name, by decide, Tryz.func100.trans (congrArg some (by kernel_rfl))⟩
  f15 := Tryz.func101.trans (congrArg some (by kernel_rfl))
  f20 := ⟨Tryz.f107.name, by decide, Tryz.func107.trans (congrArg some (by kernel_rfl))⟩
  f21 := ⟨Tryz.f108.name, by decide, Tryz.func108.trans (congrArg some (by kernel_rfl))⟩
  f22 := ⟨Tryz.f109.name, by decide, Tryz.func109.trans (congrArg some (by kernel_rfl))⟩
  f23 := ⟨Tryz.f110.name, by decide, Tryz.func110.trans (congrArg some (by kernel_rfl))⟩
  f24 := ⟨Tryz.f111.name, by decide, Tryz.func111.trans (congrArg some (by kernel_rfl))⟩
  f25 := ⟨Tryz.f112.name, by decide, Tryz.func112.trans (congrArg some (by kernel_rfl))⟩
  f26 := ⟨Tryz.f113.name, by decide, Tryz.func113.trans (congrArg some (by kernel_rfl))⟩
  f27 := ⟨Tryz.f114.name, by decide, Tryz.func114.trans (congrArg some (by kernel_rfl))⟩
  f28 := Tryz.func115.trans (congrArg some (by kernel_rfl))
  f29 := Tryz.func116.trans (congrArg some (by kernel_rfl))
  f46 := ⟨Tryz.f117.name, by decide, Tryz.func117.trans (congrArg some (by kernel_rfl))⟩
  f47 := Tryz.func118.trans (congrArg some (by kernel_rfl))
  f48 := Tryz.func119.trans (congrArg some (by kernel_rfl))
  f49 := ⟨Tryz.f120.name, by decide, Tryz.func120.trans (congrArg some (by kernel_rfl))⟩
  f50 := ⟨Tryz.f121.name, by decide, Tryz.func121.trans (congrArg some (by kernel_rfl))⟩
  f57 := ⟨Tryz.f122.name, by decide, Tryz.func122.trans (congrArg some (by kernel_rfl))⟩
  t0 := Tryz.underlying0
  a0 := Tryz.isAgg0
  z0 := Tryz.sizeOf0
  v0 := Tryz.zeroValue0
  t3 := Tryz.underlying3
  a3 := Tryz.isAgg3
  z3 := Tryz.sizeOf3
  v3 := Tryz.zeroValue3
  t4 := Tryz.underlying4
  a4 := Tryz.isAgg4
  z4 := Tryz.sizeOf4
  v4 := Tryz.zeroValue4
  t5 := Tryz.underlying5
  a5 := Tryz.isAgg5
  z5 := Tryz.sizeOf5
  v5 := Tryz.zeroValue5
  t9 := Tryz.underlying9
  a9 := Tryz.isAgg9
  z9 := Tryz.sizeOf9
  v9 := Tryz.zeroValue9
  t22 := Tryz.underlying87
  a22 := Tryz.isAgg87
  z22 := Tryz.sizeOf87
  v22 := Tryz.zeroValue87
  t25 := Tryz.underlying121
  a25 := Tryz.isAgg121
  z25 := Tryz.sizeOf121
  v25 := Tryz.zeroValue121
  t39 := Tryz.underlying134
  a39 := Tryz.isAgg134
  z39 := Tryz.sizeOf134
  v39 := Tryz.zeroValue134
  t45 := Tryz.underlying137
  a45 := Tryz.isAgg137
  z45 := Tryz.sizeOf137
  v45 := Tryz.zeroValue137
  t46 := Tryz.underlying138
  a46 := Tryz.isAgg138
  z46 := Tryz.sizeOf138
  v46 := Tryz.zeroValue138
  t50 := Tryz.underlying142
  a50 := Tryz.isAgg142
  z50 := Tryz.sizeOf142
  v50 := Tryz.zeroValue142
  t53 := Tryz.underlying145
  a53 := Tryz.isAgg145
  z53 := Tryz.sizeOf145
  v53 := Tryz.zeroValue145
  t55 := Tryz.underlying147
  a55 := Tryz.isAgg147
  z55 := Tryz.sizeOf147
  v55 := Tryz.zeroValue147
  t66 := Tryz.underlying148
  a66 := Tryz.isAgg148
  z66 := Tryz.sizeOf148
  v66 := Tryz.zeroValue148
  t70 := Tryz.underlying152
  a70 := Tryz.isAgg152
  z70 := Tryz.sizeOf152
  v70 := Tryz.zeroValue152
  t76 := Tryz.underlying154
  a76 := Tryz.isAgg154
  z76 := Tryz.sizeOf154
  v76 := Tryz.zeroValue154
  t77 := Tryz.underlying155
  a77 := Tryz.isAgg155
  z77 := Tryz.sizeOf155
  v77 := Tryz.zeroValue155 }
theorem lt_cp (x y : Nat × Nat) : ltOf cp x y = decide (cp x y < 0) := rfl
theorem swo_cp : SWO (ltOf cp) where
  irrefl x := by
    rw [lt_cp, decide_eq_false_iff_not, cp_neg]
    intro h
    exact h.ne rfl
  trans x y z h1 h2 := by
    rw [lt_cp, decide_eq_true_iff, cp_neg] at *
    unfold PLt at *
    omega
  ntrans x y z h1 h2 := by
    rw [lt_cp, decide_eq_false_iff_not, cp_neg] at *
    unfold PLt at *
    omega
theorem tot_cp (x y : Nat × Nat) (h1 : ltOf cp x y = false) (h2 : ltOf cp y x = false) : x = y := by
  rw [lt_cp, decide_eq_false_iff_not, cp_neg] at h1 h2
  unfold PLt at h1 h2
  exact Prod.ext (by omega) (by omega)
theorem encP_one (x : Nat × Nat) : ∀ v ∈ encP x, v.oneCell' = true := by
  intro v hv
  simp [encP] at hv
  rcases hv with rfl | rfl <;> rfl
theorem cmpLays (blk off size : Nat) (w : World) : CmpLays Tryz.prog 83 #[] encP 2 cp blk off size w := fun _ _ _ _ x y => closure_any _ x y
theorem enters_cp : ∀ args w, (callFunc 83 args).run Tryz.prog w = .ok (.enter 83 args) w := enters_of Tryz.func83 (by kernel_rfl) rfl
theorem isAgg_place : ∀ w, (isAgg 48).run Tryz.prog w = .ok true w := fun _ => by kernel_rfl
theorem sizeOf_place : ∀ w, (Go.sizeOf 48).run Tryz.prog w = .ok 2 w := fun _ => by kernel_rfl
theorem sort_any (w : World) (base : Nat) (v : Value) (ps : List (Nat × Nat)) (hrow : w.ownsRow base 48 2 v ps.length (encPs ps)) (hle : ps.length ≤ 768) :
    Calls Tryz.prog 82 #[v, .func (.func 83) #[] #[]] w fun e w' => e = .returned (.tuple #[]) ∧ ∃ ts, List.Perm ts ps ∧ ts.Pairwise (fun a b => ¬ PLt b a) ∧ w'.ownsRow base 48 2 v ts.length (encPs ts) ∧ Grew w v w' v := by
  rcases hrow.2 with ⟨hnil, h0⟩ | ⟨g, cap, cur, rfl, hbase, hb, h1, h2, h3, h4⟩
  · obtain rfl : ps = [] := List.length_eq_zero_iff.1 h0
    subst hnil
    have hcon := AnyF.slices_SortFunc_none Tryz.sortP none 0 (.func (.func 83) #[] #[]) w
    change Calls Tryz.prog 82 _ _ _ at hcon
    refine hcon.mono ?_
    rintro e w' ⟨rfl, rfl⟩
    exact ⟨rfl, [], List.Perm.refl _, List.Pairwise.nil, hrow, Grew.refl _ _⟩
  · have hcon := AnyQ.slices_SortFunc_total Tryz.sortP 2 isAgg_place sizeOf_place encP (fun _ => rfl) encP_one cp swo_cp 83 #[] g 0 cap ps.toArray w enters_cp (cmpLays g 0 _ w) (holdsK_own hb h4) (Array.getElem?_eq_some_iff.1 hb).1 (by simp; omega) tot_cp
    change Calls Tryz.prog 82 _ _ _ at hcon
    rw [show ps.toArray.size = ps.length by simp] at hcon
    refine hcon.mono ?_
    rintro e w' ⟨rfl, n, os, rfl⟩
    have hp : (ps.toArray.toList.mergeSort fun x y => !ltOf cp y x).Perm ps := List.mergeSort_perm _ _
    refine ⟨rfl, _, hp, ?_, ?_, grew_sorted _⟩
    · refine List.Pairwise.imp (fun {a b} h => ?_) (List.pairwise_mergeSort (le := fun x y => !ltOf cp y x) (fun a b c h1 h2 => ?_) (fun a b => ?_) ps)
      · simp only [Bool.not_eq_true', lt_cp, decide_eq_false_iff_not, cp_neg] at h
        exact h
      · simp only [Bool.not_eq_true'] at h1 h2 ⊢
        exact swo_cp.ntrans _ _ _ h2 h1
      · by_cases h : ltOf cp b a = true
        · have := swo_cp.trans b a b
          rw [show ltOf cp a b = false by
            cases e : ltOf cp a b with
            | false => rfl
            | true => have := swo_cp.trans _ _ _ h e; rw [swo_cp.irrefl] at this; cases this]
          simp
        · simp [Bool.not_eq_true _ ▸ h]
    · rw [hp.length_eq]
      exact ownsRow_sortedK hp.length_eq hbase hb h1 h2 h3
end Go.Proofs.YteacmcdmdeckmaaGreat

namespace Go.Proofs.YteacmcdmdeckmaaGreat
open Go.RowKit Go.Shelf

theorem ext_grew {F F' : Nat → Prop} {a w w1 : World} (h : Ext F a F' w) {v v1 : Value} (hv : v.ownBlock = none) (k : Grew w v w1 v1) : Ext F a F' w1 :=
  ⟨⟨k.by'.os.trans h.mod.os, k.by'.tape.trans h.mod.tape, k.by'.output.trans h.mod.output, Nat.le_trans h.mod.size k.by'.size, fun b hb hf => (k.by'.block b (by have := h.mod.size; omega) (by rw [hv]; simp)).trans (h.mod.block b hb hf)⟩, h.new⟩
theorem plt_of {ts : List (Nat × Nat)} (h : ts.Pairwise (fun a b => ¬ PLt b a)) (hn : ts.Nodup) : ts.Pairwise PLt := by
  refine (h.and hn).imp (fun {a b} h => ?_)
  obtain ⟨h1, h2⟩ := h
  unfold PLt at *
  by_cases e : a.1 = b.1
  · by_cases e2 : a.2 = b.2
    · exact absurd (Prod.ext e e2) h2
    · omega
  · omega
set_option maxHeartbeats 1600000 in
theorem revokeNone_any (w : World) (F : Nat → Prop) (B : Nat) (bk : List (Option Lst)) (h : Book w F B bk) (e s : Int) (hn : atB bk e s = none) :
    Calls Tryz.prog 59 #[.pointer (some ⟨B, 0, none⟩), .int .i64 e, .int .i64 s] w fun x w' => x = .returned (.tuple #[.slice none 0 0, .int .i64 (lcode bk e s)]) ∧ Below w.heap.size w w' := by
  have HL := hide (look_any w F B bk h e s)
  have hc : (lcode bk e s != 0) = true := by rcases lcode_none hn with h | h <;> rw [h] <;> decide
  rw [hn] at HL
  generalize lcode bk e s = c at *
  simp only [Rc.val, Rc.zero, Option.getD_none] at *
  clear h hn
  go_enter Tryz.func59, Tryz.ntmps59
  go_wp2_with fail
  refine HL.out.mono ?_
  rintro e1 w1 ⟨rfl, hb1⟩
  have HB := hide hb1
  clear hb1 HL
  go_wp2
  go_ret2
  exact ⟨rfl, HB.out.alloc HB.out.size _⟩
set_option maxHeartbeats 3200000 in
theorem revokeSome_any (w : World) (F : Nat → Prop) (B : Nat) (bk : List (Option Lst)) (h : Book w F B bk) (f : Int → Int → Nat) (hf : Rk bk f) (i j : Nat) (r : Rc) (hn : atB bk (i : Int) (j : Int) = some r) :
    Calls Tryz.prog 59 #[.pointer (some ⟨B, 0, none⟩), .int .i64 (i : Int), .int .i64 (j : Int)] w fun x w' => ∃ v ps n, x = .returned (.tuple #[v, .int .i64 0]) ∧ Dep n bk (i, j) ∧ ps.Pairwise PLt ∧ List.Perm ps (bel n bk (i, j)) ∧ w'.ownsRow w.heap.size 78 6 v ps.length (encT bk ps) ∧ Book w' F B (rmv bk ps) ∧ Ext F w F w' := by
  obtain ⟨M, hM⟩ := rk_top bk f
  have HD := hide (dep_of hf hM (M + 1) (i, j) (by omega))
  have HNd := hide (bel_nodup hf (M + 1) (i, j))
  have HLe := hide (bel_le h hf (M + 1) (i, j))
  have HMem : Hid (∀ p ∈ bel (M + 1) bk (i, j), ∃ r, atB bk (p.1 : Int) (p.2 : Int) = some r) := hide (fun p hp => bel_mem _ hp)
  have HL := hide (look_any w F B bk h i j)
  rw [hn, lcode_some hn] at HL
  simp only [Rc.val, Option.getD_some] at HL
  have HBk := hide h
  have HFl := hide h.lt
  clear h hn hM hf
  generalize M + 1 = n at *
  go_enter Tryz.func59, Tryz.ntmps59
  go_wp2_with fail
  refine HL.out.mono ?_
  rintro e1 w1 ⟨rfl, hb1⟩
  have hb2 := hb1.alloc hb1.size (.cells #[.int .i64 r.k, .int .i64 r.o, .int .i64 r.s, .int .i64 r.r, .int .i64 r.e, .int .i64 r.t] 65)
  have HB2 := hide hb2
  have H2 := hide (HBk.out.below hb2)
  clear hb1 hb2 HL
  go_upto_region 4 with fail
  generalize w1.alloc (.cells #[.int .i64 r.k, .int .i64 r.o, .int .i64 r.s, .int .i64 r.r, .int .i64 r.e, .int .i64 r.t] 65) = w2 at *
  go_wp2_with fail
  refine (below_any n w2 F B bk H2.out i j HD.out w.heap.size (.slice none 0 0) [] HB2.out.size ⟨rfl, .inl ⟨rfl, rfl⟩⟩ HFl.out (by rw [List.nil_append]; exact HLe.out)).mono ?_
  rintro e1 w3 ⟨v3, rfl, ho3, hg3⟩
  rw [List.nil_append] at ho3
  have HO3 := hide ho3
  have HE3 := hide (ext_grew (Ext.of_below (F := F) HB2.out) rfl hg3)
  have H3 : Hid (Book w3 F B bk) := hide (hg3.book (n := w.heap.size) (e := 48) (s := 2) (m := 0) (xs := []) H2.out HFl.out ⟨rfl, .inl ⟨rfl, rfl⟩⟩)
  clear ho3 hg3 H2 HB2
  go_wp2_with fail
  refine (sort_any w3 w.heap.size v3 _ HO3.out HLe.out).mono ?_
  rintro e1 w4 ⟨rfl, ts, hp, hs, ho4, hg4⟩
  have HE4 := hide (ext_own HE3.out HO3.out hg4.by')
  have H4 := hide (hg4.book H3.out HFl.out HO3.out)
  have HO4 := hide ho4
  have HP := hide hp
  have HS := hide (plt_of hs (hp.nodup_iff.2 HNd.out))
  have HT := hide (hp.nodup_iff.2 HNd.out)
  have hl4 : ts.length ≤ 768 := by rw [hp.length_eq]; exact HLe.out
  have HM4 : Hid (∀ p ∈ ts, ∃ r, atB bk (p.1 : Int) (p.2 : Int) = some r) := hide (fun p hq => HMem.out p (hp.mem_iff.1 hq))
  clear hp hs ho4 hg4 HO3 HE3 H3
  go_wp2_with fail
  refine (take_any w4 F B bk H4.out ts HT.out HM4.out hl4 w.heap.size v3 HO4.out HFl.out).mono ?_
  rintro e1 w5 ⟨v5, rfl, ho5, hB5, hE5⟩
  have K1 := hide (own_base ho5 HE4.out.mod.size)
  have K2 := hide hB5
  have K3 := hide (HE4.out.trans hE5)
  clear ho5 hB5 hE5
  go_wp2
  go_ret2
  exact ⟨_, ts, n, rfl, HD.out, HS.out, HP.out, K1.out, K2.out, K3.out⟩
end Go.Proofs.YteacmcdmdeckmaaGreat

namespace Go.Proofs.YteacmcdmdeckmaaGreat
open Go.RowKit Go.Shelf

/-- a step that may change something -/
structure Opr where
  q : Int
  e : Int
  s : Int
  t : Int
  a : Int
  r : Int
  ck : Int
  co : Int
  cs : Int
  cr : Int
def Opr.val (o : Opr) (two : Bool) (ins : Value) : Value := .agg #[.bool two, .int .i64 o.q, .int .i64 o.e, .int .i64 o.s, .int .i64 o.t, .int .i64 o.a, .int .i64 o.r, .int .i64 o.ck, .int .i64 o.co, .int .i64 o.cs, .int .i64 o.cr, ins]
def Step (o : Opr) (bk : List (Option Lst)) : List (Option Lst) → Prop := fun z0 => ∀ M : List (Option Lst) → Prop, ((∀ k : Nat, 1 ≤ k → k ≤ 7 → o.q ≠ k) → M bk) → (∀ {c : Int} {bk' : List (Option Lst)}, o.q = 1 → OpenR bk o.e c bk' → M bk') → (o.q = 2 → look bk o.e = .none → M bk) → (∀ {i : Nat} {l : Lst} {bk' : List (Option Lst)}, o.q = 2 → o.e = i → bk[i]? = some (some l) → Drops (plc i (prs l 0)) bk bk' → M (bk'.set i .none)) → (∀ {v c : Int} {bk' : List (Option Lst)}, o.q = 3 → MintR bk o.e o.a o.ck o.co o.cs o.cr v c bk' → M bk') → (∀ {v c : Int} {bk' : List (Option Lst)}, o.q = 4 → DeriveR bk o.e o.s o.t o.a o.r v c bk' → M bk') → (o.q = 5 → atB bk o.e o.s = .none → M bk) → (∀ {i j : Nat} {r : Rc} {bk' : List (Option Lst)}, o.q = 5 → o.e = i → o.s = j → atB bk (i : Int) (j : Int) = some r → DropR bk i j r bk' → M bk') → (o.q = 6 → atB bk o.e o.s = .none → M bk) → (∀ {i j : Nat} {r : Rc} {n : Nat} {ps : List (Nat × Nat)}, o.q = 6 → o.e = i → o.s = j → atB bk (i : Int) (j : Int) = some r → Dep n bk (i, j) → ps.Pairwise PLt → List.Perm ps (bel n bk (i, j)) → M (rmv bk ps)) → (o.q = 7 → M (rmv bk (pls (fun r => decide (r.k = o.ck) && decide (r.o = o.co)) bk))) → M z0
theorem Step.none {o : Opr} {bk : List (Option Lst)} (h0 : (∀ k : Nat, 1 ≤ k → k ≤ 7 → o.q ≠ k)) : Step o bk bk := fun _ c0 _ _ _ _ _ _ _ _ _ _ => c0 h0
theorem Step.opn {o : Opr} {bk : List (Option Lst)} {c : Int} {bk' : List (Option Lst)} (h0 : o.q = 1) (h1 : OpenR bk o.e c bk') : Step o bk bk' := fun _ _ c1 _ _ _ _ _ _ _ _ _ => c1 h0 h1
theorem Step.shut0 {o : Opr} {bk : List (Option Lst)} (h0 : o.q = 2) (h1 : look bk o.e = .none) : Step o bk bk := fun _ _ _ c2 _ _ _ _ _ _ _ _ => c2 h0 h1
theorem Step.shut {o : Opr} {bk : List (Option Lst)} {i : Nat} {l : Lst} {bk' : List (Option Lst)} (h0 : o.q = 2) (h1 : o.e = i) (h2 : bk[i]? = some (some l)) (h3 : Drops (plc i (prs l 0)) bk bk') : Step o bk (bk'.set i .none) := fun _ _ _ _ c3 _ _ _ _ _ _ _ => c3 h0 h1 h2 h3
theorem Step.mint {o : Opr} {bk : List (Option Lst)} {v c : Int} {bk' : List (Option Lst)} (h0 : o.q = 3) (h1 : MintR bk o.e o.a o.ck o.co o.cs o.cr v c bk') : Step o bk bk' := fun _ _ _ _ _ c4 _ _ _ _ _ _ => c4 h0 h1
theorem Step.derive {o : Opr} {bk : List (Option Lst)} {v c : Int} {bk' : List (Option Lst)} (h0 : o.q = 4) (h1 : DeriveR bk o.e o.s o.t o.a o.r v c bk') : Step o bk bk' := fun _ _ _ _ _ _ c5 _ _ _ _ _ => c5 h0 h1
theorem Step.drop0 {o : Opr} {bk : List (Option Lst)} (h0 : o.q = 5) (h1 : atB bk o.e o.s = .none) : Step o bk bk := fun _ _ _ _ _ _ _ c6 _ _ _ _ => c6 h0 h1
theorem Step.drop {o : Opr} {bk : List (Option Lst)} {i j : Nat} {r : Rc} {bk' : List (Option Lst)} (h0 : o.q = 5) (h1 : o.e = i) (h2 : o.s = j) (h3 : atB bk (i : Int) (j : Int) = some r) (h4 : DropR bk i j r bk') : Step o bk bk' := fun _ _ _ _ _ _ _ _ c7 _ _ _ => c7 h0 h1 h2 h3 h4
theorem Step.revoke0 {o : Opr} {bk : List (Option Lst)} (h0 : o.q = 6) (h1 : atB bk o.e o.s = .none) : Step o bk bk := fun _ _ _ _ _ _ _ _ _ c8 _ _ => c8 h0 h1
theorem Step.revoke {o : Opr} {bk : List (Option Lst)} {i j : Nat} {r : Rc} {n : Nat} {ps : List (Nat × Nat)} (h0 : o.q = 6) (h1 : o.e = i) (h2 : o.s = j) (h3 : atB bk (i : Int) (j : Int) = some r) (h4 : Dep n bk (i, j)) (h5 : ps.Pairwise PLt) (h6 : List.Perm ps (bel n bk (i, j))) : Step o bk (rmv bk ps) := fun _ _ _ _ _ _ _ _ _ _ c9 _ => c9 h0 h1 h2 h3 h4 h5 h6
theorem Step.purge {o : Opr} {bk : List (Option Lst)} (h0 : o.q = 7) : Step o bk (rmv bk (pls (fun r => decide (r.k = o.ck) && decide (r.o = o.co)) bk)) := fun _ _ _ _ _ _ _ _ _ _ _ c10 => c10 h0
theorem Step.ind {o : Opr} {bk : List (Option Lst)} {motive : ∀ (z0 : List (Option Lst)), Step o bk z0 → Prop} (none : ∀ (h0 : (∀ k : Nat, 1 ≤ k → k ≤ 7 → o.q ≠ k)), motive bk (Step.none h0)) (opn : ∀ {c : Int} {bk' : List (Option Lst)} (h0 : o.q = 1) (h1 : OpenR bk o.e c bk'), motive bk' (Step.opn h0 h1)) (shut0 : ∀ (h0 : o.q = 2) (h1 : look bk o.e = .none), motive bk (Step.shut0 h0 h1)) (shut : ∀ {i : Nat} {l : Lst} {bk' : List (Option Lst)} (h0 : o.q = 2) (h1 : o.e = i) (h2 : bk[i]? = some (some l)) (h3 : Drops (plc i (prs l 0)) bk bk'), motive (bk'.set i .none) (Step.shut h0 h1 h2 h3)) (mint : ∀ {v c : Int} {bk' : List (Option Lst)} (h0 : o.q = 3) (h1 : MintR bk o.e o.a o.ck o.co o.cs o.cr v c bk'), motive bk' (Step.mint h0 h1)) (derive : ∀ {v c : Int} {bk' : List (Option Lst)} (h0 : o.q = 4) (h1 : DeriveR bk o.e o.s o.t o.a o.r v c bk'), motive bk' (Step.derive h0 h1)) (drop0 : ∀ (h0 : o.q = 5) (h1 : atB bk o.e o.s = .none), motive bk (Step.drop0 h0 h1)) (drop : ∀ {i j : Nat} {r : Rc} {bk' : List (Option Lst)} (h0 : o.q = 5) (h1 : o.e = i) (h2 : o.s = j) (h3 : atB bk (i : Int) (j : Int) = some r) (h4 : DropR bk i j r bk'), motive bk' (Step.drop h0 h1 h2 h3 h4)) (revoke0 : ∀ (h0 : o.q = 6) (h1 : atB bk o.e o.s = .none), motive bk (Step.revoke0 h0 h1)) (revoke : ∀ {i j : Nat} {r : Rc} {n : Nat} {ps : List (Nat × Nat)} (h0 : o.q = 6) (h1 : o.e = i) (h2 : o.s = j) (h3 : atB bk (i : Int) (j : Int) = some r) (h4 : Dep n bk (i, j)) (h5 : ps.Pairwise PLt) (h6 : List.Perm ps (bel n bk (i, j))), motive (rmv bk ps) (Step.revoke h0 h1 h2 h3 h4 h5 h6)) (purge : ∀ (h0 : o.q = 7), motive (rmv bk (pls (fun r => decide (r.k = o.ck) && decide (r.o = o.co)) bk)) (Step.purge h0)) {z0 : List (Option Lst)} (h : Step o bk z0) : motive z0 h := by
  refine Exists.elim (h (fun z0 => ∃ h : Step o bk z0, motive z0 h) ?_ ?_ ?_ ?_ ?_ ?_ ?_ ?_ ?_ ?_ ?_) (fun _ p => p)
  · rintro h0; exact ⟨Step.none h0, none h0⟩
  · rintro c bk' h0 h1; exact ⟨Step.opn h0 h1, opn h0 h1⟩
  · rintro h0 h1; exact ⟨Step.shut0 h0 h1, shut0 h0 h1⟩
  · rintro i l bk' h0 h1 h2 h3; exact ⟨Step.shut h0 h1 h2 h3, shut h0 h1 h2 h3⟩
  · rintro v c bk' h0 h1; exact ⟨Step.mint h0 h1, mint h0 h1⟩
  · rintro v c bk' h0 h1; exact ⟨Step.derive h0 h1, derive h0 h1⟩
  · rintro h0 h1; exact ⟨Step.drop0 h0 h1, drop0 h0 h1⟩
  · rintro i j r bk' h0 h1 h2 h3 h4; exact ⟨Step.drop h0 h1 h2 h3 h4, drop h0 h1 h2 h3 h4⟩
  · rintro h0 h1; exact ⟨Step.revoke0 h0 h1, revoke0 h0 h1⟩
  · rintro i j r n ps h0 h1 h2 h3 h4 h5 h6; exact ⟨Step.revoke h0 h1 h2 h3 h4 h5 h6, revoke h0 h1 h2 h3 h4 h5 h6⟩
  · rintro h0; exact ⟨Step.purge h0, purge h0⟩
theorem look_open {bk : List (Option Lst)} {e : Int} {l : Lst} (h : look bk e = some l) : ∃ i : Nat, e = i ∧ bk[i]? = some (some l) := by
  unfold look at h
  split at h
  · cases h
  · refine ⟨e.toNat, by omega, ?_⟩
    cases hb : bk[e.toNat]? with
    | none => rw [hb] at h; cases h
    | some o => rw [hb] at h; simp at h; rw [h]
theorem cells12 {w : World} {b : Nat} {x0 x1 x2 x3 x4 x5 x6 x7 x8 x9 xa xb : Value} {t : TypeId} (h : w.heap[b]? = some (.cells #[x0, x1, x2, x3, x4, x5, x6, x7, x8, x9, xa, xb] t (0, 0))) :
    w.cell? ⟨b, 1, none⟩ = some x1 ∧ w.cell? ⟨b, 2, none⟩ = some x2 ∧ w.cell? ⟨b, 3, none⟩ = some x3 ∧ w.cell? ⟨b, 4, none⟩ = some x4 ∧ w.cell? ⟨b, 5, none⟩ = some x5 ∧ w.cell? ⟨b, 6, none⟩ = some x6 ∧ w.cell? ⟨b, 7, none⟩ = some x7 ∧ w.cell? ⟨b, 8, none⟩ = some x8 ∧ w.cell? ⟨b, 9, none⟩ = some x9 ∧ w.cell? ⟨b, 10, none⟩ = some xa := by
  simp [World.cell?, h]
end Go.Proofs.YteacmcdmdeckmaaGreat

namespace Go.Proofs.YteacmcdmdeckmaaGreat
open Go.RowKit Go.Shelf

/-- what a parent is to its child -/
def Par (p r : Rc) : Prop := p.k = r.k ∧ p.o = r.o ∧ p.s = r.s ∧ okR r.r p = true
def Rt (r : Rc) : Prop := 0 ≤ r.r ∧ r.r ≤ 15
theorem ok16 : ∀ a b c : Fin 16, (bits .andNot .i64 (bits .or .i64 (a.val : Int) 4) (b.val : Int) == 0) = true → (bits .andNot .i64 (bits .or .i64 (b.val : Int) 4) (c.val : Int) == 0) = true → (bits .andNot .i64 (bits .or .i64 (a.val : Int) 4) (c.val : Int) == 0) = true := by decide
theorem okR_trans {x : Int} {q p : Rc} (hx : 0 ≤ x ∧ x ≤ 15) (hq : Rt q) (hp : Rt p) (h1 : okR x q = true) (h2 : okR q.r p = true) : okR x p = true := by
  have h := ok16 ⟨x.toNat, by omega⟩ ⟨q.r.toNat, by have := hq.1; have := hq.2; omega⟩ ⟨p.r.toNat, by have := hp.1; have := hp.2; omega⟩
  have e1 : ((x.toNat : Nat) : Int) = x := by omega
  have e2 : ((q.r.toNat : Nat) : Int) = q.r := by have := hq.1; omega
  have e3 : ((p.r.toNat : Nat) : Int) = p.r := by have := hp.1; omega
  simp only [e1, e2, e3] at h
  exact h h1 h2
theorem Par.trans {p q r : Rc} (hr : Rt r) (hq : Rt q) (hp : Rt p) (h : Par p q) (k : Par q r) : Par p r :=
  ⟨h.1.trans k.1, h.2.1.trans k.2.1, h.2.2.1.trans k.2.2.1, okR_trans hr hq hp k.2.2.2 h.2.2.2⟩
/-- all that is asked of a book -/
def Snd (bk : List (Option Lst)) (f : Int → Int → Nat) : Prop :=
  ∀ e s r, atB bk e s = some r → Rt r ∧ ((r.e = -1 ∧ r.t = -1) ∨ ∃ p, atB bk r.e r.t = some p ∧ Par p r ∧ f r.e r.t < f e s)
theorem Snd.rk {bk : List (Option Lst)} {f : Int → Int → Nat} (h : Snd bk f) : Rk bk f := fun e s r hr => by
  rcases (h e s r hr).2 with h1 | ⟨p, h1, _, h2⟩
  · exact .inl h1
  · exact .inr ⟨⟨p, h1⟩, h2⟩
/-- where no child stays of one that goes -/
theorem Snd.rmv {bk : List (Option Lst)} {f : Int → Int → Nat} (h : Snd bk f) {ps : List (Nat × Nat)} (hn : ps.Nodup) (hex : ∀ p ∈ ps, ∃ r, atB bk (p.1 : Int) (p.2 : Int) = some r)
    (hcl : ∀ p ∈ ps, ∀ (a b : Nat) (r : Rc), atB bk (a : Int) (b : Int) = some r → r.e = (p.1 : Int) → r.t = (p.2 : Int) → (a, b) ∈ ps) : Snd (rmv bk ps) f := by
  intro e s r hr
  obtain ⟨_, hat⟩ := rmv_at ps bk hn hex
  obtain ⟨i, j, _, rfl, rfl, _, _, _⟩ := atB_some hr
  rw [hat] at hr
  split at hr
  · cases hr
  · rename_i hni
    obtain ⟨h1, h2 | ⟨p, h2, h3, h4⟩⟩ := h _ _ _ hr
    · exact ⟨h1, .inl h2⟩
    · obtain ⟨i', j', _, e1, e2, _, _, _⟩ := atB_some h2
      refine ⟨h1, .inr ⟨p, ?_, h3, h4⟩⟩
      rw [e1, e2] at h2 ⊢
      rw [hat, if_neg]
      · exact h2
      · intro hin
        exact hni (hcl _ hin i j r hr e1 e2)
theorem bel_child {bk : List (Option Lst)} : ∀ (n : Nat) {p x c : Nat × Nat}, Dep n bk p → x ∈ bel n bk p → c ∈ pls (chP x.1 x.2) bk → c ∈ bel n bk p
  | 0, _, _, _, hd, _, _ => hd.elim
  | n + 1, p, x, c, hd, hx, hc => by
    obtain ⟨d, h1, h2⟩ := List.mem_flatMap.1 hx
    refine List.mem_flatMap.2 ⟨d, h1, ?_⟩
    have hdd : Dep n bk d := hd d h1
    rcases List.mem_cons.1 h2 with rfl | h2
    · refine List.mem_cons_of_mem _ ?_
      cases n with
      | zero => exact hdd.elim
      | succ n => exact List.mem_flatMap.2 ⟨c, hc, List.mem_cons_self⟩
    · exact List.mem_cons_of_mem _ (bel_child n hdd h2 hc)
theorem Snd.purge {bk : List (Option Lst)} {f : Int → Int → Nat} (h : Snd bk f) (k o : Int) : Snd (Go.Proofs.YteacmcdmdeckmaaGreat.rmv bk (pls (fun r => decide (r.k = k) && decide (r.o = o)) bk)) f := by
  refine h.rmv (pls_nodup _ _) (fun p hp => ?_) (fun p hp a b r hr e1 e2 => ?_)
  · obtain ⟨r, hr, _⟩ := mem_pls.1 (show (p.1, p.2) ∈ _ from hp)
    exact ⟨r, hr⟩
  · obtain ⟨q, hq, hq2⟩ := mem_pls.1 (show (p.1, p.2) ∈ _ from hp)
    obtain ⟨_, h2 | ⟨p', h2, h3, _⟩⟩ := h _ _ _ hr
    · omega
    · rw [e1, e2, hq] at h2
      cases h2
      refine mem_pls.2 ⟨r, hr, ?_⟩
      simp only [h3.1, h3.2.1] at hq2
      exact hq2
theorem Snd.revoke {bk : List (Option Lst)} {f : Int → Int → Nat} (h : Snd bk f) {i j n : Nat} {ps : List (Nat × Nat)} (hd : Dep n bk (i, j)) (hp : List.Perm ps (bel n bk (i, j))) : Snd (Go.Proofs.YteacmcdmdeckmaaGreat.rmv bk ps) f := by
  refine h.rmv (hp.nodup_iff.2 (bel_nodup h.rk n (i, j))) (fun p hq => bel_mem n (hp.mem_iff.1 hq)) (fun p hq a b r hr e1 e2 => hp.mem_iff.2 (bel_child n hd (hp.mem_iff.1 hq) ?_))
  exact mem_pls.2 ⟨r, hr, by simp [chP, e1, e2]⟩
end Go.Proofs.YteacmcdmdeckmaaGreat
