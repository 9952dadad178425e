import Derived.Test.YteacmcdmdeckmaaGreatR3
namespace Go.Proofs.YteacmcdmdeckmaaGreat
open Go.RowKit

def Rc.cap (r : Rc) : Value := .agg #[.int .i64 r.k, .int .i64 r.o, .int .i64 r.s, .int .i64 r.r]
theorem set4 {w : World} {b : Nat} {x0 x1 x2 x3 : Value} {t : TypeId} (h : w.heap[b]? = some (.cells #[x0, x1, x2, x3] t (0, 0))) (y0 y1 y2 y3 : Value) :
    ((((w.setCell ⟨b, 0, none⟩ y0).setCell ⟨b, 1, none⟩ y1).setCell ⟨b, 2, none⟩ y2).setCell ⟨b, 3, none⟩ y3).heap[b]? = some (.cells #[y0, y1, y2, y3] t (0, 0)) := by
  have h1 := heap_setCell_same _ b 0 _ _ y0 h
  have h2 := heap_setCell_same _ b 1 _ _ y1 h1
  have h3 := heap_setCell_same _ b 2 _ _ y2 h2
  have h4 := heap_setCell_same _ b 3 _ _ y3 h3
  rw [h4]; rfl
theorem ext_four {F F' : Nat → Prop} {a w : World} (h : Ext F a F' w) {b : Nat} (hb : a.heap.size ≤ b) (y0 y1 y2 y3 : Value) :
    Ext F a F' ((((w.setCell ⟨b, 0, none⟩ y0).setCell ⟨b, 1, none⟩ y1).setCell ⟨b, 2, none⟩ y2).setCell ⟨b, 3, none⟩ y3) :=
  ⟨(((h.mod.setCell (p := ⟨b, 0, none⟩) (.inr hb) _).setCell (p := ⟨b, 1, none⟩) (.inr hb) _).setCell (p := ⟨b, 2, none⟩) (.inr hb) _).setCell (p := ⟨b, 3, none⟩) (.inr hb) _, h.new⟩
theorem book_four {w : World} {F : Nat → Prop} {B : Nat} {bk : List (Option Lst)} (h : Book w F B bk) (b : Nat) (hb : ∀ x, F x → x ≠ b) (y0 y1 y2 y3 : Value) :
    Book ((((w.setCell ⟨b, 0, none⟩ y0).setCell ⟨b, 1, none⟩ y1).setCell ⟨b, 2, none⟩ y2).setCell ⟨b, 3, none⟩ y3) F B bk :=
  h.keep (by simp [World.setCell]) (fun x hx => by rw [heap_setCell_other _ _ x _ (hb x hx), heap_setCell_other _ _ x _ (hb x hx), heap_setCell_other _ _ x _ (hb x hx), heap_setCell_other _ _ x _ (hb x hx)])
theorem blk4f {w1 : World} {b : Nat} {x0 x1 x2 x3 : Value} {t : TypeId} (h : w1.heap[b]? = some (.cells #[x0, x1, x2, x3] t (0, 0))) :
    w1.frozen? ⟨b, 0, none⟩ = false ∧ w1.frozen? ⟨b, 1, none⟩ = false ∧ w1.frozen? ⟨b, 2, none⟩ = false ∧ w1.frozen? ⟨b, 3, none⟩ = false :=
  ⟨frozen_of_row _ _ _ _ _ h, frozen_of_row _ _ _ _ _ h, frozen_of_row _ _ _ _ _ h, frozen_of_row _ _ _ _ _ h⟩
theorem lcode_none {bk : List (Option Lst)} {e s : Int} (h : atB bk e s = none) : lcode bk e s = 83 ∨ lcode bk e s = 80 := by
  unfold lcode
  split
  · exact .inl rfl
  · rw [if_pos (by rw [h]; rfl)]; exact .inr rfl
theorem lcode_some {bk : List (Option Lst)} {e s : Int} {r : Rc} (h : atB bk e s = some r) : lcode bk e s = 0 := by
  obtain ⟨i, j, l, rfl, rfl, h1, h2, h3⟩ := atB_some h
  exact (lcode_held (l := l) (r := r) (by rw [look_nat, h1]; rfl) (by rw [look_nat, h2]; rfl)).1
set_option maxHeartbeats 3200000 in
theorem dropNone_any (w : World) (F : Nat → Prop) (B : Nat) (bk : List (Option Lst)) (h : Book w F B bk) (e s : Int) (hn : atB bk e s = none) :
    Calls Tryz.prog 57 #[.pointer (some ⟨B, 0, none⟩), .int .i64 e, .int .i64 s] w fun x w' => x = .returned (.tuple #[Rc.zero.cap, .int .i64 (lcode bk e s)]) ∧ Below w.heap.size w w' := by
  have hb0 := (Below.refl w.heap.size w).alloc (Nat.le_refl _) (.cells #[.int .i64 0, .int .i64 0, .int .i64 0, .int .i64 0] 28)
  have HL := hide (look_any _ F B bk (h.below hb0) e s)
  have hZ := heap_alloc_new w (.cells #[.int .i64 0, .int .i64 0, .int .i64 0, .int .i64 0] 28)
  have hc : (lcode bk e s != 0) = true := by rcases lcode_none hn with h | h <;> rw [h] <;> decide
  rw [hn] at HL
  generalize lcode bk e s = c at *
  simp only [Rc.val, Rc.zero, Rc.cap, Option.getD_none] at *
  have HB0 := hide hb0
  clear h hb0 hn
  go_enter Tryz.func57, Tryz.ntmps57
  go_wp2_with fail
  generalize hgw : w.alloc (.cells #[.int .i64 0, .int .i64 0, .int .i64 0, .int .i64 0] 28) = w0 at *
  clear hgw
  refine HL.out.mono ?_
  rintro e1 w1 ⟨rfl, hb1⟩
  have hlt := (Array.getElem?_eq_some_iff.1 hZ).1
  have hZ1 := (hb1.block w.heap.size hlt).trans hZ
  have hb1' := HB0.out.trans (hb1.mono HB0.out.size)
  clear hb1 HL hZ
  go_upto_region 3 with fail
  have hZ2 := (Below.heap_alloc w1 (.cells #[.int .i64 0, .int .i64 0, .int .i64 0, .int .i64 0, .int .i64 0, .int .i64 0] 65) w.heap.size (Array.getElem?_eq_some_iff.1 hZ1).1).trans hZ1
  have HB2 := hide (hb1'.alloc hb1'.size (.cells #[.int .i64 0, .int .i64 0, .int .i64 0, .int .i64 0, .int .i64 0, .int .i64 0] 65))
  generalize w1.alloc (.cells #[.int .i64 0, .int .i64 0, .int .i64 0, .int .i64 0, .int .i64 0, .int .i64 0] 65) = w2 at *
  obtain ⟨d0, d1, d2, d3⟩ := blk4 hZ2
  obtain ⟨f0, f1, f2, f3⟩ := blk4f hZ2
  have HS := hide (fun a b c d => set4 hZ2 a b c d)
  clear hZ1 hZ2 hb1'
  go_wp2
  refine bodyPost_ret (results_row2 rfl _ _ w.heap.size 28 #[.int .i64 0, .int .i64 0, .int .i64 0, .int .i64 0] (0, 0) _ rfl (HS.out _ _ _ _) Tryz.underlying28 rfl (by kernel_rfl)) rfl ?_
  exact ⟨rfl, (((HB2.out.setCell (p := ⟨w.heap.size, 0, none⟩) (Nat.le_refl _) _).setCell (p := ⟨w.heap.size, 1, none⟩) (Nat.le_refl _) _).setCell (p := ⟨w.heap.size, 2, none⟩) (Nat.le_refl _) _).setCell (p := ⟨w.heap.size, 3, none⟩) (Nat.le_refl _) _⟩
set_option maxHeartbeats 3200000 in
theorem dropSome_any (w : World) (F : Nat → Prop) (B : Nat) (bk : List (Option Lst)) (h : Book w F B bk) (i j : Nat) (r : Rc) (hn : atB bk (i : Int) (j : Int) = some r) :
    Calls Tryz.prog 57 #[.pointer (some ⟨B, 0, none⟩), .int .i64 (i : Int), .int .i64 (j : Int)] w fun x w' => x = .returned (.tuple #[r.cap, .int .i64 0]) ∧ ∃ bk', Book w' F B bk' ∧ Ext F w F w' ∧ DropR bk i j r bk' := by
  have hb0 := (Below.refl w.heap.size w).alloc (Nat.le_refl _) (.cells #[.int .i64 0, .int .i64 0, .int .i64 0, .int .i64 0] 28)
  have HL := hide (look_any _ F B bk (h.below hb0) i j)
  have hZ := heap_alloc_new w (.cells #[.int .i64 0, .int .i64 0, .int .i64 0, .int .i64 0] 28)
  rw [hn, lcode_some hn] at HL
  simp only [Rc.val, Rc.cap, Option.getD_some] at *
  have HB0 := hide hb0
  have H0 := hide (h.below hb0)
  have HFl := hide h.lt
  have HN := hide hn
  clear h hb0 hn
  go_enter Tryz.func57, Tryz.ntmps57
  go_wp2_with fail
  generalize hgw : w.alloc (.cells #[.int .i64 0, .int .i64 0, .int .i64 0, .int .i64 0] 28) = w0 at *
  clear hgw
  refine HL.out.mono ?_
  rintro e1 w1 ⟨rfl, hb1⟩
  have hlt := (Array.getElem?_eq_some_iff.1 hZ).1
  have hZ1 := (hb1.block w.heap.size hlt).trans hZ
  have hb1' := HB0.out.trans (hb1.mono HB0.out.size)
  have H1 := hide (H0.out.below hb1)
  clear hb1 HL hZ H0
  go_upto_region 4 with fail
  have hlt1 := (Array.getElem?_eq_some_iff.1 hZ1).1
  have hZ2 := (Below.heap_alloc w1 (.cells #[.int .i64 r.k, .int .i64 r.o, .int .i64 r.s, .int .i64 r.r, .int .i64 r.e, .int .i64 r.t] 65) w.heap.size hlt1).trans hZ1
  have hX2 := heap_alloc_new w1 (.cells #[.int .i64 r.k, .int .i64 r.o, .int .i64 r.s, .int .i64 r.r, .int .i64 r.e, .int .i64 r.t] 65)
  have HB2 := hide (hb1'.alloc hb1'.size (.cells #[.int .i64 r.k, .int .i64 r.o, .int .i64 r.s, .int .i64 r.r, .int .i64 r.e, .int .i64 r.t] 65))
  have H2 := hide (H1.out.below ((Below.refl _ _).alloc (Nat.le_refl _) (.cells #[.int .i64 r.k, .int .i64 r.o, .int .i64 r.s, .int .i64 r.r, .int .i64 r.e, .int .i64 r.t] 65)))
  generalize hgw : w1.alloc (.cells #[.int .i64 r.k, .int .i64 r.o, .int .i64 r.s, .int .i64 r.r, .int .i64 r.e, .int .i64 r.t] 65) = w2 at *
  clear hgw hZ1 hb1' H1
  generalize w1.heap.size = n1 at *
  go_wp2_with fail
  refine (drop_any w2 F B bk H2.out i j r HN.out).mono ?_
  rintro e1 w3 ⟨rfl, bk', hB3, hE3, hD3⟩
  have hZ3 := (hE3.mod.block w.heap.size (Array.getElem?_eq_some_iff.1 hZ2).1 (fun hf => by have := HFl.out _ hf; omega)).trans hZ2
  have hX3 := (hE3.mod.block n1 (Array.getElem?_eq_some_iff.1 hX2).1 (fun hf => by have := HFl.out _ hf; omega)).trans hX2
  have K1 := hide hB3
  have K2 := hide ((Ext.of_below (F := F) HB2.out).trans hE3)
  have K3 := hide hD3
  clear hB3 hE3 hD3 H2 HB2 hZ2 hX2
  obtain ⟨d0, d1, d2, d3⟩ := blk4 hZ3
  obtain ⟨f0, f1, f2, f3⟩ := blk4f hZ3
  obtain ⟨x0, x1, x2, x3, -, -, -, -, -, -, -, -⟩ := blk6 hX3
  have HS := hide (fun a b c d => set4 hZ3 a b c d)
  clear hZ3 hX3
  go_wp2
  refine bodyPost_ret (results_row2 rfl _ _ w.heap.size 28 #[.int .i64 r.k, .int .i64 r.o, .int .i64 r.s, .int .i64 r.r] (0, 0) _ rfl (HS.out _ _ _ _) Tryz.underlying28 rfl (by kernel_rfl)) rfl ?_
  exact ⟨rfl, bk', book_four K1.out w.heap.size (fun x hx => by have := HFl.out x hx; omega) _ _ _ _, ext_four K2.out (Nat.le_refl _) _ _ _ _, K3.out⟩
set_option maxHeartbeats 1600000 in
theorem room_any (w : World) (F : Nat → Prop) (B : Nat) (bk : List (Option Lst)) (h : Book w F B bk) (i : Nat) (l : Lst) (hl : bk[i]? = some (some l)) :
    Calls Tryz.prog 22 #[.pointer (some ⟨B, 0, none⟩), .int .i64 (i : Int)] w fun x w' => x = .returned (.int .i64 (48 - ((l.countP Option.isSome : Nat) : Int))) ∧ w' = w := by
  obtain ⟨T, G, m, fs, h⟩ := h
  have c0 := h.cell
  obtain ⟨b, hm, hlm, h48, hTl⟩ := h.open' hl
  have HG := hide (getL_any _ G T m h.tab i)
  rw [hlm] at HG
  simp only [ptr, Option.isSome_some] at HG
  have HBd := hide (boundR_any _ (fs i) b l hTl)
  have HLn := hide (lenR_any _ (fs i) b l hTl)
  rw [h48] at HBd
  have hcn : l.countP Option.isSome ≤ 48 := by rw [← h48]; exact count_le
  clear h hm hlm h48 hTl hl
  generalize l.countP Option.isSome = cn at *
  have hw : IntKind.i64.wrap (((48 : Nat) : Int) - (cn : Int)) = 48 - (cn : Int) := by simp [IntKind.wrap, IntKind.signed, IntKind.bits]; omega
  go_enter Tryz.func22, Tryz.ntmps22
  go_wp2_with fail
  refine HG.out.mono ?_
  rintro e1 w1 ⟨rfl, rfl⟩
  go_wp2_with fail
  refine HBd.out.mono ?_
  rintro e1 w1 ⟨rfl, rfl⟩
  go_wp2_with fail
  refine HLn.out.mono ?_
  rintro e1 w1 ⟨rfl, rfl⟩
  go_wp2
  go_ret
  exact ⟨rfl, rfl⟩
set_option maxHeartbeats 1600000 in
theorem on_any (w : World) (F : Nat → Prop) (B : Nat) (bk : List (Option Lst)) (h : Book w F B bk) (k o : Int) :
    Calls Tryz.prog 20 #[.pointer (some ⟨B, 0, none⟩), .int .i64 k, .int .i64 o] w fun x w' => x = .returned (.int .i64 (((pls (fun r => decide (r.k = k) && decide (r.o = o)) bk).length : Nat) : Int)) ∧ Below w.heap.size w w' := by
  have H := hide h
  clear h
  go_enter Tryz.func20, Tryz.ntmps20
  go_wp2_with fail
  refine (same_object w k o).mono ?_
  rintro e w4 ⟨rfl, hf4, hv4, hb4⟩
  go_wp2_with fail
  refine (places_any F B bk w4 (H.out.below hb4) 69 w.heap.size (w.heap.size + 1) _ _ _ (fits_object _ _ k o) hf4 hv4).mono ?_
  rintro e w5 ⟨v5, rfl, hrow, hb5⟩
  obtain ⟨a5, c5, rfl⟩ := own_shape hrow
  have HB := hide (hb4.trans (hb5.mono hb4.size))
  clear hrow hb5 hb4 hf4 hv4
  go_wp2
  go_ret
  exact ⟨rfl, HB.out⟩
end Go.Proofs.YteacmcdmdeckmaaGreat
