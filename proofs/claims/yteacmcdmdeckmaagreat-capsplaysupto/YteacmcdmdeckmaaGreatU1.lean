import Derived.Test.YteacmcdmdeckmaaGreatR6
import Derived.Deep.DeepCutAuto
namespace Go.Proofs.YteacmcdmdeckmaaGreat
open Go.RowKit

/-- a number that falls from child to parent; each parent is there -/
def Rk (bk : List (Option Lst)) (f : Int → Int → Nat) : Prop := ∀ e s r, atB bk e s = some r → (r.e = -1 ∧ r.t = -1) ∨ ((∃ r', atB bk r.e r.t = some r') ∧ f r.e r.t < f e s)
/-- going up from a place to the nearest one in the lists of ins -/
def Ups (bk : List (Option Lst)) (ins : Int → Bool) : Int → Int → Int → Int → Prop := fun z0 z1 z2 z3 => ∀ M : Int → Int → Int → Int → Prop, (M (-1) (-1) (-1) (-1)) → (∀ (e s : Int) (r : Rc), atB bk e s = some r → ins e = true → M e s e s) → (∀ (e s x y : Int) (r : Rc), atB bk e s = some r → ins e = false → M r.e r.t x y → M e s x y) → M z0 z1 z2 z3
theorem Ups.none {bk : List (Option Lst)} {ins : Int → Bool} : Ups bk ins (-1) (-1) (-1) (-1) := fun _ c0 _ _ => c0
theorem Ups.here {bk : List (Option Lst)} {ins : Int → Bool} (e s : Int) (r : Rc) (h0 : atB bk e s = some r) (h1 : ins e = true) : Ups bk ins e s e s := fun _ _ c1 _ => c1 e s r h0 h1
theorem Ups.up {bk : List (Option Lst)} {ins : Int → Bool} (e s x y : Int) (r : Rc) (h0 : atB bk e s = some r) (h1 : ins e = false) (h2 : Ups bk ins r.e r.t x y) : Ups bk ins e s x y := fun M c0 c1 c2 => c2 e s x y r h0 h1 (h2 M c0 c1 c2)
theorem Ups.ind {bk : List (Option Lst)} {ins : Int → Bool} {motive : ∀ (z0 : Int) (z1 : Int) (z2 : Int) (z3 : Int), Ups bk ins z0 z1 z2 z3 → Prop} (none : motive (-1) (-1) (-1) (-1) Ups.none) (here : ∀ (e s : Int) (r : Rc) (h0 : atB bk e s = some r) (h1 : ins e = true), motive e s e s (Ups.here e s r h0 h1)) (up : ∀ (e s x y : Int) (r : Rc) (h0 : atB bk e s = some r) (h1 : ins e = false) (h2 : Ups bk ins r.e r.t x y) (_ : motive r.e r.t x y h2), motive e s x y (Ups.up e s x y r h0 h1 h2)) {z0 : Int} {z1 : Int} {z2 : Int} {z3 : Int} (h : Ups bk ins z0 z1 z2 z3) : motive z0 z1 z2 z3 h := by
  refine Exists.elim (h (fun z0 z1 z2 z3 => ∃ h : Ups bk ins z0 z1 z2 z3, motive z0 z1 z2 z3 h) ?_ ?_ ?_) (fun _ p => p)
  · exact ⟨Ups.none, none⟩
  · rintro e s r h0 h1; exact ⟨Ups.here e s r h0 h1, here e s r h0 h1⟩
  · rintro e s x y r h0 h1 ⟨h2, ih2⟩; exact ⟨Ups.up e s x y r h0 h1 h2, up e s x y r h0 h1 h2 ih2⟩
/-- a slice of numbers that came in -/
def IsInts' (w : World) (a : Option Addr) (len : Nat) (Z : Nat → Int) : Prop := ∀ k, k < len → ∃ x, a = some x ∧ w.cell? (x.add k) = some (.int .i64 (Z k))
theorem cell_lt2 {w : World} {a : Addr} {v : Value} (h : w.cell? a = some v) : a.block < w.heap.size := by
  unfold World.cell? at h
  cases hb : w.heap[a.block]? with
  | none => rw [hb] at h; simp at h
  | some o => exact (Array.getElem?_eq_some_iff.1 hb).1
theorem IsInts'.at {w : World} {a : Option Addr} {len : Nat} {Z : Nat → Int} (h : IsInts' w a len Z) {k : Nat} (hk : k < len) : ∃ x, a = some x ∧ ∀ W, Below w.heap.size w W → W.cell? (x.add k) = some (.int .i64 (Z k)) := by
  obtain ⟨x, h1, h2⟩ := h k hk
  exact ⟨x, h1, fun W hW => (hW.cell (cell_lt2 h2)).trans h2⟩
/-- which lists stand among the first k -/
def insB (Z : Nat → Int) (k : Nat) : List Bool := (List.range 16).map (fun i : Nat => (List.range k).any (fun j => decide (Z j = (i : Int))))
theorem insB_len (Z : Nat → Int) (k : Nat) : (insB Z k).length = 16 := by simp [insB]
theorem insB_zero (Z : Nat → Int) : insB Z 0 = List.replicate 16 false := by simp [insB]; decide
theorem insB_get (Z : Nat → Int) (k i : Nat) (hi : i < 16) : (insB Z k)[i]? = some ((List.range k).any (fun j => decide (Z j = (i : Int)))) := by simp [insB, hi]
theorem insB_in (Z : Nat → Int) (k i : Nat) (hz : Z k = (i : Int)) : insB Z (k + 1) = (insB Z k).set i true := by
  apply List.ext_getElem?
  intro q
  rcases Nat.lt_or_ge q 16 with hq | hq
  · rw [insB_get _ _ _ hq, List.getElem?_set]
    by_cases e : i = q
    · subst e
      rw [if_pos rfl, if_pos (by rw [insB_len]; exact hq)]
      simp [List.range_succ, hz]
    · rw [if_neg e, insB_get _ _ _ hq]
      have : ¬ Z k = (q : Int) := by omega
      simp [List.range_succ, this]
  · rw [List.getElem?_eq_none (by rw [insB_len]; exact hq), List.getElem?_eq_none (by rw [List.length_set, insB_len]; exact hq)]
theorem insB_out (Z : Nat → Int) (k : Nat) (hz : ¬ (0 ≤ Z k ∧ Z k < 16)) : insB Z (k + 1) = insB Z k := by
  apply List.ext_getElem?
  intro q
  rcases Nat.lt_or_ge q 16 with hq | hq
  · rw [insB_get _ _ _ hq, insB_get _ _ _ hq]
    have : ¬ Z k = (q : Int) := by omega
    simp [List.range_succ, this]
  · rw [List.getElem?_eq_none (by rw [insB_len]; exact hq), List.getElem?_eq_none (by rw [insB_len]; exact hq)]
def insF (Z : Nat → Int) (len : Nat) (e : Int) : Bool := ((insB Z len)[e.toNat]?).getD false
theorem atB_lt {w : World} {F : Nat → Prop} {B : Nat} {bk : List (Option Lst)} (h : Book w F B bk) {e s : Int} {r : Rc} (hr : atB bk e s = some r) : ∃ i j : Nat, e = i ∧ s = j ∧ i < 16 ∧ j < 48 := by
  obtain ⟨i, j, l, h1, h2, h3, h4, _⟩ := atB_some hr
  refine ⟨i, j, h1, h2, ?_, ?_⟩
  · have := (List.getElem?_eq_some_iff.1 h3).1; rw [h.blen] at this; exact this
  · have := (List.getElem?_eq_some_iff.1 h4).1; rw [h.l48 h3] at this; exact this
/-- what lies on the heap beside the array of lists -/
structure UpAt (w wr : World) (n8 n10 n12 : Nat) (r : Rc) (ins : List Bool) : Prop where
  res : wr.heap[n8]? = some (.cells #[.int .i64 0, .int .i64 0] 48 (0, 0))
  rcd : wr.heap[n10]? = some (.cells #[.int .i64 r.k, .int .i64 r.o, .int .i64 r.s, .int .i64 r.r, .int .i64 r.e, .int .i64 r.t] 65 (0, 0))
  arr : wr.heap[n12]? = some (.cells (ins.map Value.bool).toArray 40 (0, 0))
  bel : Below w.heap.size w wr
  ne1 : n8 ≠ n12
  ne2 : n10 ≠ n12
  lo8 : w.heap.size ≤ n8
  lo : w.heap.size ≤ n12
theorem UpAt.store {w wr : World} {n8 n10 n12 : Nat} {r : Rc} {ins : List Bool} (h : UpAt w wr n8 n10 n12 r ins) (i : Nat) (t : Bool) : UpAt w (wr.setCell ⟨n12, i, none⟩ (.bool t)) n8 n10 n12 r (ins.set i t) := by
  refine ⟨(heap_setCell_other _ _ _ _ h.ne1).trans h.res, (heap_setCell_other _ _ _ _ h.ne2).trans h.rcd, ?_, h.bel.setCell (p := ⟨n12, i, none⟩) h.lo _, h.ne1, h.ne2, h.lo8, h.lo⟩
  rw [heap_setCell_same _ n12 i _ _ _ h.arr, List.map_set]
  simp
theorem UpAt.cell {w wr : World} {n8 n10 n12 : Nat} {r : Rc} {ins : List Bool} (h : UpAt w wr n8 n10 n12 r ins) {i : Nat} {t : Bool} (hi : ins[i]? = some t) : wr.cell? ⟨n12, i, none⟩ = some (.bool t) ∧ wr.frozen? ⟨n12, i, none⟩ = false :=
  ⟨by rw [cell_of_row _ _ _ _ _ _ h.arr]; simp [hi], frozen_of_row _ _ _ _ _ h.arr⟩
structure UpL (w wr : World) (n8 n12 n15 : Nat) (ins : List Bool) (pe pt : Int) : Prop where
  res : wr.heap[n8]? = some (.cells #[.int .i64 0, .int .i64 0] 48 (0, 0))
  arr : wr.heap[n12]? = some (.cells (ins.map Value.bool).toArray 40 (0, 0))
  pl : wr.heap[n15]? = some (.cells #[.int .i64 pe, .int .i64 pt] 48 (0, 0))
  bel : Below w.heap.size w wr
  ne1 : n8 ≠ n15
  ne2 : n12 ≠ n15
  lo8 : w.heap.size ≤ n8
  lo : w.heap.size ≤ n15
theorem UpL.below {w wr w' : World} {n8 n12 n15 : Nat} {ins : List Bool} {pe pt : Int} (h : UpL w wr n8 n12 n15 ins pe pt) (hb : Below wr.heap.size wr w') : UpL w w' n8 n12 n15 ins pe pt :=
  ⟨(hb.block n8 (Array.getElem?_eq_some_iff.1 h.res).1).trans h.res, (hb.block n12 (Array.getElem?_eq_some_iff.1 h.arr).1).trans h.arr, (hb.block n15 (Array.getElem?_eq_some_iff.1 h.pl).1).trans h.pl, h.bel.trans (hb.mono h.bel.size), h.ne1, h.ne2, h.lo8, h.lo⟩
theorem UpL.put {w wr : World} {n8 n12 n15 : Nat} {ins : List Bool} {pe pt : Int} (h : UpL w wr n8 n12 n15 ins pe pt) (x y : Int) : UpL w ((wr.setCell ⟨n15, 0, none⟩ (.int .i64 x)).setCell ⟨n15, 1, none⟩ (.int .i64 y)) n8 n12 n15 ins x y :=
  ⟨((heap_setCell_other _ _ _ _ h.ne1).trans (heap_setCell_other _ _ _ _ h.ne1)).trans h.res, ((heap_setCell_other _ _ _ _ h.ne2).trans (heap_setCell_other _ _ _ _ h.ne2)).trans h.arr, set2a h.pl _ _, (h.bel.setCell (p := ⟨n15, 0, none⟩) h.lo _).setCell (p := ⟨n15, 1, none⟩) h.lo _, h.ne1, h.ne2, h.lo8, h.lo⟩
theorem UpL.cell {w wr : World} {n8 n12 n15 : Nat} {ins : List Bool} {pe pt : Int} (h : UpL w wr n8 n12 n15 ins pe pt) {i : Nat} {t : Bool} (hi : ins[i]? = some t) : wr.cell? ⟨n12, i, none⟩ = some (.bool t) := by
  rw [cell_of_row _ _ _ _ _ _ h.arr]; simp [hi]
def upMeas (f : Int → Int → Nat) (n15 : Nat) (wr : World) : Nat := match wr.cell? ⟨n15, 0, none⟩, wr.cell? ⟨n15, 1, none⟩ with
  | some (.int _ e), some (.int _ s) => if e = -1 then 0 else f e s + 1
  | _, _ => 0
set_option maxRecDepth 8000 in
set_option maxHeartbeats 8000000 in
theorem upSome_any (w : World) (F : Nat → Prop) (B : Nat) (bk : List (Option Lst)) (h : Book w F B bk) (f : Int → Int → Nat) (hf : Rk bk f) (e s : Int) (r : Rc) (hr : atB bk e s = some r) (a : Option Addr) (len cap : Nat) (Z : Nat → Int) (hl : len ≤ maxLen) (hz : IsInts' w a len Z) :
    Calls Tryz.prog 13 #[.pointer (some ⟨B, 0, none⟩), .int .i64 e, .int .i64 s, .slice a len cap] w fun x w' => ∃ p q : Int, x = .returned (.tuple #[.agg #[.int .i64 p, .int .i64 q], .int .i64 0]) ∧ Ups bk (insF Z len) r.e r.t p q ∧ Below w.heap.size w w' := by
  have hb0 := (Below.refl w.heap.size w).alloc (Nat.le_refl _) (.cells #[.int .i64 0, .int .i64 0] 48)
  have HL := hide (look_any _ F B bk (h.below hb0) e s)
  have hZ := heap_alloc_new w (.cells #[.int .i64 0, .int .i64 0] 48)
  have HB0 := hide hb0
  have HK := hide h
  have HI := hide hz
  have HFr := hide hf
  have HRr := hide hr
  rw [hr, lcode_some hr] at HL
  simp only [Rc.val, Option.getD_some] at HL
  clear h hb0 hz hf hr
  go_enter Tryz.func13, Tryz.ntmps13
  go_wp2_with fail
  generalize hgw : w.alloc (.cells #[.int .i64 0, .int .i64 0] 48) = w0 at *
  clear hgw
  refine HL.out.mono ?_
  rintro e1 w1 ⟨rfl, hb1⟩
  have hlt := (Array.getElem?_eq_some_iff.1 hZ).1
  have hZ1 := (hb1.block w.heap.size hlt).trans hZ
  have hb1' := HB0.out.trans (hb1.mono HB0.out.size)
  clear hb1 HL hZ
  go_upto_region 5 with fail
  have hR2 := heap_alloc2_old w1 (.cells #[.int .i64 r.k, .int .i64 r.o, .int .i64 r.s, .int .i64 r.r, .int .i64 r.e, .int .i64 r.t] 65) (.cells #[.bool false, .bool false, .bool false, .bool false, .bool false, .bool false, .bool false, .bool false, .bool false, .bool false, .bool false, .bool false, .bool false, .bool false, .bool false, .bool false] 40)
  have hA2 := heap_alloc2_new w1 (.cells #[.int .i64 r.k, .int .i64 r.o, .int .i64 r.s, .int .i64 r.r, .int .i64 r.e, .int .i64 r.t] 65) (.cells #[.bool false, .bool false, .bool false, .bool false, .bool false, .bool false, .bool false, .bool false, .bool false, .bool false, .bool false, .bool false, .bool false, .bool false, .bool false, .bool false] 40)
  have hb2 := ((Below.refl w1.heap.size w1).alloc (Nat.le_refl _) (.cells #[.int .i64 r.k, .int .i64 r.o, .int .i64 r.s, .int .i64 r.r, .int .i64 r.e, .int .i64 r.t] 65)).alloc (by simp) (.cells #[.bool false, .bool false, .bool false, .bool false, .bool false, .bool false, .bool false, .bool false, .bool false, .bool false, .bool false, .bool false, .bool false, .bool false, .bool false, .bool false] 40)
  have HU : Hid (UpAt w ((w1.alloc (.cells #[.int .i64 r.k, .int .i64 r.o, .int .i64 r.s, .int .i64 r.r, .int .i64 r.e, .int .i64 r.t] 65)).alloc (.cells #[.bool false, .bool false, .bool false, .bool false, .bool false, .bool false, .bool false, .bool false, .bool false, .bool false, .bool false, .bool false, .bool false, .bool false, .bool false, .bool false] 40)) w.heap.size w1.heap.size (w1.heap.size + 1) r (insB Z 0)) := by
    have hlt1 := (Array.getElem?_eq_some_iff.1 hZ1).1
    have hge := hb1'.size
    rw [insB_zero]
    exact ⟨(hb2.block w.heap.size hlt1).trans hZ1, hR2, hA2, hb1'.trans (hb2.mono hge), by omega, by omega, Nat.le_refl _, by omega⟩
  generalize (w1.alloc (.cells #[.int .i64 r.k, .int .i64 r.o, .int .i64 r.s, .int .i64 r.r, .int .i64 r.e, .int .i64 r.t] 65)).alloc (.cells #[.bool false, .bool false, .bool false, .bool false, .bool false, .bool false, .bool false, .bool false, .bool false, .bool false, .bool false, .bool false, .bool false, .bool false, .bool false, .bool false] 40) = W0 at *
  generalize hn12 : w1.heap.size + 1 = n12 at *
  generalize w1.heap.size = n10 at *
  clear hR2 hA2 hb2 hZ1 hb1' hn12
  have hml : (len : Int) ≤ 9223372036854775807 := by unfold maxLen at hl; omega
  go_wp2_with fail
  go_loopw [31] (fun x wr => ∃ k : Nat, k ≤ len ∧ x = .int .i64 (k : Int) ∧ Hid (UpAt w wr w.heap.size n10 n12 r (insB Z k))) (fun x _ => len - (intOf x).toNat)
  case atStart => exact ⟨0, by omega, rfl, HU⟩
  case round =>
  obtain ⟨k, hk, rfl, K1⟩ := hrel
  clear HU
  by_cases hlt : k < len
  · obtain ⟨x, rfl, hx⟩ := HI.out.at hlt
    have cx := hx wr K1.out.bel
    have hki : (k : Int) < (len : Int) := by omega
    clear hx
    by_cases hr1 : 0 ≤ Z k
    · by_cases hr2 : Z k < 16
      · obtain ⟨d, hd⟩ : ∃ d : Nat, Z k = (d : Int) := ⟨(Z k).toNat, by omega⟩
        have hd16 : d < 16 := by omega
        obtain ⟨ct, ft⟩ := K1.out.cell (insB_get Z k d hd16)
        have K2 : Hid (UpAt w (wr.setCell ⟨n12, d, none⟩ (.bool true)) w.heap.size n10 n12 r (insB Z (k + 1))) := by
          rw [insB_in Z k d hd]; exact K1.out.store d true
        rw [hd] at cx
        have hd3 : (d : Int) < 16 := by omega
        clear K1 hr1 hr2 hd
        go_wp2
        go_roundw
        case rel =>
          first
            | exact ⟨k + 1, by omega, by go_num, K2⟩
            | ((repeat apply Exists.intro); refine ⟨?_, rfl⟩; exact ⟨k + 1, by omega, by go_num, K2⟩)
        case measure => simp [intOf]; omega
      · have K2 : Hid (UpAt w wr w.heap.size n10 n12 r (insB Z (k + 1))) := by rw [insB_out Z k (by omega)]; exact K1
        go_wp2
        go_roundw
        case rel =>
          first
            | exact ⟨k + 1, by omega, by go_num, K2⟩
            | ((repeat apply Exists.intro); refine ⟨?_, rfl⟩; exact ⟨k + 1, by omega, by go_num, K2⟩)
        case measure => simp [intOf]; omega
    · have K2 : Hid (UpAt w wr w.heap.size n10 n12 r (insB Z (k + 1))) := by rw [insB_out Z k (by omega)]; exact K1
      go_wp2
      go_roundw
      case rel =>
        first
          | exact ⟨k + 1, by omega, by go_num, K2⟩
          | ((repeat apply Exists.intro); refine ⟨?_, rfl⟩; exact ⟨k + 1, by omega, by go_num, K2⟩)
      case measure => simp [intOf]; omega
  have hd1 : decide ((k : Int) < (len : Int)) = false := by simp; omega
  have hd2 : decide (k < len) = false := by simp; omega
  have HU : Hid (UpAt w wr w.heap.size n10 n12 r (insB Z len)) := by
    have e : k = len := by omega
    rw [e] at K1
    exact K1
  obtain ⟨x0, x1, x2, x3, x4, x5, -, -, -, -, -, -⟩ := blk6 HU.out.rcd
  have HP := hide (parent_any wr r)
  simp only [Rc.val] at HP
  clear K1
  go_wp2_with fail
  refine HP.out.mono ?_
  rintro e1 w5 ⟨rfl, hb5⟩
  have hb6 := hb5.alloc hb5.size (.cells #[.int .i64 r.e, .int .i64 r.t] 48)
  have hN15 := heap_alloc_new w5 (.cells #[.int .i64 r.e, .int .i64 r.t] 48)
  have HV : Hid (UpL w (w5.alloc (.cells #[.int .i64 r.e, .int .i64 r.t] 48)) w.heap.size n12 w5.heap.size (insB Z len) r.e r.t) := by
    have h8 := (Array.getElem?_eq_some_iff.1 HU.out.res).1
    have h12 := (Array.getElem?_eq_some_iff.1 HU.out.arr).1
    have h5 := hb5.size
    exact ⟨(hb6.block _ h8).trans HU.out.res, (hb6.block _ h12).trans HU.out.arr, hN15, HU.out.bel.trans (hb6.mono HU.out.bel.size), by omega, by omega, Nat.le_refl _, by have := HU.out.bel.size; omega⟩
  clear hb5 hb6 hN15 HU x0 x1 x2 x3 x4 x5 HP hlt hd1 hd2 hk
  have HE0 : Hid ((r.e = -1 ∧ r.t = -1) ∨ ∃ r', atB bk r.e r.t = some r') := (HFr.out e s r HRr.out).imp id (fun h => h.1)
  go_wp2_with fail
  generalize w5.alloc (.cells #[.int .i64 r.e, .int .i64 r.t] 48) = w6 at *
  generalize w5.heap.size = n15 at *
  go_loopw [17] (fun _ wr => ∃ pe pt : Int, Hid (UpL w wr w.heap.size n12 n15 (insB Z len) pe pt) ∧ Hid ((pe = -1 ∧ pt = -1) ∨ ∃ r', atB bk pe pt = some r') ∧ Hid (∀ p q, Ups bk (insF Z len) pe pt p q → Ups bk (insF Z len) r.e r.t p q)) (fun _ wr => upMeas f n15 wr)
  case atStart => exact ⟨r.e, r.t, HV, HE0, fun p q h => h⟩
  case round =>
  obtain ⟨pe, pt, K1, K2, K3⟩ := hrel
  clear HV HE0
  obtain ⟨c0, c1, f0, f1⟩ := blk2 K1.out.pl
  rcases K2.out with ⟨rfl, rfl⟩ | ⟨r', hr'⟩
  · clear c0 c1 f0 f1
    go_upto_region 12 with fail
    refine region_below (by kernel_rfl) (by kernel_rfl) ?_
    refine wpQuiet_step (fun K hK => ?_)
    go_simp
    refine ⟨.agg #[.int .i64 (-1), .int .i64 (-1)], fun w' hw' => ?_, hK _ ?_⟩
    · obtain ⟨d0, d1, _, _⟩ := blk2 ((K1.out.below hw').pl)
      go_simp
    clear hK K
    refine wpQuiet_step (fun K hK => ?_)
    go_simp
    refine ⟨.agg #[.int .i64 (-1), .int .i64 (-1)], fun w' hw' => calls_below hw' (nowhere_any w'), hK _ ?_⟩
    clear hK K
    refine wpQuiet_step (fun K hK => ?_)
    go_simp
    refine ⟨.bool false, fun w' hw' => ?_, hK _ ?_⟩
    · go_simp
    clear hK K
    refine wpQuiet_step (fun K hK => ?_)
    go_simp
    refine ⟨_, fun _ _ => rfl, hK _ ?_⟩
    clear hK K
    refine BigFrame.wpQuiet_skip (by rfl) ?_
    go_simp
    refine BigFrame.wpQuiet_skip (by rfl) ?_
    go_simp
    refine BigFrame.wpQuiet_skip (by rfl) ?_
    go_simp
    refine BigFrame.wpQuiet_skip (by rfl) ?_
    go_simp
    refine BigFrame.wpQuiet_skip (by rfl) ?_
    go_simp
    refine wpQuiet_step (fun K hK => ?_)
    go_simp
    refine ⟨.bool false, fun w' hw' => ?_, hK _ ?_⟩
    · go_simp
    clear hK K
    refine wpQuiet_nil ?_
    intro w7 hw7
    have K7 := hide (K1.out.below hw7)
    clear hw7
    obtain ⟨d0, d1, -, -⟩ := blk2 K7.out.pl
    obtain ⟨e0, e1, f0, f1⟩ := blk2 K7.out.res
    have HS := hide (fun a b => set2a K7.out.res a b)
    go_wp2
    refine bodyPost_ret (results_row2 rfl _ _ w.heap.size 48 #[.int .i64 (-1), .int .i64 (-1)] (0, 0) _ rfl (HS.out _ _) Tryz.underlying48 rfl (by kernel_rfl)) rfl ?_
    exact ⟨(-1), (-1), rfl, K3.out _ _ .none, (K7.out.bel.setCell (p := ⟨w.heap.size, 0, none⟩) (Nat.le_refl _) _).setCell (p := ⟨w.heap.size, 1, none⟩) (Nat.le_refl _) _⟩
  · obtain ⟨pi, pj, rfl, rfl, hpi, hpj⟩ := atB_lt HK.out hr'
    clear c0 c1 f0 f1
    obtain ⟨t, ht⟩ : ∃ t, (insB Z len)[pi]? = some t := ⟨_, List.getElem?_eq_getElem (by rw [insB_len]; exact hpi)⟩
    have hins : insF Z len (pi : Int) = t := by unfold insF; simp [ht]
    have hp1 : ¬ ((pi : Int) = -1) := by omega
    have hp2 : (pi : Int) < 16 := by omega
    have HR' := hide hr'
    have HIN := hide hins
    have HT := hide ht
    clear hr' hins ht
    go_upto_region 12 with fail
    refine region_below (by kernel_rfl) (by kernel_rfl) ?_
    refine wpQuiet_step (fun K hK => ?_)
    go_simp
    refine ⟨.agg #[.int .i64 (pi : Int), .int .i64 (pj : Int)], fun w' hw' => ?_, hK _ ?_⟩
    · obtain ⟨d0, d1, _, _⟩ := blk2 ((K1.out.below hw').pl)
      go_simp
    clear hK K
    refine wpQuiet_step (fun K hK => ?_)
    go_simp
    refine ⟨.agg #[.int .i64 (-1), .int .i64 (-1)], fun w' hw' => calls_below hw' (nowhere_any w'), hK _ ?_⟩
    clear hK K
    refine wpQuiet_step (fun K hK => ?_)
    go_simp
    refine ⟨.bool true, fun w' hw' => ?_, hK _ ?_⟩
    · go_simp
    clear hK K
    refine wpQuiet_step (fun K hK => ?_)
    go_simp
    refine ⟨_, fun _ _ => rfl, hK _ ?_⟩
    clear hK K
    refine BigFrame.wpQuiet_want (by rfl) (fun K hK => ?_)
    go_simp
    refine ⟨_, fun _ _ => rfl, hK _ ?_⟩
    clear hK K
    refine BigFrame.wpQuiet_want (by rfl) (fun K hK => ?_)
    go_simp
    refine ⟨.int .i64 (pi : Int), fun w' hw' => ?_, hK _ ?_⟩
    · obtain ⟨d0, d1, _, _⟩ := blk2 ((K1.out.below hw').pl)
      go_simp
    clear hK K
    refine BigFrame.wpQuiet_want (by rfl) (fun K hK => ?_)
    go_simp
    refine ⟨.pointer (some ⟨n12, pi, none⟩), fun w' hw' => ?_, hK _ ?_⟩
    · go_simp
    clear hK K
    refine BigFrame.wpQuiet_want (by rfl) (fun K hK => ?_)
    go_simp
    refine ⟨.bool t, fun w' hw' => ?_, hK _ ?_⟩
    · have d0 := (K1.out.below hw').cell HT.out
      go_simp
    clear hK K
    refine BigFrame.wpQuiet_want (by rfl) (fun K hK => ?_)
    go_simp
    refine ⟨.bool (!t), fun w' hw' => ?_, hK _ ?_⟩
    · go_simp
    clear hK K
    cases t
    · refine wpQuiet_step (fun K hK => ?_)
      go_simp
      refine ⟨.bool true, fun w' hw' => ?_, hK _ ?_⟩
      · go_simp
      clear hK K
      refine wpQuiet_nil ?_
      intro w7 hw7
      have K7 := hide (K1.out.below hw7)
      have HLk := hide (look_any w7 F B bk (HK.out.below K7.out.bel) pi pj)
      rw [HR'.out, lcode_some HR'.out] at HLk
      simp only [Rc.val, Option.getD_some] at HLk
      clear hw7
      obtain ⟨d0, d1, -, -⟩ := blk2 K7.out.pl
      go_wp2_with fail
      refine HLk.out.mono ?_
      rintro e1 w8 ⟨rfl, hb8⟩
      have hX9 := heap_alloc_new w8 (.cells #[.int .i64 r'.k, .int .i64 r'.o, .int .i64 r'.s, .int .i64 r'.r, .int .i64 r'.e, .int .i64 r'.t] 65)
      have K9 := hide (K7.out.below (hb8.alloc hb8.size (.cells #[.int .i64 r'.k, .int .i64 r'.o, .int .i64 r'.s, .int .i64 r'.r, .int .i64 r'.e, .int .i64 r'.t] 65)))
      go_upto_region 14 with fail
      generalize hgw : w8.alloc (.cells #[.int .i64 r'.k, .int .i64 r'.o, .int .i64 r'.s, .int .i64 r'.r, .int .i64 r'.e, .int .i64 r'.t] 65) = w9 at *
      clear hgw hb8 d0 d1 K7 HLk
      generalize w8.heap.size = n16 at *
      obtain ⟨x0, x1, x2, x3, x4, x5, -, -, -, -, -, -⟩ := blk6 hX9
      have HP := hide (parent_any w9 r')
      simp only [Rc.val] at HP
      go_wp2_with fail
      refine HP.out.mono ?_
      rintro e1 w10 ⟨rfl, hb10⟩
      have K10 := hide (K9.out.below hb10)
      obtain ⟨d0, d1, f0, f1⟩ := blk2 K10.out.pl
      have K11 := hide (K10.out.put r'.e r'.t)
      clear hb10 HP x0 x1 x2 x3 x4 x5 hX9 K9
      go_wp2
      go_roundw
      case rel =>
        have HA : Hid ((r'.e = -1 ∧ r'.t = -1) ∨ ∃ r2, atB bk r'.e r'.t = some r2) := (HFr.out pi pj r' HR'.out).imp id (fun h => h.1)
        have HB : Hid (∀ p q, Ups bk (insF Z len) r'.e r'.t p q → Ups bk (insF Z len) r.e r.t p q) := fun p q h => K3.out p q (.up _ _ _ _ r' HR'.out HIN.out h)
        first
          | exact ⟨r'.e, r'.t, K11, HA, HB⟩
          | ((repeat apply Exists.intro); refine ⟨?_, rfl⟩; exact ⟨r'.e, r'.t, K11, HA, HB⟩)
      case measure =>
        obtain ⟨g0, g1, -, -⟩ := blk2 K11.out.pl
        obtain ⟨g2, g3, -, -⟩ := blk2 K1.out.pl
        unfold upMeas
        rw [g0, g1, g2, g3]
        simp only
        rw [if_neg hp1]
        rcases HFr.out pi pj r' HR'.out with ⟨h1, _⟩ | ⟨_, h1⟩
        · rw [if_pos h1]; omega
        · split <;> omega
    · refine wpQuiet_step (fun K hK => ?_)
      go_simp
      refine ⟨.bool false, fun w' hw' => ?_, hK _ ?_⟩
      · go_simp
      clear hK K
      refine wpQuiet_nil ?_
      intro w7 hw7
      have K7 := hide (K1.out.below hw7)
      clear hw7
      obtain ⟨d0, d1, -, -⟩ := blk2 K7.out.pl
      obtain ⟨e0, e1, f0, f1⟩ := blk2 K7.out.res
      have HS := hide (fun a b => set2a K7.out.res a b)
      go_wp2
      refine bodyPost_ret (results_row2 rfl _ _ w.heap.size 48 #[.int .i64 (pi : Int), .int .i64 (pj : Int)] (0, 0) _ rfl (HS.out _ _) Tryz.underlying48 rfl (by kernel_rfl)) rfl ?_
      exact ⟨(pi : Int), (pj : Int), rfl, K3.out _ _ (.here _ _ r' HR'.out HIN.out), (K7.out.bel.setCell (p := ⟨w.heap.size, 0, none⟩) (Nat.le_refl _) _).setCell (p := ⟨w.heap.size, 1, none⟩) (Nat.le_refl _) _⟩
end Go.Proofs.YteacmcdmdeckmaaGreat
