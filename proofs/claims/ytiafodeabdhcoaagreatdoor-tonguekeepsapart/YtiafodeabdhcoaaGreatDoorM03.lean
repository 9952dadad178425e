import Derived.Deep.MidRow
import Derived.Lib.OthersKept
import Derived.Test.YtiafodeabdhcoaaGreatDoorM00
import Derived.Test.YtiafodeabdhcoaaGreatDoorM02
namespace Go.Proofs.YtiafodeabdhcoaaGreatDoor
open Go.RowKit
/-- a line's cells -/
def lnC (l : Ln) : Array Value := #[.bool l.wrong, .string ⟨l.label.toArray⟩, .int .i64 l.i.op, .int .i64 l.i.a, .int .i64 l.i.b, .int .i64 l.i.imm, .string ⟨l.name.toArray⟩, .int .i64 l.words]
/-- a line lies in a block -/
def LnAt (w : World) (g : Nat) (l : Ln) : Prop := w.heap[g]? = some (.cells (lnC l) 109 (0, 0))
theorem LnAt.lt {w : World} {g : Nat} {l : Ln} (h : LnAt w g l) : g < w.heap.size := (Array.getElem?_eq_some_iff.1 h).1
theorem LnAt.frz {w : World} {g : Nat} {l : Ln} (h : LnAt w g l) (j : Nat) : w.frozen? ⟨g, j, none⟩ = false := Lib.frozen_of_heap h j
theorem LnAt.cells {w : World} {g : Nat} {l : Ln} (h : LnAt w g l) : w.cell? ⟨g, 0, none⟩ = some (.bool l.wrong) ∧ w.cell? ⟨g, 1, none⟩ = some (.string ⟨l.label.toArray⟩) ∧ w.cell? ⟨g, 2, none⟩ = some (.int .i64 l.i.op) ∧ w.cell? ⟨g, 3, none⟩ = some (.int .i64 l.i.a) ∧ w.cell? ⟨g, 4, none⟩ = some (.int .i64 l.i.b) ∧ w.cell? ⟨g, 5, none⟩ = some (.int .i64 l.i.imm) ∧ w.cell? ⟨g, 6, none⟩ = some (.string ⟨l.name.toArray⟩) ∧ w.cell? ⟨g, 7, none⟩ = some (.int .i64 l.words) := by
  refine ⟨?_, ?_, ?_, ?_, ?_, ?_, ?_, ?_⟩ <;> (rw [Lib.cell_of_heap h]; rfl)
theorem LnAt.keep {w w' : World} {g : Nat} {l : Ln} (h : LnAt w g l) (hb : Below w.heap.size w w') : LnAt w' g l := by
  show w'.heap[g]? = _
  rw [hb.block g h.lt]
  exact h
theorem LnAt.op {w : World} {g : Nat} {l : Ln} (h : LnAt w g l) (z : Int) : LnAt (w.setCell ⟨g, 2, none⟩ (.int .i64 z)) g { l with i := { l.i with op := z } } := heap_setCell_same w g 2 _ _ _ h
theorem LnAt.a {w : World} {g : Nat} {l : Ln} (h : LnAt w g l) (z : Int) : LnAt (w.setCell ⟨g, 3, none⟩ (.int .i64 z)) g { l with i := { l.i with a := z } } := heap_setCell_same w g 3 _ _ _ h
theorem LnAt.b {w : World} {g : Nat} {l : Ln} (h : LnAt w g l) (z : Int) : LnAt (w.setCell ⟨g, 4, none⟩ (.int .i64 z)) g { l with i := { l.i with b := z } } := heap_setCell_same w g 4 _ _ _ h
theorem LnAt.imm {w : World} {g : Nat} {l : Ln} (h : LnAt w g l) (z : Int) : LnAt (w.setCell ⟨g, 5, none⟩ (.int .i64 z)) g { l with i := { l.i with imm := z } } := heap_setCell_same w g 5 _ _ _ h
theorem LnAt.name {w : World} {g : Nat} {l : Ln} (h : LnAt w g l) (s : Tx) : LnAt (w.setCell ⟨g, 6, none⟩ (.string ⟨s.toArray⟩)) g { l with name := s } := heap_setCell_same w g 6 _ _ _ h
theorem LnAt.words {w : World} {g : Nat} {l : Ln} (h : LnAt w g l) (z : Int) : LnAt (w.setCell ⟨g, 7, none⟩ (.int .i64 z)) g { l with words := z } := heap_setCell_same w g 7 _ _ _ h
theorem LnAt.label {w : World} {g : Nat} {l : Ln} (h : LnAt w g l) (s : Tx) : LnAt (w.setCell ⟨g, 1, none⟩ (.string ⟨s.toArray⟩)) g { l with label := s } := heap_setCell_same w g 1 _ _ _ h
/-- all stays but one block, and what is new -/
structure Kp (g : Nat) (w w' : World) : Prop where
  os : w'.os = w.os
  tape : w'.tape = w.tape
  output : w'.output = w.output
  size : w.heap.size ≤ w'.heap.size
  block : ∀ k, k < w.heap.size → k ≠ g → w'.heap[k]? = w.heap[k]?
theorem Kp.of {g : Nat} {w w' : World} (h : Below w.heap.size w w') : Kp g w w' := ⟨h.os, h.tape, h.output, h.size, fun k hk _ => h.block k hk⟩
theorem Kp.refl (g : Nat) (w : World) : Kp g w w := ⟨rfl, rfl, rfl, Nat.le_refl _, fun _ _ _ => rfl⟩
theorem Kp.trans {g : Nat} {a b c : World} (h : Kp g a b) (h2 : Kp g b c) : Kp g a c := ⟨h2.os.trans h.os, h2.tape.trans h.tape, h2.output.trans h.output, Nat.le_trans h.size h2.size, fun k hk hn => (h2.block k (Nat.lt_of_lt_of_le hk h.size) hn).trans (h.block k hk hn)⟩
theorem Kp.set {g j : Nat} {a b : World} (h : Kp g a b) (v : Value) : Kp g a (b.setCell ⟨g, j, none⟩ v) :=
  ⟨h.os, h.tape, h.output, by rw [World.size_setCell]; exact h.size, fun k hk hn => by rw [heap_setCell_other b ⟨g, j, none⟩ k v hn]; exact h.block k hk hn⟩
theorem Kp.below {g B : Nat} {a b c : World} (h : Below B a b) (h2 : Kp g b c) (hB : B ≤ b.heap.size) (hg : B ≤ g) : Below B a c := ⟨h2.os.trans h.os, h2.tape.trans h.tape, h2.output.trans h.output, Nat.le_trans h.size h2.size, fun k hk => (h2.block k (by omega) (by omega)).trans (h.block k hk)⟩
section
variable (w : World)
set_option maxRecDepth 100000 in
set_option maxHeartbeats 1000000 in
theorem readImm_any (g : Nat) (l : Ln) (f : Tx) (lo hi : Int) (hf : f.length ≤ 16384) (hL : LnAt w g l) : Calls Tryz.prog 154 #[.pointer (some ⟨g, 0, none⟩), .string ⟨f.toArray⟩, .int .i64 lo, .int .i64 hi] w fun e w' => e = .returned (.bool (immT l f lo hi).isSome) ∧ (∀ l', immT l f lo hi = some l' → LnAt w' g l') ∧ (∃ l', LnAt w' g l') ∧ Kp g w w' := by
  have hI := isLabel_any w f hf
  cases hx : isLbl f with
  | true =>
    rw [hx] at hI
    have HV : Hid (immT l f lo hi = some { l with name := f }) := hide (by simp [immT, hx])
    have HI := hide hI
    clear hI hx
    go_enter Tryz.func154, Tryz.ntmps154
    go_wp2_with fail
    refine HI.out.mono ?_
    rintro e w1 ⟨rfl, hb⟩
    have hL1 := hL.keep hb
    have c6 := hL1.cells.2.2.2.2.2.2.1
    have f6 := hL1.frz 6
    have HN := hide (hL1.name f)
    have HK := hide (Kp.set (j := 6) (Kp.of (g := g) hb) (.string ⟨f.toArray⟩))
    clear hb hL1 hL HI
    go_wp2
    go_ret
    exact ⟨by rw [HV.out]; rfl, fun l' e => by rw [HV.out] at e; cases e; exact HN.out, ⟨_, HN.out⟩, HK.out⟩
  | false =>
    rw [hx] at hI
    have HI := hide hI
    have HV : Hid (immT l f lo hi = match numT f with | some n => if lo ≤ n ∧ n ≤ hi then some { l with i := { l.i with imm := n } } else none | none => none) := hide (by unfold immT; rw [hx]; rfl)
    clear hI hx
    cases hn : numT f with
    | none =>
      rw [hn] at HV
      have HM := hide (fun W => number_any' W f hf)
      rw [hn] at HM
      clear hn
      go_enter Tryz.func154, Tryz.ntmps154
      go_wp2_with fail
      refine HI.out.mono ?_
      rintro e w1 ⟨rfl, hb⟩
      go_wp2_with fail
      refine (HM.out _).mono ?_
      rintro e w2 ⟨rfl, hb2⟩
      have hb3 := hb.trans (hb2.mono hb.size)
      have hL1 := hL.keep hb3
      have c5 := hL1.cells.2.2.2.2.2.1
      have f5 := hL1.frz 5
      have HN := hide (hL1.imm 0)
      have HK := hide (Kp.set (j := 5) (Kp.of (g := g) hb3) (.int .i64 0))
      clear hb hb2 hb3 hL1 hL HI HM
      go_wp2
      go_ret
      exact ⟨by rw [HV.out]; rfl, fun l' e => (by rw [HV.out] at e; cases e), ⟨_, HN.out⟩, HK.out⟩
    | some n =>
      rw [hn] at HV
      have HM := hide (fun W => number_any' W f hf)
      rw [hn] at HM
      clear hn
      by_cases h1 : lo ≤ n
      · by_cases h2 : n ≤ hi
        · have HV2 : Hid (immT l f lo hi = some { l with i := { l.i with imm := n } }) := hide (by rw [HV.out]; simp [h1, h2])
          clear HV
          go_enter Tryz.func154, Tryz.ntmps154
          go_wp2_with fail
          refine HI.out.mono ?_
          rintro e w1 ⟨rfl, hb⟩
          go_wp2_with fail
          refine (HM.out _).mono ?_
          rintro e w2 ⟨rfl, hb2⟩
          have hb3 := hb.trans (hb2.mono hb.size)
          have hL1 := hL.keep hb3
          have c5 := hL1.cells.2.2.2.2.2.1
          have f5 := hL1.frz 5
          have HN := hide (hL1.imm n)
          have HK := hide (Kp.set (j := 5) (Kp.of (g := g) hb3) (.int .i64 n))
          clear hb hb2 hb3 hL1 hL HI HM
          go_wp2
          go_ret
          exact ⟨by rw [HV2.out]; rfl, fun l' e => by rw [HV2.out] at e; cases e; exact HN.out, ⟨_, HN.out⟩, HK.out⟩
        · have HV2 : Hid (immT l f lo hi = none) := hide (by rw [HV.out]; simp [h2])
          have d2 : decide (n ≤ hi) = false := by simpa using h2
          clear HV h2
          go_enter Tryz.func154, Tryz.ntmps154
          go_wp2_with fail
          refine HI.out.mono ?_
          rintro e w1 ⟨rfl, hb⟩
          go_wp2_with fail
          refine (HM.out _).mono ?_
          rintro e w2 ⟨rfl, hb2⟩
          have hb3 := hb.trans (hb2.mono hb.size)
          have hL1 := hL.keep hb3
          have c5 := hL1.cells.2.2.2.2.2.1
          have f5 := hL1.frz 5
          have HN := hide (hL1.imm n)
          have HK := hide (Kp.set (j := 5) (Kp.of (g := g) hb3) (.int .i64 n))
          clear hb hb2 hb3 hL1 hL HI HM
          go_wp2
          go_ret
          exact ⟨by rw [HV2.out]; rfl, fun l' e => (by rw [HV2.out] at e; cases e), ⟨_, HN.out⟩, HK.out⟩
      · have HV2 : Hid (immT l f lo hi = none) := hide (by rw [HV.out]; simp [h1])
        have d1 : decide (lo ≤ n) = false := by simpa using h1
        clear HV h1
        go_enter Tryz.func154, Tryz.ntmps154
        go_wp2_with fail
        refine HI.out.mono ?_
        rintro e w1 ⟨rfl, hb⟩
        go_wp2_with fail
        refine (HM.out _).mono ?_
        rintro e w2 ⟨rfl, hb2⟩
        have hb3 := hb.trans (hb2.mono hb.size)
        have hL1 := hL.keep hb3
        have c5 := hL1.cells.2.2.2.2.2.1
        have f5 := hL1.frz 5
        have HN := hide (hL1.imm n)
        have HK := hide (Kp.set (j := 5) (Kp.of (g := g) hb3) (.int .i64 n))
        clear hb hb2 hb3 hL1 hL HI HM
        go_wp2
        go_ret
        exact ⟨by rw [HV2.out]; rfl, fun l' e => (by rw [HV2.out] at e; cases e), ⟨_, HN.out⟩, HK.out⟩
/-- how many words, as a line -/
def cntT (l : Ln) (f : Tx) : Option Ln :=
  match numT f with
  | some n => if 0 ≤ n ∧ n ≤ 512 then some { l with words := n } else none
  | none => none
set_option maxRecDepth 100000 in
set_option maxHeartbeats 1000000 in
theorem readCount_any (g : Nat) (l : Ln) (f : Tx) (hf : f.length ≤ 16384) (hL : LnAt w g l) : Calls Tryz.prog 155 #[.pointer (some ⟨g, 0, none⟩), .string ⟨f.toArray⟩] w fun e w' => e = .returned (.bool (cntT l f).isSome) ∧ (∀ l', cntT l f = some l' → LnAt w' g l') ∧ (∃ l', LnAt w' g l') ∧ Kp g w w' := by
  have HM := hide (number_any' w f hf)
  cases hn : numT f with
  | none =>
    have HV2 : Hid (cntT l f = none) := hide (by simp [cntT, hn])
    rw [hn] at HM
    clear hn
    go_enter Tryz.func155, Tryz.ntmps155
    go_wp2_with fail
    refine HM.out.mono ?_
    rintro e w2 ⟨rfl, hb3⟩
    have hL1 := hL.keep hb3
    have c7 := hL1.cells.2.2.2.2.2.2.2
    have f7 := hL1.frz 7
    have HN := hide (hL1.words 0)
    have HK := hide (Kp.set (j := 7) (Kp.of (g := g) hb3) (.int .i64 0))
    clear hb3 hL1 hL HM
    go_wp2
    go_ret
    exact ⟨by rw [HV2.out]; rfl, fun l' e => (by rw [HV2.out] at e; cases e), ⟨_, HN.out⟩, HK.out⟩
  | some n =>
    rw [hn] at HM
    have HV : Hid (cntT l f = if 0 ≤ n ∧ n ≤ 512 then some { l with words := n } else none) := hide (by simp [cntT, hn])
    clear hn
    by_cases h1 : 0 ≤ n
    · by_cases h2 : n ≤ 512
      · have HV2 : Hid (cntT l f = some { l with words := n }) := hide (by rw [HV.out]; simp [h1, h2])
        clear HV
        go_enter Tryz.func155, Tryz.ntmps155
        go_wp2_with fail
        refine HM.out.mono ?_
        rintro e w2 ⟨rfl, hb3⟩
        have hL1 := hL.keep hb3
        have c7 := hL1.cells.2.2.2.2.2.2.2
        have f7 := hL1.frz 7
        have HN := hide (hL1.words n)
        have HK := hide (Kp.set (j := 7) (Kp.of (g := g) hb3) (.int .i64 n))
        clear hb3 hL1 hL HM
        go_wp2
        go_ret
        exact ⟨by rw [HV2.out]; rfl, fun l' e => by rw [HV2.out] at e; cases e; exact HN.out, ⟨_, HN.out⟩, HK.out⟩
      · have HV2 : Hid (cntT l f = none) := hide (by rw [HV.out]; simp [h2])
        have d2 : decide (n ≤ 512) = false := by simpa using h2
        clear HV h2
        go_enter Tryz.func155, Tryz.ntmps155
        go_wp2_with fail
        refine HM.out.mono ?_
        rintro e w2 ⟨rfl, hb3⟩
        have hL1 := hL.keep hb3
        have c7 := hL1.cells.2.2.2.2.2.2.2
        have f7 := hL1.frz 7
        have HN := hide (hL1.words n)
        have HK := hide (Kp.set (j := 7) (Kp.of (g := g) hb3) (.int .i64 n))
        clear hb3 hL1 hL HM
        go_wp2
        go_ret
        exact ⟨by rw [HV2.out]; rfl, fun l' e => (by rw [HV2.out] at e; cases e), ⟨_, HN.out⟩, HK.out⟩
    · have HV2 : Hid (cntT l f = none) := hide (by rw [HV.out]; simp [h1])
      have d1 : decide (0 ≤ n) = false := by simpa using h1
      clear HV h1
      go_enter Tryz.func155, Tryz.ntmps155
      go_wp2_with fail
      refine HM.out.mono ?_
      rintro e w2 ⟨rfl, hb3⟩
      have hL1 := hL.keep hb3
      have c7 := hL1.cells.2.2.2.2.2.2.2
      have f7 := hL1.frz 7
      have HN := hide (hL1.words n)
      have HK := hide (Kp.set (j := 7) (Kp.of (g := g) hb3) (.int .i64 n))
      clear hb3 hL1 hL HM
      go_wp2
      go_ret
      exact ⟨by rw [HV2.out]; rfl, fun l' e => (by rw [HV2.out] at e; cases e), ⟨_, HN.out⟩, HK.out⟩
end
end Go.Proofs.YtiafodeabdhcoaaGreatDoor

namespace Go.Proofs.YtiafodeabdhcoaaGreatDoor
open Go.RowKit
theorem tfl_len (na nb : Nat) (z f : Int) (h3 : na < 8) (h4 : nb < 8) (h5 : -32768 ≤ z) (h6 : z ≤ 65535) : (tfl na nb z f).length ≤ 7 := by
  have a1 := itoa_len (z := (na : Int)) (by omega) (by omega)
  have a2 := itoa_len (z := (nb : Int)) (by omega) (by omega)
  have a3 := itoa_len h5 h6
  unfold tfl
  split
  · simp; omega
  · split
    · simp; omega
    · omega
section
variable (w : World)
end
end Go.Proofs.YtiafodeabdhcoaaGreatDoor

namespace Go.Proofs.YtiafodeabdhcoaaGreatDoor
open Go.RowKit
theorem jn_cons (sep f : List UInt8) (r : List (List UInt8)) : jn sep (f :: r) = sep ++ f ++ jn [44, 32] r := by simp [jn]
/-- the list of fields, in a world -/
def Fd (W : World) (ao : Option Addr) (L : List Int) : Prop := ∀ j (h : j < L.length), ∃ g, ao = some ⟨g, 0, none⟩ ∧ W.cell? ⟨g, j, none⟩ = some (.int .i64 L[j])
theorem Fd.below {W W' : World} {ao : Option Addr} {L : List Int} (h : Fd W ao L) (hb : Below W.heap.size W W') : Fd W' ao L := fun j hj => by
  obtain ⟨g, h1, h2⟩ := h j hj
  exact ⟨g, h1, by rw [hb.cell (p := ⟨g, j, none⟩) (cell_lt h2)]; exact h2⟩
theorem Fd.of {W : World} {base : Nat} {v : Value} {n : Nat} {L : List Int} (h : W.ownsRow base 3 1 v n (nums L)) (hn : n = L.length) : ∃ ao c, v = .slice ao n c ∧ Fd W ao L := by
  rcases h.2 with ⟨h1, h2⟩ | ⟨g, cap, cur, h1, _, h3, _, _, _, h7⟩
  · exact ⟨none, 0, by rw [h1, h2], fun j hj => by omega⟩
  · refine ⟨_, _, h1, fun j hj => ⟨g, rfl, ?_⟩⟩
    rw [Lib.cell_of_heap h3]
    have e : (nums L)[j]? = some (.int .i64 L[j]) := by simp [nums, hj]
    rw [← h7, List.getElem?_take] at e
    split at e
    · rw [← Array.getElem?_toList]; exact e
    · simp at e
section
variable (w : World)
end
end Go.Proofs.YtiafodeabdhcoaaGreatDoor

namespace Go.Proofs.YtiafodeabdhcoaaGreatDoor
open Go.RowKit
/-- values that lie in a row apart from a block -/
def Row (W : World) (g : Nat) (ao : Option Addr) (vs : List Value) : Prop := ∀ j (h : j < vs.length), ∃ a : Addr, ao = some a ∧ a.block ≠ g ∧ W.cell? (a.add j) = some vs[j]
theorem cell_blk {w : World} {a : Addr} {v : Value} (h : w.cell? a = some v) : a.block < w.heap.size := by
  by_cases hb : a.block < w.heap.size
  · exact hb
  · have e : w.heap[a.block]? = none := Array.getElem?_eq_none (by omega)
    simp [World.cell?, e] at h
theorem cell_kp {g : Nat} {W W' : World} {a : Addr} {v : Value} (h : W.cell? a = some v) (hk : Kp g W W') (hn : a.block ≠ g) : W'.cell? a = some v := by
  have hb := hk.block a.block (cell_blk h) hn
  rw [World.cell?_of_block hb]
  exact h
theorem add_block (a : Addr) (j : Nat) : (a.add j).block = a.block := by unfold Addr.add; split <;> rfl
theorem Row.kp {g : Nat} {W W' : World} {ao : Option Addr} {vs : List Value} (h : Row W g ao vs) (hk : Kp g W W') : Row W' g ao vs := fun j hj => by
  obtain ⟨a, h1, h2, h3⟩ := h j hj
  exact ⟨a, h1, h2, cell_kp h3 hk (by rw [add_block]; exact h2)⟩
theorem Row.of {W : World} {base g n : Nat} {e : TypeId} {v : Value} {vs : List Value} (h : W.ownsRow base e 1 v n vs) (hg : g < base) : ∃ ao c, v = .slice ao n c ∧ Row W g ao vs := by
  have hl := h.1
  rcases h.2 with ⟨h1, h2⟩ | ⟨k, cap, cur, h1, h2, h3, _, _, _, h7⟩
  · exact ⟨none, 0, by rw [h1, h2], fun j hj => by omega⟩
  · refine ⟨_, _, h1, fun j hj => ⟨_, rfl, by show k ≠ g; omega, ?_⟩⟩
    rw [add0, Lib.cell_of_heap h3]
    have e : (cur.toList.take (n * 1))[j]? = some vs[j] := by rw [h7]; exact List.getElem?_eq_getElem hj
    rw [List.getElem?_take] at e
    split at e
    · rw [← Array.getElem?_toList]; exact e
    · simp at e
theorem kinds_fl (n : Nat) : kinds n = fl (uA n) (uB n) (kd n) := rfl
theorem kinds_len (n : Nat) : (kinds n).length ≤ 3 := by
  unfold kinds
  cases uA n <;> cases uB n <;> (by_cases e : kd n = 0 <;> simp [e])
theorem kinds_mem (n : Nat) : ∀ k ∈ kinds n, k = 0 ∨ k = 1 ∨ k = 2 := by
  unfold kinds
  cases uA n <;> cases uB n <;> (by_cases e : kd n = 0 <;> simp [e])
/-- the fields of an instruction -/
def insT (n : Nat) (l : Ln) (fs : List Tx) : Option Ln := if fs.length = (kinds n).length then fldsT (lo (kd n)) (hi (kd n)) l (kinds n) fs else none
theorem flds_step {lo hi : Int} {l : Ln} {ks : List Int} {fs : List Tx} {j : Nat} (h1 : j < ks.length) (h2 : j < fs.length) : fldsT lo hi l (ks.drop j) (fs.drop j) = (fldT lo hi l ks[j] fs[j]).bind fun l' => fldsT lo hi l' (ks.drop (j + 1)) (fs.drop (j + 1)) := by
  rw [List.drop_eq_getElem_cons h1, List.drop_eq_getElem_cons h2]
  rfl
section
variable (w : World)
set_option maxRecDepth 100000 in
set_option maxHeartbeats 4000000 in
theorem readInstr_any (g no : Nat) (l : Ln) (ao : Option Addr) (cap : Nat) (fs : List Tx) (hno : 1 ≤ no) (hno2 : no < 27) (hop : l.i.op = (no : Int)) (hf : ∀ f ∈ fs, f.length ≤ 16384) (hfl : fs.length ≤ 16385) (hL : LnAt w g l) (hR : Row w g ao (strs fs)) (hO : Ops w) :
    Calls Tryz.prog 157 #[.pointer (some ⟨g, 0, none⟩), .slice ao fs.length cap] w fun e w' => e = .returned (.bool (insT no l fs).isSome) ∧ (∀ l', insT no l fs = some l' → LnAt w' g l') ∧ (∃ l', LnAt w' g l') ∧ Kp g w w' := by
  have c2 := hL.cells.2.2.1
  rw [hop] at c2
  have o0 := hO.name hno2
  have o1 := hO.a no hno2
  have o2 := hO.b no hno2
  have o3 := hO.k no hno2
  have hlt := hO.lt
  have hkd := kd_le no
  have HKl := hide (kinds_len no)
  have HKm := hide (kinds_mem no)
  have HKf := hide (kinds_fl no)
  have HV : Hid (insT no l fs = if fs.length = (kinds no).length then fldsT (lo (kd no)) (hi (kd no)) l (kinds no) fs else none) := hide rfl
  have hno3 : (no : Int) < 27 := by omega
  have HL := hide hL
  have HR := hide hR
  have HF := hide hf
  have hgs := hL.lt
  clear hL hR hO hf hop
  generalize kinds no = ks at *
  generalize uA no = ua at *
  generalize uB no = ub at *
  generalize kd no = kk at *
  generalize nm no = nn at *
  go_enter Tryz.func157, Tryz.ntmps157
  go_upto_region 1 with fail
  go_step3
  go_wp2_with fail
  refine (fields_any _ _ ua ub kk).mono ?_
  rintro e w1 ⟨v, rfl, ho, hb1⟩
  rw [← HKf.out] at ho
  obtain ⟨ak, ck, rfl, hFk⟩ := Row.of ho (show g < _ by simp; omega)
  have d3 : w1.cell? ⟨w.heap.size, 3, none⟩ = some (.int .i64 (kk : Int)) := by
    rw [hb1.cell (p := ⟨w.heap.size, 3, none⟩) (by simp), World.cell?_alloc_new]; rfl
  have hb0 := (bel1 w (.cells #[.string ⟨nn.toArray⟩, .bool ua, .bool ub, .int .i64 (kk : Int)] 206)).trans (hb1.mono (by simp))
  have hL1 := HL.out.keep hb0
  have hk1 := Kp.of (g := g) hb0
  have hR1 := HR.out.kp hk1
  have HL1 := hide hL1
  have HK1 := hide hk1
  have HR1 := hide hR1
  have HFk := hide hFk
  clear hL1 hk1 hR1 hFk ho hb1 hb0 HL HR c2 o0 o1 o2 o3
  by_cases hlen : fs.length = ks.length
  · have HV2 : Hid (insT no l fs = fldsT (lo kk) (hi kk) l ks fs) := hide (by rw [HV.out, if_pos hlen])
    have hlenI : ((fs.length : Int) != (ks.length : Int)) = false := by simp; omega
    clear HV
    go_wp2_with fail
    refine (bounds_any _ kk hkd).mono ?_
    rintro e w2 ⟨rfl, rfl⟩
    clear d3
    generalize lo kk = lw at *
    generalize hi kk = hg2 at *
    go_upto_region 8 with fail
    go_step3
    go_upto_region 8 with fail
    go_loopw [9, 36] (fun r u wr => ∃ (j : Nat) (l' : Ln), r = .int .i64 (j : Int) ∧ u = .int .i64 (j : Int) ∧ j ≤ ks.length ∧ fldsT lw hg2 l ks fs = fldsT lw hg2 l' (ks.drop j) (fs.drop j) ∧ LnAt wr g l' ∧ Row wr g ao (strs fs) ∧ Row wr g ak (nums ks) ∧ Kp g w wr) (fun _ u _ => ks.length - (intOf u).toNat)
    case atStart => exact ⟨0, l, rfl, rfl, by omega, rfl, HL1.out, HR1.out, HFk.out, HK1.out⟩
    case round =>
    obtain ⟨j, l', rfl, rfl, hj, hst, hLj, hRj, hFj, hKj⟩ := hrel
    clear HL1 HR1 HFk HK1
    by_cases hjk : j < ks.length
    · have hjf : j < fs.length := by omega
      obtain ⟨a, rfl, hab, ca⟩ := hRj j (by simpa [strs] using hjf)
      obtain ⟨b, rfl, hbb, cb⟩ := hFj j (by simpa [nums] using hjk)
      have ea : (strs fs)[j]'(by simpa [strs] using hjf) = .string ⟨fs[j].toArray⟩ := by simp [strs]
      have eb : (nums ks)[j]'(by simpa [nums] using hjk) = .int .i64 ks[j] := by simp [nums]
      rw [ea] at ca
      rw [eb] at cb
      have hkm := HKm.out ks[j] (List.getElem_mem hjk)
      have hfl2 := HF.out fs[j] (List.getElem_mem hjf)
      have HSt : Hid (insT no l fs = (fldT lw hg2 l' ks[j] fs[j]).bind fun l'' => fldsT lw hg2 l'' (ks.drop (j + 1)) (fs.drop (j + 1))) := hide (by rw [HV2.out, hst, flds_step hjk hjf])
      have HSt2 : Hid (∀ l'', fldT lw hg2 l' ks[j] fs[j] = some l'' → fldsT lw hg2 l ks fs = fldsT lw hg2 l'' (ks.drop (j + 1)) (fs.drop (j + 1))) := hide (fun l'' e => by rw [hst, flds_step hjk hjf, e]; rfl)
      have hd : (j : Int) < (fs.length : Int) := by omega
      have hne : ((j : Int) == (ks.length : Int)) = false := by simp; omega
      have hjI : (j : Int) < (ks.length : Int) := by omega
      have HL := hide hLj
      have HR := hide hRj
      have HFj := hide hFj
      have HK := hide hKj
      have HM := hide (readImm_any wr g l' fs[j] lw hg2 hfl2 hLj)
      have HRg := hide (fun W => register_any' W fs[j])
      clear hLj hRj hFj hKj hst ea eb
      generalize fs[j] = f at *
      generalize ks[j] = k at *
      rcases hkm with rfl | rfl | rfl
      · -- a register
        cases hr : regT f with
        | none =>
          have HE : Hid (fldT lw hg2 l' 0 f = none) := hide (by simp [fldT, hr])
          have HN : Hid (insT no l fs = none) := hide (by rw [HSt.out, HE.out]; rfl)
          rw [hr] at HRg
          clear hr HM HE HSt HSt2
          go_wp2_with fail
          refine (HRg.out _).mono ?_
          rintro e w3 ⟨rfl, rfl⟩
          go_wp2
          (try rw [Exit.noGoto_ret])
          go_ret
          exact ⟨by rw [HN.out]; rfl, fun l'' e => (by rw [HN.out] at e; cases e), ⟨_, HL.out⟩, HK.out⟩
        | some n =>
          have HE : Hid (fldT lw hg2 l' 0 f = some { l' with i := { l'.i with a := n } }) := hide (by simp [fldT, hr])
          rw [hr] at HRg
          have c0 := HL.out.cells
          have cx := c0.2.2.2.1
          have fx := HL.out.frz 3
          clear hr HM c0
          go_wp2_with fail
          refine (HRg.out _).mono ?_
          rintro e w3 ⟨rfl, rfl⟩
          have HK3 := hide (Kp.set (j := 3) (Kp.refl g w3) (.int .i64 (n : Int)))
          have HL3 := hide (HL.out.a (n : Int))
          have HR3 := hide (HR.out.kp HK3.out)
          have HF3 := hide (HFj.out.kp HK3.out)
          have HK4 := hide (HK.out.trans HK3.out)
          clear HL HR HFj HK HK3
          go_wp2
          refine ⟨⟨j + 1, _, by simp, by simp, by omega, HSt2.out _ HE.out, HL3.out, HR3.out, HF3.out, HK4.out⟩, ?_⟩
          simp [intOf]
          omega
      · -- a register
        cases hr : regT f with
        | none =>
          have HE : Hid (fldT lw hg2 l' 1 f = none) := hide (by simp [fldT, hr])
          have HN : Hid (insT no l fs = none) := hide (by rw [HSt.out, HE.out]; rfl)
          rw [hr] at HRg
          clear hr HM HE HSt HSt2
          go_wp2_with fail
          refine (HRg.out _).mono ?_
          rintro e w3 ⟨rfl, rfl⟩
          go_wp2
          (try rw [Exit.noGoto_ret])
          go_ret
          exact ⟨by rw [HN.out]; rfl, fun l'' e => (by rw [HN.out] at e; cases e), ⟨_, HL.out⟩, HK.out⟩
        | some n =>
          have HE : Hid (fldT lw hg2 l' 1 f = some { l' with i := { l'.i with b := n } }) := hide (by simp [fldT, hr])
          rw [hr] at HRg
          have c0 := HL.out.cells
          have cx := c0.2.2.2.2.1
          have fx := HL.out.frz 4
          clear hr HM c0
          go_wp2_with fail
          refine (HRg.out _).mono ?_
          rintro e w3 ⟨rfl, rfl⟩
          have HK3 := hide (Kp.set (j := 4) (Kp.refl g w3) (.int .i64 (n : Int)))
          have HL3 := hide (HL.out.b (n : Int))
          have HR3 := hide (HR.out.kp HK3.out)
          have HF3 := hide (HFj.out.kp HK3.out)
          have HK4 := hide (HK.out.trans HK3.out)
          clear HL HR HFj HK HK3
          go_wp2
          refine ⟨⟨j + 1, _, by simp, by simp, by omega, HSt2.out _ HE.out, HL3.out, HR3.out, HF3.out, HK4.out⟩, ?_⟩
          simp [intOf]
          omega
      · -- a number or a label
        have HE : Hid (fldT lw hg2 l' 2 f = immT l' f lw hg2) := hide (by simp [fldT])
        cases hi2 : immT l' f lw hg2 with
        | none =>
          rw [hi2] at HE HM
          have HN : Hid (insT no l fs = none) := hide (by rw [HSt.out, HE.out]; rfl)
          clear hi2 HE HSt HSt2
          go_wp2_with fail
          refine (HRg.out _).mono ?_
          rintro e w3 ⟨rfl, rfl⟩
          go_wp2_with fail
          refine HM.out.mono ?_
          rintro e w4 ⟨rfl, _, ⟨l9, hl9⟩, hk9⟩
          have HL9 := hide hl9
          have cb9 := cell_kp cb hk9 (by rw [add_block]; exact hbb)
          have HK9 := hide (HK.out.trans hk9)
          clear hl9 hk9 cb HL HR HFj HK HM
          go_wp2
          (try rw [Exit.noGoto_ret])
          go_ret
          exact ⟨by rw [HN.out]; rfl, fun l'' e => (by rw [HN.out] at e; cases e), ⟨_, HL9.out⟩, HK9.out⟩
        | some l9 =>
          rw [hi2] at HE HM
          clear hi2
          go_wp2_with fail
          refine (HRg.out _).mono ?_
          rintro e w3 ⟨rfl, rfl⟩
          go_wp2_with fail
          refine HM.out.mono ?_
          rintro e w4 ⟨rfl, hl9, _, hk9⟩
          have HL9 := hide (hl9 _ rfl)
          have HR9 := hide (HR.out.kp hk9)
          have HF9 := hide (HFj.out.kp hk9)
          have HK9 := hide (HK.out.trans hk9)
          clear hl9 hk9 HL HR HFj HK HM
          go_wp2
          refine ⟨⟨j + 1, _, by simp, by simp, by omega, HSt2.out _ HE.out, HL9.out, HR9.out, HF9.out, HK9.out⟩, ?_⟩
          simp [intOf]
          omega
    · obtain rfl : j = ks.length := by omega
      have HN : Hid (insT no l fs = some l') := hide (by
        rw [HV2.out, hst, List.drop_length, ← hlen, List.drop_length]; rfl)
      have HL := hide hLj
      have HK := hide hKj
      have hd : ¬ (ks.length : Int) < (fs.length : Int) := by omega
      clear hst hLj hRj hFj hKj
      go_wp2
      (try rw [Exit.noGoto_ret])
      go_ret
      exact ⟨by rw [HN.out]; rfl, fun l'' e => (by rw [HN.out] at e; cases e; exact HL.out), ⟨_, HL.out⟩, HK.out⟩
  · have HN : Hid (insT no l fs = none) := hide (by rw [HV.out, if_neg hlen])
    have hlenI : ((fs.length : Int) != (ks.length : Int)) = true := by simp; omega
    go_wp2
    (try rw [Exit.noGoto_ret])
    go_ret
    exact ⟨by rw [HN.out]; rfl, fun l'' e => (by rw [HN.out] at e; cases e), ⟨_, HL1.out⟩, HK1.out⟩
end
end Go.Proofs.YtiafodeabdhcoaaGreatDoor

namespace Go.Proofs.YtiafodeabdhcoaaGreatDoor
open Go.RowKit
theorem opT_lt (s : Tx) : opT s < 27 := by
  unfold opT
  cases h : (List.range 27).find? (fun n => n != 0 && nm n == s) with
  | none => decide
  | some k => exact List.mem_range.1 (List.mem_of_find?_eq_some h)
theorem Ops.kp {w w' : World} {g : Nat} (h : Ops w) (hk : Kp g w w') (hg : 5 ≠ g) : Ops w' := by
  have hc : ∀ o v, w.cell? ⟨5, o, none⟩ = some v → w'.cell? ⟨5, o, none⟩ = some v := fun o v hv => cell_kp hv hk hg
  exact ⟨fun n hn => by obtain ⟨s, h1, h2⟩ := h.s n hn; exact ⟨s, hc _ _ h1, h2⟩, fun n hn => hc _ _ (h.a n hn), fun n hn => hc _ _ (h.b n hn), fun n hn => hc _ _ (h.k n hn)⟩
theorem addA0 (a : Addr) : a.add 0 = a := by
  obtain ⟨b, o, p⟩ := a
  cases p <;> simp [Addr.add]
/-- a line with one word -/
def ln1 : Ln := { ln0 with words := 1 }
section
variable (w : World)
set_option maxRecDepth 100000 in
set_option maxHeartbeats 4000000 in
theorem readFields_any (g : Nat) (name : Tx) (ao : Option Addr) (cap : Nat) (fs : List Tx) (hn : name.length ≤ 16384) (hf : ∀ f ∈ fs, f.length ≤ 16384) (hfl : fs.length ≤ 16385) (hL : LnAt w g ln0) (hR : Row w g ao (strs fs)) (hO : Ops w) (hg : 5 ≠ g) :
    Calls Tryz.prog 136 #[.pointer (some ⟨g, 0, none⟩), .string ⟨name.toArray⟩, .slice ao fs.length cap] w fun e w' => e = .returned (.bool (stmT name fs).isSome) ∧ (∀ l', stmT name fs = some l' → LnAt w' g l') ∧ (∃ l', LnAt w' g l') ∧ Kp g w w' := by
  have c7 := hL.cells.2.2.2.2.2.2.2
  have f7 := hL.frz 7
  have HL : Hid (LnAt (w.setCell ⟨g, 7, none⟩ (.int .i64 1)) g ln1) := hide (hL.words 1)
  have HK : Hid (Kp g w (w.setCell ⟨g, 7, none⟩ (.int .i64 1))) := hide (Kp.set (Kp.refl g w) _)
  have HR := hide (hR.kp HK.out)
  have HO := hide (hO.kp HK.out hg)
  have HF := hide hf
  clear hL hR hO hf
  go_enter Tryz.func136, Tryz.ntmps136
  go_upto_region 2 with fail
  generalize w.setCell ⟨g, 7, none⟩ (.int .i64 1) = W at *
  clear c7 f7
  by_cases h1 : name = [46, 119, 111, 114, 100]
  · subst h1
    rcases fs with _ | ⟨f, _ | ⟨f2, r⟩⟩
    · go_wp2
      go_ret
      exact ⟨rfl, fun l' e => (by cases e), ⟨_, HL.out⟩, HK.out⟩
    · have hf1 := HF.out f (by simp)
      obtain ⟨a, rfl, hab, ca⟩ := HR.out 0 (by simp [strs])
      have ca2 : W.cell? a = some (.string ⟨f.toArray⟩) := by rw [← addA0 a]; exact ca
      have HV : Hid (stmT [46, 119, 111, 114, 100] [f] = immT ln1 f (-2147483648) 4294967295) := hide rfl
      have HM := hide (readImm_any W g ln1 f (-2147483648) 4294967295 hf1 HL.out)
      clear ca
      go_wp2_with fail
      refine HM.out.mono ?_
      rintro e w4 ⟨rfl, hl9, hl8, hk9⟩
      have HL9 := hide hl9
      have HL8 := hide hl8
      have HK9 := hide (HK.out.trans hk9)
      clear hl9 hl8 hk9 HM HL HK HR
      go_wp2
      go_ret
      exact ⟨by rw [HV.out]; rfl, by rw [HV.out]; exact HL9.out, HL8.out, HK9.out⟩
    · have hx : ¬ ((r.length + 1 + 1 : Nat) : Int) = 1 := by omega
      go_wp2
      go_ret
      exact ⟨rfl, fun l' e => (by cases e), ⟨_, HL.out⟩, HK.out⟩
  by_cases h2 : name = [46, 122, 101, 114, 111]
  · subst h2
    clear h1
    rcases fs with _ | ⟨f, _ | ⟨f2, r⟩⟩
    · go_wp2
      go_ret
      exact ⟨rfl, fun l' e => (by cases e), ⟨_, HL.out⟩, HK.out⟩
    · have hf1 := HF.out f (by simp)
      obtain ⟨a, rfl, hab, ca⟩ := HR.out 0 (by simp [strs])
      have ca2 : W.cell? a = some (.string ⟨f.toArray⟩) := by rw [← addA0 a]; exact ca
      have HV : Hid (stmT [46, 122, 101, 114, 111] [f] = cntT ln1 f) := hide rfl
      have HM := hide (readCount_any W g ln1 f hf1 HL.out)
      clear ca
      go_wp2_with fail
      refine HM.out.mono ?_
      rintro e w4 ⟨rfl, hl9, hl8, hk9⟩
      have HL9 := hide hl9
      have HL8 := hide hl8
      have HK9 := hide (HK.out.trans hk9)
      clear hl9 hl8 hk9 HM HL HK HR
      go_wp2
      go_ret
      exact ⟨by rw [HV.out]; rfl, by rw [HV.out]; exact HL9.out, HL8.out, HK9.out⟩
    · have hx : ¬ ((r.length + 1 + 1 : Nat) : Int) = 1 := by omega
      go_wp2
      go_ret
      exact ⟨rfl, fun l' e => (by cases e), ⟨_, HL.out⟩, HK.out⟩
  have e1 : (name == [46, 119, 111, 114, 100]) = false := by simpa using h1
  have e2 : (name == [46, 122, 101, 114, 111]) = false := by simpa using h2
  have HV : Hid (stmT name fs = if opT name = 0 then none else insT (opT name) { ln1 with i := ⟨(opT name : Nat), 0, 0, 0⟩ } fs) := hide (by
    unfold stmT
    rw [if_neg h1, if_neg h2]
    rfl)
  have hol := opT_lt name
  have HNm := hide (opNamed_any W name HO.out)
  clear h1 h2
  go_wp2_with fail
  refine HNm.out.mono ?_
  rintro e w2 ⟨rfl, hb2⟩
  have hL2 := HL.out.keep hb2
  have c2 := hL2.cells.2.2.1
  have f2 := hL2.frz 2
  have HK3 := hide (Kp.set (j := 2) (Kp.of (g := g) hb2) (.int .i64 (opT name : Nat)))
  have HL3 := hide (hL2.op (opT name : Nat))
  have HR3 := hide (HR.out.kp HK3.out)
  have HO3 := hide (HO.out.kp HK3.out hg)
  have HK4 := hide (HK.out.trans HK3.out)
  clear hb2 hL2 HL HR HO HK HNm
  go_upto_region 8 with fail
  generalize w2.setCell ⟨g, 2, none⟩ (.int .i64 (opT name : Nat)) = W3 at *
  clear c2 f2 HK3
  have c3 : W3.cell? ⟨g, 2, none⟩ = some (.int .i64 (opT name : Nat)) := HL3.out.cells.2.2.1
  by_cases h0 : opT name = 0
  · have HV2 : Hid (stmT name fs = none) := hide (by rw [HV.out, if_pos h0])
    rw [h0] at c3
    clear HV
    go_wp2
    go_ret
    exact ⟨by rw [HV2.out]; rfl, fun l' e => (by rw [HV2.out] at e; cases e), ⟨_, HL3.out⟩, HK4.out⟩
  · have HV2 : Hid (stmT name fs = insT (opT name) { ln1 with i := ⟨(opT name : Nat), 0, 0, 0⟩ } fs) := hide (by rw [HV.out, if_neg h0])
    have HM := hide (readInstr_any W3 g (opT name) { ln1 with i := ⟨(opT name : Nat), 0, 0, 0⟩ } ao cap fs (by omega) hol rfl HF.out hfl HL3.out HR3.out HO3.out)
    have hz : ((opT name : Int) != 0) = true := by simp; omega
    clear HV h0
    generalize opT name = on at *
    go_wp2_with fail
    refine HM.out.mono ?_
    rintro e w4 ⟨rfl, hl9, hl8, hk9⟩
    have HL9 := hide hl9
    have HL8 := hide hl8
    have HK9 := hide (HK4.out.trans hk9)
    clear hl9 hl8 hk9 HM HL3 HK4 HR3
    go_wp2
    go_ret
    exact ⟨by rw [HV2.out]; rfl, by rw [HV2.out]; exact HL9.out, HL8.out, HK9.out⟩
end
end Go.Proofs.YtiafodeabdhcoaaGreatDoor

namespace Go.Proofs.YtiafodeabdhcoaaGreatDoor
open Go.RowKit
theorem info_line : (Tryz.prog.info? 109).map (·.size) = some 8 := by kernel_rfl
theorem cut_len (ms : Tx) : ∀ (s : Tx), ((cutT ms s).getD (s, [])).1.length ≤ s.length ∧ ((cutT ms s).getD (s, [])).2.length ≤ s.length
  | [] => by simp [cutT]
  | c :: r => by
    have ih := cut_len ms r
    unfold cutT
    cases h : ms.contains c with
    | true => simp
    | false =>
      simp only [Bool.false_eq_true, if_false]
      cases h2 : cutT ms r with
      | none => simp
      | some p =>
        rw [h2] at ih
        simp only [Option.map_some, Option.getD_some, List.length_cons] at ih ⊢
        omega
theorem LnAt.wr {w : World} {g : Nat} {l : Ln} (h : LnAt w g l) (b : Bool) : LnAt (w.setCell ⟨g, 0, none⟩ (.bool b)) g { l with wrong := b } := heap_setCell_same w g 0 _ _ _ h
theorem sf_len (r f : Tx) (h : f ∈ sfT r) : f.length ≤ r.length := by
  unfold sfT at h
  split at h
  · simp at h
  · obtain ⟨p, hp, rfl⟩ := List.mem_map.1 h
    have h1 := trimT_len p
    have h2 := split_len 44 (trimT r) p hp
    have h3 := trimT_len r
    omega
theorem sf_count (r : Tx) : (sfT r).length ≤ r.length + 1 := by
  unfold sfT
  split
  · simp
  · rw [List.length_map]
    have h2 := split_count 44 (trimT r)
    have h3 := trimT_len r
    omega
theorem ln_sets {w1 : World} {g : Nat} {l0 : Ln} (q : LnAt w1 g l0) (l : Ln) :
    LnAt ((((((((w1.setCell ⟨g, 0, none⟩ (.bool l.wrong)).setCell ⟨g, 1, none⟩ (.string ⟨l.label.toArray⟩)).setCell ⟨g, 2, none⟩ (.int .i64 l.i.op)).setCell ⟨g, 3, none⟩ (.int .i64 l.i.a)).setCell ⟨g, 4, none⟩ (.int .i64 l.i.b)).setCell ⟨g, 5, none⟩ (.int .i64 l.i.imm)).setCell ⟨g, 6, none⟩ (.string ⟨l.name.toArray⟩)).setCell ⟨g, 7, none⟩ (.int .i64 l.words)) g l := by
  have h1 := LnAt.wr q l.wrong
  have h2 := h1.label l.label
  have h3 := h2.op l.i.op
  have h4 := h3.a l.i.a
  have h5 := h4.b l.i.b
  have h6 := h5.imm l.i.imm
  have h7 := h6.name l.name
  exact h7.words l.words
section
variable (w : World)
set_option maxRecDepth 100000 in
set_option maxHeartbeats 2000000 in
theorem readSt_any (s : Tx) (hs : s.length ≤ 16384) (hO : Ops w) : Calls Tryz.prog 103 #[.string ⟨s.toArray⟩] w fun e w' => e = .returned (.agg (lnC (stT s))) ∧ Below w.heap.size w w' := by
  by_cases h0 : s = []
  · subst h0
    go_enter Tryz.func103, Tryz.ntmps103
    go_wp2
    refine bodyPost_ret (results_cell_row rfl _ _ w.heap.size 109 (lnC ln0) (0, 0) _ rfl (heap_alloc_last _ _) Tryz.underlying109 rfl info_line) rfl ?_
    exact ⟨rfl, bel1 _ _⟩
  · have hne : List.isEmpty s = false := by simpa using h0
    have HV : Hid (stT s = (stmT ((cutT [32, 9] s).getD (s, [])).1 (sfT ((cutT [32, 9] s).getD (s, [])).2)).getD lnBad) := hide (by unfold stT; rw [if_neg h0])
    have hcl := cut_len [32, 9] s
    have HC := hide (fun W => cutAt_any W [32, 9] s (by decide) (by decide) hs)
    have hol := hO.lt
    have HO := hide hO
    clear h0 hO
    generalize ((cutT [32, 9] s).getD (s, [])).1 = nme at *
    generalize ((cutT [32, 9] s).getD (s, [])).2 = rst at *
    go_enter Tryz.func103, Tryz.ntmps103
    go_wp2_with fail
    refine (HC.out _).mono ?_
    rintro e w1 ⟨rfl, hb1⟩
    have hs1 := hb1.size
    simp only [World.size_alloc] at hs1
    have HB1 := hide ((bel1 w (.cells (lnC ln0) 109)).trans (hb1.mono (by simp)))
    have HR1 : Hid (LnAt w1 w.heap.size ln0) := hide (LnAt.keep (w := w.alloc (.cells (lnC ln0) 109)) (heap_alloc_last _ _) hb1)
    clear hb1 HC
    go_wp2_with fail
    refine (sf_any _ rst (by omega)).mono ?_
    rintro e w2 ⟨v, rfl, ho2, hb2⟩
    obtain ⟨ao, cc, rfl, hrow⟩ := Row.of ho2 (show w1.heap.size < _ by simp)
    have hs2 := hb2.size
    simp only [World.size_alloc] at hs2
    have hbA := (bel1 w1 (.cells (lnC ln0) 109)).trans (hb2.mono (by simp))
    have hG2 : LnAt w2 w1.heap.size ln0 := LnAt.keep (w := w1.alloc (.cells (lnC ln0) 109)) (heap_alloc_last _ _) hb2
    have hR2 := HR1.out.keep hbA
    have HB2 := hide (HB1.out.trans (hbA.mono (by omega)))
    have HF := hide (readFields_any w2 w1.heap.size nme ao cc (sfT rst) (by omega) (fun f hf => by have := sf_len rst f hf; omega) (by have := sf_count rst; omega) hG2 hrow (HO.out.below HB2.out) (by omega))
    have HR2 := hide hR2
    clear hbA hb2 ho2 hrow hG2 hR2 HR1 HB1
    go_wp2_with fail
    refine HF.out.mono ?_
    rintro e w3 ⟨rfl, hl9, hl8, hk9⟩
    have hR3 : LnAt w3 w.heap.size ln0 := by
      show w3.heap[w.heap.size]? = _
      rw [hk9.block _ (by omega) (by omega)]
      exact HR2.out
    have HB3 := hide (Kp.below HB2.out hk9 (by omega) (by omega : w.heap.size ≤ w1.heap.size))
    have hs3 := hk9.size
    cases hst : stmT nme (sfT rst) with
    | none =>
      rw [hst] at HV
      have fr := fun j => hR3.frz j
      obtain ⟨r0, r1, r2, r3, r4, r5, r6, r7⟩ := hR3.cells
      have HS := hide (ln_sets hR3 lnBad)
      clear hl9 hl8 hk9 hR3 hst HF HR2 HB2
      go_wp2
      refine bodyPost_ret (results_cell_row rfl _ _ w.heap.size 109 (lnC lnBad) (0, 0) _ rfl HS.out Tryz.underlying109 rfl info_line) rfl ?_
      exact ⟨by rw [HV.out]; rfl, (((((((HB3.out.setCell (Nat.le_refl _) _).setCell (Nat.le_refl _) _).setCell (Nat.le_refl _) _).setCell (Nat.le_refl _) _).setCell (Nat.le_refl _) _).setCell (Nat.le_refl _) _).setCell (Nat.le_refl _) _).setCell (Nat.le_refl _) _⟩
    | some l9 =>
      rw [hst] at HV
      have hL9 := hl9 l9 hst
      obtain ⟨q0, q1, q2, q3, q4, q5, q6, q7⟩ := hL9.cells
      have fr := fun j => hR3.frz j
      obtain ⟨r0, r1, r2, r3, r4, r5, r6, r7⟩ := hR3.cells
      have HS := hide (ln_sets hR3 l9)
      clear hl9 hl8 hk9 hR3 hst HF HR2 HB2 hL9
      go_wp2
      refine bodyPost_ret (results_cell_row rfl _ _ w.heap.size 109 (lnC l9) (0, 0) _ rfl HS.out Tryz.underlying109 rfl info_line) rfl ?_
      exact ⟨by rw [HV.out]; rfl, (((((((HB3.out.setCell (Nat.le_refl _) _).setCell (Nat.le_refl _) _).setCell (Nat.le_refl _) _).setCell (Nat.le_refl _) _).setCell (Nat.le_refl _) _).setCell (Nat.le_refl _) _).setCell (Nat.le_refl _) _).setCell (Nat.le_refl _) _⟩
end
end Go.Proofs.YtiafodeabdhcoaaGreatDoor

namespace Go.Proofs.YtiafodeabdhcoaaGreatDoor
open Go.RowKit
theorem set8 {w v : World} {g B : Nat} (h : Below B w v) (hg : B ≤ g) (a0 a1 a2 a3 a4 a5 a6 a7 : Value) : Below B w ((((((((v.setCell ⟨g, 0, none⟩ a0).setCell ⟨g, 1, none⟩ a1).setCell ⟨g, 2, none⟩ a2).setCell ⟨g, 3, none⟩ a3).setCell ⟨g, 4, none⟩ a4).setCell ⟨g, 5, none⟩ a5).setCell ⟨g, 6, none⟩ a6).setCell ⟨g, 7, none⟩ a7) :=
  (((((((h.setCell hg _).setCell hg _).setCell hg _).setCell hg _).setCell hg _).setCell hg _).setCell hg _).setCell hg _
section
variable (w : World)
set_option maxRecDepth 100000 in
set_option maxHeartbeats 2000000 in
theorem readLine_any (s : Tx) (hs : s.length ≤ 16384) (hO : Ops w) : Calls Tryz.prog 70 #[.string ⟨s.toArray⟩] w fun e w' => e = .returned (.agg (lnC (lineT s))) ∧ Below w.heap.size w w' := by
  have HV : Hid (lineT s = match cutT [58] (trimT ((cutT [59] s).getD (s, [])).1) with | none => stT (trimT ((cutT [59] s).getD (s, [])).1) | some (a, b) => if isLbl a then { stT (trimT b) with label := a } else lnBad) := hide rfl
  have hcl := (cut_len [59] s).1
  have HC := hide (fun W => cutAt_any W [59] s (by decide) (by decide) hs)
  have HO := hide hO
  clear hO
  generalize ((cutT [59] s).getD (s, [])).1 = t1 at *
  generalize ((cutT [59] s).getD (s, [])).2 = t1b at *
  have htl := trimT_len t1
  have HT := hide (fun W => trim_any W t1 (by omega))
  generalize trimT t1 = t at *
  have hcl2 := cut_len [58] t
  have HC2 := hide (fun W => cutAt_any W [58] t (by decide) (by decide) (by omega))
  go_enter Tryz.func70, Tryz.ntmps70
  go_wp2_with fail
  refine (HC.out _).mono ?_
  rintro e w1 ⟨rfl, hb1⟩
  have hs1 := hb1.size
  simp only [World.size_alloc] at hs1
  have HB1 := hide ((bel1 w (.cells (lnC ln0) 109)).trans (hb1.mono (by simp)))
  have HR1 : Hid (LnAt w1 w.heap.size ln0) := hide (LnAt.keep (w := w.alloc (.cells (lnC ln0) 109)) (heap_alloc_last _ _) hb1)
  clear hb1 HC
  go_wp2_with fail
  refine (HT.out _).mono ?_
  rintro e w2 ⟨rfl, hb2⟩
  have HB2 := hide (HB1.out.trans (hb2.mono (by omega)))
  have HR2 := hide (HR1.out.keep hb2)
  have hs2 := hb2.size
  clear hb2 HT HB1 HR1
  go_wp2_with fail
  refine (HC2.out _).mono ?_
  rintro e w3 ⟨rfl, hb3⟩
  have HB3 := hide (HB2.out.trans (hb3.mono (by omega)))
  have HR3 := hide (HR2.out.keep hb3)
  have hs3 := hb3.size
  clear hb3 HC2 HB2 HR2
  cases hct : cutT [58] t with
  | none =>
    rw [hct] at HV
    have HL := hide (readSt_any w3 t (by omega) (HO.out.below HB3.out))
    clear hct
    simp only [Option.getD_none, Option.isSome_none] at *
    generalize stT t = L at *
    go_wp2_with fail
    refine HL.out.mono ?_
    rintro e w4 ⟨rfl, hb4⟩
    have HB4 := hide (HB3.out.trans (hb4.mono (by omega)))
    have hR4 := HR3.out.keep hb4
    have fr := fun j => hR4.frz j
    obtain ⟨r0, r1, r2, r3, r4, r5, r6, r7⟩ := hR4.cells
    have HS := hide (ln_sets hR4 L)
    clear hb4 hR4 HL HB3 HR3
    simp only [lnC]
    go_wp2
    refine bodyPost_ret (results_cell_row rfl _ _ w.heap.size 109 (lnC L) (0, 0) _ rfl HS.out Tryz.underlying109 rfl info_line) rfl ?_
    exact ⟨by rw [HV.out], set8 HB4.out (Nat.le_refl _) _ _ _ _ _ _ _ _⟩
  | some p =>
    obtain ⟨a, b⟩ := p
    rw [hct] at HV hcl2
    simp only [Option.getD_some] at hcl2
    have HLb := hide (isLabel_any w3 a (by omega))
    clear hct
    simp only [Option.getD_some, Option.isSome_some] at *
    cases hla : isLbl a with
    | false =>
      rw [hla] at HLb
      have HV2 : Hid (lineT s = lnBad) := hide (by rw [HV.out]; simp [hla])
      clear hla HV
      go_wp2_with fail
      refine HLb.out.mono ?_
      rintro e w4 ⟨rfl, hb4⟩
      have HB4 := hide (HB3.out.trans (hb4.mono (by omega)))
      have hR4 := HR3.out.keep hb4
      have fr := fun j => hR4.frz j
      obtain ⟨r0, r1, r2, r3, r4, r5, r6, r7⟩ := hR4.cells
      have HS := hide (ln_sets hR4 lnBad)
      clear hb4 hR4 HLb HB3 HR3
      go_wp2
      refine bodyPost_ret (results_cell_row rfl _ _ w.heap.size 109 (lnC lnBad) (0, 0) _ rfl HS.out Tryz.underlying109 rfl info_line) rfl ?_
      exact ⟨by rw [HV2.out], set8 HB4.out (Nat.le_refl _) _ _ _ _ _ _ _ _⟩
    | true =>
      rw [hla] at HLb
      have HV2 : Hid (lineT s = { stT (trimT b) with label := a }) := hide (by rw [HV.out]; simp [hla])
      have htb := trimT_len b
      clear hla HV
      go_wp2_with fail
      refine HLb.out.mono ?_
      rintro e w4 ⟨rfl, hb4⟩
      have HB4 := hide (HB3.out.trans (hb4.mono (by omega)))
      have HR4 := hide (HR3.out.keep hb4)
      have hs4 := hb4.size
      clear hb4 HLb HB3 HR3
      go_wp2_with fail
      refine (trim_any _ b (by omega)).mono ?_
      rintro e w5 ⟨rfl, hb5⟩
      have HB5 := hide (HB4.out.trans (hb5.mono (by omega)))
      have HR5 := hide (HR4.out.keep hb5)
      have hs5 := hb5.size
      clear hb5 HB4 HR4
      have HL := hide (readSt_any w5 (trimT b) (by omega) (HO.out.below HB5.out))
      generalize stT (trimT b) = L at *
      go_wp2_with fail
      refine HL.out.mono ?_
      rintro e w6 ⟨rfl, hb6⟩
      have HB6 := hide (HB5.out.trans (hb6.mono (by omega)))
      have HR6 := hide (HR5.out.keep hb6)
      have hs6 := hb6.size
      clear hb6 HB5 HR5 HL
      simp only [lnC]
      go_upto_region 10 with fail
      have hG : LnAt (w6.alloc (.cells #[.bool L.wrong, .string ⟨a.toArray⟩, .int .i64 L.i.op, .int .i64 L.i.a, .int .i64 L.i.b, .int .i64 L.i.imm, .string ⟨L.name.toArray⟩, .int .i64 L.words] 109)) w6.heap.size { L with label := a } := heap_alloc_last _ _
      have hR7 := HR6.out.keep (bel1 w6 (.cells #[.bool L.wrong, .string ⟨a.toArray⟩, .int .i64 L.i.op, .int .i64 L.i.a, .int .i64 L.i.b, .int .i64 L.i.imm, .string ⟨L.name.toArray⟩, .int .i64 L.words] 109))
      have HB7 := hide (HB6.out.alloc HB6.out.size (.cells #[.bool L.wrong, .string ⟨a.toArray⟩, .int .i64 L.i.op, .int .i64 L.i.a, .int .i64 L.i.b, .int .i64 L.i.imm, .string ⟨L.name.toArray⟩, .int .i64 L.words] 109))
      generalize w6.alloc (.cells #[.bool L.wrong, .string ⟨a.toArray⟩, .int .i64 L.i.op, .int .i64 L.i.a, .int .i64 L.i.b, .int .i64 L.i.imm, .string ⟨L.name.toArray⟩, .int .i64 L.words] 109) = W7 at *
      generalize w6.heap.size = g7 at *
      obtain ⟨q0, q1, q2, q3, q4, q5, q6, q7⟩ := hG.cells
      have fr := fun j => hR7.frz j
      obtain ⟨r0, r1, r2, r3, r4, r5, r6, r7⟩ := hR7.cells
      have HS := hide (ln_sets hR7 { L with label := a })
      clear hG hR7 HR6 HB6
      go_wp2
      refine bodyPost_ret (results_cell_row rfl _ _ w.heap.size 109 (lnC { L with label := a }) (0, 0) _ rfl HS.out Tryz.underlying109 rfl info_line) rfl ?_
      exact ⟨by rw [HV2.out], set8 HB7.out (Nat.le_refl _) _ _ _ _ _ _ _ _⟩
end
end Go.Proofs.YtiafodeabdhcoaaGreatDoor

namespace Go.Proofs.YtiafodeabdhcoaaGreatDoor
open Go.RowKit
theorem info_ln : ∃ i, Tryz.prog.info? 109 = some i ∧ i.zero = some (.agg (lnC ln0)) ∧ i.size = 8 ∧ i.bytes = 80 := info_parts (by kernel_rfl)
def lnL (l : Ln) : List Value := [.bool l.wrong, .string ⟨l.label.toArray⟩, .int .i64 l.i.op, .int .i64 l.i.a, .int .i64 l.i.b, .int .i64 l.i.imm, .string ⟨l.name.toArray⟩, .int .i64 l.words]
/-- lines, one behind the other -/
def lns (ls : List Ln) : List Value := ls.flatMap lnL
theorem lns_snoc (ls : List Ln) (l : Ln) : lns (ls ++ [l]) = lns ls ++ lnL l := by simp [lns]
theorem lns_len (ls : List Ln) : (lns ls).length = ls.length * 8 := by
  induction ls with
  | nil => rfl
  | cons l r ih => simp only [lns, List.flatMap_cons, List.length_append, List.length_cons] at ih ⊢; rw [ih]; simp [lnL]; omega
theorem lns_at {ls : List Ln} {k : Nat} (hk : k < ls.length) {j : Nat} (hj : j < 8) : (lns ls)[k * 8 + j]? = (lnL ls[k])[j]? := by
  induction ls generalizing k with
  | nil => simp at hk
  | cons l r ih =>
    cases k with
    | zero =>
      simp only [lns, List.flatMap_cons, Nat.zero_mul, Nat.zero_add, List.getElem_cons_zero]
      rw [List.getElem?_append_left (by simpa [lnL] using hj)]
    | succ k =>
      simp only [lns, List.flatMap_cons, List.getElem_cons_succ]
      rw [List.getElem?_append_right (by simp [lnL]; omega)]
      have e : (k + 1) * 8 + j - (lnL l).length = k * 8 + j := by simp [lnL]; omega
      rw [e]
      exact ih (by simpa using hk)
theorem cells_new (w : World) (cs : List Value) (t : TypeId) : ∀ j u, cs[j]? = some u → (w.alloc (.cells cs.toArray t)).cell? ((⟨w.heap.size, 0, none⟩ : Addr).add j) = some u := by
  intro j u h
  rw [add0, World.cell?_alloc_new]
  simpa using h
theorem lnL_one (l : Ln) : ∀ u ∈ lnL l, u.oneCell' = true := by
  intro u hu
  simp [lnL] at hu
  rcases hu with rfl | rfl | rfl | rfl | rfl | rfl | rfl | rfl <;> rfl
section
variable (w : World)
set_option maxRecDepth 100000 in
set_option maxHeartbeats 2000000 in
theorem readLines_any (s : Tx) (hs : s.length ≤ 16384) (hO : Ops w) : Calls Tryz.prog 44 #[.string ⟨s.toArray⟩] w fun e w' => ∃ v, e = .returned v ∧ w'.ownsRow w.heap.size 109 8 v (splitT 10 s).length (lns ((splitT 10 s).map lineT)) ∧ Below w.heap.size w w' := by
  obtain ⟨i9, hi, hz, hsz, hb⟩ := info_ln
  have HO := hide hO
  clear hO
  go_enter Tryz.func44, Tryz.ntmps44
  go_wp2_with fail
  refine (cutAll_any _ s 10 (by decide) hs).mono ?_
  rintro e w1 ⟨v, rfl, hP, hb1⟩
  have hcnt := split_count 10 s
  have HPl : Hid (∀ p ∈ splitT 10 s, p.length ≤ 16384) := hide (fun p hp => by have := split_len 10 s p hp; omega)
  obtain ⟨ap, cp, rfl, hRow⟩ := Row.of (g := w.heap.size) hP (Nat.lt_succ_self _)
  have HRow := hide hRow
  have HB := hide hb1
  have hs1 := hb1.size
  clear hRow hP hb1
  generalize hps : splitT 10 s = ps at *
  have HPs := hide hps
  clear hps
  go_upto_region 3 with fail
  go_loopw [3, 9] (fun v u wr => ∃ j : Nat, u = .int .i64 (j : Int) ∧ j ≤ ps.length ∧ wr.ownsRow w1.heap.size 109 8 v j (lns ((ps.take j).map lineT)) ∧ Below w1.heap.size w1 wr) (fun _ u _ => ps.length - (intOf u).toNat)
  case atStart => exact ⟨0, rfl, by omega, ⟨rfl, .inl ⟨rfl, rfl⟩⟩, Below.refl _ _⟩
  case round =>
  obtain ⟨j, rfl, hj, hOw, hBw⟩ := hrel
  obtain ⟨au, cu, rfl⟩ := own_shape hOw
  have HOw := hide hOw
  have HBw := hide hBw
  have hsw := hBw.size
  by_cases hlt : j < ps.length
  · obtain ⟨a, rfl, hab, ca⟩ := HRow.out j (by simpa [strs] using hlt)
    have ea : (strs ps)[j]'(by simpa [strs] using hlt) = .string ⟨ps[j].toArray⟩ := by simp [strs]
    rw [ea] at ca
    have cw : wr.cell? (a.add j) = some (.string ⟨ps[j].toArray⟩) := by rw [hBw.cell (cell_blk ca)]; exact ca
    have HE : Hid (lns ((ps.take (j + 1)).map lineT) = lns ((ps.take j).map lineT) ++ lnL (lineT ps[j])) := hide (by rw [List.take_succ_eq_append_getElem hlt, List.map_append, ← lns_snoc]; rfl)
    have hpl := HPl.out ps[j] (List.getElem_mem hlt)
    have HL := hide (readLine_any wr ps[j] hpl ((HO.out.below HB.out).below HBw.out))
    have hd : (j : Int) < (ps.length : Int) := by omega
    clear hOw hBw ea ca
    generalize ps[j] = p at *
    generalize lineT p = L at *
    go_wp2_with fail
    refine HL.out.mono ?_
    rintro e w2 ⟨rfl, hb2⟩
    have HO2 := hide (own_keep HOw.out hb2)
    have HB2 := hide (HBw.out.trans (hb2.mono hsw))
    have hs2 := hb2.size
    clear hb2 HOw HBw HL cw
    simp only [lnC]
    go_upto_region 6 with (at_builtin; refine wpList_append_own _ rfl _ _ 102 rfl w1.heap.size 109 i9 (.agg (lnC ln0)) 8 80 Tryz.underlying102 hi hz hsz hb rfl (by decide) _ _ _ rfl (HO2.out.alloc _) ⟨_, 0, none⟩ 1 1 (lnL L) rfl rfl (cells_new _ _ _) (lnL_one L) (by unfold maxLen; omega) (by omega) (by simp; omega) ?_; intro v3 w3 ho3 hg3 _; obtain ⟨a3, c3, rfl⟩ := own_shape ho3)
    have HO3 : Hid (w3.ownsRow w1.heap.size 109 8 (.slice a3 (j + 1) c3) (j + 1) (lns ((ps.take (j + 1)).map lineT))) := hide (by rw [HE.out]; exact ho3)
    have HB3 := hide ((HB2.out.alloc (by omega) _).grown hg3 (by simp; omega) (fun k hk => (HO2.out.lt k hk).1))
    clear ho3 hg3 HO2 HB2
    go_wp2
    refine ⟨⟨j + 1, by simp, by omega, HO3.out, HB3.out⟩, ?_⟩
    simp [intOf]
    omega
  · obtain rfl : j = ps.length := by omega
    rw [List.take_length] at hOw
    have HO2 := hide hOw
    clear hOw hBw HOw
    go_wp2
    go_ret
    exact ⟨_, rfl, by rw [HPs.out]; exact own_mono HO2.out hs1, HB.out.trans (HBw.out.mono hs1)⟩
end
end Go.Proofs.YtiafodeabdhcoaaGreatDoor

namespace Go.Proofs.YtiafodeabdhcoaaGreatDoor
open Go.RowKit
/-- block g is one value of type T -/
structure Blk (w : World) (g : Nat) (T : TypeId) (vs : List Value) : Prop where
  out : w.heap[g]? = some (.cells vs.toArray T (0, 0))
/-- the world with another value in a block -/
def putB (w : World) (g : Nat) (vs : List Value) (T : TypeId) : World := { w with heap := w.heap.setIfInBounds g (.cells vs.toArray T (0, 0)) }
section
variable {w w' : World} {g : Nat} {T : TypeId} {vs : List Value}
theorem Blk.get (h : Blk w g T vs) {j : Nat} {v : Value} (hv : vs[j]? = some v) : w.cell? ⟨g, j, none⟩ = some v := by
  rw [cell_of_row _ _ _ _ _ _ h.out]; simpa using hv
theorem Blk.lt (h : Blk w g T vs) : g < w.heap.size := (Array.getElem?_eq_some_iff.1 h.out).1
theorem Blk.frz (h : Blk w g T vs) (j : Nat) : w.frozen? ⟨g, j, none⟩ = false := Lib.frozen_of_heap h.out j
theorem Blk.keep (h : Blk w g T vs) (hk : w'.heap[g]? = w.heap[g]?) : Blk w' g T vs := ⟨hk.trans h.out⟩
theorem Blk.below (h : Blk w g T vs) {B : Nat} (hb : Below B w w') (hg : g < B) : Blk w' g T vs := ⟨(hb.block g hg).trans h.out⟩
theorem Blk.new (w : World) (vs : List Value) (T : TypeId) : Blk (w.alloc (.cells vs.toArray T)) w.heap.size T vs := ⟨heap_alloc_new _ _⟩
theorem Blk.cells (h : Blk w g T vs) : ∀ (j : Nat) (v : Value), vs[j]? = some v → w.cell? ((⟨g, 0, none⟩ : Addr).add j) = some v := fun j v hv => by rw [add0]; exact h.get hv
theorem Blk.set (h : Blk w g T vs) (j : Nat) (v : Value) : Blk (w.setCell ⟨g, j, none⟩ v) g T (vs.set j v) := ⟨by
  rw [heap_setCell_same w g j _ _ _ h.out]; simp⟩
theorem Blk.put (h : Blk w g T vs) (us : List Value) : Blk (putB w g us T) g T us := ⟨by
  simp [putB, h.lt]⟩
end
theorem putB_other (w : World) (g : Nat) (vs : List Value) (T : TypeId) {b : Nat} (hb : b ≠ g) : (putB w g vs T).heap[b]? = w.heap[b]? := by
  simp only [putB, Array.getElem?_setIfInBounds]
  rw [if_neg (by omega)]
theorem putB_size (w : World) (g : Nat) (vs : List Value) (T : TypeId) : (putB w g vs T).heap.size = w.heap.size := by simp [putB]
theorem putB_below {B : Nat} {w v : World} (h : Below B w v) {g : Nat} (hg : B ≤ g) (vs : List Value) (T : TypeId) : Below B w (putB v g vs T) :=
  ⟨h.os, h.tape, h.output, by rw [putB_size]; exact h.size, fun k hk => by rw [putB_other _ _ _ _ (by omega)]; exact h.block k hk⟩
theorem putB_put (w : World) (g : Nat) (vs us : List Value) (T : TypeId) : putB (putB w g vs T) g us T = putB w g us T := by
  simp [putB]
theorem putB_self {w : World} {g : Nat} {T : TypeId} {vs : List Value} (h : w.heap[g]? = some (.cells vs.toArray T (0, 0))) : putB w g vs T = w := by
  have hl := (Array.getElem?_eq_some_iff.1 h).1
  have : w.heap.setIfInBounds g (.cells vs.toArray T (0, 0)) = w.heap := by
    apply Array.ext_getElem?
    intro i
    rw [Array.getElem?_setIfInBounds]
    by_cases e : g = i
    · subst e; rw [if_pos rfl, if_pos hl, h]
    · rw [if_neg e]
  unfold putB
  rw [this]
theorem setCell_put {w : World} {g : Nat} {T : TypeId} {cs : List Value} (h : w.heap[g]? = some (.cells cs.toArray T (0, 0))) (o : Nat) (v : Value) : w.setCell ⟨g, o, none⟩ v = putB w g (cs.set o v) T := by
  unfold World.setCell putB
  congr 1
  apply Array.ext_getElem?
  intro i
  rw [Array.getElem?_modify, Array.getElem?_setIfInBounds]
  by_cases e : g = i
  · subst e
    obtain ⟨hl, hq⟩ := Array.getElem?_eq_some_iff.1 h
    simp [hl, hq]
  · rw [if_neg e, if_neg e]
theorem set_gen (g : Nat) (T : TypeId) : ∀ (vs : List Value) (o : Nat) (w : World) (cs : List Value), w.heap[g]? = some (.cells cs.toArray T (0, 0)) → o + vs.length ≤ cs.length → w.setCells g o vs = putB w g (cs.take o ++ vs ++ cs.drop (o + vs.length)) T
  | [], o, w, cs, h, _ => by
    simp only [World.setCells, List.append_nil, List.length_nil, Nat.add_zero, List.take_append_drop]
    exact (putB_self h).symm
  | v :: r, o, w, cs, h, hl => by
    simp only [List.length_cons] at hl
    have hlt := (Array.getElem?_eq_some_iff.1 h).1
    rw [World.setCells, setCell_put h o v, set_gen g T r (o + 1) _ (cs.set o v) (by simp [putB, hlt]) (by simp; omega), putB_put]
    congr 1
    have e1 : (cs.set o v).take (o + 1) = cs.take o ++ [v] := by
      rw [List.take_succ_eq_append_getElem (by simp; omega)]
      simp [List.take_set_of_le]
    have e2 : (cs.set o v).drop (o + 1 + r.length) = cs.drop (o + (r.length + 1)) := by
      rw [List.drop_set_of_lt (by omega), show o + 1 + r.length = o + (r.length + 1) by omega]
    rw [e1, e2]
    simp
theorem set_all (w : World) (g : Nat) (T : TypeId) (cs vs : List Value) (hc : w.heap[g]? = some (.cells cs.toArray T (0, 0))) (hl : cs.length = vs.length) : w.setCells g 0 vs = putB w g vs T := by
  rw [set_gen g T vs 0 w cs hc (by omega)]
  simp [← hl]
/-- a store of a whole block -/
theorem storeB {t : TypeId} (vs : List Value) (hi : (Tryz.prog.info? t).map (·.size) = some vs.length) (h1 : vs.all (fun u => u.oneCell') = true) {ops : Array Oper} {rest : List Oper} {op : Oper} {a : Act} {w : World} {Q : Exit → Act → World → Prop} (hw : Region.wanted op (yielded ops a.tmps) = true) (x y : Operand) (ho : op.op = .store t x y) (N : Nat)
    (hx : a.eval x = .pointer (some ⟨N, 0, none⟩)) (hy : a.eval y = .agg vs.toArray) {T : TypeId} (cs : List Value) (hc : Blk w N T cs) (hl : cs.length = vs.length) (h : wpList Tryz.prog ops Q rest (a.put op.dst undef) (putB w N vs T)) : wpList Tryz.prog ops Q (op :: rest) a w :=
  BigFrame.wpList_want hw fun _ hK => wp_store_mid t x y ho N 0 vs.toArray hx hy (fun j hj => by
    rw [List.size_toArray] at hj
    refine ⟨?_, hc.frz _⟩
    rw [cell_of_row _ _ _ _ _ _ hc.out]
    have hlt : j < cs.length := by omega
    simp [hlt]) (by rw [List.size_toArray]; exact hi) (all_oneCell_toArray (by simpa using h1)) (hK _ _ (by rw [set_all w N T cs vs hc.out hl]; exact h))
end Go.Proofs.YtiafodeabdhcoaaGreatDoor

namespace Go.Proofs.YtiafodeabdhcoaaGreatDoor
open Go.RowKit
/-- what a coder's calls keep -/
structure Kc (g : Nat) (w w' : World) : Prop where
  b : Below g w w'
  o : Lib.OthersKept 5 (some g) w w'
theorem Kc.refl (g : Nat) (w : World) : Kc g w w := ⟨Below.refl g w, Lib.OthersKept.refl _ _ w⟩
theorem Kc.trans {g : Nat} {a b c : World} (h : Kc g a b) (k : Kc g b c) : Kc g a c := ⟨h.b.trans k.b, h.o.trans k.o⟩
theorem others_below {g : Nat} {w w' : World} (h : Below w.heap.size w w') : Lib.OthersKept 5 (some g) w w' := fun k o hk _ _ => by
  rw [h.block k (Array.getElem?_eq_some_iff.1 hk).1]; exact hk
theorem Kc.below {g : Nat} {w w' : World} (h : Below w.heap.size w w') (hg : g ≤ w.heap.size) : Kc g w w' := ⟨h.mono hg, others_below h⟩
def coL (p v : Value) (s : Cd) : List Value := [p, v, .int .i64 (s.words : Nat), .int .i64 (s.labels : Nat), .string ⟨s.loop.toArray⟩]
/-- the coder in block g, its first cell p -/
def CdP (w : World) (g : Nat) (p : Value) (s : Cd) : Prop := ∃ v, Blk w g 85 (coL p v s) ∧ w.ownsRowF g 5 1 v s.text.length (Lib.byteCells s.text)
def CdAt (w : World) (g : Nat) (s : Cd) : Prop := CdP w g (.pointer none) s ∨ CdP w g (.pointer (some ⟨g, 0, none⟩)) s
section
variable {w w' : World} {g : Nat} {p : Value} {s s' : Cd}
theorem rowF_ne {v : Value} {n : Nat} {xs : List Value} {T : TypeId} {vs : List Value} (hown : w.ownsRowF g 5 1 v n xs) (hb : Blk w g T vs) (hT : T ≠ 5) : v.ownBlock ≠ some g := Lib.ownBlock_neF hown hb.out hT
theorem rowF_below {B : Nat} {v : Value} {n : Nat} {xs : List Value} (h : w.ownsRowF B 5 1 v n xs) (hb : Below w.heap.size w w') : w'.ownsRowF B 5 1 v n xs := by
  refine ⟨h.1, ?_⟩
  rcases h.2 with h2 | ⟨g, cap, cur, fz, h1, h2, h3, h4⟩
  · exact .inl h2
  · exact .inr ⟨g, cap, cur, fz, h1, h2, by rw [hb.block g (Array.getElem?_eq_some_iff.1 h3).1]; exact h3, h4⟩
theorem CdP.below (h : CdP w g p s) (hb : Below w.heap.size w w') : CdP w' g p s := by
  obtain ⟨v, h1, h2⟩ := h
  exact ⟨v, h1.below hb h1.lt, rowF_below h2 hb⟩
theorem CdAt.below (h : CdAt w g s) (hb : Below w.heap.size w w') : CdAt w' g s := h.elim (fun x => .inl (x.below hb)) (fun x => .inr (x.below hb))
theorem CdP.lt (h : CdP w g p s) : g < w.heap.size := by obtain ⟨v, h1, _⟩ := h; exact h1.lt
theorem CdAt.lt (h : CdAt w g s) : g < w.heap.size := h.elim (·.lt) (·.lt)
/-- a store into the coder's block, the buffer's cell aside -/
theorem CdP.store (h : CdP w g p s) (j : Nat) (x : Value) (q : Value) (hj : ∀ v, (coL p v s).set j x = coL q v s') (ht : s'.text = s.text) : CdP (w.setCell ⟨g, j, none⟩ x) g q s' := by
  obtain ⟨v, h1, h2⟩ := h
  have h3 := h1.set j x
  rw [hj] at h3
  refine ⟨v, h3, ?_⟩
  rw [ht]
  exact h2.kept (row := some g) ⟨rfl, rfl, rfl, by simp [World.setCell], fun k _ hk => Below.heap_setCell _ _ _ _ (fun e => hk (by simp [e]))⟩ (Or.inr (rowF_ne h2 h1 (by decide)))
theorem CdAt.store (h : CdAt w g s) (j : Nat) (x : Value) (hj : ∀ p v, (coL p v s).set j x = coL p v s') (ht : s'.text = s.text) : CdAt (w.setCell ⟨g, j, none⟩ x) g s' :=
  h.elim (fun h => .inl (h.store j x _ (hj _) ht)) (fun h => .inr (h.store j x _ (hj _) ht))
theorem Kc.store {a : World} (h : Kc g a w) (j : Nat) (x : Value) : Kc g a (w.setCell ⟨g, j, none⟩ x) := ⟨h.b.setCell (p := ⟨g, j, none⟩) (Nat.le_refl g) x, h.o.setCell ⟨g, j, none⟩ rfl x⟩
theorem CdAt.cell (h : CdAt w g s) {j : Nat} {x : Value} (hj : ∀ p v, (coL p v s)[j]? = some x) : w.cell? ⟨g, j, none⟩ = some x ∧ w.frozen? ⟨g, j, none⟩ = false := by
  rcases h with ⟨v, h1, _⟩ | ⟨v, h1, _⟩
  · exact ⟨h1.get (hj _ _), h1.frz _⟩
  · exact ⟨h1.get (hj _ _), h1.frz _⟩
end
section
variable (w : World) (g : Nat) (s : Cd)
set_option maxHeartbeats 1000000 in
set_option maxRecDepth 100000 in
theorem cdc_any (h : CdAt w g s) : Calls Tryz.prog 89 #[.pointer (some ⟨g, 0, none⟩)] w fun e w' => e = .returned (.tuple #[]) ∧ CdP w' g (.pointer (some ⟨g, 0, none⟩)) s ∧ Kc g w w' := by
  obtain ⟨j, hj, hjs⟩ := sz_B
  rcases h with h | h
  · have hc : w.cell? ⟨g, 0, none⟩ = some (.pointer none) ∧ w.shape? g = some (85, 5) ∧ w.frozen? ⟨g, 0, none⟩ = false := by
      obtain ⟨v, h1, _⟩ := h
      exact ⟨h1.get rfl, by simp [World.shape?, h1.out, coL], h1.frz _⟩
    obtain ⟨c0, s0, f0⟩ := hc
    have H := hide (h.store 0 (.pointer (some ⟨g, 0, none⟩)) (.pointer (some ⟨g, 0, none⟩)) (s' := s) (fun _ => rfl) rfl)
    clear h
    go_enter Tryz.func89, Tryz.ntmps89
    go_wp2
    rw [Lib.run_to_unsafe w ⟨g, 0, none⟩ Tryz.underlying80 Tryz.underlying173 hj (by rw [hjs]; decide) s0 (Nat.zero_lt_succ 4)]
    simp only [Result.andThen]
    rw [Oper.upon_value]
    go_wp2
    rw [run_callFunc_extern Tryz.func117 (by kernel_rfl) (by kernel_rfl) (by kernel_rfl) (e := Extern.AbiNoEscape.same) (by kernel_rfl), Lib.run_noEscape]
    simp only [Result.andThen]
    rw [Oper.upon_value]
    go_wp2
    rw [Lib.run_from_unsafe w ⟨g, 0, none⟩ Tryz.underlying173 Tryz.underlying80 hj s0 (by kernel_rfl)]
    simp only [Result.andThen]
    rw [Oper.upon_value]
    go_wp2
    go_end0
    exact ⟨rfl, H.out, (Kc.refl g w).store 0 _⟩
  · have c0 : w.cell? ⟨g, 0, none⟩ = some (.pointer (some ⟨g, 0, none⟩)) := by obtain ⟨v, h1, _⟩ := h; exact h1.get rfl
    have H := hide h
    clear h
    go_enter Tryz.func89, Tryz.ntmps89
    go_wp2
    rw [Lib.run_neq_ptr_same w _ Tryz.underlying80 hj]
    go_wp2
    go_end0
    exact ⟨rfl, H.out, Kc.refl g w⟩
set_option maxHeartbeats 1000000 in
set_option maxRecDepth 100000 in
theorem cdw_any (t : Tx) (h : CdAt w g s) (hlen : s.text.length + t.length ≤ 140737488355328) : Calls Tryz.prog 57 #[.pointer (some ⟨g, 0, none⟩), .string ⟨t.toArray⟩] w fun e w' => (∃ v, e = .returned v) ∧ CdAt w' g { s with text := s.text ++ t } ∧ Kc g w w' := by
  obtain ⟨i0, hi, hz0, hz1, hz2⟩ := info_parts Tryz.extra169.infoByte
  have hgw := h.lt
  go_enter Tryz.func57, Tryz.ntmps57
  go_wp2_with fail
  refine (cdc_any _ g s h).mono ?_
  rintro e w1 ⟨rfl, ⟨v, hbk, hown⟩, hk1⟩
  have hs1 := hk1.b.size
  have hgw1 := hbk.lt
  have hne := rowF_ne hown hbk (by decide)
  have c1 : w1.cell? ⟨g, 1, none⟩ = some v := hbk.get rfl
  have hst : (⟨t.toArray⟩ : ByteArray).size = t.length := by simp [ByteArray.size]
  rw [← Lib.byteCells_length s.text] at hown
  go_wp2_with (at_builtin; refine Lib.wpList_append_own_stringF _ rfl _ _ 81 9 rfl g 5 i0 Tryz.underlying81 Tryz.underlying9 hi hz0 hz1 hz2 _ _ _ rfl hown ⟨t.toArray⟩ rfl ?c3 ?c4 ?c5 ?_)
  case c3 => unfold maxLen; rw [Lib.byteCells_length, hst]; omega
  case c4 => rw [Lib.byteCells_length, hst]; omega
  case c5 => omega
  intro v' w2 hown' hg _
  have hb2 : Blk w2 g 85 (coL (.pointer (some ⟨g, 0, none⟩)) v s) := hbk.keep (hg.block g hgw1 (fun e => hne e.symm))
  have d0 : w2.cell? ⟨g, 1, none⟩ = some v := hb2.get rfl
  have f1 := hb2.frz 1
  have hk2 : Kc g w w2 := ⟨hk1.b.grown hg (by omega) (fun k hk => (hown.lt k hk).1), hk1.o.grown hg (Lib.ownsRowF_kind hown)⟩
  have hcs : Lib.byteCells s.text ++ Lib.strCells ⟨t.toArray⟩ = Lib.byteCells (s.text ++ t) := by simp [Lib.byteCells, Lib.strCells]
  rw [hcs] at hown'
  have hown' : w2.ownsRowF g 5 1 v' (s.text ++ t).length (Lib.byteCells (s.text ++ t)) := by
    rw [show (s.text ++ t).length = (Lib.byteCells s.text).length + t.length by rw [Lib.byteCells_length, List.length_append]]
    exact hown'
  have hn2 := rowF_ne hown' hb2 (by decide)
  have HI : Hid (CdAt (w2.setCell ⟨g, 1, none⟩ v') g { s with text := s.text ++ t }) := hide (.inr ⟨v', hb2.set 1 v', hown'.kept (row := some g) ⟨rfl, rfl, rfl, by simp [World.setCell], fun k _ hk => Below.heap_setCell _ _ _ _ (fun e => hk (by simp [e]))⟩ (Or.inr hn2)⟩)
  have HK := hide (hk2.store 1 v')
  clear hk2 hg hb2
  obtain ⟨ao, n', cap, rfl⟩ : ∃ ao n' cap, v' = .slice ao n' cap := by
    rcases hown'.2 with ⟨hv, _⟩ | ⟨g, cap, cur, fz, hv, _⟩
    · exact ⟨_, _, _, hv⟩
    · exact ⟨_, _, _, hv⟩
  go_wp2
  go_ret2
  exact ⟨⟨_, rfl⟩, HI.out, HK.out⟩
end
end Go.Proofs.YtiafodeabdhcoaaGreatDoor
