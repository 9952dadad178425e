import Derived.Test.YtncbbllmhohnkaaDoorUK
namespace Go.Proofs.YtncbbllmhohnkaaDoor
open Go.RowKit
/-- a line's cells -/
def lnC (l : Ln) : Array Value := #[.bool l.wrong, .string ⟨l.label.toArray⟩, .int .i64 l.i.op, .int .i64 l.i.a, .int .i64 l.i.b, .int .i64 l.i.imm, .string ⟨l.name.toArray⟩, .int .i64 l.words]
/-- a line lies in a block -/
def LnAt (w : World) (g : Nat) (l : Ln) : Prop := w.heap[g]? = some (.cells (lnC l) 60 (0, 0))
theorem LnAt.lt {w : World} {g : Nat} {l : Ln} (h : LnAt w g l) : g < w.heap.size := (Array.getElem?_eq_some_iff.1 h).1
theorem LnAt.frz {w : World} {g : Nat} {l : Ln} (h : LnAt w g l) (j : Nat) : w.frozen? ⟨g, j, none⟩ = false := Lib.frozen_of_heap h j
theorem LnAt.cells {w : World} {g : Nat} {l : Ln} (h : LnAt w g l) : w.cell? ⟨g, 0, none⟩ = some (.bool l.wrong) ∧ w.cell? ⟨g, 1, none⟩ = some (.string ⟨l.label.toArray⟩) ∧ w.cell? ⟨g, 2, none⟩ = some (.int .i64 l.i.op) ∧ w.cell? ⟨g, 3, none⟩ = some (.int .i64 l.i.a) ∧ w.cell? ⟨g, 4, none⟩ = some (.int .i64 l.i.b) ∧ w.cell? ⟨g, 5, none⟩ = some (.int .i64 l.i.imm) ∧ w.cell? ⟨g, 6, none⟩ = some (.string ⟨l.name.toArray⟩) ∧ w.cell? ⟨g, 7, none⟩ = some (.int .i64 l.words) := by
  refine ⟨?_, ?_, ?_, ?_, ?_, ?_, ?_, ?_⟩ <;> (rw [Lib.cell_of_heap h]; rfl)
theorem LnAt.keep {w w' : World} {g : Nat} {l : Ln} (h : LnAt w g l) (hb : Below w.heap.size w w') : LnAt w' g l := by
  show w'.heap[g]? = _
  rw [hb.block g h.lt]
  exact h
theorem LnAt.op {w : World} {g : Nat} {l : Ln} (h : LnAt w g l) (z : Int) : LnAt (w.setCell ⟨g, 2, none⟩ (.int .i64 z)) g { l with i := { l.i with op := z } } := heap_setCell_same w g 2 _ _ _ h
theorem LnAt.a {w : World} {g : Nat} {l : Ln} (h : LnAt w g l) (z : Int) : LnAt (w.setCell ⟨g, 3, none⟩ (.int .i64 z)) g { l with i := { l.i with a := z } } := heap_setCell_same w g 3 _ _ _ h
theorem LnAt.b {w : World} {g : Nat} {l : Ln} (h : LnAt w g l) (z : Int) : LnAt (w.setCell ⟨g, 4, none⟩ (.int .i64 z)) g { l with i := { l.i with b := z } } := heap_setCell_same w g 4 _ _ _ h
theorem LnAt.imm {w : World} {g : Nat} {l : Ln} (h : LnAt w g l) (z : Int) : LnAt (w.setCell ⟨g, 5, none⟩ (.int .i64 z)) g { l with i := { l.i with imm := z } } := heap_setCell_same w g 5 _ _ _ h
theorem LnAt.name {w : World} {g : Nat} {l : Ln} (h : LnAt w g l) (s : Tx) : LnAt (w.setCell ⟨g, 6, none⟩ (.string ⟨s.toArray⟩)) g { l with name := s } := heap_setCell_same w g 6 _ _ _ h
theorem LnAt.words {w : World} {g : Nat} {l : Ln} (h : LnAt w g l) (z : Int) : LnAt (w.setCell ⟨g, 7, none⟩ (.int .i64 z)) g { l with words := z } := heap_setCell_same w g 7 _ _ _ h
theorem LnAt.label {w : World} {g : Nat} {l : Ln} (h : LnAt w g l) (s : Tx) : LnAt (w.setCell ⟨g, 1, none⟩ (.string ⟨s.toArray⟩)) g { l with label := s } := heap_setCell_same w g 1 _ _ _ h
/-- all stays but one block, and what is new -/
structure Kp (g : Nat) (w w' : World) : Prop where
  os : w'.os = w.os
  tape : w'.tape = w.tape
  output : w'.output = w.output
  size : w.heap.size ≤ w'.heap.size
  block : ∀ k, k < w.heap.size → k ≠ g → w'.heap[k]? = w.heap[k]?
theorem Kp.of {g : Nat} {w w' : World} (h : Below w.heap.size w w') : Kp g w w' := ⟨h.os, h.tape, h.output, h.size, fun k hk _ => h.block k hk⟩
theorem Kp.refl (g : Nat) (w : World) : Kp g w w := ⟨rfl, rfl, rfl, Nat.le_refl _, fun _ _ _ => rfl⟩
theorem Kp.trans {g : Nat} {a b c : World} (h : Kp g a b) (h2 : Kp g b c) : Kp g a c := ⟨h2.os.trans h.os, h2.tape.trans h.tape, h2.output.trans h.output, Nat.le_trans h.size h2.size, fun k hk hn => (h2.block k (Nat.lt_of_lt_of_le hk h.size) hn).trans (h.block k hk hn)⟩
theorem Kp.set {g j : Nat} {a b : World} (h : Kp g a b) (v : Value) : Kp g a (b.setCell ⟨g, j, none⟩ v) :=
  ⟨h.os, h.tape, h.output, by rw [World.size_setCell]; exact h.size, fun k hk hn => by rw [heap_setCell_other b ⟨g, j, none⟩ k v hn]; exact h.block k hk hn⟩
theorem Kp.below {g B : Nat} {a b c : World} (h : Below B a b) (h2 : Kp g b c) (hB : B ≤ b.heap.size) (hg : B ≤ g) : Below B a c := ⟨h2.os.trans h.os, h2.tape.trans h.tape, h2.output.trans h.output, Nat.le_trans h.size h2.size, fun k hk => (h2.block k (by omega) (by omega)).trans (h.block k hk)⟩
section
variable (w : World)
set_option maxRecDepth 100000 in
set_option maxHeartbeats 1000000 in
theorem readImm_any (g : Nat) (l : Ln) (f : Tx) (lo hi : Int) (hf : f.length ≤ 16384) (hL : LnAt w g l) : Calls Tryd.prog 92 #[.pointer (some ⟨g, 0, none⟩), .string ⟨f.toArray⟩, .int .i64 lo, .int .i64 hi] w fun e w' => e = .returned (.bool (immT l f lo hi).isSome) ∧ (∀ l', immT l f lo hi = some l' → LnAt w' g l') ∧ (∃ l', LnAt w' g l') ∧ Kp g w w' := by
  have hI := isLabel_any w f hf
  cases hx : isLbl f with
  | true =>
    rw [hx] at hI
    have HV : Hid (immT l f lo hi = some { l with name := f }) := hide (by simp [immT, hx])
    have HI := hide hI
    clear hI hx
    go_enter Tryd.func92, Tryd.ntmps92
    go_wp2_with fail
    refine HI.out.mono ?_
    rintro e w1 ⟨rfl, hb⟩
    have hL1 := hL.keep hb
    have c6 := hL1.cells.2.2.2.2.2.2.1
    have f6 := hL1.frz 6
    have HN := hide (hL1.name f)
    have HK := hide (Kp.set (j := 6) (Kp.of (g := g) hb) (.string ⟨f.toArray⟩))
    clear hb hL1 hL HI
    go_wp2
    go_ret
    exact ⟨by rw [HV.out]; rfl, fun l' e => by rw [HV.out] at e; cases e; exact HN.out, ⟨_, HN.out⟩, HK.out⟩
  | false =>
    rw [hx] at hI
    have HI := hide hI
    have HV : Hid (immT l f lo hi = match numT f with | some n => if lo ≤ n ∧ n ≤ hi then some { l with i := { l.i with imm := n } } else none | none => none) := hide (by unfold immT; rw [hx]; rfl)
    clear hI hx
    cases hn : numT f with
    | none =>
      rw [hn] at HV
      have HM := hide (fun W => number_any' W f hf)
      rw [hn] at HM
      clear hn
      go_enter Tryd.func92, Tryd.ntmps92
      go_wp2_with fail
      refine HI.out.mono ?_
      rintro e w1 ⟨rfl, hb⟩
      go_wp2_with fail
      refine (HM.out _).mono ?_
      rintro e w2 ⟨rfl, hb2⟩
      have hb3 := hb.trans (hb2.mono hb.size)
      have hL1 := hL.keep hb3
      have c5 := hL1.cells.2.2.2.2.2.1
      have f5 := hL1.frz 5
      have HN := hide (hL1.imm 0)
      have HK := hide (Kp.set (j := 5) (Kp.of (g := g) hb3) (.int .i64 0))
      clear hb hb2 hb3 hL1 hL HI HM
      go_wp2
      go_ret
      exact ⟨by rw [HV.out]; rfl, fun l' e => (by rw [HV.out] at e; cases e), ⟨_, HN.out⟩, HK.out⟩
    | some n =>
      rw [hn] at HV
      have HM := hide (fun W => number_any' W f hf)
      rw [hn] at HM
      clear hn
      by_cases h1 : lo ≤ n
      · by_cases h2 : n ≤ hi
        · have HV2 : Hid (immT l f lo hi = some { l with i := { l.i with imm := n } }) := hide (by rw [HV.out]; simp [h1, h2])
          clear HV
          go_enter Tryd.func92, Tryd.ntmps92
          go_wp2_with fail
          refine HI.out.mono ?_
          rintro e w1 ⟨rfl, hb⟩
          go_wp2_with fail
          refine (HM.out _).mono ?_
          rintro e w2 ⟨rfl, hb2⟩
          have hb3 := hb.trans (hb2.mono hb.size)
          have hL1 := hL.keep hb3
          have c5 := hL1.cells.2.2.2.2.2.1
          have f5 := hL1.frz 5
          have HN := hide (hL1.imm n)
          have HK := hide (Kp.set (j := 5) (Kp.of (g := g) hb3) (.int .i64 n))
          clear hb hb2 hb3 hL1 hL HI HM
          go_wp2
          go_ret
          exact ⟨by rw [HV2.out]; rfl, fun l' e => by rw [HV2.out] at e; cases e; exact HN.out, ⟨_, HN.out⟩, HK.out⟩
        · have HV2 : Hid (immT l f lo hi = none) := hide (by rw [HV.out]; simp [h2])
          have d2 : decide (n ≤ hi) = false := by simpa using h2
          clear HV h2
          go_enter Tryd.func92, Tryd.ntmps92
          go_wp2_with fail
          refine HI.out.mono ?_
          rintro e w1 ⟨rfl, hb⟩
          go_wp2_with fail
          refine (HM.out _).mono ?_
          rintro e w2 ⟨rfl, hb2⟩
          have hb3 := hb.trans (hb2.mono hb.size)
          have hL1 := hL.keep hb3
          have c5 := hL1.cells.2.2.2.2.2.1
          have f5 := hL1.frz 5
          have HN := hide (hL1.imm n)
          have HK := hide (Kp.set (j := 5) (Kp.of (g := g) hb3) (.int .i64 n))
          clear hb hb2 hb3 hL1 hL HI HM
          go_wp2
          go_ret
          exact ⟨by rw [HV2.out]; rfl, fun l' e => (by rw [HV2.out] at e; cases e), ⟨_, HN.out⟩, HK.out⟩
      · have HV2 : Hid (immT l f lo hi = none) := hide (by rw [HV.out]; simp [h1])
        have d1 : decide (lo ≤ n) = false := by simpa using h1
        clear HV h1
        go_enter Tryd.func92, Tryd.ntmps92
        go_wp2_with fail
        refine HI.out.mono ?_
        rintro e w1 ⟨rfl, hb⟩
        go_wp2_with fail
        refine (HM.out _).mono ?_
        rintro e w2 ⟨rfl, hb2⟩
        have hb3 := hb.trans (hb2.mono hb.size)
        have hL1 := hL.keep hb3
        have c5 := hL1.cells.2.2.2.2.2.1
        have f5 := hL1.frz 5
        have HN := hide (hL1.imm n)
        have HK := hide (Kp.set (j := 5) (Kp.of (g := g) hb3) (.int .i64 n))
        clear hb hb2 hb3 hL1 hL HI HM
        go_wp2
        go_ret
        exact ⟨by rw [HV2.out]; rfl, fun l' e => (by rw [HV2.out] at e; cases e), ⟨_, HN.out⟩, HK.out⟩
/-- how many words, as a line -/
def cntT (l : Ln) (f : Tx) : Option Ln :=
  match numT f with
  | some n => if 0 ≤ n ∧ n ≤ 512 then some { l with words := n } else none
  | none => none
set_option maxRecDepth 100000 in
set_option maxHeartbeats 1000000 in
theorem readCount_any (g : Nat) (l : Ln) (f : Tx) (hf : f.length ≤ 16384) (hL : LnAt w g l) : Calls Tryd.prog 93 #[.pointer (some ⟨g, 0, none⟩), .string ⟨f.toArray⟩] w fun e w' => e = .returned (.bool (cntT l f).isSome) ∧ (∀ l', cntT l f = some l' → LnAt w' g l') ∧ (∃ l', LnAt w' g l') ∧ Kp g w w' := by
  have HM := hide (number_any' w f hf)
  cases hn : numT f with
  | none =>
    have HV2 : Hid (cntT l f = none) := hide (by simp [cntT, hn])
    rw [hn] at HM
    clear hn
    go_enter Tryd.func93, Tryd.ntmps93
    go_wp2_with fail
    refine HM.out.mono ?_
    rintro e w2 ⟨rfl, hb3⟩
    have hL1 := hL.keep hb3
    have c7 := hL1.cells.2.2.2.2.2.2.2
    have f7 := hL1.frz 7
    have HN := hide (hL1.words 0)
    have HK := hide (Kp.set (j := 7) (Kp.of (g := g) hb3) (.int .i64 0))
    clear hb3 hL1 hL HM
    go_wp2
    go_ret
    exact ⟨by rw [HV2.out]; rfl, fun l' e => (by rw [HV2.out] at e; cases e), ⟨_, HN.out⟩, HK.out⟩
  | some n =>
    rw [hn] at HM
    have HV : Hid (cntT l f = if 0 ≤ n ∧ n ≤ 512 then some { l with words := n } else none) := hide (by simp [cntT, hn])
    clear hn
    by_cases h1 : 0 ≤ n
    · by_cases h2 : n ≤ 512
      · have HV2 : Hid (cntT l f = some { l with words := n }) := hide (by rw [HV.out]; simp [h1, h2])
        clear HV
        go_enter Tryd.func93, Tryd.ntmps93
        go_wp2_with fail
        refine HM.out.mono ?_
        rintro e w2 ⟨rfl, hb3⟩
        have hL1 := hL.keep hb3
        have c7 := hL1.cells.2.2.2.2.2.2.2
        have f7 := hL1.frz 7
        have HN := hide (hL1.words n)
        have HK := hide (Kp.set (j := 7) (Kp.of (g := g) hb3) (.int .i64 n))
        clear hb3 hL1 hL HM
        go_wp2
        go_ret
        exact ⟨by rw [HV2.out]; rfl, fun l' e => by rw [HV2.out] at e; cases e; exact HN.out, ⟨_, HN.out⟩, HK.out⟩
      · have HV2 : Hid (cntT l f = none) := hide (by rw [HV.out]; simp [h2])
        have d2 : decide (n ≤ 512) = false := by simpa using h2
        clear HV h2
        go_enter Tryd.func93, Tryd.ntmps93
        go_wp2_with fail
        refine HM.out.mono ?_
        rintro e w2 ⟨rfl, hb3⟩
        have hL1 := hL.keep hb3
        have c7 := hL1.cells.2.2.2.2.2.2.2
        have f7 := hL1.frz 7
        have HN := hide (hL1.words n)
        have HK := hide (Kp.set (j := 7) (Kp.of (g := g) hb3) (.int .i64 n))
        clear hb3 hL1 hL HM
        go_wp2
        go_ret
        exact ⟨by rw [HV2.out]; rfl, fun l' e => (by rw [HV2.out] at e; cases e), ⟨_, HN.out⟩, HK.out⟩
    · have HV2 : Hid (cntT l f = none) := hide (by rw [HV.out]; simp [h1])
      have d1 : decide (0 ≤ n) = false := by simpa using h1
      clear HV h1
      go_enter Tryd.func93, Tryd.ntmps93
      go_wp2_with fail
      refine HM.out.mono ?_
      rintro e w2 ⟨rfl, hb3⟩
      have hL1 := hL.keep hb3
      have c7 := hL1.cells.2.2.2.2.2.2.2
      have f7 := hL1.frz 7
      have HN := hide (hL1.words n)
      have HK := hide (Kp.set (j := 7) (Kp.of (g := g) hb3) (.int .i64 n))
      clear hb3 hL1 hL HM
      go_wp2
      go_ret
      exact ⟨by rw [HV2.out]; rfl, fun l' e => (by rw [HV2.out] at e; cases e), ⟨_, HN.out⟩, HK.out⟩
end
end Go.Proofs.YtncbbllmhohnkaaDoor
