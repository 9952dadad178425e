import Derived.Test.YtoddadohmnaolaaEJ
namespace Go.Proofs.Ytoddadohmnaolaa
open Go.RowKit

/-- the law's own book, with the first k numbers marked -/
def bookL (k : Nat) : List Value := (List.replicate k (.bool true) ++ List.replicate (16 - k) (.bool false)) ++ (List.replicate 48 (.int .i64 0) ++ [.int .i64 3])
def Bk (w : World) (B k : Nat) : Prop := w.heap[B]? = some (.cells (bookL k).toArray 58 (0, 0))
theorem Bk.lt {w : World} {B k : Nat} (h : Bk w B k) : B < w.heap.size := (Array.getElem?_eq_some_iff.1 h).1
theorem Bk.at {w : World} {B k : Nat} (h : Bk w B k) (hk : k < 3) : w.cell? ⟨B, k, none⟩ = some (.bool false) ∧ w.frozen? ⟨B, k, none⟩ = false := by
  refine ⟨?_, frozen_of_row _ _ _ _ _ h⟩
  rw [cell_of_row _ _ _ _ _ _ h]
  match k, hk with
  | 0, _ => rfl
  | 1, _ => rfl
  | 2, _ => rfl
theorem Bk.set {w : World} {B k : Nat} (h : Bk w B k) (hk : k < 3) : Bk (w.setCell ⟨B, k, none⟩ (.bool true)) B (k + 1) := by
  unfold Bk
  rw [heap_setCell_same _ B k _ _ _ h]
  match k, hk with
  | 0, _ => rfl
  | 1, _ => rfl
  | 2, _ => rfl
/-- the table that the laws start from -/
def q0 : Qt := ⟨40, 24, 8⟩
def q1 : Qt := ⟨20, 7, 3⟩
def q2 : Qt := ⟨6, 2, 1⟩
def e0 : Er := { Er.new 1 (-1) q0 with le := ⟨20, 16, 5⟩ }
def e1 : Er := { Er.new 2 0 q1 with le := ⟨14, 4, 2⟩ }
def e2 : Er := Er.new 3 1 q2
def rs3 : List (Option Er) := some e0 :: some e1 :: some e2 :: List.replicate 13 none
theorem q0_bnd : q0.bnd = q0 := rfl
def rs1 : List (Option Er) := (List.replicate 16 none).set 0 (some (Er.new 1 (-1) q0))
def rs2 : List (Option Er) := some e0 :: some (Er.new 2 0 q1) :: List.replicate 14 none
theorem c1_any (W : World) (F : Nat → Prop) (T : Nat) (h : Et W F T rs1 1) : Calls Try.prog 18 #[.pointer (some ⟨T, 0, none⟩), .int .i64 0, .int .i64 2, q1.val] W fun x w' => x = .returned (.tuple #[.int .i64 1, .int .i64 0]) ∧ ∃ F', Et w' F' T rs2 2 ∧ Ext F W F' w' := by
  have h1 := createOk_any W F T rs1 1 h 0 (Er.new 1 (-1) q0) rfl 2 q1 ⟨rfl, rfl, rfl⟩ (by decide) (by decide) ⟨by decide, by decide, by decide⟩ ⟨⟨by decide, by decide⟩, ⟨by decide, by decide⟩, ⟨by decide, by decide⟩⟩ (by decide)
  exact h1
theorem c2_any (W : World) (F : Nat → Prop) (T : Nat) (h : Et W F T rs2 2) : Calls Try.prog 18 #[.pointer (some ⟨T, 0, none⟩), .int .i64 1, .int .i64 3, q2.val] W fun x w' => x = .returned (.tuple #[.int .i64 2, .int .i64 0]) ∧ ∃ F', Et w' F' T rs3 3 ∧ Ext F W F' w' := by
  have h1 := createOk_any W F T rs2 2 h 1 (Er.new 2 0 q1) rfl 3 q2 ⟨rfl, rfl, rfl⟩ (by decide) (by decide) ⟨by decide, by decide, by decide⟩ ⟨⟨by decide, by decide⟩, ⟨by decide, by decide⟩, ⟨by decide, by decide⟩⟩ (by decide)
  exact h1
set_option maxRecDepth 8000 in
set_option maxHeartbeats 3200000 in
theorem first_any (w : World) : Calls Try.prog 9 #[] w fun x w' => ∃ T B, x = .returned (.tuple #[.pointer (some ⟨T, 0, none⟩), .pointer (some ⟨B, 0, none⟩)]) ∧ Bk w' B 3 ∧ w.heap.size ≤ B ∧ ∃ F, Et w' F T rs3 3 ∧ ¬ F B ∧ (∀ b, F b → w.heap.size ≤ b) ∧ Below w.heap.size w w' := by
  have hb1 := (Below.refl w.heap.size w).alloc (Nat.le_refl _) (.cells (bookL 0).toArray 58)
  have hB1 : Bk (w.alloc (.cells (bookL 0).toArray 58)) w.heap.size 0 := heap_alloc_new _ _
  have HB1 := hide hb1
  have HK1 := hide hB1
  clear hb1 hB1
  have HN := hide (fun W => new_any W 1 q0)
  rw [q0_bnd] at HN
  go_enter Try.func9, Try.ntmps9
  go_upto_region 2 with fail
  show Code.wp _ _ _ _ (w.alloc (.cells (bookL 0).toArray 58))
  generalize w.alloc (.cells (bookL 0).toArray 58) = w1 at *
  go_wp2_with fail
  refine (HN.out _).mono ?_
  rintro e1 w2 ⟨T, rfl, F, hE2, hF2, hb2⟩
  have hE2' : Et w2 F T rs1 1 := hE2
  have hl1 := HK1.out.lt
  have HK2 : Hid (Bk w2 w.heap.size 0) := hide ((hb2.block _ hl1).trans HK1.out)
  have HB2 := hide (HB1.out.trans (hb2.mono HB1.out.size))
  have HF2 : Hid (∀ b, F b → w1.heap.size ≤ b) := hide hF2
  have HL1 := hide hl1
  have HC := hide (c1_any w2 F T hE2')
  have HZ2 : Hid (w1.heap.size ≤ w2.heap.size) := hide hb2.size
  clear hE2 hE2' hF2 hb2 hl1 HN
  go_wp2_with fail
  refine HC.out.mono ?_
  rintro e1 w3 ⟨rfl, F3, hE3, hX3⟩
  have HX3 := hide hX3
  have HC := hide (c2_any w3 F3 T hE3)
  clear hE3 hX3
  go_wp2_with fail
  refine HC.out.mono ?_
  rintro e1 w4 ⟨rfl, F4, hE4, hX4⟩
  have HX4 := hide (HX3.out.trans hX4)
  have HE4 := hide hE4
  have HF4 : Hid (∀ b, F4 b → w1.heap.size ≤ b) := hide (HX4.out.low HF2.out HZ2.out)
  have HB4 : Hid (Below w.heap.size w w4) := hide (HB2.out.trans (HX4.out.mod.below (fun b hb => Nat.le_trans HB1.out.size (HF2.out b hb)) (Nat.le_trans HB1.out.size HZ2.out)))
  have HK4 : Hid (Bk w4 w.heap.size 0) := hide ((HX4.out.mod.block _ HK2.out.lt (fun e => by have := HF2.out _ e; have := HL1.out; omega)).trans HK2.out)
  clear hE4 hX4 HX3 HX4 HC HK2 HB2
  have HNF : Hid (¬ F4 w.heap.size) := hide (fun e => by have := HF4.out _ e; have := HL1.out; omega)
  go_wp2_with fail
  go_loopw [8] (fun x wr => ∃ k : Nat, k ≤ 3 ∧ x = .int .i64 (k : Int) ∧ Hid (Bk wr w.heap.size k) ∧ Hid (Et wr F4 T rs3 3) ∧ Hid (Below w.heap.size w wr)) (fun x _ => 3 - (intOf x).toNat)
  case atStart => exact ⟨0, by omega, rfl, HK4, HE4, HB4⟩
  case round =>
  obtain ⟨k, hk, rfl, K1, K2, K3⟩ := hrel
  by_cases hlt : k < 3
  · have hd : decide ((k : Int) < 3) = true := by simp; omega
    obtain ⟨t1, t2⟩ := K1.out.at hlt
    have HS := hide (K1.out.set hlt)
    have HE : Hid (Et (wr.setCell ⟨w.heap.size, k, none⟩ (.bool true)) F4 T rs3 3) := hide (K2.out.keep (by simp [World.setCell]) (fun b hb => heap_setCell_other _ _ _ _ (fun e => HNF.out (by have e' : b = w.heap.size := e; rw [← e']; exact hb))))
    have HB := hide (K3.out.setCell (p := ⟨w.heap.size, k, none⟩) (Nat.le_refl _) (.bool true))
    have hk16 : (k : Int) < 16 := by omega
    go_wp2
    go_roundw
    case rel =>
      first
        | exact ⟨k + 1, by omega, by go_num, HS, HE, HB⟩
        | ((repeat apply Exists.intro); refine ⟨?_, rfl⟩; exact ⟨k + 1, by omega, by go_num, HS, HE, HB⟩)
    case measure => simp [intOf]; omega
  · have hd : decide ((k : Int) < 3) = false := by simp; omega
    obtain rfl : k = 3 := by omega
    go_wp2
    go_ret2
    exact ⟨T, w.heap.size, rfl, K1.out, Nat.le_refl _, F4, K2.out, HNF.out, fun b hb => Nat.le_trans HB1.out.size (HF4.out b hb), K3.out⟩
end Go.Proofs.Ytoddadohmnaolaa
