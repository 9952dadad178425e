import Derived.Test.YtfonenigkjngoabDoorK1
import Derived.Deep.QuietTactic
namespace Go.Proofs.YtfonenigkjngoabDoor
open Go.RowKit
/-- the registers of a trial -/
def r4 (x y : Nat) : Nat → Nat := fun i => match i with | 0 => 9 | 1 => x | 2 => y | 3 => 8 | _ => 0
theorem r4_ok {x y : Nat} (hx : x < 4294967296) (hy : y < 4294967296) : RgOk (r4 x y) 100 := by
  refine ⟨fun i _ => ?_, by decide⟩
  unfold r4
  split <;> omega
def i3 (op : Nat) : I := ⟨((op : Nat) : Int), ((1 : Nat) : Int), ((2 : Nat) : Int), 0⟩
theorem i3_isI {op : Nat} (h1 : 4 ≤ op) (h2 : op ≤ 17) : isI (i3 op) = true := by
  have h : op = 4 ∨ op = 5 ∨ op = 6 ∨ op = 7 ∨ op = 8 ∨ op = 9 ∨ op = 10 ∨ op = 11 ∨ op = 12 ∨ op = 13 ∨ op = 14 ∨ op = 15 ∨ op = 16 ∨ op = 17 := by omega
  rcases h with rfl | rfl | rfl | rfl | rfl | rfl | rfl | rfl | rfl | rfl | rfl | rfl | rfl | rfl <;> decide
theorem tgt_on {op x m nxt : Nat} (h : op ≤ 17) : tgt op x m nxt = nxt := by
  unfold tgt; rw [if_neg (by omega), if_neg (by omega)]
theorem below_drewN {N : Nat} {w w' : World} (h : Below N w w') (n : Nat) : Below N w (w'.drewN n) := ⟨h.os, h.tape, h.output, h.size, h.block⟩
section
variable (w : World)
theorem exec_does (op x y : Nat) (h1 : 4 ≤ op) (h2 : op ≤ 17) (hx : x < 4294967296) (hy : y < 4294967296) (h0 : op = 8 ∨ op = 9 → y ≠ 0) (hO : Ops w) :
    Calls Tryd.prog 11 #[.agg #[.int .u32 9, .int .u32 (x : Nat), .int .u32 (y : Nat), .int .u32 8, .int .u32 0, .int .u32 0, .int .u32 0, .int .u32 0, .int .u32 100], .int .u32 (word (i3 op) : Nat)] w fun e w' => e = .returned (.tuple #[.agg #[.int .u32 9, .int .u32 (res op x y 0 : Nat), .int .u32 (y : Nat), .int .u32 8, .int .u32 0, .int .u32 0, .int .u32 0, .int .u32 0, .int .u32 101], .agg #[.int .i64 0, .int .u32 0, .int .i64 0, .int .u32 0, .int .i64 0]]) ∧ Below w.heap.size w w' := by
  have hI := i3_isI h1 h2
  have hw := word_lt (isn.1 hI)
  have hp := parts_word (isn.1 hI)
  have key : Calls Tryd.prog 11 #[.agg (rg (r4 x y) 100).toArray, .int .u32 (word (i3 op) : Nat)] w fun e w' => e = .returned (.tuple #[.agg (rg (put (r4 x y) 1 (res op x y 0)) (tgt op x 0 (nx 100))).toArray, .agg effz.toArray]) ∧ Below w.heap.size w w' := by
    by_cases h8 : op = 8
    · exact exec_op8 w (r4 x y) 100 _ op 1 2 0 hw hp hI hO (by omega) (by omega) (r4_ok hx hy) h8 (h0 (.inl h8))
    · by_cases h9 : op = 9
      · exact exec_op9 w (r4 x y) 100 _ op 1 2 0 hw hp hI hO (by omega) (by omega) (r4_ok hx hy) h9 (h0 (.inr h9))
      · exact exec_op w (r4 x y) 100 _ op 1 2 0 hw hp hI hO (by omega) (by omega) (r4_ok hx hy) ⟨h8, h9, by omega, by omega, by omega, by omega⟩
  rw [tgt_on h2] at key
  exact key
theorem exec_does0 (op x : Nat) (h1 : op = 8 ∨ op = 9) (hO : Ops w) :
    Calls Tryd.prog 11 #[.agg #[.int .u32 9, .int .u32 (x : Nat), .int .u32 0, .int .u32 8, .int .u32 0, .int .u32 0, .int .u32 0, .int .u32 0, .int .u32 100], .int .u32 (word (i3 op) : Nat)] w fun e w' => e = .returned (.tuple #[.agg #[.int .u32 9, .int .u32 (x : Nat), .int .u32 0, .int .u32 8, .int .u32 0, .int .u32 0, .int .u32 0, .int .u32 0, .int .u32 100], .agg #[.int .i64 4, .int .u32 0, .int .i64 0, .int .u32 0, .int .i64 73]]) ∧ Below w.heap.size w w' := by
  have hI := i3_isI (op := op) (by omega) (by omega)
  have hw := word_lt (isn.1 hI)
  have hp := parts_word (isn.1 hI)
  rcases h1 with h | h
  · exact exec_div8 w (r4 x 0) 100 _ op 1 2 0 hw hp hI hO h rfl
  · exact exec_div9 w (r4 x 0) 100 _ op 1 2 0 hw hp hI hO h rfl
set_option maxRecDepth 100000 in
set_option maxHeartbeats 2000000 in
theorem does_yes (op x y : Nat) (h1 : 4 ≤ op) (h2 : op ≤ 17) (hx : x < 4294967296) (hy : y < 4294967296) (h0 : op = 8 ∨ op = 9 → y ≠ 0) (hO : Ops w) : Calls Tryd.prog 10 #[.int .i64 (op : Int), .int .u32 (x : Nat), .int .u32 (y : Nat)] w fun e w' => e = .returned (.tuple #[.int .u32 (res op x y 0 : Nat), .bool true]) ∧ Below w.heap.size w w' := by
  have HO := hide hO
  have hen := fun w h => enc_yes w (i3 op) (i3_isI (op := op) (by omega) (by omega)) h
  have hex := fun w h => exec_does w op x y h1 h2 hx hy h0 h
  simp only [i3, I.cells] at hen
  change ∀ w : World, Ops w → Calls Tryd.prog 25 #[.agg #[.int .i64 (op : Int), .int .i64 1, .int .i64 2, .int .i64 0]] w _ at hen
  clear hO
  generalize hwd : word (i3 op) = W0 at hex
  have hwd' : word ⟨((op : Nat) : Int), ((1 : Nat) : Int), ((2 : Nat) : Int), 0⟩ = W0 := hwd
  rw [hwd'] at hen
  clear hwd hwd'
  go_enter Tryd.func10, Tryd.ntmps10
  go_wp2_with fail
  refine (hen _ HO.out).mono ?_
  rintro e w1 ⟨rfl, hb⟩
  have HB1 := hide hb
  have HO1 := hide (HO.out.below hb)
  clear hb HO hen
  go_wp2_with fail
  refine (hex _ HO1.out).mono ?_
  rintro e w2 ⟨rfl, hb⟩
  have HB2 := hide (HB1.out.trans (hb.mono HB1.out.size))
  clear hb HO1 HB1 hex
  go_wp2
  go_quiet (fail)
  go_wp2
  go_ret2
  exact ⟨rfl, below_drewN ((HB2.out.alloc HB2.out.size _).alloc (by have := HB2.out.size; simp; omega) _) _⟩
set_option maxRecDepth 100000 in
set_option maxHeartbeats 2000000 in
theorem does_no (op x : Nat) (h1 : op = 8 ∨ op = 9) (hO : Ops w) : Calls Tryd.prog 10 #[.int .i64 (op : Int), .int .u32 (x : Nat), .int .u32 0] w fun e w' => e = .returned (.tuple #[.int .u32 (x : Nat), .bool false]) ∧ Below w.heap.size w w' := by
  have HO := hide hO
  have hen := fun w h => enc_yes w (i3 op) (i3_isI (op := op) (by omega) (by omega)) h
  have hex := fun w h => exec_does0 w op x h1 h
  simp only [i3, I.cells] at hen
  change ∀ w : World, Ops w → Calls Tryd.prog 25 #[.agg #[.int .i64 (op : Int), .int .i64 1, .int .i64 2, .int .i64 0]] w _ at hen
  clear hO
  generalize hwd : word (i3 op) = W0 at hex
  have hwd' : word ⟨((op : Nat) : Int), ((1 : Nat) : Int), ((2 : Nat) : Int), 0⟩ = W0 := hwd
  rw [hwd'] at hen
  clear hwd hwd'
  go_enter Tryd.func10, Tryd.ntmps10
  go_wp2_with fail
  refine (hen _ HO.out).mono ?_
  rintro e w1 ⟨rfl, hb⟩
  have HB1 := hide hb
  have HO1 := hide (HO.out.below hb)
  clear hb HO hen
  go_wp2_with fail
  refine (hex _ HO1.out).mono ?_
  rintro e w2 ⟨rfl, hb⟩
  have HB2 := hide (HB1.out.trans (hb.mono HB1.out.size))
  clear hb HO1 HB1 hex
  go_wp2
  go_quiet (fail)
  go_wp2
  go_ret2
  exact ⟨rfl, below_drewN ((HB2.out.alloc HB2.out.size _).alloc (by have := HB2.out.size; simp; omega) _) _⟩
end
end Go.Proofs.YtfonenigkjngoabDoor
