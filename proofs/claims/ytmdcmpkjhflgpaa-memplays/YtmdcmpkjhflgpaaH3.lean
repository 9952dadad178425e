import Derived.Test.YtmdcmpkjhflgpaaH2
import Derived.Laws.ResultCell
import Derived.Laws.Rows
import Derived.Laws.Tables
namespace Go.Proofs.Ytmdcmpkjhflgpaa
open Go.RowKit

theorem info24 : (Try.prog.info? 29).map (·.size) = some 32 := by kernel_rfl
theorem info63 : (Try.prog.info? 60).map (·.size) = some 36 := by kernel_rfl

/-- not in use -/
def Off (m : Nat → Fr) (n : Nat) (f : Int) : Prop := ∀ k : Nat, f = k → k < n → (m k).h = 0
/-- in use -/
def On (m : Nat → Fr) (n k : Nat) : Prop := k < n ∧ 0 < (m k).h
theorem on_or_off (m : Nat → Fr) (n : Nat) (f : Int) : Off m n f ∨ ∃ k : Nat, f = k ∧ On m n k := by
  by_cases h : ∃ k : Nat, f = k ∧ On m n k
  · exact .inr h
  · refine .inl (fun k h1 h2 => ?_)
    rcases Nat.eq_zero_or_pos (m k).h with h3 | h3
    · exact h3
    · exact absurd ⟨k, h1, h2, h3⟩ h

theorem MemAt.hdr {w : World} {B G n : Nat} {m : Nat → Fr} (h : MemAt w B G n m) {k : Nat} (hk : k < n) : w.rangeAt G (k * 36) (m k).head := by
  intro j v hv
  refine h.fr hk j v ?_
  unfold Fr.cells
  rw [List.getElem?_append_left (List.getElem?_eq_some_iff.1 hv).1]; exact hv
section
variable (w : World) (B G n : Nat) (m : Nat → Fr)

set_option maxHeartbeats 400000 in
theorem noWord_off (f i : Int) (h : MemAt w B G n m) (hu : Off m n f) :
    Calls Try.prog 22 #[.pointer (some ⟨B, 0, none⟩), .int .i64 f, .int .i64 i] w fun e w' => e = .returned (.int .i64 50) ∧ w' = w := by
  go_enter Try.func22, Try.ntmps22
  go_wp2_with fail
  refine (inUse_no w B G n m f h hu).mono ?_
  rintro e w1 ⟨rfl, rfl⟩
  go_wp2
  go_ret
  simp
set_option maxHeartbeats 400000 in
theorem noWord_bad (k : Nat) (i : Int) (h : MemAt w B G n m) (hu : On m n k) (hi : i < 0 ∨ 32 ≤ i) :
    Calls Try.prog 22 #[.pointer (some ⟨B, 0, none⟩), .int .i64 (k : Int), .int .i64 i] w fun e w' => e = .returned (.int .i64 51) ∧ w' = w := by
  go_enter Try.func22, Try.ntmps22
  go_wp2_with fail
  refine (inUse_yes w B G n m k h hu.1 hu.2).mono ?_
  rintro e w1 ⟨rfl, rfl⟩
  by_cases h0 : i < 0
  · go_wp2
    go_ret
    simp
  · have h1 : 32 ≤ i := by omega
    go_wp2
    go_ret
    simp
set_option maxHeartbeats 400000 in
theorem noWord_ok (k i : Nat) (h : MemAt w B G n m) (hu : On m n k) (hi : i < 32) :
    Calls Try.prog 22 #[.pointer (some ⟨B, 0, none⟩), .int .i64 (k : Int), .int .i64 (i : Int)] w fun e w' => e = .returned (.int .i64 0) ∧ w' = w := by
  go_enter Try.func22, Try.ntmps22
  go_wp2_with fail
  refine (inUse_yes w B G n m k h hu.1 hu.2).mono ?_
  rintro e w1 ⟨rfl, rfl⟩
  have h0 : decide ((i : Int) < 0) = false := by simp
  have h1 : decide (32 ≤ (i : Int)) = false := by simp; omega
  go_wp2
  go_ret
  simp

set_option maxHeartbeats 400000 in
theorem load_off (f i : Int) (h : MemAt w B G n m) (hu : Off m n f) :
    Calls Try.prog 8 #[.pointer (some ⟨B, 0, none⟩), .int .i64 f, .int .i64 i] w fun e w' => e = .returned (.tuple #[.int .u32 0, .int .i64 50]) ∧ w' = w := by
  go_enter Try.func8, Try.ntmps8
  go_wp2_with fail
  refine (noWord_off w B G n m f i h hu).mono ?_
  rintro e w1 ⟨rfl, rfl⟩
  go_wp2
  go_ret2
  simp
set_option maxHeartbeats 400000 in
theorem load_bad (k : Nat) (i : Int) (h : MemAt w B G n m) (hu : On m n k) (hi : i < 0 ∨ 32 ≤ i) :
    Calls Try.prog 8 #[.pointer (some ⟨B, 0, none⟩), .int .i64 (k : Int), .int .i64 i] w fun e w' => e = .returned (.tuple #[.int .u32 0, .int .i64 51]) ∧ w' = w := by
  go_enter Try.func8, Try.ntmps8
  go_wp2_with fail
  refine (noWord_bad w B G n m k i h hu hi).mono ?_
  rintro e w1 ⟨rfl, rfl⟩
  go_wp2
  go_ret2
  simp
set_option maxHeartbeats 400000 in
theorem load_ok (k i : Nat) (h : MemAt w B G n m) (hu : On m n k) (hi : i < 32) :
    Calls Try.prog 8 #[.pointer (some ⟨B, 0, none⟩), .int .i64 (k : Int), .int .i64 (i : Int)] w fun e w' => e = .returned (.tuple #[.int .u32 ((m k).w i : Nat), .int .i64 0]) ∧ w' = w := by
  go_enter Try.func8, Try.ntmps8
  go_wp2_with fail
  refine (noWord_ok w B G n m k i h hu hi).mono ?_
  rintro e w1 ⟨rfl, rfl⟩
  have c0 := h.hd
  have c1 := h.word hu.1 hi
  have hk := hu.1
  clear h hu
  go_wp2
  go_ret2
  simp
theorem results_row2 {P : Program} {fn : Func} {p u : Tmp} {ty : TypeId} (h : fn.results = #[.cell p ty, .tmp u]) (tmps : Array Value) (w : World) (g : Nat) (t : TypeId) (cs : Array Value) (fr : Nat × Nat) (d : TypeDesc)
    (hp : tmps.getD p undef = .pointer (some ⟨g, 0, none⟩)) (hg : w.heap[g]? = some (.cells cs t fr))
    (hu : P.underlying ty = some d) (hd : (match d with | .struct _ | .array _ _ => true | _ => false) = true) (hi : (P.info? ty).map (·.size) = some cs.size) :
    (results fn tmps).run P w = .ok (.tuple #[.agg cs, tmps.getD u undef]) w := by
  rw [results_cell_tmp h, hp]
  simp [asAddr, run_loadVar_row w g t ty cs fr d hg hu hd hi]
theorem info42 : (Try.prog.info? 51).map (·.size) = some 4 := by kernel_rfl
theorem head_one (f : Fr) : f.head.toArray.all (·.oneCell') = true := all_oneCell_toArray (fun u hu => cells_one f u (List.mem_append_left _ hu))
theorem below_setRow {w wr : World} {g : Nat} (h : Below w.heap.size w wr) (hg : w.heap.size ≤ g) (cs : Array Value) : Below w.heap.size w (wr.setRow g cs) :=
  ⟨h.os, h.tape, h.output, by simp [World.setRow]; exact h.size, fun k hk => by rw [setRow_other wr g k cs (by omega)]; exact h.block k hk⟩
set_option maxHeartbeats 400000 in
theorem info_off (f : Int) (h : MemAt w B G n m) (hu : Off m n f) :
    Calls Try.prog 14 #[.pointer (some ⟨B, 0, none⟩), .int .i64 f] w fun e w' => e = .returned (.tuple #[.agg Fr.nil.head.toArray, .int .i64 50]) ∧ Below w.heap.size w w' := by
  go_enter Try.func14, Try.ntmps14
  go_wp2_with fail
  refine (inUse_no _ B G n m f (h.alloc _) hu).mono ?_
  rintro e w1 ⟨rfl, rfl⟩
  clear h hu
  have hz := heap_alloc_last w (.cells Fr.nil.head.toArray 51)
  go_wp2_with (refine wpList_store_row rfl 51 _ _ rfl w.heap.size Fr.nil.head.toArray rfl rfl 51 _ (heap_alloc_last w _) info42 rfl rfl ?_)
  refine bodyPost_ret (results_row2 rfl _ _ w.heap.size 51 Fr.nil.head.toArray (0, 0) _ rfl hz Try.underlying51 rfl info42) rfl ?_
  exact ⟨rfl, (Below.refl _ _).alloc (Nat.le_refl _) _⟩
set_option maxHeartbeats 400000 in
theorem info_on (k : Nat) (h : MemAt w B G n m) (hu : On m n k) :
    Calls Try.prog 14 #[.pointer (some ⟨B, 0, none⟩), .int .i64 (k : Int)] w fun e w' => e = .returned (.tuple #[.agg (m k).head.toArray, .int .i64 0]) ∧ Below w.heap.size w w' := by
  go_enter Try.func14, Try.ntmps14
  go_wp2_with fail
  refine (inUse_yes _ B G n m k (h.alloc _) hu.1 hu.2).mono ?_
  rintro e w1 ⟨rfl, rfl⟩
  have c0 := fun o => (h.alloc o).hd
  have hr := (h.alloc (.cells Fr.nil.head.toArray 51)).hdr hu.1
  have hk := hu.1
  clear h hu
  have hz := heap_alloc_last w (.cells Fr.nil.head.toArray 51)
  go_wp2_with (first
    | refine wpList_load_mid rfl 51 _ rfl G (k * 36) rfl _ _ hr Try.underlying51 rfl info42 ?_
    | refine wpList_store_row rfl 51 _ _ rfl w.heap.size (m k).head.toArray rfl rfl 51 _ (heap_alloc_last w _) info42 rfl (head_one _) ?_)

  refine bodyPost_ret (results_row2 rfl _ _ w.heap.size 51 (m k).head.toArray (0, 0) _ rfl (setRow_heap _ _ _ _ _ _ hz) Try.underlying51 rfl info42) rfl ?_
  exact ⟨rfl, below_setRow ((Below.refl _ _).alloc (Nat.le_refl _) _) (Nat.le_refl _) _⟩
end
end Go.Proofs.Ytmdcmpkjhflgpaa
