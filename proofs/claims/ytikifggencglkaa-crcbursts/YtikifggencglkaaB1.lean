import Derived.Test.YtikifggencglkaaW3
import Derived.Test.YtikifggencglkaaBMath
import Derived.Laws.AppendOwnNone
import Derived.Laws.CopyOwn
import Derived.Laws.BytesArg
import Derived.Deep.WholeRow
namespace Go.Proofs.Ytikifggencglkaa
open Go.RowKit

/-- a byte -/
def By (n : Nat) : Value := .int .u8 (n : Int)
/-- v is a slice whose elements read zs in w -/
def Rd (w : World) (v : Value) (zs : List Nat) : Prop :=
  (v = .slice none 0 0 ∧ zs = []) ∨ ∃ x cap, v = .slice (some x) zs.length cap ∧ ∀ i u, (zs.map By)[i]? = some u → w.cell? (x.add i) = some u
/-- v is a slice of the call's own -/
def Ow (w : World) (base : Nat) (v : Value) (zs : List Nat) : Prop := w.ownsRow base 5 1 v zs.length (zs.map By)
theorem Ow.rd {w : World} {base : Nat} {v : Value} {zs : List Nat} (h : Ow w base v zs) : Rd w v zs := by
  have h' := h
  obtain ⟨hl, ⟨rfl, h0⟩ | ⟨g, cap, cur, rfl, hb, hg, hn, hm, hs, ht⟩⟩ := h
  · exact .inl ⟨rfl, List.eq_nil_of_length_eq_zero h0⟩
  · exact .inr ⟨_, cap, rfl, World.ownsRow.cells h' rfl⟩
theorem Ow.below {w w' : World} {base B : Nat} {v : Value} {zs : List Nat} (h : Ow w base v zs) (hb : Below B w w') (hB : w.heap.size ≤ B) : Ow w' base v zs := by
  have h' := h
  obtain ⟨hl, ⟨rfl, h0⟩ | ⟨g, cap, cur, rfl, hbs, hg, hn, hm, hs, ht⟩⟩ := h
  · exact ⟨hl, .inl ⟨rfl, h0⟩⟩
  · have hlt := (World.ownsRow.lt h' g rfl).2
    exact ⟨hl, .inr ⟨g, cap, cur, rfl, hbs, by rw [hb.block g (by omega)]; exact hg, hn, hm, hs, ht⟩⟩
theorem Rd.below {w w' : World} {B : Nat} {v : Value} {zs : List Nat} (h : Rd w v zs) (hb : Below B w w') (hB : w.heap.size ≤ B) : Rd w' v zs := by
  rcases h with ⟨rfl, rfl⟩ | ⟨x, cap, rfl, hc⟩
  · exact .inl ⟨rfl, rfl⟩
  · refine .inr ⟨x, cap, rfl, fun i u hu => ?_⟩
    have h1 := hc i u hu
    have h2 := World.block_lt_of_cell? w _ h1
    rw [hb.cell (by omega)]; exact h1
theorem Ow.mono {w : World} {base base' : Nat} {v : Value} {zs : List Nat} (h : Ow w base v zs) (hb : base' ≤ base) : Ow w base' v zs := by
  obtain ⟨hl, ⟨rfl, h0⟩ | ⟨g, cap, cur, rfl, hbs, hg, hn, hm, hs, ht⟩⟩ := h
  · exact ⟨hl, .inl ⟨rfl, h0⟩⟩
  · exact ⟨hl, .inr ⟨g, cap, cur, rfl, by omega, hg, hn, hm, hs, ht⟩⟩
theorem By_one (zs : List Nat) : ∀ u ∈ zs.map By, u.oneCell' = true := by
  intro u hu; simp at hu; obtain ⟨n, _, rfl⟩ := hu; rfl

theorem info5' : ∃ i, Try.prog.info? 5 = some i ∧ i.zero = some (.int .u8 0) ∧ i.size = 1 ∧ i.bytes = 1 := info_parts (by kernel_rfl)
theorem grown_below {w w' : World} {r : Option Nat} (h : w.grownBy w' r) (hr : r = none) : Below w.heap.size w w' :=
  ⟨h.os, h.tape, h.output, h.size, fun k hk => h.block k hk (by rw [hr]; simp)⟩

set_option maxHeartbeats 400000 in
theorem copied_any (v : Value) (zs : List Nat) (w : World) (hv : Rd w v zs) (hl : zs.length ≤ 140737488351232) :
    Calls Try.prog 6 #[v] w fun e w' => ∃ r, e = .returned r ∧ Ow w' w.heap.size r zs ∧ Below w.heap.size w w' := by
  obtain ⟨i5, hi, hz, hs, hb⟩ := info5'
  rcases hv with ⟨rfl, rfl⟩ | ⟨x, cap, rfl, hc⟩
  · go_enter Try.func6, Try.ntmps6
    go_wp2_with (at_builtin; refine wpList_append_own_none rfl _ _ 22 rfl w.heap.size 5 i5 1 Try.underlying22 hi _ 0 [] rfl (World.ownsRow_nil _ _ _ _) rfl ?_)
    go_ret
    exact ⟨_, rfl, World.ownsRow_nil _ _ _ _, Below.refl _ _⟩
  · have HC : Hid _ := hc
    clear hc
    go_enter Try.func6, Try.ntmps6
    go_wp2_with (at_builtin; refine wpList_append_own _ rfl _ _ 22 rfl w.heap.size 5 i5 (.int .u8 0) 1 1 Try.underlying22 hi hz hs hb rfl (by decide) _ 0 [] rfl (World.ownsRow_nil _ _ _ _) x zs.length cap (zs.map By) rfl ?c0 ?c1 ?c2 ?c3 ?c4 ?c5 ?_)
    case c0 => simp
    case c1 => exact HC.out
    case c2 => exact By_one zs
    case c3 => unfold maxLen; omega
    case c4 => omega
    case c5 => exact Nat.le_refl _
    intro r w1 hown hg _
    go_wp2
    go_ret
    refine ⟨_, rfl, ?_, grown_below hg rfl⟩
    simpa [Ow] using hown

theorem made_0 (z : Array Value) : madeCells z 0 = #[] := by simp [madeCells, Array.range_zero']
theorem size5 : (Try.prog.info? 5).map (·.size) = some 1 := by kernel_rfl
theorem splice_all {L cs : List Value} (h : L.length = cs.length) : splice L 0 cs = cs := by
  simp [splice, ← h]
theorem Ow.of_block {w : World} {base g : Nat} {zs : List Nat} (hg : w.heap[g]? = some (.cells (zs.map By).toArray 5 (0, 0))) (hb : base ≤ g) (hl : zs.length ≤ 140737488351232) :
    Ow w base (.slice (some ⟨g, 0, none⟩) zs.length zs.length) zs :=
  ⟨by simp, .inr ⟨g, _, _, rfl, hb, hg, Nat.le_refl _, by unfold maxLen; omega, by simp, by rw [Nat.mul_one]; exact List.take_of_length_le (by simp)⟩⟩
set_option maxHeartbeats 400000 in
theorem copyOf_any (v : Value) (zs : List Nat) (w : World) (hv : Rd w v zs) (hl : zs.length ≤ 140737488351232) :
    Calls Try.prog 12 #[v] w fun e w' => ∃ r, e = .returned r ∧ Ow w' w.heap.size r zs ∧ Below w.heap.size w w' := by
  obtain ⟨i5, hi, hz, hs, hb⟩ := info5'
  have hmk := fun (W : World) (n : Nat) (h : n ≤ 140737488351232) => run_make (P := Try.prog) W 22 5 i5 (.int .u8 0) Try.underlying22 hi hz .i64 .i64 n n (by omega) (Int.le_refl _) (by rw [hb]; omega) (by omega)
  rcases hv with ⟨rfl, rfl⟩ | ⟨x, cap, rfl, hc⟩
  · have h0 : (Instr.makeSlice 22 (.int .i64 0) (.int .i64 0)).run Try.prog w = .ok (.slice (some ⟨w.heap.size, 0, none⟩) 0 0) (w.alloc (.cells #[] 5)) := by simpa [hs, made_0] using hmk w 0 (by omega)
    clear hmk
    go_enter Try.func12, Try.ntmps12
    go_wp2_with (refine wpList_copy_nothing rfl _ _ 22 22 rfl 5 Try.underlying22 size5 _ _ _ _ _ _ rfl rfl rfl ?_)
    go_ret
    refine ⟨_, rfl, ?_, (Below.refl _ _).alloc (Nat.le_refl _) _⟩
    exact Ow.of_block (zs := []) (heap_alloc_last _ _) (Nat.le_refl _) (by simp)
  · have HC : Hid _ := hc
    clear hc
    go_enter Try.func12, Try.ntmps12
    go_wp2_with (refine wpList_copy_splice rfl _ _ 22 22 rfl 5 Try.underlying22 size5 (some ⟨w.heap.size, 0, none⟩) (some x) zs.length zs.length zs.length cap rfl rfl w.heap.size 0 (madeCells #[Value.int IntKind.u8 0] zs.length).toList 5 ?c0 (zs.map By) ?c1 ?c2 ?c3 (By_one zs) w.heap.size w ((Below.refl _ _).alloc (Nat.le_refl _) _) (Nat.le_refl _) ?_)
    case c0 => exact heap_alloc_last _ _
    case c1 => simp
    case c2 =>
      intro _ j a ha
      have h1 := HC.out j (By a) (by simp [ha])
      have h2 := World.block_lt_of_cell? w _ h1
      rw [((Below.refl _ _).alloc (Nat.le_refl _) _).cell h2]; exact h1
    case c3 => simp [size_madeCells]
    intro w1 hg1 hb1
    go_wp2
    go_ret
    refine ⟨_, rfl, ?_, hb1⟩
    have hg2 := hg1.out
    rw [splice_all (by simp [size_madeCells])] at hg2
    exact Ow.of_block hg2 (Nat.le_refl _) hl
end Go.Proofs.Ytikifggencglkaa
