import Derived.Test.YtnpklhjndominaaE1
import Derived.Laws.BytesString
namespace Go.Proofs.Ytnpklhjndominaa
open Go.RowKit

/-- a slice of the call's own -/
def Ow (w : World) (base : Nat) (v : Value) (zs : List Nat) : Prop := w.ownsRow base 5 1 v zs.length (zs.map By)
def OwB (w : World) (base : Nat) (v : Value) (zs : List Bool) : Prop := w.ownsRow base 4 1 v zs.length (zs.map Value.bool)
theorem Ow.rd {w : World} {base : Nat} {v : Value} {zs : List Nat} (h : Ow w base v zs) : Rd w v zs := by
  have h' := h
  obtain ⟨hl, ⟨rfl, h0⟩ | ⟨g, cap, cur, rfl, hb, hg, hn, hm, hs, ht⟩⟩ := h
  · exact .inl ⟨rfl, List.eq_nil_of_length_eq_zero h0⟩
  · exact .inr ⟨_, cap, rfl, World.ownsRow.cells h' rfl⟩
theorem OwB.rd {w : World} {base : Nat} {v : Value} {zs : List Bool} (h : OwB w base v zs) : RdB w v zs := by
  have h' := h
  obtain ⟨hl, ⟨rfl, h0⟩ | ⟨g, cap, cur, rfl, hb, hg, hn, hm, hs, ht⟩⟩ := h
  · exact .inl ⟨rfl, List.eq_nil_of_length_eq_zero h0⟩
  · exact .inr ⟨_, cap, rfl, World.ownsRow.cells h' rfl⟩
theorem bool_one (zs : List Bool) : ∀ u ∈ zs.map Value.bool, u.oneCell' = true := by
  intro u hu; simp at hu; rcases hu with ⟨_, rfl⟩ | ⟨_, rfl⟩ <;> rfl
theorem info5' : ∃ i, Try.prog.info? 5 = some i ∧ i.zero = some (.int .u8 0) ∧ i.size = 1 ∧ i.bytes = 1 := info_parts (by kernel_rfl)
theorem info4' : ∃ i, Try.prog.info? 4 = some i ∧ i.zero = some (.bool false) ∧ i.size = 1 ∧ i.bytes = 1 := info_parts (by kernel_rfl)
theorem grown_below {w w' : World} {r : Option Nat} (h : w.grownBy w' r) (hr : r = none) : Below w.heap.size w w' :=
  ⟨h.os, h.tape, h.output, h.size, fun k hk => h.block k hk (by rw [hr]; simp)⟩

theorem outside_in (s : Nat) (w : World) (h : s < 1024) : Calls Try.prog 29 #[.int .i64 (s : Int)] w fun e w' => e = .returned (.bool false) ∧ w' = w := by
  have d1 : decide ((s : Int) < 0) = false := by simp
  have d2 : decide ((1024 : Int) ≤ (s : Int)) = false := by simp; omega
  have d3 : decide (1024 ≤ s) = false := by simp; omega
  go_enter Try.func29, Try.ntmps29
  go_wp2
  go_ret
  exact ⟨rfl, rfl⟩
theorem outside_out (z : Int) (w : World) (h : z < 0 ∨ 1024 ≤ z) : Calls Try.prog 29 #[.int .i64 z] w fun e w' => e = .returned (.bool true) ∧ w' = w := by
  rcases h with h | h
  · have d1 : decide (z < 0) = true := by simp; omega
    go_enter Try.func29, Try.ntmps29
    go_wp2
    go_ret
    exact ⟨rfl, rfl⟩
  · have d1 : decide (z < 0) = false := by simp; omega
    have d2 : decide (1024 ≤ z) = true := by simp; omega
    go_enter Try.func29, Try.ntmps29
    go_wp2
    go_ret
    exact ⟨rfl, rfl⟩
def pl (z : Int) : Nat := (z % 1024).toNat
theorem pl_lt (z : Int) : pl z < 1024 := by unfold pl; omega

set_option maxHeartbeats 400000 in
theorem copied_any (v : Value) (zs : List Nat) (w : World) (hv : Rd w v zs) (hl : zs.length ≤ 1048576) :
    Calls Try.prog 24 #[v] w fun e w' => ∃ r, e = .returned r ∧ Ow w' w.heap.size r zs ∧ Below w.heap.size w w' := by
  obtain ⟨i5, hi, hz, hs, hb⟩ := info5'
  rcases hv with ⟨rfl, rfl⟩ | ⟨x, cap, rfl, hc⟩
  · go_enter Try.func24, Try.ntmps24
    go_wp2_with (at_builtin; refine wpList_append_own_none rfl _ _ 27 rfl w.heap.size 5 i5 1 Try.underlying27 hi _ 0 [] rfl (World.ownsRow_nil _ _ _ _) rfl ?_)
    go_ret
    exact ⟨_, rfl, World.ownsRow_nil _ _ _ _, Below.refl _ _⟩
  · have HC : Hid _ := hc
    clear hc
    go_enter Try.func24, Try.ntmps24
    go_wp2_with (at_builtin; refine wpList_append_own _ rfl _ _ 27 rfl w.heap.size 5 i5 (.int .u8 0) 1 1 Try.underlying27 hi hz hs hb rfl (by decide) _ 0 [] rfl (World.ownsRow_nil _ _ _ _) x zs.length cap (zs.map By) rfl ?c0 ?c1 ?c2 ?c3 ?c4 ?c5 ?_)
    case c0 => simp
    case c1 => exact HC.out
    case c2 => exact By_one zs
    case c3 => unfold maxLen; omega
    case c4 => omega
    case c5 => exact Nat.le_refl _
    intro r w1 hown hg _
    go_wp2
    go_ret
    refine ⟨_, rfl, ?_, grown_below hg rfl⟩
    simpa [Ow] using hown
set_option maxHeartbeats 400000 in
theorem flags_any (v : Value) (zs : List Bool) (w : World) (hv : RdB w v zs) (hl : zs.length ≤ 1048576) :
    Calls Try.prog 21 #[v] w fun e w' => ∃ r, e = .returned r ∧ OwB w' w.heap.size r zs ∧ Below w.heap.size w w' := by
  obtain ⟨i5, hi, hz, hs, hb⟩ := info4'
  rcases hv with ⟨rfl, rfl⟩ | ⟨x, cap, rfl, hc⟩
  · go_enter Try.func21, Try.ntmps21
    go_wp2_with (at_builtin; refine wpList_append_own_none rfl _ _ 28 rfl w.heap.size 4 i5 1 Try.underlying28 hi _ 0 [] rfl (World.ownsRow_nil _ _ _ _) rfl ?_)
    go_ret
    exact ⟨_, rfl, World.ownsRow_nil _ _ _ _, Below.refl _ _⟩
  · have HC : Hid _ := hc
    clear hc
    go_enter Try.func21, Try.ntmps21
    go_wp2_with (at_builtin; refine wpList_append_own _ rfl _ _ 28 rfl w.heap.size 4 i5 (.bool false) 1 1 Try.underlying28 hi hz hs hb rfl (by decide) _ 0 [] rfl (World.ownsRow_nil _ _ _ _) x zs.length cap (zs.map Value.bool) rfl ?c0 ?c1 ?c2 ?c3 ?c4 ?c5 ?_)
    case c0 => simp
    case c1 => exact HC.out
    case c2 => exact bool_one zs
    case c3 => unfold maxLen; omega
    case c4 => omega
    case c5 => exact Nat.le_refl _
    intro r w1 hown hg _
    go_wp2
    go_ret
    refine ⟨_, rfl, ?_, grown_below hg rfl⟩
    simpa [OwB] using hown
def strOf (zs : List Nat) : ByteArray := (zs.map (fun n : Nat => (n : Int))).foldl (fun r n => r.push (UInt8.ofNat n.toNat)) ByteArray.empty
theorem str_run {w : World} {v : Value} {zs : List Nat} (h : Rd w v zs) : (convert 27 9 v).run Try.prog w = .ok (.string (strOf zs)) w := by
  rcases h with ⟨rfl, rfl⟩ | ⟨x, cap, rfl, hc⟩
  · rw [run_convert_bytes_string w 27 9 5 none 0 0 Try.underlying27 Try.underlying5 Try.underlying9]
    rfl
  · rw [run_convert_bytes_string w 27 9 5 (some x) zs.length cap Try.underlying27 Try.underlying5 Try.underlying9, run_bytesToString w x zs.length cap (zs.map (fun n : Nat => (n : Int)))]
    · rfl
    · have := run_loadCells_list (P := Try.prog) w x (zs.map By) hc
      have e : (zs.map (fun n : Nat => (n : Int))).map (Value.int .u8) = zs.map By := by rw [List.map_map]; rfl
      rw [e]; simpa using this
theorem same_eq (a b : Value) (zs : List Nat) (w : World) (ha : Rd w a zs) (hb : Rd w b zs) : Calls Try.prog 15 #[a, b] w fun e w' => e = .returned (.bool true) ∧ w' = w := by
  have h1 := str_run ha
  have h2 := str_run hb
  obtain ⟨a1, c1, rfl⟩ := ha.len
  obtain ⟨a2, c2, rfl⟩ := hb.len
  clear ha hb
  generalize zs.length = n at *
  generalize strOf zs = s at *
  go_enter Try.func15, Try.ntmps15
  go_wp2
  go_ret
  exact ⟨rfl, rfl⟩
end Go.Proofs.Ytnpklhjndominaa
