import Derived.Test.YtogpgchfaalikaaD2
import Derived.ProofKit
import Derived.OpenShut
import Derived.Deep.Slices
import Derived.Laws.BytesString
namespace Go.Proofs.Ytogpgchfaalikaa
open Go.ChangeShapes Go.WideShapes Go.ChangeAt Go.RowKit Go.Deep

/-- v is a slice whose elements read zs in w -/
def Rd (w : World) (v : Value) (zs : List Nat) : Prop :=
  (v = .slice none 0 0 ∧ zs = []) ∨ ∃ x cap, v = .slice (some x) zs.length cap ∧ ∀ i u, (zs.map By)[i]? = some u → w.cell? (x.add i) = some u
/-- the same of flags -/
def RdB (w : World) (v : Value) (zs : List Bool) : Prop :=
  (v = .slice none 0 0 ∧ zs = []) ∨ ∃ x cap, v = .slice (some x) zs.length cap ∧ ∀ i u, (zs.map Value.bool)[i]? = some u → w.cell? (x.add i) = some u
theorem Rd.below {w w' : World} {B : Nat} {v : Value} {zs : List Nat} (h : Rd w v zs) (hb : Below B w w') (hB : w.heap.size ≤ B) : Rd w' v zs := by
  rcases h with ⟨rfl, rfl⟩ | ⟨x, cap, rfl, hc⟩
  · exact .inl ⟨rfl, rfl⟩
  · refine .inr ⟨x, cap, rfl, fun i u hu => ?_⟩
    have h1 := hc i u hu
    have h2 := World.block_lt_of_cell? w _ h1
    rw [hb.cell (by omega)]; exact h1
theorem RdB.below {w w' : World} {B : Nat} {v : Value} {zs : List Bool} (h : RdB w v zs) (hb : Below B w w') (hB : w.heap.size ≤ B) : RdB w' v zs := by
  rcases h with ⟨rfl, rfl⟩ | ⟨x, cap, rfl, hc⟩
  · exact .inl ⟨rfl, rfl⟩
  · refine .inr ⟨x, cap, rfl, fun i u hu => ?_⟩
    have h1 := hc i u hu
    have h2 := World.block_lt_of_cell? w _ h1
    rw [hb.cell (by omega)]; exact h1
theorem Rd.len {w : World} {v : Value} {zs : List Nat} (h : Rd w v zs) : ∃ ao cap, v = .slice ao zs.length cap := by
  rcases h with ⟨rfl, rfl⟩ | ⟨x, cap, rfl, _⟩
  · exact ⟨_, _, rfl⟩
  · exact ⟨_, _, rfl⟩
theorem RdB.len {w : World} {v : Value} {zs : List Bool} (h : RdB w v zs) : ∃ ao cap, v = .slice ao zs.length cap := by
  rcases h with ⟨rfl, rfl⟩ | ⟨x, cap, rfl, _⟩
  · exact ⟨_, _, rfl⟩
  · exact ⟨_, _, rfl⟩
/-- a slice of the call's own -/
def Ow (w : World) (base : Nat) (v : Value) (zs : List Nat) : Prop := w.ownsRow base 5 1 v zs.length (zs.map By)
def OwB (w : World) (base : Nat) (v : Value) (zs : List Bool) : Prop := w.ownsRow base 4 1 v zs.length (zs.map Value.bool)
theorem Ow.rd {w : World} {base : Nat} {v : Value} {zs : List Nat} (h : Ow w base v zs) : Rd w v zs := by
  have h' := h
  obtain ⟨hl, ⟨rfl, h0⟩ | ⟨g, cap, cur, rfl, hb, hg, hn, hm, hs, ht⟩⟩ := h
  · exact .inl ⟨rfl, List.eq_nil_of_length_eq_zero h0⟩
  · exact .inr ⟨_, cap, rfl, World.ownsRow.cells h' rfl⟩
theorem OwB.rd {w : World} {base : Nat} {v : Value} {zs : List Bool} (h : OwB w base v zs) : RdB w v zs := by
  have h' := h
  obtain ⟨hl, ⟨rfl, h0⟩ | ⟨g, cap, cur, rfl, hb, hg, hn, hm, hs, ht⟩⟩ := h
  · exact .inl ⟨rfl, List.eq_nil_of_length_eq_zero h0⟩
  · exact .inr ⟨_, cap, rfl, World.ownsRow.cells h' rfl⟩
theorem bool_one (zs : List Bool) : ∀ u ∈ zs.map Value.bool, u.oneCell' = true := by
  intro u hu; simp at hu; rcases hu with ⟨_, rfl⟩ | ⟨_, rfl⟩ <;> rfl
theorem info5' : ∃ i, Try.prog.info? 5 = some i ∧ i.zero = some (.int .u8 0) ∧ i.size = 1 ∧ i.bytes = 1 := info_parts (by kernel_rfl)
theorem info4' : ∃ i, Try.prog.info? 4 = some i ∧ i.zero = some (.bool false) ∧ i.size = 1 ∧ i.bytes = 1 := info_parts (by kernel_rfl)
theorem grown_below {w w' : World} {r : Option Nat} (h : w.grownBy w' r) (hr : r = none) : Below w.heap.size w w' :=
  ⟨h.os, h.tape, h.output, h.size, fun k hk => h.block k hk (by rw [hr]; simp)⟩
theorem outside_in (s : Nat) (w : World) (h : s < 1024) : Calls Try.prog 53 #[.int .i64 (s : Int)] w fun e w' => e = .returned (.bool false) ∧ w' = w := by
  have d1 : decide ((s : Int) < 0) = false := by simp
  have d2 : decide ((1024 : Int) ≤ (s : Int)) = false := by simp; omega
  have d3 : decide (1024 ≤ s) = false := by simp; omega
  go_enter Try.func53, Try.ntmps53
  go_wp2
  go_ret
  exact ⟨rfl, rfl⟩
theorem outside_out (z : Int) (w : World) (h : z < 0 ∨ 1024 ≤ z) : Calls Try.prog 53 #[.int .i64 z] w fun e w' => e = .returned (.bool true) ∧ w' = w := by
  rcases h with h | h
  · have d1 : decide (z < 0) = true := by simp; omega
    go_enter Try.func53, Try.ntmps53
    go_wp2
    go_ret
    exact ⟨rfl, rfl⟩
  · have d1 : decide (z < 0) = false := by simp; omega
    have d2 : decide (1024 ≤ z) = true := by simp; omega
    go_enter Try.func53, Try.ntmps53
    go_wp2
    go_ret
    exact ⟨rfl, rfl⟩
set_option maxHeartbeats 400000 in
theorem flags_any (v : Value) (zs : List Bool) (w : World) (hv : RdB w v zs) (hl : zs.length ≤ 1048576) :
    Calls Try.prog 29 #[v] w fun e w' => ∃ r, e = .returned r ∧ OwB w' w.heap.size r zs ∧ Below w.heap.size w w' := by
  obtain ⟨i5, hi, hz, hs, hb⟩ := info4'
  rcases hv with ⟨rfl, rfl⟩ | ⟨x, cap, rfl, hc⟩
  · go_enter Try.func29, Try.ntmps29
    go_wp2_with (at_builtin; refine wpList_append_own_none rfl _ _ 59 rfl w.heap.size 4 i5 1 Try.underlying59 hi _ 0 [] rfl (World.ownsRow_nil _ _ _ _) rfl ?_)
    go_ret
    exact ⟨_, rfl, World.ownsRow_nil _ _ _ _, Below.refl _ _⟩
  · have HC : Hid _ := hc
    clear hc
    go_enter Try.func29, Try.ntmps29
    go_wp2_with (at_builtin; refine wpList_append_own _ rfl _ _ 59 rfl w.heap.size 4 i5 (.bool false) 1 1 Try.underlying59 hi hz hs hb rfl (by decide) _ 0 [] rfl (World.ownsRow_nil _ _ _ _) x zs.length cap (zs.map Value.bool) rfl ?c0 ?c1 ?c2 ?c3 ?c4 ?c5 ?_)
    case c0 => simp
    case c1 => exact HC.out
    case c2 => exact bool_one zs
    case c3 => unfold maxLen; omega
    case c4 => omega
    case c5 => exact Nat.le_refl _
    intro r w1 hown hg _
    go_wp2
    go_ret
    refine ⟨_, rfl, ?_, grown_below hg rfl⟩
    simpa [OwB] using hown
def strOf (zs : List Nat) : ByteArray := (zs.map (fun n : Nat => (n : Int))).foldl (fun r n => r.push (UInt8.ofNat n.toNat)) ByteArray.empty
theorem str_run {w : World} {v : Value} {zs : List Nat} (h : Rd w v zs) : (convert 41 9 v).run Try.prog w = .ok (.string (strOf zs)) w := by
  rcases h with ⟨rfl, rfl⟩ | ⟨x, cap, rfl, hc⟩
  · rw [run_convert_bytes_string w 41 9 5 none 0 0 Try.underlying41 Try.underlying5 Try.underlying9]
    rfl
  · rw [run_convert_bytes_string w 41 9 5 (some x) zs.length cap Try.underlying41 Try.underlying5 Try.underlying9, run_bytesToString w x zs.length cap (zs.map (fun n : Nat => (n : Int)))]
    · rfl
    · have := run_loadCells_list (P := Try.prog) w x (zs.map By) hc
      have e : (zs.map (fun n : Nat => (n : Int))).map (Value.int .u8) = zs.map By := by rw [List.map_map]; rfl
      rw [e]; simpa using this
theorem same_eq (a b : Value) (zs : List Nat) (w : World) (ha : Rd w a zs) (hb : Rd w b zs) : Calls Try.prog 16 #[a, b] w fun e w' => e = .returned (.bool true) ∧ w' = w := by
  have h1 := str_run ha
  have h2 := str_run hb
  obtain ⟨a1, c1, rfl⟩ := ha.len
  obtain ⟨a2, c2, rfl⟩ := hb.len
  clear ha hb
  generalize zs.length = n at *
  generalize strOf zs = s at *
  go_enter Try.func16, Try.ntmps16
  go_wp2
  go_ret
  exact ⟨rfl, rfl⟩
theorem cell_one_new (w : World) (t : TypeId) (u : Value) : ∀ j v, [u][j]? = some v → (w.alloc (.cells #[u] t)).cell? ((⟨w.heap.size, 0, none⟩ : Addr).add j) = some v := by
  intro j v hv
  match j, hv with
  | 0, hv =>
    rw [add0]
    have := heap_alloc_last w (.cells #[u] t)
    rw [cell_of_row _ _ _ _ _ _ this]
    simpa using hv
theorem Ow.below {w w' : World} {base B : Nat} {v : Value} {zs : List Nat} (h : Ow w base v zs) (hb : Below B w w') (hB : w.heap.size ≤ B) : Ow w' base v zs :=
  ownsRow_keep h (fun b e => hb.block b (by have := ownsRow_lt h e; omega))
theorem Ow.mono {w : World} {base base' : Nat} {v : Value} {zs : List Nat} (h : Ow w base v zs) (hb : base' ≤ base) : Ow w base' v zs := by
  obtain ⟨hl, ⟨rfl, h0⟩ | ⟨g, cap, cur, rfl, hbs, hg, hn, hm, hs, ht⟩⟩ := h
  · exact ⟨hl, .inl ⟨rfl, h0⟩⟩
  · exact ⟨hl, .inr ⟨g, cap, cur, rfl, by omega, hg, hn, hm, hs, ht⟩⟩
theorem Ow.some_of {w : World} {base : Nat} {v : Value} {zs : List Nat} (h : Ow w base v zs) (hp : 0 < zs.length) : ∃ g cap, v = .slice (some ⟨g, 0, none⟩) zs.length cap ∧ base ≤ g ∧ zs.length ≤ cap ∧ g < w.heap.size := by
  have h' := h
  obtain ⟨hl, ⟨_, h0⟩ | ⟨g, cap, cur, hv, hb, hg, hn, hm, hs, ht⟩⟩ := h
  · omega
  · exact ⟨g, cap, hv, hb, hn, (Array.getElem?_eq_some_iff.1 hg).1⟩
theorem Ow.len {w : World} {base : Nat} {v : Value} {zs : List Nat} (h : Ow w base v zs) : ∃ ao cap, v = .slice ao zs.length cap := h.rd.len
theorem Ow.cell {w : World} {base g cap j l : Nat} {zs : List Nat} (h : Ow w base (.slice (some ⟨g, 0, none⟩) l cap) zs) (hj : j < zs.length) :
    w.cell? ⟨g, j, none⟩ = some (.int .u8 (zs.getD j 0 : Nat)) := by
  have hc := World.ownsRow.cells h rfl j (By (zs.getD j 0)) (by simp [List.getD, List.getElem?_eq_getElem hj])
  rw [add0] at hc; exact hc
/-- the first k of an own row -/
theorem Ow.cut {w : World} {base g cap l : Nat} {zs : List Nat} (h : Ow w base (.slice (some ⟨g, 0, none⟩) l cap) zs) (k : Nat) (hk : k ≤ zs.length) : Ow w base (.slice (some ⟨g, 0, none⟩) k cap) (zs.take k) := by
  obtain ⟨hl, ⟨h0, _⟩ | ⟨g', cap', cur, hv, hb, hg, hn, hm, hs, ht⟩⟩ := h
  · cases h0
  · cases hv
    have e : (zs.take k).length = k := by simp; omega
    refine ⟨by simp, .inr ⟨g, cap, cur, by rw [e], hb, hg, by omega, hm, hs, ?_⟩⟩
    rw [e, List.map_take, ← ht, List.take_take]
    congr 1; omega
theorem below_own {w wr w2 : World} {e size n : Nat} {v : Value} {xs : List Value} {o : Obj} (hb : Below w.heap.size w wr) (ho : wr.ownsRow w.heap.size e size v n xs) (hg : (wr.alloc o).grownBy w2 v.ownBlock) (hs : w.heap.size ≤ wr.heap.size) : Below w.heap.size w w2 :=
  (hb.alloc hs o).grown hg (by simp; omega) (fun k e => (World.ownsRow.lt ho k e).1)
end Go.Proofs.Ytogpgchfaalikaa
