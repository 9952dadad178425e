import Derived.ProofKit
import Derived.OpenShut
import Derived.Deep.Slices
import Derived.Test.YtoaplkfmchphbaaDoorS04
namespace Go.Proofs.YtoaplkfmchphbaaDoor
open Go.RowKit
/-- words that lie in a slice -/
def Wd (W : World) (ao : Option Addr) (ns : List Nat) : Prop := ∀ j (h : j < ns.length), ∃ a : Addr, ao = some a ∧ W.cell? (a.add j) = some (.int .u32 (ns[j] : Nat))
theorem addr_lt {w : World} {a : Addr} {v : Value} (h : w.cell? a = some v) : a.block < w.heap.size := by
  by_cases hb : a.block < w.heap.size
  · exact hb
  · have e : w.heap[a.block]? = none := Array.getElem?_eq_none (by omega)
    simp [World.cell?, e] at h
theorem Wd.below {W W' : World} {ao : Option Addr} {ns : List Nat} (h : Wd W ao ns) (hb : Below W.heap.size W W') : Wd W' ao ns := fun j hj => by
  obtain ⟨a, h1, h2⟩ := h j hj
  exact ⟨a, h1, by rw [hb.cell (addr_lt h2)]; exact h2⟩
theorem ownF_below {w w' : World} {base : Nat} {e : TypeId} {size : Nat} {v : Value} {n : Nat} {xs : List Value} (h : w.ownsRowF base e size v n xs) (hb : Below w.heap.size w w') : w'.ownsRowF base e size v n xs :=
  h.kept (row := none) ⟨hb.os, hb.tape, hb.output, hb.size, fun k hk _ => hb.block k hk⟩ (by
    cases e : v.ownBlock with
    | none => exact .inl rfl
    | some k => exact .inr (by simp))
theorem isb_below {T e : TypeId} {B b : Nat} {bs : List Value} {w w' : World} (h : Lib.IsBuilderF T e B b bs w) (hb : Below w.heap.size w w') : Lib.IsBuilderF T e B b bs w' := by
  rcases h with ⟨hB, v, h1, h2, h3⟩ | ⟨hB, v, h1, h2, h3⟩
  · exact .inl ⟨hB, v, by rw [hb.block b (heap_lt b h1)]; exact h1, ownF_below h2 hb, h3⟩
  · exact .inr ⟨hB, v, by rw [hb.block b (heap_lt b h1)]; exact h1, ownF_below h2 hb, h3⟩
theorem tls_len (ns : List Nat) : (tls ns).length ≤ 41 * ns.length := by
  induction ns with
  | nil => simp [tls]
  | cons x r ih =>
    have := tl_len x
    simp [tls]
    omega
theorem tls_take {ns : List Nat} {j : Nat} (h : j < ns.length) : tls (ns.take (j + 1)) = tls (ns.take j) ++ tl ns[j] ++ [10] := by
  rw [List.take_succ_eq_append_getElem h, tls_one]
section
variable (w : World)
set_option maxRecDepth 100000 in
set_option maxHeartbeats 2000000 in
theorem dis_any (ao : Option Addr) (cap : Nat) (ns : List Nat) (hn : ∀ x ∈ ns, x < 4294967296) (hl : ns.length ≤ 1048576) (hW : Wd w ao ns) (hT : Tb w) : Calls Tryd.prog 20 #[.slice ao ns.length cap] w fun e w' => e = .returned (.string ⟨(tls ns).toArray⟩) ∧ Below w.heap.size w w' := by
  have h0 : Lib.IsBuilderF 76 5 w.heap.size w.heap.size [] (w.alloc (.cells #[.pointer none, .slice none 0 0] 76)) := .inl ⟨Nat.le_refl _, .slice none 0 0, heap_alloc_last _ _, World.ownsRowF_nil _ _ _ _, by simp [Value.ownBlock]⟩
  have H0 := hide h0
  have HW := hide hW
  have HT := hide hT
  have HN := hide hn
  clear h0 hW hT hn
  go_enter Tryd.func20, Tryd.ntmps20
  go_upto_region 3 with fail
  go_loopw [8] (fun k wr => ∃ j : Nat, j ≤ ns.length ∧ k = .int .i64 (j : Int) ∧ Lib.IsBuilderF 76 5 w.heap.size w.heap.size (Lib.byteCells (tls (ns.take j))) wr ∧ Below w.heap.size w wr) (fun k _ => ns.length - (intOf k).toNat)
  case atStart => exact ⟨0, by omega, rfl, H0.out, bel1 _ _⟩
  case round =>
  obtain ⟨j, hj, rfl, hI, hB⟩ := hrel
  have HI := hide hI
  have HB := hide hB
  have hsz := hB.size
  clear hI hB H0
  by_cases hlt : j < ns.length
  · obtain ⟨a, rfl, hc⟩ := (HW.out.below HB.out) j hlt
    have hx := HN.out ns[j] (List.getElem_mem hlt)
    have HS := hide (tls_take hlt)
    have hll := tls_len (ns.take j)
    have htl := tl_len ns[j]
    have hd : (j : Int) < (ns.length : Int) := by omega
    rw [List.length_take] at hll
    generalize ns[j] = x at *
    go_wp2_with fail
    refine (tell_any _ x hx (HT.out.below HB.out)).mono ?_
    rintro e w1 ⟨rfl, hb1⟩
    have HI1 := hide (isb_below HI.out hb1)
    have HB1 := hide (HB.out.trans (hb1.mono hsz))
    have hs1 := hb1.size
    clear hb1 HI HB hc
    go_wp2_with fail
    refine (sbStr _ _ _ _ _ HI1.out (by rw [Lib.byteCells_length]; simp [ByteArray.size]; omega) (by omega)).mono ?_
    rintro e w2 ⟨rfl, hI2, hb2⟩
    have HI2 := hide hI2
    have HB2 := hide (HB1.out.trans hb2)
    have hs2 := hb2.size
    clear hb2 hI2 HI1 HB1
    go_wp2_with fail
    refine (sbByte _ _ _ _ _ HI2.out (by rw [List.length_append, Lib.byteCells_length, Lib.strCells_length]; simp [ByteArray.size]; omega) HB2.out.size).mono ?_
    rintro e w3 ⟨rfl, hI3, hb3⟩
    have HI3 : Hid (Lib.IsBuilderF 76 5 w.heap.size w.heap.size (Lib.byteCells (tls (ns.take (j + 1)))) w3) := hide (by
      rw [HS.out, Lib.byteCells_append, Lib.byteCells_append]; exact hI3)
    have HB3 := hide (HB2.out.trans hb3)
    clear hb3 hI3 HI2 HB2
    go_wp2
    refine ⟨⟨j + 1, by omega, by simp, HI3.out, HB3.out⟩, ?_⟩
    simp [intOf]
    omega
  · obtain rfl : j = ns.length := by omega
    rw [List.take_length] at HI
    go_wp2_with fail
    refine (Tryd.sbString _ _ _ _ HI.out hsz).mono ?_
    rintro e w1 ⟨rfl, hb1⟩
    have HB1 := hide (HB.out.trans hb1)
    clear hb1 HI HB
    go_wp2
    go_ret
    exact ⟨rfl, HB1.out⟩
end
end Go.Proofs.YtoaplkfmchphbaaDoor

namespace Go.Proofs.YtoaplkfmchphbaaDoor
open Go.RowKit
theorem info_byte : ∃ i, Tryd.prog.info? 5 = some i ∧ i.zero = some (.int .u8 0) ∧ i.size = 1 ∧ i.bytes = 1 := info_parts (by kernel_rfl)
theorem info_u32 : ∃ i, Tryd.prog.info? 29 = some i ∧ i.zero = some (.int .u32 0) ∧ i.size = 1 ∧ i.bytes = 4 := info_parts (by kernel_rfl)
theorem own_below {w w' : World} {base : Nat} {e : TypeId} {size : Nat} {v : Value} {n : Nat} {xs : List Value} (h : w.ownsRow base e size v n xs) (hb : Below w.heap.size w w') : w'.ownsRow base e size v n xs := by
  obtain ⟨h1, h2 | ⟨g, cap, cur, h2, h3, h4, h5⟩⟩ := h
  · exact ⟨h1, .inl h2⟩
  · exact ⟨h1, .inr ⟨g, cap, cur, h2, h3, (hb.block g (Array.getElem?_eq_some_iff.1 h4).1).trans h4, h5⟩⟩
section
variable (w : World)
theorem str_own {base : Nat} {v : Value} {n : Nat} {l : List UInt8} (h : w.ownsRow base 5 1 v n (Lib.byteCells l)) : (convert 74 9 v).run Tryd.prog w = .ok (.string ⟨l.toArray⟩) w := by
  have hn : l.length = n := by have := h.1; rw [Lib.byteCells_length] at this; omega
  rcases h.2 with ⟨h1, h2⟩ | ⟨g, cap, cur, h1, _, h3, _, _, _, h7⟩
  · subst h1
    obtain rfl : l = [] := List.eq_nil_of_length_eq_zero (by omega)
    rw [run_convert_bytes_string w 74 9 5 _ _ _ Tryd.underlying74 Tryd.underlying5 Tryd.underlying9]
    rfl
  · subst h1
    refine str_of w l ⟨g, 0, none⟩ n cap hn.symm fun j hj => ?_
    rw [add0, Lib.cell_of_heap h3]
    have e : (Lib.byteCells l)[j]? = some (.int .u8 (l[j].toNat : Nat)) := by simp [Lib.byteCells, hj]
    rw [← h7, List.getElem?_take] at e
    split at e
    · rw [← Array.getElem?_toList]; exact e
    · simp at e
set_option maxRecDepth 100000 in
theorem words_any (ao : Option Addr) (cap : Nat) (ns : List Nat) (hl : ns.length ≤ 1048576) (hW : Wd w ao ns) (ha : ao = none → ns.length = 0 ∧ cap = 0) : Calls Tryd.prog 19 #[.slice ao ns.length cap] w fun e w' => ∃ ao' cap', e = .returned (.slice ao' ns.length cap') ∧ Wd w' ao' ns ∧ Below w.heap.size w w' := by
  obtain ⟨i5, hi, hz, hs, hb⟩ := info_u32
  have h0 : w.ownsRow w.heap.size 29 1 (.slice none 0 0) 0 [] := ⟨rfl, .inl ⟨rfl, rfl⟩⟩
  have HF : Hid (∀ w' v, w'.ownsRow w.heap.size 29 1 v (0 + ns.length) ([] ++ ns.map fun x => Value.int .u32 (x : Nat)) → ∃ ao' cap', v = .slice ao' ns.length cap' ∧ Wd w' ao' ns) := hide (by
    intro w' v h
    rcases h.2 with ⟨h1, h2⟩ | ⟨g, cap, cur, h1, _, h3, _, _, _, h7⟩
    · exact ⟨none, 0, by rw [h1]; congr 1; omega, fun j hj => by omega⟩
    · refine ⟨_, cap, by rw [h1]; congr 1; omega, fun j hj => ⟨⟨g, 0, none⟩, rfl, ?_⟩⟩
      rw [add0, Lib.cell_of_heap h3]
      have e : ([] ++ ns.map fun x => Value.int .u32 ((x : Nat) : Int))[j]? = some (.int .u32 (ns[j] : Nat)) := by simp [hj]
      rw [← h7, List.getElem?_take] at e
      split at e
      · rw [← Array.getElem?_toList]; exact e
      · simp at e)
  cases ao with
  | none =>
    obtain ⟨e1, rfl⟩ := ha rfl
    obtain rfl := List.eq_nil_of_length_eq_zero e1
    go_enter Tryd.func19, Tryd.ntmps19
    go_wp2
    go_ret
    exact ⟨none, ⟨0, rfl⟩, fun j hj => by simp at hj, Below.refl _ _⟩
  | some a =>
    have HN : Hid (∀ j u, (ns.map fun x => Value.int .u32 ((x : Nat) : Int))[j]? = some u → w.cell? (a.add j) = some u) := hide (by
      intro j u hu
      rw [List.getElem?_map] at hu
      by_cases hj : j < ns.length
      · obtain ⟨a', h1, h2⟩ := hW j hj
        cases h1
        rw [List.getElem?_eq_getElem hj] at hu
        simp at hu
        rw [h2, ← hu]
      · rw [List.getElem?_eq_none (by omega)] at hu
        simp at hu)
    clear hW ha
    go_enter Tryd.func19, Tryd.ntmps19
    go_upto_region 3 with (at_builtin; refine wpList_append_own _ rfl _ _ 25 rfl w.heap.size 29 i5 (.int .u32 0) 1 4 Tryd.underlying25 hi hz hs hb rfl (by decide) (.slice none 0 0) 0 [] rfl h0 a ns.length cap (ns.map fun x => Value.int .u32 (x : Nat)) rfl (by simp) HN.out (by intro u hu; simp at hu; obtain ⟨x, _, rfl⟩ := hu; rfl) (by unfold maxLen; omega) (by omega) (by omega) ?_; intro v2 w2 ho2 hg2 _; obtain ⟨a2, c2, rfl, hw2⟩ := HF.out _ _ ho2)
    have HB2 := hide ((Below.refl w.heap.size w).grown hg2 (by omega) (fun j hj => by simp [Value.ownBlock] at hj))
    have HW2 := hide hw2
    clear ho2 hg2 hw2
    go_wp2
    go_ret
    exact ⟨a2, ⟨c2, rfl⟩, HW2.out, HB2.out⟩
set_option maxRecDepth 100000 in
set_option maxHeartbeats 1000000 in
theorem same_any (ao ao' : Option Addr) (cap cap' : Nat) (ns : List Nat) (hl : ns.length ≤ 1048576) (hW : Wd w ao ns) (hW' : Wd w ao' ns) : Calls Tryd.prog 15 #[.slice ao ns.length cap, .slice ao' ns.length cap'] w fun e w' => e = .returned (.bool true) ∧ Below w.heap.size w w' := by
  have HW := hide hW
  have HV := hide hW'
  clear hW hW'
  go_enter Tryd.func15, Tryd.ntmps15
  go_upto_region 4 with fail
  go_loopw [5] (fun k wr => ∃ j : Nat, j ≤ ns.length ∧ k = .int .i64 (j : Int) ∧ ∃ d, wr = w.drewN d) (fun k _ => ns.length - (intOf k).toNat)
  case atStart => exact ⟨0, by omega, rfl, 0, by rw [World.drewN_zero]⟩
  case round =>
  obtain ⟨j, hj, rfl, d, rfl⟩ := hrel
  by_cases hlt : j < ns.length
  · obtain ⟨a, rfl, c0⟩ := HW.out j hlt
    obtain ⟨b, rfl, c1⟩ := HV.out j hlt
    have hd : (j : Int) < (ns.length : Int) := by omega
    generalize ns[j] = x at *
    have e0 : ∀ n, (w.drewN n).cell? (a.add j) = some (.int .u32 (x : Nat)) := fun n => by rw [World.cell?_drewN]; exact c0
    have e1 : ∀ n, (w.drewN n).cell? (b.add j) = some (.int .u32 (x : Nat)) := fun n => by rw [World.cell?_drewN]; exact c1
    go_upto_region 6 with fail
    go_region
    go_wp2
    refine ⟨⟨j + 1, by omega, by simp, d + 1, rfl⟩, ?_⟩
    simp [intOf]
    omega
  · obtain rfl : j = ns.length := by omega
    go_wp2
    go_ret
    exact ⟨rfl, rfl, rfl, rfl, Nat.le_refl _, fun _ _ => rfl⟩
end
end Go.Proofs.YtoaplkfmchphbaaDoor

namespace Go.Proofs.YtoaplkfmchphbaaDoor
open Go.ChangeShapes Go.WideShapes Go.ChangeAt Go.RowKit Go.Deep
section
variable {H : Type}
theorem bulk_one (d : DataW H) : 1 ≤ Rows.uptoBulk d := by
  cases d with
  | lit l => cases l <;> simp [Rows.uptoBulk]
  | nil => simp [Rows.uptoBulk]
  | ptr d => simp [Rows.uptoBulk]
  | slice elems spare => simp [Rows.uptoBulk]
  | agg parts => simp [Rows.uptoBulk]
  | iface t d => simp [Rows.uptoBulk]
  | map entries => simp [Rows.uptoBulk]
  | held h => simp [Rows.uptoBulk]
theorem bulk_length (l : List (DataW H)) : l.length ≤ Rows.uptoBulkAll l := by
  induction l with
  | nil => simp [Rows.uptoBulkAll]
  | cons x r ih => have := bulk_one x; simp only [Rows.uptoBulkAll, List.length_cons]; omega
theorem bulk_slice (elems spare : List (DataW H)) : elems.length ≤ Rows.uptoBulk (.slice elems spare) := by
  have h1 := bulk_length elems
  simp only [Rows.uptoBulk]; omega
variable {enc : TypeId × Value → H} {P : Program} {w : World} {base : Nat} {spare : Nat → Bool} {held : Bool}
theorem u32_cell {t : TypeId} {n : Nat} {v : Value} {y : DataW H × List MemPlace} (ht : P.underlying t = some (.int .u32)) (h : DataW.trod enc P w base spare held n t [v] = some y) : ∃ z : Nat, v = .int .u32 (z : Nat) ∧ z < 4294967296 := by
  obtain ⟨z, h1, _, h2⟩ := DataW.trod_int ht h
  have h3 : 0 ≤ z ∧ z ≤ 4294967295 := by simpa [Lit.wf, IntKind.min, IntKind.max, IntKind.signed, IntKind.bits] using h2
  obtain ⟨k, rfl⟩ := Int.eq_ofNat_of_zero_le h3.1
  exact ⟨k, by simpa using h1, by omega⟩
/-- a slice of words that came in -/
theorem open_words {t e : TypeId} {fuel : Nat} {cs : List Value} {x : DataW H × List MemPlace} (ht : P.underlying t = some (.slice e)) (he : P.underlying e = some (.int .u32)) (ce : P.cellsOf e = 1)
    (h : DataW.trod enc P w base spare held fuel t cs = some x) : ∃ (a : Option Addr) (cap : Nat) (ns : List Nat), cs = [.slice a ns.length cap] ∧ ns.length ≤ Rows.uptoBulk x.1 ∧ Wd w a ns ∧ (∀ y ∈ ns, y < 4294967296) ∧ (a = none → ns.length = 0 ∧ cap = 0) := by
  rcases open_slice1 ht ce h with ⟨rfl, _⟩ | ⟨a, len, cap, m, n, V, D, Pl, rfl, hb, hl, hm, hmm, rfl, hx⟩
  · exact ⟨none, 0, [], rfl, Nat.zero_le _, fun k hk => by simp at hk, fun y hy => by simp at hy, fun _ => ⟨rfl, rfl⟩⟩
  have hlm : len ≤ m := by rw [hmm]; split <;> omega
  have each : ∀ i, i < len → ∃ z : Nat, V i = .int .u32 (z : Nat) ∧ z < 4294967296 := fun i hi => u32_cell he (hx i (by omega)).2
  obtain ⟨Z, hZ⟩ := choose_lt each
  refine ⟨some a, cap, (List.range len).map Z, by simp, ?_, fun k hk => ⟨a, rfl, ?_⟩, fun y hy => ?_, fun e => by simp at e⟩
  · have := bulk_slice ((List.range len).map D) ((List.range (m - len)).map fun j => D (len + j))
    simpa using this
  · have hk' : k < len := by simpa using hk
    rw [(hx k (by omega)).1, (hZ k hk').1]
    simp
  · simp at hy
    obtain ⟨k, hk, rfl⟩ := hy
    exact (hZ k hk).2
end
end Go.Proofs.YtoaplkfmchphbaaDoor
