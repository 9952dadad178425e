import Derived.Test.YtbfagiofhakjnaaDoorRows
import Derived.WalkKit
import Derived.Handy
import Derived.WalkSpells
import Derived.WalkLawsBesides
import Derived.Deep.RegionLaw
import Derived.Deep.RegionHeld
import Derived.Deep.WholeRow
import Derived.Deep.MidRow
import Derived.Laws.OwnMore
import Derived.Laws.StructEq
import Derived.Laws.BitsAllLaws
import Derived.BigQuiet
import Derived.Below
import Derived.ProofKit
import Derived.OpenShut
import Derived.Lib.LaidTab
namespace Go.Proofs.YtbfagiofhakjnaaDoor
open Go.RowKit

theorem hide {p : Prop} (h : p) : Hid p := h
theorem add0 (g j : Nat) : (⟨g, 0, none⟩ : Addr).add j = ⟨g, j, none⟩ := by unfold Addr.add; split <;> simp_all

/-- an instruction's four numbers -/
structure I where
  op : Int
  a : Int
  b : Int
  imm : Int
def I.cells (i : I) : List Value := [.int .i64 i.op, .int .i64 i.a, .int .i64 i.b, .int .i64 i.imm]
/-- the table: does operation n use a, b; what is imm to it (0 nothing, 1 plain, 2 signed) -/
def uA (n : Nat) : Bool := n ∈ [2, 3, 4, 5, 6, 7, 8, 9, 10, 11, 12, 13, 14, 15, 16, 17, 18, 19, 20, 22, 23, 24, 25]
def uB (n : Nat) : Bool := n ∈ [4, 5, 6, 7, 8, 9, 10, 11, 12, 13, 14, 15, 16, 17, 19, 20]
def kd (n : Nat) : Nat := if n ∈ [3, 26] then 1 else if n ∈ [2, 18, 19, 20, 21, 22, 23, 25] then 2 else 0
theorem kd_le (n : Nat) : kd n = 0 ∨ kd n = 1 ∨ kd n = 2 := by unfold kd; split; simp; split <;> simp
/-- the operations' names -/
def nms : List (List UInt8) := [[], [110, 111, 112], [108, 105], [104, 105], [109, 111, 118], [97, 100, 100], [115, 117, 98], [109, 117, 108], [100, 105, 118], [114, 101, 109], [97, 110, 100], [111, 114], [120, 111, 114], [115, 104, 108], [115, 104, 114], [108, 116], [115, 108, 116], [101, 113], [97, 100, 100, 105], [108, 100], [115, 116], [106, 109, 112], [106, 122], [106, 110, 122], [106, 114], [99, 97, 108, 108], [115, 121, 115]]
def nm (n : Nat) : List UInt8 := nms.getD n []
def fitsB (n : Int) (u : Bool) : Bool := n == 0 || (u && decide (0 < n) && decide (n < 8))
theorem fitsB_range {n : Int} {u : Bool} (h : fitsB n u = true) : 0 ≤ n ∧ n < 8 := by
  unfold fitsB at h; simp at h; omega
def lo (k : Nat) : Int := if k = 2 then -32768 else 0
def hi (k : Nat) : Int := if k = 1 then 65535 else if k = 2 then 32767 else 0
def isI (i : I) : Bool := decide (1 ≤ i.op) && decide (i.op < 27) && fitsB i.a (uA i.op.toNat) && fitsB i.b (uB i.op.toNat) && decide (lo (kd i.op.toNat) ≤ i.imm) && decide (i.imm ≤ hi (kd i.op.toNat))
structure Isn (i : I) : Prop where
  op1 : 1 ≤ i.op
  op2 : i.op < 27
  a : fitsB i.a (uA i.op.toNat) = true
  b : fitsB i.b (uB i.op.toNat) = true
  l : lo (kd i.op.toNat) ≤ i.imm
  h : i.imm ≤ hi (kd i.op.toNat)
theorem isn {i : I} : isI i = true ↔ Isn i := by
  unfold isI
  simp only [Bool.and_eq_true, decide_eq_true_eq]
  exact ⟨fun ⟨⟨⟨⟨⟨h1, h2⟩, h3⟩, h4⟩, h5⟩, h6⟩ => ⟨h1, h2, h3, h4, h5, h6⟩, fun h => ⟨⟨⟨⟨⟨h.op1, h.op2⟩, h.a⟩, h.b⟩, h.l⟩, h.h⟩⟩
theorem Isn.imm {i : I} (h : Isn i) : -32768 ≤ i.imm ∧ i.imm ≤ 65535 := by
  have h1 := h.l
  have h2 := h.h
  unfold lo at h1; unfold hi at h2
  rcases kd_le i.op.toNat with e | e | e <;> rw [e] at h1 h2 <;> simp at h1 h2 <;> omega
/-- the parts of a word -/
def parts (w : Nat) : I := ⟨(w / 16777216 : Nat), (w / 1048576 % 16 : Nat), (w / 65536 % 16 : Nat), if kd (w / 16777216) = 2 ∧ 32768 ≤ w % 65536 then ((w % 65536 : Nat) : Int) - 65536 else (w % 65536 : Nat)⟩
def decI (w : Nat) : I := if isI (parts w) then parts w else ⟨0, 0, 0, 0⟩
def decE (w : Nat) : Int := if isI (parts w) then 0 else 70
/-- the word of an instruction -/
def word (i : I) : Nat := (i.op * 16777216 + i.a * 1048576 + i.b * 65536 + i.imm % 65536).toNat
def encW (i : I) : Nat := if isI i then word i else 0
def encE (i : I) : Int := if isI i then 0 else 70
theorem kd_big {n : Nat} (h : 27 ≤ n) : kd n = 0 := by
  unfold kd; rw [if_neg (by simp; omega), if_neg (by simp; omega)]
theorem kd_zero : kd 0 = 0 := rfl
theorem word_parts {w : Nat} (h : w < 4294967296) : word (parts w) = w := by
  unfold word parts
  simp only
  split <;> omega
theorem parts_word {i : I} (h : Isn i) : parts (word i) = i := by
  have ha := fitsB_range h.a
  have hb := fitsB_range h.b
  have h1 := h.op1
  have h2 := h.op2
  have hm := h.imm
  have hl := h.l
  have hh := h.h
  obtain ⟨op, a, b, imm⟩ := i
  simp only at ha hb h1 h2 hm hl hh
  obtain ⟨n, rfl⟩ := Int.eq_ofNat_of_zero_le (show 0 ≤ op by omega)
  simp only [Int.toNat_natCast] at hl hh
  have w0 : word ⟨(n : Int), a, b, imm⟩ = n * 16777216 + a.toNat * 1048576 + b.toNat * 65536 + (imm % 65536).toNat := by unfold word; simp only; omega
  have e1 : word ⟨(n : Int), a, b, imm⟩ / 16777216 = n := by rw [w0]; omega
  have e2 : word ⟨(n : Int), a, b, imm⟩ / 1048576 % 16 = a.toNat := by rw [w0]; omega
  have e3 : word ⟨(n : Int), a, b, imm⟩ / 65536 % 16 = b.toNat := by rw [w0]; omega
  have e4 : word ⟨(n : Int), a, b, imm⟩ % 65536 = (imm % 65536).toNat := by rw [w0]; omega
  unfold parts
  rw [e1, e2, e3, e4]
  unfold lo at hl; unfold hi at hh
  have e5 : (if kd n = 2 ∧ 32768 ≤ (imm % 65536).toNat then (((imm % 65536).toNat : Nat) : Int) - 65536 else ((imm % 65536).toNat : Nat)) = imm := by
    rcases kd_le n with e | e | e <;> rw [e] at hl hh ⊢ <;> simp at hl hh <;> (split <;> omega)
  rw [e5]
  congr 1 <;> omega
theorem word_lt {i : I} (h : Isn i) : word i < 4294967296 := by
  have ha := fitsB_range h.a
  have hb := fitsB_range h.b
  have h1 := h.op1
  have h2 := h.op2
  unfold word; omega
end Go.Proofs.YtbfagiofhakjnaaDoor

namespace Go.Proofs.YtbfagiofhakjnaaDoor
open Go.RowKit

/-- the operations' table lies as its text lays it -/
structure Ops (w : World) : Prop where
  s : ∀ n, n < 27 → ∃ s : ByteArray, w.cell? ⟨1, n * 4, none⟩ = some (.string s) ∧ s.data.toList = nm n
  a : ∀ n, n < 27 → w.cell? ⟨1, n * 4 + 1, none⟩ = some (.bool (uA n))
  b : ∀ n, n < 27 → w.cell? ⟨1, n * 4 + 2, none⟩ = some (.bool (uB n))
  k : ∀ n, n < 27 → w.cell? ⟨1, n * 4 + 3, none⟩ = some (.int .i64 (kd n : Nat))
theorem cell_lt {w : World} {b o : Nat} {v : Value} (h : w.cell? ⟨b, o, none⟩ = some v) : b < w.heap.size := by
  by_cases hb : b < w.heap.size
  · exact hb
  · have e : w.heap[b]? = none := Array.getElem?_eq_none (by omega)
    simp [World.cell?, e] at h
theorem Ops.lt {w : World} (h : Ops w) : 1 < w.heap.size := cell_lt (h.a 0 (by omega))
theorem Ops.below {w w' : World} (h : Ops w) (hb : Below w.heap.size w w') : Ops w' := by
  have hc : ∀ o, w'.cell? ⟨1, o, none⟩ = w.cell? ⟨1, o, none⟩ := fun o => hb.cell (p := ⟨1, o, none⟩) h.lt
  exact ⟨fun n hn => by rw [hc]; exact h.s n hn, fun n hn => by rw [hc]; exact h.a n hn, fun n hn => by rw [hc]; exact h.b n hn, fun n hn => by rw [hc]; exact h.k n hn⟩
section
variable (w : World)
theorem isOp_any (n : Int) : Calls Tryd.prog 63 #[.int .i64 n] w fun e w' => e = .returned (.bool (decide (1 ≤ n) && decide (n < 27))) ∧ w' = w := by
  by_cases h1 : 1 ≤ n
  · by_cases h2 : n < 27
    · go_enter Tryd.func63, Tryd.ntmps63
      go_wp2
      go_ret
      exact ⟨by simp [h1, h2], rfl⟩
    · go_enter Tryd.func63, Tryd.ntmps63
      go_wp2
      go_ret
      exact ⟨by simp [h2], rfl⟩
  · go_enter Tryd.func63, Tryd.ntmps63
    go_wp2
    go_ret
    exact ⟨by simp; omega, rfl⟩
theorem bounds_any (k : Nat) (hk : k = 0 ∨ k = 1 ∨ k = 2) : Calls Tryd.prog 64 #[.int .i64 (k : Int)] w fun e w' => e = .returned (.tuple #[.int .i64 (lo k), .int .i64 (hi k)]) ∧ w' = w := by
  rcases hk with rfl | rfl | rfl
  all_goals
    go_enter Tryd.func64, Tryd.ntmps64
    go_wp2
    go_ret2
    exact ⟨rfl, rfl⟩
theorem fits_any (n : Int) (u : Bool) : Calls Tryd.prog 65 #[.int .i64 n, .bool u] w fun e w' => e = .returned (.bool (fitsB n u)) ∧ w' = w := by
  by_cases h0 : n = 0
  · subst h0
    go_enter Tryd.func65, Tryd.ntmps65
    go_wp2
    go_ret
    exact ⟨by simp [fitsB], rfl⟩
  · cases u
    · go_enter Tryd.func65, Tryd.ntmps65
      go_wp2
      go_ret
      exact ⟨by simp [fitsB], rfl⟩
    · by_cases h1 : 0 < n
      · by_cases h2 : n < 8
        · go_enter Tryd.func65, Tryd.ntmps65
          go_wp2
          go_ret
          exact ⟨by simp [fitsB, h1, h2], rfl⟩
        · go_enter Tryd.func65, Tryd.ntmps65
          go_wp2
          go_ret
          exact ⟨by simp [fitsB, h0, h2], rfl⟩
      · go_enter Tryd.func65, Tryd.ntmps65
        go_wp2
        go_ret
        exact ⟨by simp [fitsB, h0]; omega, rfl⟩
end
end Go.Proofs.YtbfagiofhakjnaaDoor

namespace Go.Proofs.YtbfagiofhakjnaaDoor
open Go.ChangeShapes Go.WideShapes Go.ChangeAt Go.RowKit
/-- the datum of one operation, as the row lists it -/
def opData (n : Nat) : DataW Unit := .agg [.lit (.string (nm n)), .lit (.bool (uA n)), .lit (.bool (uB n)), .lit (.int .i64 (kd n : Nat))]
/-- the table's cells, as its text lays them -/
def opCells : Array Value := ((List.range 27).flatMap fun n => [.string ⟨(nm n).toArray⟩, .bool (uA n), .bool (uB n), .int .i64 (kd n : Nat)]).toArray
theorem laid_ops : (Rows.laid_amber_isa_operations : DataW Unit) = .agg ((List.range 27).map opData) := rfl
theorem gOps : Tryd.prog.globalNamed "amber/isa.operations" = some 1 := by kernel_rfl
theorem gOpsType : (Tryd.prog.globals[1]?).map (·.type) = some 98 := by kernel_rfl
theorem cellsOp : Tryd.prog.cellsOf 97 = 4 := by kernel_rfl
theorem cells1 : Tryd.prog.cellsOf 9 = 1 ∧ Tryd.prog.cellsOf 4 = 1 ∧ Tryd.prog.cellsOf 3 = 1 := ⟨by kernel_rfl, by kernel_rfl, by kernel_rfl⟩
section
variable {w : World} {base : Nat} {spare : Nat → Bool} {held : Bool}
set_option maxRecDepth 100000 in
theorem op_cells {n fuel : Nat} {cs : List Value} {p : List MemPlace} (h : DataW.trod (fun _ => ()) Tryd.prog w base spare held fuel 97 cs = some (opData n, p)) :
    ∃ s : ByteArray, cs = [.string s, .bool (uA n), .bool (uB n), .int .i64 (kd n : Nat)] ∧ s.data.toList = nm n := by
  obtain ⟨xs, m, _, hx, hl, hxl, hf⟩ := DataW.trod_struct Tryd.underlying97 h
  rw [cellsOp] at hl
  obtain ⟨k1, k2, k3⟩ := cells1
  match xs, hxl, cs, hl with
  | [y0, y1, y2, y3], _, [c0, c1, c2, c3], _ =>
    have g0 : DataW.trod (fun _ => ()) Tryd.prog w base spare held m 9 (([c0, c1, c2, c3].drop 0).take (Tryd.prog.cellsOf 9)) = some y0 := hf 0 _ rfl
    rw [k1] at g0
    have g1 : DataW.trod (fun _ => ()) Tryd.prog w base spare held m 4 (([c0, c1, c2, c3].drop 1).take (Tryd.prog.cellsOf 4)) = some y1 := hf 1 _ rfl
    rw [k2] at g1
    have g2 : DataW.trod (fun _ => ()) Tryd.prog w base spare held m 4 (([c0, c1, c2, c3].drop 2).take (Tryd.prog.cellsOf 4)) = some y2 := hf 2 _ rfl
    rw [k2] at g2
    have g3 : DataW.trod (fun _ => ()) Tryd.prog w base spare held m 3 (([c0, c1, c2, c3].drop 3).take (Tryd.prog.cellsOf 3)) = some y3 := hf 3 _ rfl
    rw [k3] at g3
    obtain ⟨s, e0, rfl, _⟩ := DataW.trod_string Tryd.underlying9 g0
    obtain ⟨b1, e1, rfl⟩ := DataW.trod_bool Tryd.underlying4 g1
    obtain ⟨b2, e2, rfl⟩ := DataW.trod_bool Tryd.underlying4 g2
    obtain ⟨z, e3, rfl, _⟩ := DataW.trod_int Tryd.underlying3 g3
    have hx1 := congrArg Prod.fst hx
    simp [opData] at hx1 e0 e1 e2 e3
    obtain ⟨f0, f1, f2, f3⟩ := hx1
    exact ⟨s, by rw [e0, e1, e2, e3, f1, f2, f3], f0.symm⟩
end
set_option maxRecDepth 100000 in
theorem ops_of {W : World} {l : List (String × DataW Unit)} (hm : ("amber/isa.operations", (Rows.laid_amber_isa_operations : DataW Unit)) ∈ l) (h : laidMet Tryd.prog l W) : Ops W := by
  obtain ⟨ps, hv, _⟩ := h
  have reads : ∀ {l : List (String × DataW Unit)} {ps : List MemPlace}, DataW.LaidVars Tryd.prog W l ps → ∀ n d, (n, d) ∈ l → ∃ g t cs fuel p, Tryd.prog.globalNamed n = some g ∧ (Tryd.prog.globals[g]?).map (·.type) = some t ∧ W.var? Tryd.prog n = some cs ∧ DataW.trod (fun _ => ()) Tryd.prog W 0 (fun _ => true) false fuel t cs.toList = some (d, p) := by
    intro l
    induction l with
    | nil => intro ps _ n d hm; cases hm
    | cons x r ih =>
      intro ps h n d hm
      obtain ⟨n', d'⟩ := x
      obtain ⟨g, t, cs, fuel, p, q, h1, h2, h3, h4, h5, _⟩ := h
      rcases List.mem_cons.1 hm with e | e
      · cases e
        exact ⟨g, t, cs, fuel, p, h1, h2, h3, h4⟩
      · exact ih h5 n d e
  obtain ⟨g, t, cs, fuel, p, h1, h2, h3, h4⟩ := reads hv _ _ hm
  obtain rfl := Option.some.inj (gOps.symm.trans h1)
  obtain rfl := Option.some.inj (gOpsType.symm.trans h2)
  obtain ⟨xs, m, _, hx, hl, hxl, hf⟩ := DataW.trod_array Tryd.underlying98 h4
  rw [laid_ops] at hx
  have hx1 : (List.range 27).map opData = xs.map (·.1) := by
    have := congrArg Prod.fst hx
    simpa using this
  have key : ∀ n, n < 27 → ∃ s : ByteArray, (cs.toList.drop (n * 4)).take 4 = [.string s, .bool (uA n), .bool (uB n), .int .i64 (kd n : Nat)] ∧ s.data.toList = nm n := by
    intro n hn
    have hn' := hf n hn
    rw [cellsOp] at hn'
    obtain ⟨y, hy⟩ : ∃ y, xs[n]? = some y := ⟨_, List.getElem?_eq_getElem (by omega)⟩
    have e1 := congrArg (·[n]?) hx1
    simp [hy, hn] at e1
    rw [hy] at hn'
    obtain ⟨d, q⟩ := y
    simp only at e1
    subst e1
    exact op_cells hn'
  have hc : ∀ n, n < 27 → ∀ j, j < 4 → ∀ v, ((cs.toList.drop (n * 4)).take 4)[j]? = some v → W.cell? ⟨1, n * 4 + j, none⟩ = some v := by
    intro n hn j hj v hv
    have e := World.var?_cell gOps h3 (n * 4 + j)
    rw [List.getElem?_take_of_lt hj, List.getElem?_drop] at hv
    rw [e]; simpa using hv
  refine ⟨fun n hn => ?_, fun n hn => ?_, fun n hn => ?_, fun n hn => ?_⟩
  · obtain ⟨s, e, f⟩ := key n hn
    exact ⟨s, hc n hn 0 (by omega) _ (by rw [e]; rfl), f⟩
  · obtain ⟨s, e, f⟩ := key n hn
    exact hc n hn 1 (by omega) _ (by rw [e]; rfl)
  · obtain ⟨s, e, f⟩ := key n hn
    exact hc n hn 2 (by omega) _ (by rw [e]; rfl)
  · obtain ⟨s, e, f⟩ := key n hn
    exact hc n hn 3 (by omega) _ (by rw [e]; rfl)
end Go.Proofs.YtbfagiofhakjnaaDoor
