import Derived.BigQuiet
import Derived.Deep.Cut
import Derived.Deep.DeepCutAuto
import Derived.Laws.BytesString
import Derived.Laws.ShiftsVar
import Derived.WalkSmall
import Derived.Lib.LaidTab
import GoSem.Core.Utf8
import GoSem.Instr.Next
import Derived.Laws.RangeString
import Derived.Test.YtbfagiofhakjnaaDoorMA00
import Derived.Test.YtbfagiofhakjnaaDoorMA01
namespace Go.Proofs.YtbfagiofhakjnaaDoor
open Go.RowKit
/-- the tables that the texts need lie as they are laid -/
structure Tb (w : World) : Prop where
  ops : Ops w
  nms : ∀ n, n < 27 → w.cell? ⟨0, n, none⟩ = some (.string ⟨(nm n).toArray⟩)
theorem Tb.below {w w' : World} (h : Tb w) (hb : Below w.heap.size w w') : Tb w' :=
  { ops := h.ops.below hb
    nms := fun n hn => by rw [hb.cell (p := ⟨0, n, none⟩) (cell_lt (h.nms 0 (by omega)))]; exact h.nms n hn
 }
theorem Ops.name {w : World} (h : Ops w) {n : Nat} (hn : n < 27) : w.cell? ⟨1, n * 4, none⟩ = some (.string ⟨(nm n).toArray⟩) := by
  obtain ⟨s, h1, h2⟩ := h.s n hn
  rw [h1, ← h2]
/-- what the parts of an instruction are -/
theorem parts_of {n : Nat} (h : isI (parts n) = true) : ∃ (no na nb : Nat) (z : Int), parts n = ⟨(no : Int), (na : Int), (nb : Int), z⟩ ∧ 1 ≤ no ∧ no < 27 ∧ na < 8 ∧ nb < 8 ∧ -32768 ≤ z ∧ z ≤ 65535 := by
  have hi := isn.1 h
  have ha := fitsB_range hi.a
  have hb := fitsB_range hi.b
  have h1 := hi.op1
  have h2 := hi.op2
  have hm := hi.imm
  refine ⟨n / 16777216, n / 1048576 % 16, n / 65536 % 16, _, rfl, ?_, ?_, ?_, ?_, hm⟩
  all_goals (simp only [parts] at h1 h2 ha hb; omega)
theorem nd5 {u : Nat} (h : u < 100000) : Lib.nDigits u ≤ 5 := by
  by_cases h1 : u < 10
  · rw [Lib.nDigits_small h1]; omega
  by_cases h2 : u / 10 < 10
  · rw [Lib.nDigits_big h1, Lib.nDigits_small h2]; omega
  by_cases h3 : u / 10 / 10 < 10
  · rw [Lib.nDigits_big h1, Lib.nDigits_big h2, Lib.nDigits_small h3]; omega
  by_cases h4 : u / 10 / 10 / 10 < 10
  · rw [Lib.nDigits_big h1, Lib.nDigits_big h2, Lib.nDigits_big h3, Lib.nDigits_small h4]; omega
  · rw [Lib.nDigits_big h1, Lib.nDigits_big h2, Lib.nDigits_big h3, Lib.nDigits_big h4, Lib.nDigits_small (show u / 10 / 10 / 10 / 10 < 10 by omega)]; omega
theorem itoa_len {z : Int} (h1 : -32768 ≤ z) (h2 : z ≤ 65535) : (Lib.itoa z).length ≤ 6 := by
  unfold Lib.itoa
  split
  · have := nd5 (show z.natAbs < 100000 by omega)
    rw [List.length_cons, Lib.decDigits_length]; omega
  · have := nd5 (show z.toNat < 100000 by omega)
    rw [Lib.decDigits_length]; omega
theorem nm_len (n : Nat) : (nm n).length ≤ 4 := by
  by_cases h : n < 27
  · have : ∀ k : Fin 27, (nm k.val).length ≤ 4 := by decide
    exact this ⟨n, h⟩
  · unfold nm
    rw [List.getD_eq_getElem?_getD, List.getElem?_eq_none (by simp [nms]; omega)]
    simp
theorem tl_len (n : Nat) : (tl n).length ≤ 40 := by
  unfold tl
  split
  · next hx =>
    obtain ⟨no, na, nb, z, hp, h1, h2, h3, h4, h5, h6⟩ := parts_of hx
    have a1 := itoa_len (z := (na : Int)) (by omega) (by omega)
    have a2 := itoa_len (z := (nb : Int)) (by omega) (by omega)
    have a3 := itoa_len h5 h6
    have a4 := nm_len no
    rw [hp]
    simp only [flds, Int.toNat_natCast]
    cases uA no <;> cases uB no <;> (by_cases e : kd no = 0 <;> simp [jn, e] <;> omega)
  · simp [hx8]
/-- an instruction lies in a block of the call's own -/
structure St (w W : World) (g : Nat) (no na nb : Nat) (z : Int) : Prop where
  c0 : W.cell? ⟨g, 0, none⟩ = some (.int .i64 (no : Int))
  c1 : W.cell? ⟨g, 1, none⟩ = some (.int .i64 (na : Int))
  c2 : W.cell? ⟨g, 2, none⟩ = some (.int .i64 (nb : Int))
  c3 : W.cell? ⟨g, 3, none⟩ = some (.int .i64 z)
  tb : Tb W
  be : Below w.heap.size w W
  le : w.heap.size ≤ g
theorem St.below {w W W' : World} {g no na nb : Nat} {z : Int} (h : St w W g no na nb z) (hb : Below W.heap.size W W') : St w W' g no na nb z := by
  have hl := cell_lt h.c0
  exact ⟨by rw [hb.cell (p := ⟨g, 0, none⟩) hl]; exact h.c0, by rw [hb.cell (p := ⟨g, 1, none⟩) hl]; exact h.c1, by rw [hb.cell (p := ⟨g, 2, none⟩) hl]; exact h.c2, by rw [hb.cell (p := ⟨g, 3, none⟩) hl]; exact h.c3, h.tb.below hb, h.be.trans (hb.mono h.be.size), h.le⟩
theorem St.start {w w1 : World} (no na nb : Nat) (z : Int) (hT : Tb w1) (hb : Below w.heap.size w w1) : St w (w1.alloc (.cells #[.int .i64 (no : Int), .int .i64 (na : Int), .int .i64 (nb : Int), .int .i64 z] 33)) w1.heap.size no na nb z :=
  ⟨by rw [World.cell?_alloc_new]; rfl, by rw [World.cell?_alloc_new]; rfl, by rw [World.cell?_alloc_new]; rfl, by rw [World.cell?_alloc_new]; rfl, hT.below (bel1 _ _), hb.alloc hb.size _, hb.size⟩
end Go.Proofs.YtbfagiofhakjnaaDoor

namespace Go.Proofs.YtbfagiofhakjnaaDoor
open Go.ChangeShapes Go.WideShapes Go.ChangeAt Go.RowKit
theorem laid_reads {P : Program} {W : World} : ∀ {l : List (String × DataW Unit)} {ps : List MemPlace}, DataW.LaidVars P W l ps → ∀ n d, (n, d) ∈ l → ∃ g t cs fuel p, P.globalNamed n = some g ∧ (P.globals[g]?).map (·.type) = some t ∧ W.var? P n = some cs ∧ DataW.trod (fun _ => ()) P W 0 (fun _ => true) false fuel t cs.toList = some (d, p)
  | [], _, _, n, d, hm => by cases hm
  | (n', d') :: r, _, h, n, d, hm => by
    obtain ⟨g, t, cs, fuel, p, q, h1, h2, h3, h4, h5, _⟩ := h
    rcases List.mem_cons.1 hm with e | e
    · cases e
      exact ⟨g, t, cs, fuel, p, h1, h2, h3, h4⟩
    · exact laid_reads h5 n d e
theorem gNms : Tryd.prog.globalNamed "amber/amberref07.names" = some 0 := by kernel_rfl
theorem gNmsType : (Tryd.prog.globals[0]?).map (·.type) = some 72 := by kernel_rfl
theorem laid_nms : (Rows.laid_amber_amberref07_names : DataW Unit) = .agg ((List.range 27).map fun n => .lit (.string (nm n))) := rfl
set_option maxRecDepth 100000 in
theorem nms_of {W : World} {l : List (String × DataW Unit)} (hm : ("amber/amberref07.names", (Rows.laid_amber_amberref07_names : DataW Unit)) ∈ l) (h : laidMet Tryd.prog l W) : ∀ n, n < 27 → W.cell? ⟨0, n, none⟩ = some (.string ⟨(nm n).toArray⟩) := by
  obtain ⟨ps, hv, _⟩ := h
  obtain ⟨g, t, cs, fuel, p, h1, h2, h3, h4⟩ := laid_reads hv _ _ hm
  obtain rfl := Option.some.inj (gNms.symm.trans h1)
  obtain rfl := Option.some.inj (gNmsType.symm.trans h2)
  obtain ⟨xs, m, _, hx, hl, hxl, hf⟩ := DataW.trod_array Tryd.underlying72 h4
  rw [laid_nms] at hx
  have hx1 : ((List.range 27).map fun n => (.lit (.string (nm n)) : DataW Unit)) = xs.map (·.1) := by
    have := congrArg Prod.fst hx
    simpa using this
  intro n hn
  have hn' := hf n hn
  rw [cells1.1] at hn'
  obtain ⟨y, hy⟩ : ∃ y, xs[n]? = some y := ⟨_, List.getElem?_eq_getElem (by omega)⟩
  have e1 := congrArg (·[n]?) hx1
  simp [hy, hn] at e1
  rw [hy] at hn'
  obtain ⟨d, q⟩ := y
  simp only at e1
  subst e1
  obtain ⟨s, e0, e2, _⟩ := DataW.trod_string Tryd.underlying9 hn'
  have e3 : s.data.toList = nm n := by simpa using (congrArg Prod.fst e2).symm
  have e4 : cs[n]? = some (.string s) := by
    have := congrArg (·[0]?) e0
    simpa [List.getElem?_take, List.getElem?_drop] using this
  rw [World.var?_cell gNms h3 n, e4, ← e3]
/-- the tables laid, for a witness's world -/
def lay (cs : Array Value) (o : Obj) : Obj :=
  match o with
  | .cells _ t frozen => .cells cs t frozen
  | o => o
def nmCells : Array Value := ((List.range 27).map fun n => Value.string ⟨(nm n).toArray⟩).toArray
def accT : List Int := [128, 191, 160, 191, 128, 159, 144, 191, 128, 143, 0, 0, 0, 0, 0, 0, 0, 0, 0, 0, 0, 0, 0, 0, 0, 0, 0, 0, 0, 0, 0, 0]
def layAll (h : Array Obj) : Array Obj :=
  (((h.modify 1 (lay opCells)).modify 0 (lay nmCells)).modify 4 (lay (accT.map fun z => Value.int .u8 z).toArray)).modify 3 (lay (Go.Pinned.utf8FirstZ.map fun z => Value.int .u8 (z : Nat)).toArray)
end Go.Proofs.YtbfagiofhakjnaaDoor

namespace Go.Proofs.YtbfagiofhakjnaaDoor
open Go.RowKit
/-- a text -/
abbrev Tx := List UInt8
/-- the byte at a place -/
theorem get_at (s : ByteArray) (i : Nat) (h : i < s.size) : s.get! i = s[i]'h := by
  simp [ByteArray.get!, getElem!_pos, h]
  rfl
/-- what is read at a byte beyond ASCII: a rune beyond ASCII, and all that it takes is beyond ASCII -/
def HiOk (s : ByteArray) (pos : Nat) (d : Nat × Nat) : Prop := 128 ≤ d.1 ∧ d.1 ≤ 1114111 ∧ 1 ≤ d.2 ∧ pos + d.2 ≤ s.size ∧ ∀ j, j < d.2 → ∃ hj : pos + j < s.size, ¬ (s[pos + j]'hj).toNat < 128
theorem HiOk.bad {s : ByteArray} {pos : Nat} (h : pos < s.size) (hb : ¬ (s[pos]'h).toNat < 128) : HiOk s pos (Utf8.runeError, 1) :=
  ⟨by decide, by decide, by decide, h, fun j hj => by
    obtain rfl : j = 0 := by simp at hj; omega
    exact ⟨h, hb⟩⟩
theorem cont_hi {s : ByteArray} {pos k : Nat} (hk : (decide (pos + k < s.size) && (s.get! (pos + k)).toNat / 64 == 2) = true) : ∃ hk : pos + k < s.size, ¬ (s[pos + k]'hk).toNat < 128 := by
  simp only [Bool.and_eq_true, decide_eq_true_eq, beq_iff_eq] at hk
  refine ⟨hk.1, ?_⟩
  have := hk.2
  rw [get_at s _ hk.1] at this
  omega
theorem dec_hi (s : ByteArray) (pos : Nat) (h : pos < s.size) (hb : ¬ (s[pos]'h).toNat < 128) : HiOk s pos (Utf8.decode s pos) := by
  have e0 : (s.get! (pos + 0)).toNat = (s[pos]'h).toNat := by rw [Nat.add_zero, get_at s pos h]
  have bad := HiOk.bad h hb
  obtain ⟨b0, hb0⟩ : ∃ b, (s[pos]'h).toNat = b := ⟨_, rfl⟩
  obtain ⟨b1, hb1⟩ : ∃ b, (s.get! (pos + 1)).toNat = b := ⟨_, rfl⟩
  obtain ⟨b2, hb2⟩ : ∃ b, (s.get! (pos + 2)).toNat = b := ⟨_, rfl⟩
  obtain ⟨b3, hb3⟩ : ∃ b, (s.get! (pos + 3)).toNat = b := ⟨_, rfl⟩
  have n0 : ∃ hk : pos + 0 < s.size, ¬ (s[pos + 0]'hk).toNat < 128 := ⟨h, hb⟩
  have c1 : (decide (pos + 1 < s.size) && b1 / 64 == 2) = true → ∃ hk : pos + 1 < s.size, ¬ (s[pos + 1]'hk).toNat < 128 := fun hk => cont_hi (by rw [hb1]; exact hk)
  have c2 : (decide (pos + 2 < s.size) && b2 / 64 == 2) = true → ∃ hk : pos + 2 < s.size, ¬ (s[pos + 2]'hk).toNat < 128 := fun hk => cont_hi (by rw [hb2]; exact hk)
  have c3 : (decide (pos + 3 < s.size) && b3 / 64 == 2) = true → ∃ hk : pos + 3 < s.size, ¬ (s[pos + 3]'hk).toNat < 128 := fun hk => cont_hi (by rw [hb3]; exact hk)
  unfold Utf8.decode
  rw [hb0] at hb e0
  simp only [e0, hb1, hb2, hb3, hb, if_false]
  clear e0 hb0 hb1 hb2 hb3
  split
  · next h1 =>
    simp only [Bool.and_eq_true, beq_iff_eq] at h1
    obtain ⟨k1, n1⟩ := c1 (by simpa using h1.2)
    split
    · next h2 =>
      refine ⟨h2, ?_, Nat.le_succ 1, k1, fun j hj => ?_⟩
      · have := Nat.mod_lt b0 (show 0 < 32 by decide)
        have := Nat.mod_lt b1 (show 0 < 64 by decide)
        show b0 % 32 * 64 + b1 % 64 ≤ 1114111
        omega
      · match j, hj with
        | 0, _ => exact n0
        | 1, _ => exact ⟨k1, n1⟩
    · exact bad
  · split
    · next h1 =>
      simp only [Bool.and_eq_true, beq_iff_eq] at h1
      obtain ⟨k1, n1⟩ := c1 (by simpa using h1.1.2)
      obtain ⟨k2, n2⟩ := c2 (by simpa using h1.2)
      split
      · next h2 =>
        simp only [Bool.and_eq_true, decide_eq_true_eq] at h2
        refine ⟨Nat.le_trans (by decide) h2.1, ?_, (show 1 ≤ 3 by decide), k2, fun j hj => ?_⟩
        · have := Nat.mod_lt b0 (show 0 < 16 by decide)
          have := Nat.mod_lt b1 (show 0 < 64 by decide)
          have := Nat.mod_lt b2 (show 0 < 64 by decide)
          show b0 % 16 * 4096 + b1 % 64 * 64 + b2 % 64 ≤ 1114111
          omega
        · match j, hj with
          | 0, _ => exact n0
          | 1, _ => exact ⟨k1, n1⟩
          | 2, _ => exact ⟨k2, n2⟩
      · exact bad
    · split
      · next h1 =>
        simp only [Bool.and_eq_true, beq_iff_eq] at h1
        obtain ⟨k1, n1⟩ := c1 (by simpa using h1.1.1.2)
        obtain ⟨k2, n2⟩ := c2 (by simpa using h1.1.2)
        obtain ⟨k3, n3⟩ := c3 (by simpa using h1.2)
        split
        · next h2 =>
          simp only [Bool.and_eq_true, decide_eq_true_eq] at h2
          refine ⟨Nat.le_trans (by decide) h2.1, ?_, (show 1 ≤ 4 by decide), k3, fun j hj => ?_⟩
          · have h3 := h2.2
            generalize b0 % 8 * 262144 + b1 % 64 * 4096 + b2 % 64 * 64 + b3 % 64 = c at *
            unfold Utf8.valid at h3
            simp only [Bool.or_eq_true, Bool.and_eq_true, decide_eq_true_eq] at h3
            show c ≤ 1114111
            omega
          · match j, hj with
            | 0, _ => exact n0
            | 1, _ => exact ⟨k1, n1⟩
            | 2, _ => exact ⟨k2, n2⟩
            | 3, _ => exact ⟨k3, n3⟩
        · exact bad
      · exact bad
/-- a text's walk lies in a block -/
def It (wr : World) (g : Nat) (s : ByteArray) (pos : Nat) : Prop := wr.heap[g]? = some (.stringIter s pos)
def World.itTo (wr : World) (g : Nat) (s : ByteArray) (pos : Nat) : World := { wr with heap := wr.heap.setIfInBounds g (.stringIter s pos) }
/-- where the walk stands -/
def itPos (wr : World) (g : Nat) : Nat :=
  match wr.heap[g]? with
  | some (.stringIter _ p) => p
  | _ => 0
theorem it_pos {wr : World} {g : Nat} {s : ByteArray} {pos : Nat} (h : It wr g s pos) : itPos wr g = pos := by
  have h' : wr.heap[g]? = some (.stringIter s pos) := h
  simp [itPos, h']
theorem it_lt {wr : World} {g : Nat} {s : ByteArray} {pos : Nat} (h : It wr g s pos) : g < wr.heap.size := (Array.getElem?_eq_some_iff.1 h).1
theorem it_next {P : Program} {wr : World} {g : Nat} {s : ByteArray} {pos : Nat} (h : It wr g s pos) (ty : TypeId) (hp : pos < s.size) :
    (Instr.next (.pointer (some ⟨g, 0, none⟩)) true ty).run P wr = .ok (.tuple #[.bool true, .int .i64 pos, .int .i32 ((Utf8.decode s pos).1 : Nat)]) (World.itTo wr g s (pos + (Utf8.decode s pos).2)) := by
  have h' : wr.heap[g]? = some (.stringIter s pos) := h
  have hl := it_lt h
  simp only [Instr.next, getObj, setObj, Sem.run_bind, Sem.run, h', Result.andThen, hp, if_true]
  simp [goInt, World.itTo]
theorem it_end {P : Program} {wr : World} {g : Nat} {s : ByteArray} {pos : Nat} (h : It wr g s pos) (ty : TypeId) (hp : ¬ pos < s.size) :
    (Instr.next (.pointer (some ⟨g, 0, none⟩)) true ty).run P wr = .ok (.tuple #[.bool false]) wr := by
  have h' : wr.heap[g]? = some (.stringIter s pos) := h
  simp [Instr.next, getObj, Sem.run, h', hp]
theorem it_to {wr : World} {g : Nat} {s : ByteArray} {pos : Nat} (h : It wr g s pos) (q : Nat) : It (World.itTo wr g s q) g s q := by
  have hl := it_lt h
  simp [It, World.itTo, hl]
theorem it_below {w wr : World} {g : Nat} {s : ByteArray} {B : Nat} (h : Below B w wr) (hg : B ≤ g) (q : Nat) : Below B w (World.itTo wr g s q) :=
  ⟨h.os, h.tape, h.output, by simp [World.itTo]; exact h.size, fun k hk => by
    show (wr.heap.setIfInBounds g _)[k]? = _
    rw [Array.getElem?_setIfInBounds, if_neg (by omega)]
    exact h.block k hk⟩
theorem it_kept {W W' : World} {g : Nat} {s : ByteArray} {pos : Nat} (h : It W g s pos) (hb : Below W.heap.size W W') : It W' g s pos := by
  show W'.heap[g]? = _
  rw [hb.block g (it_lt h)]
  exact h
theorem itTo_size (W : World) (g : Nat) (s : ByteArray) (q : Nat) : (World.itTo W g s q).heap.size = W.heap.size := by simp [World.itTo]
end Go.Proofs.YtbfagiofhakjnaaDoor
