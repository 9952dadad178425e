import Derived.Lib.LaidTab
import Derived.Test.YtoaplkfmchphbaaDoorS00
import Derived.Test.YtoaplkfmchphbaaDoorS01
import Derived.Test.YtoaplkfmchphbaaDoorS02
namespace Go.Proofs.YtoaplkfmchphbaaDoor
open Go.RowKit
def dg16 : ByteArray := ⟨#[48, 49, 50, 51, 52, 53, 54, 55, 56, 57, 97, 98, 99, 100, 101, 102]⟩
theorem cut16 (v : Nat) (h : v < 16) : dg16.extract v (v + 1) = ⟨#[hd v]⟩ := by
  match v, h with
  | k + 16, h => omega
  | 0, _ => rfl
  | 1, _ => rfl
  | 2, _ => rfl
  | 3, _ => rfl
  | 4, _ => rfl
  | 5, _ => rfl
  | 6, _ => rfl
  | 7, _ => rfl
  | 8, _ => rfl
  | 9, _ => rfl
  | 10, _ => rfl
  | 11, _ => rfl
  | 12, _ => rfl
  | 13, _ => rfl
  | 14, _ => rfl
  | 15, _ => rfl
theorem app_str (a b : List UInt8) : (⟨a.toArray⟩ : ByteArray) ++ (⟨b.toArray⟩ : ByteArray) = ⟨(a ++ b).toArray⟩ := by
  apply ByteArray.ext
  simp [ByteArray.data_append]
theorem hx_step (L : List UInt8) (r : Nat) (h : r < 16) : (⟨L.toArray⟩ : ByteArray) ++ dg16.extract r (r + 1) = ⟨(L ++ [hd r]).toArray⟩ := by
  rw [cut16 r h]; exact app_str L [hd r]
section
variable (w : World)
end
end Go.Proofs.YtoaplkfmchphbaaDoor

namespace Go.Proofs.YtoaplkfmchphbaaDoor
open Go.RowKit
/-- the tables that the texts need lie as they are laid -/
structure Tb (w : World) : Prop where
  ops : Ops w
  tz : Tz w
  pw : Lib.TabIs Tryd.prog w "internal/strconv.uint64pow10" .u64 Lib.pow10Tab
theorem tabIs_below {P : Program} {w w' : World} {name : String} {k : IntKind} {zs : List Int} (h : Lib.TabIs P w name k zs) (hb : Below w.heap.size w w') : Lib.TabIs P w' name k zs := by
  unfold Lib.TabIs World.var? at *
  cases hg : P.globalNamed name with
  | none => rw [hg] at h; simp at h
  | some g =>
    rw [hg] at h
    have hlt : g < w.heap.size := by
      by_cases hb : g < w.heap.size
      · exact hb
      · simp [Array.getElem?_eq_none (show w.heap.size ≤ g by omega)] at h
    simp only [Option.bind_some] at h ⊢
    rw [hb.block g hlt]
    exact h
theorem Tb.below {w w' : World} (h : Tb w) (hb : Below w.heap.size w w') : Tb w' :=
  { ops := h.ops.below hb
    tz := h.tz.below hb
    pw := tabIs_below h.pw hb }
theorem Ops.name {w : World} (h : Ops w) {n : Nat} (hn : n < 27) : w.cell? ⟨0, n * 4, none⟩ = some (.string ⟨(nm n).toArray⟩) := by
  obtain ⟨s, h1, h2⟩ := h.s n hn
  rw [h1, ← h2]
/-- what the parts of an instruction are -/
theorem parts_of {n : Nat} (h : isI (parts n) = true) : ∃ (no na nb : Nat) (z : Int), parts n = ⟨(no : Int), (na : Int), (nb : Int), z⟩ ∧ 1 ≤ no ∧ no < 27 ∧ na < 8 ∧ nb < 8 ∧ -32768 ≤ z ∧ z ≤ 65535 := by
  have hi := isn.1 h
  have ha := fitsB_range hi.a
  have hb := fitsB_range hi.b
  have h1 := hi.op1
  have h2 := hi.op2
  have hm := hi.imm
  refine ⟨n / 16777216, n / 1048576 % 16, n / 65536 % 16, _, rfl, ?_, ?_, ?_, ?_, hm⟩
  all_goals (simp only [parts] at h1 h2 ha hb; omega)
theorem nd5 {u : Nat} (h : u < 100000) : Lib.nDigits u ≤ 5 := by
  by_cases h1 : u < 10
  · rw [Lib.nDigits_small h1]; omega
  by_cases h2 : u / 10 < 10
  · rw [Lib.nDigits_big h1, Lib.nDigits_small h2]; omega
  by_cases h3 : u / 10 / 10 < 10
  · rw [Lib.nDigits_big h1, Lib.nDigits_big h2, Lib.nDigits_small h3]; omega
  by_cases h4 : u / 10 / 10 / 10 < 10
  · rw [Lib.nDigits_big h1, Lib.nDigits_big h2, Lib.nDigits_big h3, Lib.nDigits_small h4]; omega
  · rw [Lib.nDigits_big h1, Lib.nDigits_big h2, Lib.nDigits_big h3, Lib.nDigits_big h4, Lib.nDigits_small (show u / 10 / 10 / 10 / 10 < 10 by omega)]; omega
theorem itoa_len {z : Int} (h1 : -32768 ≤ z) (h2 : z ≤ 65535) : (Lib.itoa z).length ≤ 6 := by
  unfold Lib.itoa
  split
  · have := nd5 (show z.natAbs < 100000 by omega)
    rw [List.length_cons, Lib.decDigits_length]; omega
  · have := nd5 (show z.toNat < 100000 by omega)
    rw [Lib.decDigits_length]; omega
theorem nm_len (n : Nat) : (nm n).length ≤ 4 := by
  by_cases h : n < 27
  · have : ∀ k : Fin 27, (nm k.val).length ≤ 4 := by decide
    exact this ⟨n, h⟩
  · unfold nm
    rw [List.getD_eq_getElem?_getD, List.getElem?_eq_none (by simp [nms]; omega)]
    simp
theorem tl_len (n : Nat) : (tl n).length ≤ 40 := by
  unfold tl
  split
  · next hx =>
    obtain ⟨no, na, nb, z, hp, h1, h2, h3, h4, h5, h6⟩ := parts_of hx
    have a1 := itoa_len (z := (na : Int)) (by omega) (by omega)
    have a2 := itoa_len (z := (nb : Int)) (by omega) (by omega)
    have a3 := itoa_len h5 h6
    have a4 := nm_len no
    rw [hp]
    simp only [flds, Int.toNat_natCast]
    cases uA no <;> cases uB no <;> (by_cases e : kd no = 0 <;> simp [jn, e] <;> omega)
  · simp [hx8]
/-- an instruction lies in a block of the call's own -/
structure St (w W : World) (g : Nat) (no na nb : Nat) (z : Int) : Prop where
  c0 : W.cell? ⟨g, 0, none⟩ = some (.int .i64 (no : Int))
  c1 : W.cell? ⟨g, 1, none⟩ = some (.int .i64 (na : Int))
  c2 : W.cell? ⟨g, 2, none⟩ = some (.int .i64 (nb : Int))
  c3 : W.cell? ⟨g, 3, none⟩ = some (.int .i64 z)
  tb : Tb W
  be : Below w.heap.size w W
  le : w.heap.size ≤ g
theorem St.below {w W W' : World} {g no na nb : Nat} {z : Int} (h : St w W g no na nb z) (hb : Below W.heap.size W W') : St w W' g no na nb z := by
  have hl := cell_lt h.c0
  exact ⟨by rw [hb.cell (p := ⟨g, 0, none⟩) hl]; exact h.c0, by rw [hb.cell (p := ⟨g, 1, none⟩) hl]; exact h.c1, by rw [hb.cell (p := ⟨g, 2, none⟩) hl]; exact h.c2, by rw [hb.cell (p := ⟨g, 3, none⟩) hl]; exact h.c3, h.tb.below hb, h.be.trans (hb.mono h.be.size), h.le⟩
theorem St.start {w w1 : World} (no na nb : Nat) (z : Int) (hT : Tb w1) (hb : Below w.heap.size w w1) : St w (w1.alloc (.cells #[.int .i64 (no : Int), .int .i64 (na : Int), .int .i64 (nb : Int), .int .i64 z] 58)) w1.heap.size no na nb z :=
  ⟨by rw [World.cell?_alloc_new]; rfl, by rw [World.cell?_alloc_new]; rfl, by rw [World.cell?_alloc_new]; rfl, by rw [World.cell?_alloc_new]; rfl, hT.below (bel1 _ _), hb.alloc hb.size _, hb.size⟩
end Go.Proofs.YtoaplkfmchphbaaDoor

namespace Go.Proofs.YtoaplkfmchphbaaDoor
open Go.ChangeShapes Go.WideShapes Go.ChangeAt Go.RowKit
theorem laid_reads {P : Program} {W : World} : ∀ {l : List (String × DataW Unit)} {ps : List MemPlace}, DataW.LaidVars P W l ps → ∀ n d, (n, d) ∈ l → ∃ g t cs fuel p, P.globalNamed n = some g ∧ (P.globals[g]?).map (·.type) = some t ∧ W.var? P n = some cs ∧ DataW.trod (fun _ => ()) P W 0 (fun _ => true) false fuel t cs.toList = some (d, p)
  | [], _, _, n, d, hm => by cases hm
  | (n', d') :: r, _, h, n, d, hm => by
    obtain ⟨g, t, cs, fuel, p, q, h1, h2, h3, h4, h5, _⟩ := h
    rcases List.mem_cons.1 hm with e | e
    · cases e
      exact ⟨g, t, cs, fuel, p, h1, h2, h3, h4⟩
    · exact laid_reads h5 n d e
theorem tabIs_of {P : Program} {W : World} {l : List (String × DataW Unit)} {name : String} {k : IntKind} {zs : List Int} {g : Nat} {t e : TypeId} {n : Nat} (hm : (name, Lib.tabData k zs) ∈ l)
    (hg : P.globalNamed name = some g) (hty : (P.globals[g]?).map (·.type) = some t) (ht : P.underlying t = some (.array n e)) (he : P.underlying e = some (.int k)) (hce : P.cellsOf e = 1) (hct : P.cellsOf t = n)
    (h : laidMet P l W) : Lib.TabIs P W name k zs := by
  obtain ⟨ps, hv, _⟩ := h
  obtain ⟨g', t', cs, fuel, p, hg', ht', hvar, hd⟩ := laid_reads hv _ _ hm
  obtain rfl := Option.some.inj (hg.symm.trans hg')
  obtain rfl := Option.some.inj (hty.symm.trans ht')
  unfold Lib.TabIs
  rw [hvar, ← Lib.cells_of_tab ht he hce hct hd]
theorem gPow : Tryd.prog.globalNamed "internal/strconv.uint64pow10" = some 1 := by kernel_rfl
theorem gTz : Tryd.prog.globalNamed "math/bits.deBruijn64tab" = some 3 := by kernel_rfl
theorem laid_pow : (Rows.laid_internal_strconv_uint64pow10 : DataW Unit) = Lib.tabData .u64 Lib.pow10Tab := rfl
/-- the table of the last bits, as the row lists it -/
def dbT : List Int := [0, 1, 56, 2, 57, 49, 28, 3, 61, 58, 42, 50, 38, 29, 17, 4, 62, 47, 59, 36, 45, 43, 51, 22, 53, 39, 33, 30, 24, 18, 12, 5, 63, 55, 48, 27, 60, 41, 37, 16, 46, 35, 44, 21, 52, 32, 23, 11, 54, 26, 40, 15, 34, 20, 31, 10, 25, 14, 19, 9, 13, 8, 7, 6]
theorem laid_tz : (Rows.laid_math_bits_deBruijn64tab : DataW Unit) = Lib.tabData .u8 dbT := rfl
set_option maxRecDepth 100000 in
theorem tb_of {W : World} {l : List (String × DataW Unit)} (m1 : ("amber/isa.operations", (Rows.laid_amber_isa_operations : DataW Unit)) ∈ l) (m2 : ("math/bits.deBruijn64tab", (Rows.laid_math_bits_deBruijn64tab : DataW Unit)) ∈ l) (m3 : ("internal/strconv.uint64pow10", (Rows.laid_internal_strconv_uint64pow10 : DataW Unit)) ∈ l) (h : laidMet Tryd.prog l W) : Tb W := by
  refine ⟨ops_of m1 h, ?_, ?_⟩
  · have e := tabIs_of (l := l) (zs := dbT) (by rw [← laid_tz]; exact m2) gTz (by kernel_rfl) Tryd.underlying151 Tryd.underlying5 (by kernel_rfl) (by kernel_rfl) h
    exact e.cell gTz 15 (by decide)
  · exact tabIs_of (l := l) (by rw [← laid_pow]; exact m3) gPow (by kernel_rfl) Tryd.underlying122 Tryd.underlying71 (by kernel_rfl) (by kernel_rfl) h
/-- the tables laid, for a witness's world -/
def lay (cs : Array Value) (o : Obj) : Obj :=
  match o with
  | .cells _ t frozen => .cells cs t frozen
  | o => o
def db32 : List Int := [0, 1, 28, 2, 29, 14, 24, 3, 30, 22, 20, 15, 25, 17, 4, 8, 31, 27, 13, 23, 21, 19, 16, 7, 26, 12, 18, 6, 11, 5, 10, 9]
def accT : List Int := [128, 191, 160, 191, 128, 159, 144, 191, 128, 143, 0, 0, 0, 0, 0, 0, 0, 0, 0, 0, 0, 0, 0, 0, 0, 0, 0, 0, 0, 0, 0, 0]
def layAll (h : Array Obj) : Array Obj :=
  (((((h.modify 0 (lay opCells)).modify 1 (lay (Lib.pow10Tab.map fun z => Value.int .u64 z).toArray)).modify 3 (lay (dbT.map fun z => Value.int .u8 z).toArray)).modify 2 (lay (db32.map fun z => Value.int .u8 z).toArray)).modify 6 (lay (accT.map fun z => Value.int .u8 z).toArray)).modify 5 (lay (Go.Pinned.utf8FirstZ.map fun z => Value.int .u8 (z : Nat)).toArray)
end Go.Proofs.YtoaplkfmchphbaaDoor
