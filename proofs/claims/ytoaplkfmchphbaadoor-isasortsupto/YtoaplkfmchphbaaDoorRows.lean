/-
  NARROWER THAN 'FOR EVERY INPUT', by the rows' own cells (each row's printed sentence says how): IsaJumps: laid · IsaBlanks: laid · IsaEuclid: laid · IsaSorts: laid · IsaRound: laid · IsaApart: laid.
  DERIVED. THE GIVEN ROWS OF THIS SEAT. 6 by the template 'for every input the law returns true; each argument reads behind the call as it read before'; 0 by the template 'total and deterministic' (their statements: YtoaplkfmchphbaaDoorTotals.lean).
  GIVEN WITH THE SEED: the statements are not yours to turn. If you find one false, say at which input.
  Laid BY PROGRAM, IN A SANDBOX (cutbox-rows.mjs): the forced cells as the released guide's own fill.sh prints them over the translation ac831e5b826bf8ab… (all of the seat's roots in one cut). By AI agents, Wed Nov 11 2026. No macro, syntax, notation, axiom, sorry.
-/
import Derived.Test.YtoaplkfmchphbaaDoorChecked
import GoSem.PinnedTables
import GoSem.Claim
import GoSem.ClaimJoined
import GoSem.ClaimMapViews
import Derived.JoinedTies
import Derived.KernelRfl
namespace Go.Proofs.YtoaplkfmchphbaaDoor
/- THE CELL 'sum', in the pinned program and in every row, IS THE sha256 OF THE DUMP (.gsa) THAT YtoaplkfmchphbaaDoorProg.lean LOADS. Nothing in Lean hashes anything: it is a label: what it is worth is what the hold of that sum in a sandbox is worth. -/
noncomputable def Tryd.pinned : Pinned := { name := "ytoaplkfmchphbaadoor", sum := "ac831e5b826bf8abfed40b48fec7f7d0ef2224b7298e2160553938972609f7a2", checked := Tryd.checked }
namespace Rows
def none {H : Type} : Left H := { results := [], args := [] }

/- WHAT THE LISTED PACKAGE-LEVEL VARIABLES READ AS WHEN THE CALL BEGINS. Each datum BY PROGRAM (the guide's laid-datum.mjs) off the statement by which the dump's own 'gosem.cut.vars' lays the variable. In a bare row this is a premise. The card (YtoaplkfmchphbaaDoorCards.lean) ties it to the program's text. -/
def laid_math_bits_deBruijn32tab {H : Type} : DataW H := .agg [.lit (.int .u8 0), .lit (.int .u8 1), .lit (.int .u8 28), .lit (.int .u8 2), .lit (.int .u8 29), .lit (.int .u8 14), .lit (.int .u8 24), .lit (.int .u8 3), .lit (.int .u8 30), .lit (.int .u8 22), .lit (.int .u8 20), .lit (.int .u8 15), .lit (.int .u8 25), .lit (.int .u8 17), .lit (.int .u8 4), .lit (.int .u8 8), .lit (.int .u8 31), .lit (.int .u8 27), .lit (.int .u8 13), .lit (.int .u8 23), .lit (.int .u8 21), .lit (.int .u8 19), .lit (.int .u8 16), .lit (.int .u8 7), .lit (.int .u8 26), .lit (.int .u8 12), .lit (.int .u8 18), .lit (.int .u8 6), .lit (.int .u8 11), .lit (.int .u8 5), .lit (.int .u8 10), .lit (.int .u8 9)]
def laid_math_bits_deBruijn64tab {H : Type} : DataW H := .agg [.lit (.int .u8 0), .lit (.int .u8 1), .lit (.int .u8 56), .lit (.int .u8 2), .lit (.int .u8 57), .lit (.int .u8 49), .lit (.int .u8 28), .lit (.int .u8 3), .lit (.int .u8 61), .lit (.int .u8 58), .lit (.int .u8 42), .lit (.int .u8 50), .lit (.int .u8 38), .lit (.int .u8 29), .lit (.int .u8 17), .lit (.int .u8 4), .lit (.int .u8 62), .lit (.int .u8 47), .lit (.int .u8 59), .lit (.int .u8 36), .lit (.int .u8 45), .lit (.int .u8 43), .lit (.int .u8 51), .lit (.int .u8 22), .lit (.int .u8 53), .lit (.int .u8 39), .lit (.int .u8 33), .lit (.int .u8 30), .lit (.int .u8 24), .lit (.int .u8 18), .lit (.int .u8 12), .lit (.int .u8 5), .lit (.int .u8 63), .lit (.int .u8 55), .lit (.int .u8 48), .lit (.int .u8 27), .lit (.int .u8 60), .lit (.int .u8 41), .lit (.int .u8 37), .lit (.int .u8 16), .lit (.int .u8 46), .lit (.int .u8 35), .lit (.int .u8 44), .lit (.int .u8 21), .lit (.int .u8 52), .lit (.int .u8 32), .lit (.int .u8 23), .lit (.int .u8 11), .lit (.int .u8 54), .lit (.int .u8 26), .lit (.int .u8 40), .lit (.int .u8 15), .lit (.int .u8 34), .lit (.int .u8 20), .lit (.int .u8 31), .lit (.int .u8 10), .lit (.int .u8 25), .lit (.int .u8 14), .lit (.int .u8 19), .lit (.int .u8 9), .lit (.int .u8 13), .lit (.int .u8 8), .lit (.int .u8 7), .lit (.int .u8 6)]
def laid_internal_strconv_uint64pow10 {H : Type} : DataW H := .agg [.lit (.int .u64 1), .lit (.int .u64 10), .lit (.int .u64 100), .lit (.int .u64 1000), .lit (.int .u64 10000), .lit (.int .u64 100000), .lit (.int .u64 1000000), .lit (.int .u64 10000000), .lit (.int .u64 100000000), .lit (.int .u64 1000000000), .lit (.int .u64 10000000000), .lit (.int .u64 100000000000), .lit (.int .u64 1000000000000), .lit (.int .u64 10000000000000), .lit (.int .u64 100000000000000), .lit (.int .u64 1000000000000000), .lit (.int .u64 10000000000000000), .lit (.int .u64 100000000000000000), .lit (.int .u64 1000000000000000000), .lit (.int .u64 10000000000000000000)]
def laid_unicode_utf8_acceptRanges {H : Type} : DataW H := .agg [.agg [.lit (.int .u8 128), .lit (.int .u8 191)], .agg [.lit (.int .u8 160), .lit (.int .u8 191)], .agg [.lit (.int .u8 128), .lit (.int .u8 159)], .agg [.lit (.int .u8 144), .lit (.int .u8 191)], .agg [.lit (.int .u8 128), .lit (.int .u8 143)], .agg [.lit (.int .u8 0), .lit (.int .u8 0)], .agg [.lit (.int .u8 0), .lit (.int .u8 0)], .agg [.lit (.int .u8 0), .lit (.int .u8 0)], .agg [.lit (.int .u8 0), .lit (.int .u8 0)], .agg [.lit (.int .u8 0), .lit (.int .u8 0)], .agg [.lit (.int .u8 0), .lit (.int .u8 0)], .agg [.lit (.int .u8 0), .lit (.int .u8 0)], .agg [.lit (.int .u8 0), .lit (.int .u8 0)], .agg [.lit (.int .u8 0), .lit (.int .u8 0)], .agg [.lit (.int .u8 0), .lit (.int .u8 0)], .agg [.lit (.int .u8 0), .lit (.int .u8 0)]]
def laid_amber_isa_operations {H : Type} : DataW H := .agg [.agg [.lit (.string []), .lit (.bool false), .lit (.bool false), .lit (.int .i64 0)], .agg [.lit (.string [110, 111, 112]), .lit (.bool false), .lit (.bool false), .lit (.int .i64 0)], .agg [.lit (.string [108, 105]), .lit (.bool true), .lit (.bool false), .lit (.int .i64 2)], .agg [.lit (.string [104, 105]), .lit (.bool true), .lit (.bool false), .lit (.int .i64 1)], .agg [.lit (.string [109, 111, 118]), .lit (.bool true), .lit (.bool true), .lit (.int .i64 0)], .agg [.lit (.string [97, 100, 100]), .lit (.bool true), .lit (.bool true), .lit (.int .i64 0)], .agg [.lit (.string [115, 117, 98]), .lit (.bool true), .lit (.bool true), .lit (.int .i64 0)], .agg [.lit (.string [109, 117, 108]), .lit (.bool true), .lit (.bool true), .lit (.int .i64 0)], .agg [.lit (.string [100, 105, 118]), .lit (.bool true), .lit (.bool true), .lit (.int .i64 0)], .agg [.lit (.string [114, 101, 109]), .lit (.bool true), .lit (.bool true), .lit (.int .i64 0)], .agg [.lit (.string [97, 110, 100]), .lit (.bool true), .lit (.bool true), .lit (.int .i64 0)], .agg [.lit (.string [111, 114]), .lit (.bool true), .lit (.bool true), .lit (.int .i64 0)], .agg [.lit (.string [120, 111, 114]), .lit (.bool true), .lit (.bool true), .lit (.int .i64 0)], .agg [.lit (.string [115, 104, 108]), .lit (.bool true), .lit (.bool true), .lit (.int .i64 0)], .agg [.lit (.string [115, 104, 114]), .lit (.bool true), .lit (.bool true), .lit (.int .i64 0)], .agg [.lit (.string [108, 116]), .lit (.bool true), .lit (.bool true), .lit (.int .i64 0)], .agg [.lit (.string [115, 108, 116]), .lit (.bool true), .lit (.bool true), .lit (.int .i64 0)], .agg [.lit (.string [101, 113]), .lit (.bool true), .lit (.bool true), .lit (.int .i64 0)], .agg [.lit (.string [97, 100, 100, 105]), .lit (.bool true), .lit (.bool false), .lit (.int .i64 2)], .agg [.lit (.string [108, 100]), .lit (.bool true), .lit (.bool true), .lit (.int .i64 2)], .agg [.lit (.string [115, 116]), .lit (.bool true), .lit (.bool true), .lit (.int .i64 2)], .agg [.lit (.string [106, 109, 112]), .lit (.bool false), .lit (.bool false), .lit (.int .i64 2)], .agg [.lit (.string [106, 122]), .lit (.bool true), .lit (.bool false), .lit (.int .i64 2)], .agg [.lit (.string [106, 110, 122]), .lit (.bool true), .lit (.bool false), .lit (.int .i64 2)], .agg [.lit (.string [106, 114]), .lit (.bool true), .lit (.bool false), .lit (.int .i64 0)], .agg [.lit (.string [99, 97, 108, 108]), .lit (.bool true), .lit (.bool false), .lit (.int .i64 2)], .agg [.lit (.string [115, 121, 115]), .lit (.bool false), .lit (.bool false), .lit (.int .i64 1)]]
/-- One of Go's own tables, pinned by name: the form's constant. -/
def laid_unicode_utf8_first : DataW Unit := Go.Pinned.utf8First

/-- 'amberlaw07.IsaJumps': WHATEVER THE INPUT: true; the input reads as it did. -/
def isaJumpsSpec : ChangeSpec := { name := "isaJumps", fn := fun _ => fun
  | [d] => { results := [.lit (.bool true)], args := [d] }
  | _ => none }
def isaJumpsRow : OpenClaim := { program := "ytoaplkfmchphbaadoor", sum := "ac831e5b826bf8abfed40b48fec7f7d0ef2224b7298e2160553938972609f7a2", func := "amber/amberlaw07.IsaJumps", spec := "isaJumps", inPlace := ["internal/bytealg.IndexByteString", "internal/bytealg.IndexString"], named := ["internal/strconv.uint64pow10", "math/bits.deBruijn32tab", "math/bits.deBruijn64tab", "unicode/utf8.first", "unicode/utf8.acceptRanges", "amber/isa.operations", "internal/bytealg.MaxLen"], apart := false, laid := [("math/bits.deBruijn32tab", laid_math_bits_deBruijn32tab), ("math/bits.deBruijn64tab", laid_math_bits_deBruijn64tab), ("internal/strconv.uint64pow10", laid_internal_strconv_uint64pow10), ("unicode/utf8.acceptRanges", laid_unicode_utf8_acceptRanges), ("amber/isa.operations", laid_amber_isa_operations), ("unicode/utf8.first", laid_unicode_utf8_first)] }
def IsaJumpsSaid : Prop := isaJumpsRow.holds Tryd.pinned (OpenSpec.ofChange isaJumpsSpec)

/-- ITS FALSE NEIGHBOUR: 'it returns false'. Refute it at one input. -/
def isaJumpsWrong : ChangeSpec := { name := "isaJumps", fn := fun _ => fun
  | [d] => { results := [.lit (.bool false)], args := [d] }
  | _ => none }
def IsaJumpsWrongFalsely : Prop := isaJumpsRow.holds Tryd.pinned (OpenSpec.ofChange isaJumpsWrong)

/-- 'amberlaw07.IsaBlanks': WHATEVER THE INPUT: true; the input reads as it did. -/
def isaBlanksSpec : ChangeSpec := { name := "isaBlanks", fn := fun _ => fun
  | [d1, d2] => { results := [.lit (.bool true)], args := [d1, d2] }
  | _ => none }
def isaBlanksRow : OpenClaim := { program := "ytoaplkfmchphbaadoor", sum := "ac831e5b826bf8abfed40b48fec7f7d0ef2224b7298e2160553938972609f7a2", func := "amber/amberlaw07.IsaBlanks", spec := "isaBlanks", inPlace := ["internal/bytealg.IndexByteString", "internal/bytealg.IndexString"], named := ["amber/isa.operations", "unicode/utf8.first", "unicode/utf8.acceptRanges", "internal/bytealg.MaxLen"], apart := false, laid := [("unicode/utf8.acceptRanges", laid_unicode_utf8_acceptRanges), ("amber/isa.operations", laid_amber_isa_operations), ("unicode/utf8.first", laid_unicode_utf8_first)] }
def IsaBlanksSaid : Prop := isaBlanksRow.holds Tryd.pinned (OpenSpec.ofChange isaBlanksSpec)

/-- ITS FALSE NEIGHBOUR: 'it returns false'. Refute it at one input. -/
def isaBlanksWrong : ChangeSpec := { name := "isaBlanks", fn := fun _ => fun
  | [d1, d2] => { results := [.lit (.bool false)], args := [d1, d2] }
  | _ => none }
def IsaBlanksWrongFalsely : Prop := isaBlanksRow.holds Tryd.pinned (OpenSpec.ofChange isaBlanksWrong)

/-- 'amberlaw07.IsaEuclid': WHATEVER THE INPUT: true; the input reads as it did. -/
def isaEuclidSpec : ChangeSpec := { name := "isaEuclid", fn := fun _ => fun
  | [d1, d2] => { results := [.lit (.bool true)], args := [d1, d2] }
  | _ => none }
def isaEuclidRow : OpenClaim := { program := "ytoaplkfmchphbaadoor", sum := "ac831e5b826bf8abfed40b48fec7f7d0ef2224b7298e2160553938972609f7a2", func := "amber/amberlaw07.IsaEuclid", spec := "isaEuclid", inPlace := ["internal/bytealg.IndexByteString", "internal/bytealg.IndexString"], named := ["internal/strconv.uint64pow10", "math/bits.deBruijn32tab", "math/bits.deBruijn64tab", "unicode/utf8.first", "unicode/utf8.acceptRanges", "amber/isa.operations", "internal/bytealg.MaxLen"], apart := false, laid := [("math/bits.deBruijn32tab", laid_math_bits_deBruijn32tab), ("math/bits.deBruijn64tab", laid_math_bits_deBruijn64tab), ("internal/strconv.uint64pow10", laid_internal_strconv_uint64pow10), ("unicode/utf8.acceptRanges", laid_unicode_utf8_acceptRanges), ("amber/isa.operations", laid_amber_isa_operations), ("unicode/utf8.first", laid_unicode_utf8_first)] }
def IsaEuclidSaid : Prop := isaEuclidRow.holds Tryd.pinned (OpenSpec.ofChange isaEuclidSpec)

/-- ITS FALSE NEIGHBOUR: 'it returns false'. Refute it at one input. -/
def isaEuclidWrong : ChangeSpec := { name := "isaEuclid", fn := fun _ => fun
  | [d1, d2] => { results := [.lit (.bool false)], args := [d1, d2] }
  | _ => none }
def IsaEuclidWrongFalsely : Prop := isaEuclidRow.holds Tryd.pinned (OpenSpec.ofChange isaEuclidWrong)

/-- 'amberlaw07.IsaSorts': WHATEVER THE INPUT: true; the input reads as it did. -/
def isaSortsSpec : ChangeSpec := { name := "isaSorts", fn := fun _ => fun
  | [d] => { results := [.lit (.bool true)], args := [d] }
  | _ => none }
def isaSortsRow : OpenClaim := { program := "ytoaplkfmchphbaadoor", sum := "ac831e5b826bf8abfed40b48fec7f7d0ef2224b7298e2160553938972609f7a2", func := "amber/amberlaw07.IsaSorts", spec := "isaSorts", inPlace := ["internal/bytealg.IndexByteString", "internal/bytealg.IndexString"], named := ["internal/strconv.uint64pow10", "math/bits.deBruijn32tab", "math/bits.deBruijn64tab", "unicode/utf8.first", "unicode/utf8.acceptRanges", "amber/isa.operations", "internal/bytealg.MaxLen"], apart := false, laid := [("math/bits.deBruijn32tab", laid_math_bits_deBruijn32tab), ("math/bits.deBruijn64tab", laid_math_bits_deBruijn64tab), ("internal/strconv.uint64pow10", laid_internal_strconv_uint64pow10), ("unicode/utf8.acceptRanges", laid_unicode_utf8_acceptRanges), ("amber/isa.operations", laid_amber_isa_operations), ("unicode/utf8.first", laid_unicode_utf8_first)] }
def IsaSortsSaid : Prop := isaSortsRow.holds Tryd.pinned (OpenSpec.ofChange isaSortsSpec)

/-- ITS FALSE NEIGHBOUR: 'it returns false'. Refute it at one input. -/
def isaSortsWrong : ChangeSpec := { name := "isaSorts", fn := fun _ => fun
  | [d] => { results := [.lit (.bool false)], args := [d] }
  | _ => none }
def IsaSortsWrongFalsely : Prop := isaSortsRow.holds Tryd.pinned (OpenSpec.ofChange isaSortsWrong)

/-- 'amberlaw07.IsaRound': WHATEVER THE INPUT: true; the input reads as it did. -/
def isaRoundSpec : ChangeSpec := { name := "isaRound", fn := fun _ => fun
  | [d] => { results := [.lit (.bool true)], args := [d] }
  | _ => none }
def isaRoundRow : OpenClaim := { program := "ytoaplkfmchphbaadoor", sum := "ac831e5b826bf8abfed40b48fec7f7d0ef2224b7298e2160553938972609f7a2", func := "amber/amberlaw07.IsaRound", spec := "isaRound", inPlace := ["internal/abi.NoEscape", "internal/bytealg.MakeNoZero", "internal/bytealg.IndexByteString", "internal/bytealg.IndexString"], named := ["amber/isa.operations", "internal/strconv.uint64pow10", "math/bits.deBruijn32tab", "math/bits.deBruijn64tab", "unicode/utf8.first", "unicode/utf8.acceptRanges", "internal/bytealg.MaxLen"], apart := false, laid := [("math/bits.deBruijn32tab", laid_math_bits_deBruijn32tab), ("math/bits.deBruijn64tab", laid_math_bits_deBruijn64tab), ("internal/strconv.uint64pow10", laid_internal_strconv_uint64pow10), ("unicode/utf8.acceptRanges", laid_unicode_utf8_acceptRanges), ("amber/isa.operations", laid_amber_isa_operations), ("unicode/utf8.first", laid_unicode_utf8_first)] }
def IsaRoundSaid : Prop := isaRoundRow.holds Tryd.pinned (OpenSpec.ofChange isaRoundSpec)

/-- ITS FALSE NEIGHBOUR: 'it returns false'. Refute it at one input. -/
def isaRoundWrong : ChangeSpec := { name := "isaRound", fn := fun _ => fun
  | [d] => { results := [.lit (.bool false)], args := [d] }
  | _ => none }
def IsaRoundWrongFalsely : Prop := isaRoundRow.holds Tryd.pinned (OpenSpec.ofChange isaRoundWrong)

/-- 'amberlaw07.IsaApart': WHATEVER THE INPUT: true; the input reads as it did. -/
def isaApartSpec : ChangeSpec := { name := "isaApart", fn := fun _ => fun
  | [d] => { results := [.lit (.bool true)], args := [d] }
  | _ => none }
def isaApartRow : OpenClaim := { program := "ytoaplkfmchphbaadoor", sum := "ac831e5b826bf8abfed40b48fec7f7d0ef2224b7298e2160553938972609f7a2", func := "amber/amberlaw07.IsaApart", spec := "isaApart", inPlace := ["internal/abi.NoEscape", "internal/bytealg.MakeNoZero", "internal/bytealg.IndexByteString", "internal/bytealg.IndexString"], named := ["amber/isa.operations", "internal/strconv.uint64pow10", "math/bits.deBruijn32tab", "math/bits.deBruijn64tab", "unicode/utf8.first", "unicode/utf8.acceptRanges", "internal/bytealg.MaxLen"], apart := false, laid := [("math/bits.deBruijn32tab", laid_math_bits_deBruijn32tab), ("math/bits.deBruijn64tab", laid_math_bits_deBruijn64tab), ("internal/strconv.uint64pow10", laid_internal_strconv_uint64pow10), ("unicode/utf8.acceptRanges", laid_unicode_utf8_acceptRanges), ("amber/isa.operations", laid_amber_isa_operations), ("unicode/utf8.first", laid_unicode_utf8_first)] }
def IsaApartSaid : Prop := isaApartRow.holds Tryd.pinned (OpenSpec.ofChange isaApartSpec)

/-- ITS FALSE NEIGHBOUR: 'it returns false'. Refute it at one input. -/
def isaApartWrong : ChangeSpec := { name := "isaApart", fn := fun _ => fun
  | [d] => { results := [.lit (.bool false)], args := [d] }
  | _ => none }
def IsaApartWrongFalsely : Prop := isaApartRow.holds Tryd.pinned (OpenSpec.ofChange isaApartWrong)

/- THE SECOND FORM. 'bulk': how many values and letters a reading holds, each counted each time it is reached (what is shared counts as often as it is met; a slice's spare places count too). A statement '..UptoSaid' is the law's where the arguments, and the package variables that the reading takes, are together of bulk at most 1048576: NARROWER than '..Said'. Prove '..Said' where nothing that the law and all that it calls make is longer than what came in: it says more and counts as full. Else prove '..UptoSaid'. A law counts once. -/
mutual
def uptoBulk {H : Type} : DataW H → Nat
  | .lit (.string bytes) => bytes.length + 1
  | .lit _ => 1
  | .nil => 1
  | .ptr d => uptoBulk d + 1
  | .slice elems spare => uptoBulkAll elems + uptoBulkAll spare + 1
  | .agg parts => uptoBulkAll parts + 1
  | .iface _ d => uptoBulk d + 1
  | .map entries => uptoBulkEntries entries + 1
  | .held _ => 1
def uptoBulkAll {H : Type} : List (DataW H) → Nat
  | [] => 0
  | d :: r => uptoBulk d + uptoBulkAll r
def uptoBulkEntries {H : Type} : List (Lit × DataW H) → Nat
  | [] => 0
  | x :: r => uptoBulkEntry x + uptoBulkEntries r
def uptoBulkEntry {H : Type} : Lit × DataW H → Nat
  | (.string bytes, d) => bytes.length + uptoBulk d + 1
  | (_, d) => uptoBulk d + 1
 end
def uptoSmall : (H : Type) → List (DataW H) → Bool := fun _ ds => decide (uptoBulkAll ds ≤ 1048576)
def OpenSpec.upto (s : _root_.Go.ChangeSpec) : _root_.Go.OpenSpec := { _root_.Go.OpenSpec.ofChange s with cond := some uptoSmall }

/-- 'amberlaw07.IsaJumps', WHERE WHAT IT READS IS OF BULK AT MOST 1048576: true; the input reads as it did. -/
def isaJumpsUptoRow : OpenClaim := { program := "ytoaplkfmchphbaadoor", sum := "ac831e5b826bf8abfed40b48fec7f7d0ef2224b7298e2160553938972609f7a2", func := "amber/amberlaw07.IsaJumps", spec := "isaJumps", inPlace := ["internal/bytealg.IndexByteString", "internal/bytealg.IndexString"], named := ["internal/strconv.uint64pow10", "math/bits.deBruijn32tab", "math/bits.deBruijn64tab", "unicode/utf8.first", "unicode/utf8.acceptRanges", "amber/isa.operations", "internal/bytealg.MaxLen"], apart := false, laid := [("math/bits.deBruijn32tab", laid_math_bits_deBruijn32tab), ("math/bits.deBruijn64tab", laid_math_bits_deBruijn64tab), ("internal/strconv.uint64pow10", laid_internal_strconv_uint64pow10), ("unicode/utf8.acceptRanges", laid_unicode_utf8_acceptRanges), ("amber/isa.operations", laid_amber_isa_operations), ("unicode/utf8.first", laid_unicode_utf8_first)], narrowed := true }
def IsaJumpsUptoSaid : Prop := isaJumpsUptoRow.holds Tryd.pinned (OpenSpec.upto isaJumpsSpec)

/-- 'amberlaw07.IsaBlanks', WHERE WHAT IT READS IS OF BULK AT MOST 1048576: true; the input reads as it did. -/
def isaBlanksUptoRow : OpenClaim := { program := "ytoaplkfmchphbaadoor", sum := "ac831e5b826bf8abfed40b48fec7f7d0ef2224b7298e2160553938972609f7a2", func := "amber/amberlaw07.IsaBlanks", spec := "isaBlanks", inPlace := ["internal/bytealg.IndexByteString", "internal/bytealg.IndexString"], named := ["amber/isa.operations", "unicode/utf8.first", "unicode/utf8.acceptRanges", "internal/bytealg.MaxLen"], apart := false, laid := [("unicode/utf8.acceptRanges", laid_unicode_utf8_acceptRanges), ("amber/isa.operations", laid_amber_isa_operations), ("unicode/utf8.first", laid_unicode_utf8_first)], narrowed := true }
def IsaBlanksUptoSaid : Prop := isaBlanksUptoRow.holds Tryd.pinned (OpenSpec.upto isaBlanksSpec)

/-- 'amberlaw07.IsaEuclid', WHERE WHAT IT READS IS OF BULK AT MOST 1048576: true; the input reads as it did. -/
def isaEuclidUptoRow : OpenClaim := { program := "ytoaplkfmchphbaadoor", sum := "ac831e5b826bf8abfed40b48fec7f7d0ef2224b7298e2160553938972609f7a2", func := "amber/amberlaw07.IsaEuclid", spec := "isaEuclid", inPlace := ["internal/bytealg.IndexByteString", "internal/bytealg.IndexString"], named := ["internal/strconv.uint64pow10", "math/bits.deBruijn32tab", "math/bits.deBruijn64tab", "unicode/utf8.first", "unicode/utf8.acceptRanges", "amber/isa.operations", "internal/bytealg.MaxLen"], apart := false, laid := [("math/bits.deBruijn32tab", laid_math_bits_deBruijn32tab), ("math/bits.deBruijn64tab", laid_math_bits_deBruijn64tab), ("internal/strconv.uint64pow10", laid_internal_strconv_uint64pow10), ("unicode/utf8.acceptRanges", laid_unicode_utf8_acceptRanges), ("amber/isa.operations", laid_amber_isa_operations), ("unicode/utf8.first", laid_unicode_utf8_first)], narrowed := true }
def IsaEuclidUptoSaid : Prop := isaEuclidUptoRow.holds Tryd.pinned (OpenSpec.upto isaEuclidSpec)

/-- 'amberlaw07.IsaSorts', WHERE WHAT IT READS IS OF BULK AT MOST 1048576: true; the input reads as it did. -/
def isaSortsUptoRow : OpenClaim := { program := "ytoaplkfmchphbaadoor", sum := "ac831e5b826bf8abfed40b48fec7f7d0ef2224b7298e2160553938972609f7a2", func := "amber/amberlaw07.IsaSorts", spec := "isaSorts", inPlace := ["internal/bytealg.IndexByteString", "internal/bytealg.IndexString"], named := ["internal/strconv.uint64pow10", "math/bits.deBruijn32tab", "math/bits.deBruijn64tab", "unicode/utf8.first", "unicode/utf8.acceptRanges", "amber/isa.operations", "internal/bytealg.MaxLen"], apart := false, laid := [("math/bits.deBruijn32tab", laid_math_bits_deBruijn32tab), ("math/bits.deBruijn64tab", laid_math_bits_deBruijn64tab), ("internal/strconv.uint64pow10", laid_internal_strconv_uint64pow10), ("unicode/utf8.acceptRanges", laid_unicode_utf8_acceptRanges), ("amber/isa.operations", laid_amber_isa_operations), ("unicode/utf8.first", laid_unicode_utf8_first)], narrowed := true }
def IsaSortsUptoSaid : Prop := isaSortsUptoRow.holds Tryd.pinned (OpenSpec.upto isaSortsSpec)

/-- 'amberlaw07.IsaRound', WHERE WHAT IT READS IS OF BULK AT MOST 1048576: true; the input reads as it did. -/
def isaRoundUptoRow : OpenClaim := { program := "ytoaplkfmchphbaadoor", sum := "ac831e5b826bf8abfed40b48fec7f7d0ef2224b7298e2160553938972609f7a2", func := "amber/amberlaw07.IsaRound", spec := "isaRound", inPlace := ["internal/abi.NoEscape", "internal/bytealg.MakeNoZero", "internal/bytealg.IndexByteString", "internal/bytealg.IndexString"], named := ["amber/isa.operations", "internal/strconv.uint64pow10", "math/bits.deBruijn32tab", "math/bits.deBruijn64tab", "unicode/utf8.first", "unicode/utf8.acceptRanges", "internal/bytealg.MaxLen"], apart := false, laid := [("math/bits.deBruijn32tab", laid_math_bits_deBruijn32tab), ("math/bits.deBruijn64tab", laid_math_bits_deBruijn64tab), ("internal/strconv.uint64pow10", laid_internal_strconv_uint64pow10), ("unicode/utf8.acceptRanges", laid_unicode_utf8_acceptRanges), ("amber/isa.operations", laid_amber_isa_operations), ("unicode/utf8.first", laid_unicode_utf8_first)], narrowed := true }
def IsaRoundUptoSaid : Prop := isaRoundUptoRow.holds Tryd.pinned (OpenSpec.upto isaRoundSpec)

/-- 'amberlaw07.IsaApart', WHERE WHAT IT READS IS OF BULK AT MOST 1048576: true; the input reads as it did. -/
def isaApartUptoRow : OpenClaim := { program := "ytoaplkfmchphbaadoor", sum := "ac831e5b826bf8abfed40b48fec7f7d0ef2224b7298e2160553938972609f7a2", func := "amber/amberlaw07.IsaApart", spec := "isaApart", inPlace := ["internal/abi.NoEscape", "internal/bytealg.MakeNoZero", "internal/bytealg.IndexByteString", "internal/bytealg.IndexString"], named := ["amber/isa.operations", "internal/strconv.uint64pow10", "math/bits.deBruijn32tab", "math/bits.deBruijn64tab", "unicode/utf8.first", "unicode/utf8.acceptRanges", "internal/bytealg.MaxLen"], apart := false, laid := [("math/bits.deBruijn32tab", laid_math_bits_deBruijn32tab), ("math/bits.deBruijn64tab", laid_math_bits_deBruijn64tab), ("internal/strconv.uint64pow10", laid_internal_strconv_uint64pow10), ("unicode/utf8.acceptRanges", laid_unicode_utf8_acceptRanges), ("amber/isa.operations", laid_amber_isa_operations), ("unicode/utf8.first", laid_unicode_utf8_first)], narrowed := true }
def IsaApartUptoSaid : Prop := isaApartUptoRow.holds Tryd.pinned (OpenSpec.upto isaApartSpec)

end Rows
end Go.Proofs.YtoaplkfmchphbaaDoor
