import Derived.Test.YtfonenigkjngoaaDoorRK1
import Derived.Test.YtfonenigkjngoaaDoorRK2
import Derived.Test.YtfonenigkjngoaaDoorRK3
import Derived.Test.YtfonenigkjngoaaDoorRK4
namespace Go.Proofs.YtfonenigkjngoaaDoor
open Go.RowKit
theorem reckons_walk (w : World) (x : Nat) (hx : x < 4294967296) (y : Nat) (hy : y < 4294967296) (hO : Ops w) : Calls Tryd.prog 7 #[.int .u32 (x : Nat), .int .u32 (y : Nat)] w fun e w' => e = .returned (.bool true) ∧ Below w.heap.size w w' := by
  by_cases h0 : y = 0
  · by_cases h : x = y
    · subst h; exact reck_eq0 w x hx h0 hO
    · exact reck_gt0 w x y hx hy (by omega) h0 hO
  · by_cases h : x = y
    · subst h; exact reck_eq w x hx h0 hO
    · by_cases h2 : x < y
      · exact reck_lt w x y hx hy h2 h0 hO
      · exact reck_gt w x y hx hy (by omega) h0 hO
end Go.Proofs.YtfonenigkjngoaaDoor
