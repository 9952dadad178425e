import Derived.Test.YtfonenigkjngoabDoorD1
import Derived.Test.YtfonenigkjngoabDoorRM
namespace Go.Proofs.YtfonenigkjngoabDoor
open Go.RowKit
section
variable (w : World)
theorem does_r (op x y r : Nat) (hr : res op x y 0 = r) (h1 : 4 ≤ op) (h2 : op ≤ 17) (hx : x < 4294967296) (hy : y < 4294967296) (h0 : op = 8 ∨ op = 9 → y ≠ 0) (hO : Ops w) : Calls Tryd.prog 10 #[.int .i64 (op : Int), .int .u32 (x : Nat), .int .u32 (y : Nat)] w fun e w' => e = .returned (.tuple #[.int .u32 (r : Nat), .bool true]) ∧ Below w.heap.size w w' := by
  rw [← hr]; exact does_yes w op x y h1 h2 hx hy h0 hO
theorem does_z (op x y : Nat) (h1 : op = 8 ∨ op = 9) (hy : y = 0) (hO : Ops w) : Calls Tryd.prog 10 #[.int .i64 (op : Int), .int .u32 (x : Nat), .int .u32 (y : Nat)] w fun e w' => e = .returned (.tuple #[.int .u32 (x : Nat), .bool false]) ∧ Below w.heap.size w w' := by
  subst hy; exact does_no w op x h1 hO
end
end Go.Proofs.YtfonenigkjngoabDoor
