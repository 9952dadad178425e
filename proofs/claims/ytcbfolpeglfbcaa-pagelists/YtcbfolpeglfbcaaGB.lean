import Derived.Test.YtcbfolpeglfbcaaGA
import Derived.Test.YtcbfolpeglfbcaaOP
namespace Go.Proofs.Ytcbfolpeglfbcaa
open Go.RowKit
theorem info31 : (Try.prog.info? 31).map (·.size) = some 7 := by kernel_rfl
/-- a table of the law's own -/
structure Ts (w wr : World) (B : Nat) (m : Nat → E) : Prop where
  t : Tb wr B m
  s : Sm m
  b : Below w.heap.size w wr
  l : w.heap.size ≤ B
section
variable {w wr w' : World} {B : Nat} {m m' : Nat → E}
theorem Ts.below (h : Ts w wr B m) (hb : Below wr.heap.size wr w') : Ts w w' B m := ⟨h.t.below hb, h.s, h.b.trans (hb.mono h.b.size), h.l⟩
theorem Ts.go (h : Ts w wr B m) (hg : TGo wr w' B m') (hs : Sm m') : Ts w w' B m' :=
  ⟨hg.1, hs, h.b.trans (hg.2.below (fun b hb => by rw [hb]; exact h.l) h.b.size), h.l⟩
theorem Ts.drew (h : Ts w wr B m) : Ts w wr.drew B m := ⟨h.t.drew, h.s, h.b.drew, h.l⟩
theorem Ts.alloc (h : Ts w wr B m) (o : Obj) : Ts w (wr.alloc o) B m := h.below ((Below.refl _ _).alloc (Nat.le_refl _) o)
/-- what seen told, laid into a variable -/
theorem seen_new (w : World) (m : Nat → E) : Sn ((w.alloc (.cells (sc nil).toArray 35)).setRow w.heap.size (sc m).toArray) w.heap.size m ∧ Below w.heap.size w ((w.alloc (.cells (sc nil).toArray 35)).setRow w.heap.size (sc m).toArray) :=
  ⟨⟨setRow_heap _ _ _ _ _ _ (heap_alloc_last _ _)⟩, below_setRow ((Below.refl _ _).alloc (Nat.le_refl _) _) (Nat.le_refl _) _⟩
theorem first_sm : Sm (upd nil 3 (some (7, false))) := Sm.nil.upd (by omega)
end
end Go.Proofs.Ytcbfolpeglfbcaa
