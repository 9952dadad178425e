import Derived.Test.YtmflohehnoghhaaGJ
namespace Go.Proofs.Ytmflohehnoghhaa
open Go.RowKit

theorem addp (x : Addr) {n : Nat} (h : n ≠ 0) : x.add n = ⟨x.block, x.off + n, none⟩ := by unfold Addr.add; rw [if_neg h]
structure Ost where
  kd : Int
  t : Int
  v : Int
  s : Int
  b : Bool
  ad : Nat
  la : Option Addr
  ll : Nat
  lc : Nat
  Z : Nat → Mp
def Ost.cells (o : Ost) : List Value := [.int .i64 o.kd, .int .i64 o.t, .int .i64 o.v, .int .i64 o.s, .bool o.b, .int .u32 (o.ad : Nat), .slice o.la o.ll o.lc]
theorem TGo.refl {w : World} {B : Nat} {m : Nat → E} (h : Tb w B m) : TGo w w B m := ⟨h, Mod.refl _ _⟩
theorem TGo.below {w w' : World} {B : Nat} {m : Nat → E} (h : Tb w B m) (hb : Below w.heap.size w w') : TGo w w' B m := ⟨h.below hb, Mod.of_below hb⟩
theorem TGo.after {w w' w'' : World} {B : Nat} {m : Nat → E} (hb : Below w.heap.size w w') (h : TGo w' w'' B m) : TGo w w'' B m := ⟨h.1, (Mod.of_below hb).trans h.2⟩
theorem IsMaps.c {w : World} {x : Addr} {len k : Nat} {Z : Nat → Mp} (h : IsMaps w (some x) len Z) (hk : k < len) :
    w.cell? (x.add (k * 3)) = some (.int .i64 (Z k).v) ∧ w.cell? ⟨(x.add (k * 3)).block, (x.add (k * 3)).off + 1, none⟩ = some (.int .i64 (Z k).s) ∧ w.cell? ⟨(x.add (k * 3)).block, (x.add (k * 3)).off + 2, none⟩ = some (.bool (Z k).b) := by
  obtain ⟨y, hy, hc⟩ := h k hk
  cases hy
  refine ⟨?_, ?_, ?_⟩
  · have := hc 0 _ rfl
    simpa [Addr.add] using this
  · rw [← addp _ (by decide)]; exact hc 1 _ rfl
  · rw [← addp _ (by decide)]; exact hc 2 _ rfl
end Go.Proofs.Ytmflohehnoghhaa
