import Derived.Test.YtemkmjeioghofaaN8
namespace Go.Proofs.Ytemkmjeioghofaa
open Go.RowKit

theorem cell_pair_new (w : World) (t : TypeId) (u v : Value) : ∀ j x, [u, v][j]? = some x → (w.alloc (.cells #[u, v] t)).cell? ((⟨w.heap.size, 0, none⟩ : Addr).add j) = some x := by
  intro j x hx
  rw [add0, cell_of_row _ _ _ _ _ _ (heap_alloc_last w (.cells #[u, v] t))]
  simpa using hx
end Go.Proofs.Ytemkmjeioghofaa
