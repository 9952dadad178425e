import Derived.Test.YtoddadohmnaolaaEH
namespace Go.Proofs.Ytoddadohmnaolaa
open Go.RowKit

theorem EtAt.ff_eq {w : World} {F : Nat → Prop} {T S : Nat} {G : Nat → Prop} {m : List (Option Nat)} {rs : List (Option Er)} {last : Int} (h : EtAt w F T S G m rs last) : ff m = ff rs := by
  have l1 := ff_le m
  have l2 := ff_le rs
  have e1 := h.len
  have e2 := h.rlen
  rcases Nat.lt_trichotomy (ff m) (ff rs) with h1 | h1 | h1
  · have h2 := h.free _ (ff_free (m := m) (by omega))
    obtain ⟨x, h3⟩ := ff_held h1
    rw [h3] at h2; cases h2
  · exact h1
  · have h2 := ff_free (m := rs) (by omega)
    obtain ⟨x, h3⟩ := ff_held h1
    obtain ⟨e, h4, _⟩ := h.held _ _ h3
    rw [h4] at h2; cases h2
/-- the serial of the last one made is set -/
theorem EtAt.setLast {w : World} {F : Nat → Prop} {T S : Nat} {G : Nat → Prop} {m : List (Option Nat)} {rs : List (Option Er)} {last : Int} (h : EtAt w F T S G m rs last) (z : Int) : EtAt (w.setCell ⟨T, 1, none⟩ (.int .i64 z)) F T S G m rs z where
  top := heap_setCell_same _ T 1 _ _ _ h.top
  tab := h.tab.keep (by simp [World.setCell]) (fun b hb => heap_setCell_other _ _ _ _ (h.fG b hb).2)
  len := h.len
  rlen := h.rlen
  free := h.free
  held := fun i b hi => by
    obtain ⟨e, h1, h2⟩ := h.held i b hi
    exact ⟨e, h1, h2.keep (heap_setCell_other _ _ _ _ (h.own i b hi).2.1)⟩
  fT := h.fT
  fG := h.fG
  own := h.own
  dis := h.dis
  lt := fun b hb => by have := h.lt b hb; simpa [World.setCell] using this
end Go.Proofs.Ytoddadohmnaolaa
