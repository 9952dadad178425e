import Derived.Test.YtmdcmpkjhflgpaaRH
import Derived.Test.YtmdcmpkjhflgpaaRK
namespace Go.Proofs.Ytmdcmpkjhflgpaa
open Go.RowKit

theorem OwI.at' {w : World} {base : Nat} {v : Value} {zs : List Nat} (h : OwI w base v zs) {j z : Nat} (hj : zs[j]? = some z) : ∃ g c, v = .slice (some ⟨g, 0, none⟩) zs.length c ∧ w.cell? ⟨g, j, none⟩ = some (.int .i64 (z : Int)) := by
  obtain ⟨hl, ⟨rfl, h0⟩ | ⟨g, cap, cur, rfl, _, h4, h5, h6, h7, h8⟩⟩ := h
  · have := (List.getElem?_eq_some_iff.1 hj).1; omega
  · refine ⟨g, cap, rfl, ?_⟩
    have hlt := (List.getElem?_eq_some_iff.1 hj).1
    rw [cell_of_row _ _ _ _ _ _ h4]
    have h9 : (zs.map In)[j]? = some (In z) := by simp [hj]
    rw [← h8, List.getElem?_take_of_lt (by omega)] at h9
    simpa [In] using h9
theorem OwI.below {w w' : World} {base : Nat} {v : Value} {zs : List Nat} (h : OwI w base v zs) (hb : Below w.heap.size w w') : OwI w' base v zs :=
  own_keep h (fun b e => hb.block b (h.lt b e).2)
set_option maxHeartbeats 800000 in
theorem sameI_any (w : World) (b1 b2 : Nat) (v1 v2 : Value) (zs : List Nat) (h1 : OwI w b1 v1 zs) (h2 : OwI w b2 v2 zs) (hl : zs.length ≤ 64) :
    Calls Try.prog 18 #[v1, v2] w fun e w' => e = .returned (.bool true) ∧ Below w.heap.size w w' := by
  obtain ⟨a1, c1, e1⟩ := h1.len
  obtain ⟨a2, c2, e2⟩ := h2.len
  subst e1 e2
  obtain ⟨L, hL⟩ : ∃ L, zs.length = L := ⟨_, rfl⟩
  have HH := hide (And.intro h1 h2)
  have HL := hide hL
  rw [hL] at hl ⊢
  clear h1 h2 hL
  go_enter Try.func18, Try.ntmps18
  go_wp2
  go_loopw [5] (fun i wr => ∃ j : Nat, j ≤ L ∧ i = .int .i64 (j : Int) ∧ Below w.heap.size w wr) (fun i _ => 64 - (intOf i).toNat)
  case atStart => exact ⟨0, by omega, rfl, Below.refl _ _⟩
  case round =>
    obtain ⟨j, hj, rfl, hb⟩ := hrel
    by_cases hlt : j < L
    · have hd : decide (j < L) = true := by simp; omega
      obtain ⟨z, hz⟩ : ∃ z, zs[j]? = some z := ⟨_, List.getElem?_eq_getElem (by rw [HL.out]; exact hlt)⟩
      obtain ⟨g1, k1, e1, x1⟩ := (HH.out.1.below hb).at' hz
      obtain ⟨g2, k2, e2, x2⟩ := (HH.out.2.below hb).at' hz
      simp only [Value.slice.injEq] at e1 e2
      obtain ⟨rfl, -, rfl⟩ := e1
      obtain ⟨rfl, -, rfl⟩ := e2
      have HB := hide hb
      clear hb hz HH
      go_wp2
      go_region
      go_wp2
      go_roundw
      case rel => exact ⟨j + 1, by omega, by go_num, HB.out.drew⟩
      case measure => simp [intOf]; omega
    · obtain rfl : j = L := by omega
      have hd : decide (j < j) = false := by simp
      have HB := hide hb
      clear hb HH
      go_wp2
      go_ret
      exact ⟨rfl, HB.out⟩
end Go.Proofs.Ytmdcmpkjhflgpaa
