import Derived.Test.YtooikfmebjohfaaL2
import Derived.Test.YtooikfmebjohfaaL3
import Derived.Deep.Slices
namespace Go.Proofs.Ytooikfmebjohfaa
open Go.RowKit

/-- a slice of structs of four numbers, as it came in -/
def Quads (w : World) (a1 : Option Addr) (len : Nat) (Z : Nat → Int × Int × Int × Int) : Prop :=
  ∀ k, k < len → ∃ x, a1 = some x ∧ w.cell? (x.add (k * 4)) = some (.int .i64 (Z k).1) ∧ w.cell? (x.add (k * 4 + 1)) = some (.int .i64 (Z k).2.1) ∧
    w.cell? (x.add (k * 4 + 2)) = some (.int .i64 (Z k).2.2.1) ∧ w.cell? (x.add (k * 4 + 3)) = some (.int .i64 (Z k).2.2.2)
theorem add_pos (a : Addr) (i : Nat) (h : i ≠ 0) : a.add i = ⟨a.block, a.off + i, none⟩ := by
  unfold Addr.add; split <;> simp_all
theorem quad_cell {w wr : World} {x : Addr} {n i : Nat} {v : Value} (hb : Below w.heap.size w wr) (hi : i ≠ 0) (h : w.cell? (x.add (n + i)) = some v) : wr.cell? ⟨(x.add n).block, (x.add n).off + i, none⟩ = some v := by
  have e : (x.add n).add i = x.add (n + i) := Deep.add_add x n i
  rw [← add_pos _ i hi, e, hb.cell (World.block_lt_of_cell? w _ h)]
  exact h
theorem Quads.at {w wr : World} {a1 : Option Addr} {len : Nat} {Z : Nat → Int × Int × Int × Int} (h : Quads w a1 len Z) (hb : Below w.heap.size w wr) {k : Nat} (hk : k < len) :
    ∃ (x : Addr) (z0 z1 z2 z3 : Int), a1 = some x ∧ wr.cell? (x.add (k * 4)) = some (.int .i64 z0) ∧ wr.cell? ⟨(x.add (k * 4)).block, (x.add (k * 4)).off + 1, none⟩ = some (.int .i64 z1) ∧
      wr.cell? ⟨(x.add (k * 4)).block, (x.add (k * 4)).off + 2, none⟩ = some (.int .i64 z2) ∧ wr.cell? ⟨(x.add (k * 4)).block, (x.add (k * 4)).off + 3, none⟩ = some (.int .i64 z3) := by
  obtain ⟨x, hx, h0, h1, h2, h3⟩ := h k hk
  exact ⟨x, (Z k).1, (Z k).2.1, (Z k).2.2.1, (Z k).2.2.2, hx, (by rw [hb.cell (World.block_lt_of_cell? w _ h0)]; exact h0), quad_cell hb (by decide) h1, quad_cell hb (by decide) h2, quad_cell hb (by decide) h3⟩
set_option maxRecDepth 8000 in
set_option maxHeartbeats 1600000 in
theorem lowest_walk (a0 : Int) (a1 : Option Addr) (len cap : Nat) (Z : Nat → Int × Int × Int × Int) (w : World) (hlen : len ≤ maxLen) (hv : Quads w a1 len Z) :
    Calls Try.prog 7 #[.int .i64 a0, .slice a1 len cap] w fun e w' => e = .returned (.bool true) ∧ Below w.heap.size w w' := by
  have HV := hide hv
  have hl2 : len ≤ 9223372036854775807 := by unfold maxLen at hlen; omega
  clear hv hlen
  go_enter Try.func7, Try.ntmps7
  go_wp2_with fail
  refine (newC_any _ a0).mono ?_
  rintro e w1 ⟨rfl, hT1, hb1⟩
  obtain ⟨b, hb⟩ : ∃ b, clp a0 = b := ⟨_, rfl⟩
  rw [hb] at hT1
  have HS1 : Hid (St w w1 (w.heap.size + 1) (List.replicate b none)) := ⟨_, hT1, fun x hx => by omega, hb1⟩
  have HB := hide hb
  clear hT1 hb1 hb
  generalize w.heap.size + 1 = B at *
  go_wp2_with fail
  refine (clamp_any _ a0).mono ?_
  rintro e w1' ⟨rfl, rfl⟩
  rw [HB.out]
  obtain ⟨m0, hm0⟩ : ∃ m0, List.replicate b (none : Option Cl) = m0 := ⟨_, rfl⟩
  have hl0 : m0.length = b := by rw [← hm0]; simp
  have hc0 : m0.countP Option.isSome = 0 := by rw [← hm0]; exact List.countP_eq_zero.2 (fun a ha => by rw [(List.mem_replicate.1 ha).2]; simp)
  rw [hm0] at HS1
  have HL0 := hide hl0
  have HC0 := hide hc0
  clear hm0 hl0 hc0 HB
  go_wp2_with fail
  refine (HS1.out.bound).mono ?_
  rintro e w2 ⟨rfl, rfl⟩
  rw [HL0.out]
  go_wp2_with fail
  refine (HS1.out.len).mono ?_
  rintro e w3 ⟨rfl, rfl⟩
  rw [HC0.out]
  go_wp2_with fail
  refine (show Calls _ _ _ _ _ from HL0.out ▸ lowest_any w _ B m0 HS1.out 0 0 0 1).mono ?_
  rintro e w4 ⟨rfl, m1, hS4, hl4⟩
  have HS4 := hide hS4
  have HL4 := hide hl4
  clear hS4 hl4
  go_wp2_with fail
  refine (fixed_any _).mono ?_
  rintro e w5 ⟨rfl, hb5⟩
  have HS5 := hide (HS4.out.below hb5)
  clear hb5
  go_wp2
  go_loopw [8] (fun i wr => ∃ (k : Nat) (m : List (Option Cl)), k ≤ len ∧ i = .int .i64 k ∧ St w wr B m ∧ Hid (m.length = b)) (fun i _ => len - (intOf i).toNat)
  case atStart => exact ⟨0, m1, by omega, rfl, HS5.out, HL4.out⟩
  case round =>
    obtain ⟨k, m, hk, rfl, hS, HM⟩ := hrel
    have HS := hide hS
    clear hS HS5 HL4 HS4
    by_cases hlt : k < len
    · obtain ⟨x, z0, z1, z2, z3, hx, e0, e1, e2, e3⟩ := HV.out.at HS.out.bel hlt
      subst hx
      have HSA := hide (HS.out.below ((Below.refl wr.heap.size wr).alloc (Nat.le_refl _) (.cells #[.int .i64 z0, .int .i64 z1, .int .i64 z2, .int .i64 z3] 61)))
      have HLA := hide (lowest_any w _ B m HSA.out z0 z1 z2 z3)
      have HEA := hide (exactly_any w _ B m HSA.out z0 z1 z2 z3)
      have HOA := hide (out_any w _ B m HSA.out z0 z1 z2 z3)
      rw [HM.out] at HLA HEA HOA
      clear HS
      go_wp2_with fail
      · refine HLA.out.mono ?_
        rintro e w6 ⟨rfl, m', hS6, hl6⟩
        have HS6 := hide hS6
        have HM6 : Hid (m'.length = b) := hl6
        clear hS6 hl6
        go_wp2
        go_roundw
        case rel =>
          first
            | exact ⟨k + 1, m', by omega, by go_num, HS6.out, HM6⟩
            | ((repeat apply Exists.intro); refine ⟨?_, rfl⟩; exact ⟨k + 1, m', by omega, by go_num, HS6.out, HM6⟩)
        case measure => simp [intOf]; omega
      · refine HEA.out.mono ?_
        rintro e w6 ⟨rfl, m', hS6, hl6⟩
        have HS6 := hide hS6
        have HM6 : Hid (m'.length = b) := hl6
        clear hS6 hl6
        go_wp2
        go_roundw
        case rel =>
          first
            | exact ⟨k + 1, m', by omega, by go_num, HS6.out, HM6⟩
            | ((repeat apply Exists.intro); refine ⟨?_, rfl⟩; exact ⟨k + 1, m', by omega, by go_num, HS6.out, HM6⟩)
        case measure => simp [intOf]; omega
      · refine HOA.out.mono ?_
        rintro e w6 ⟨rfl, m', hS6, hl6⟩
        have HS6 := hide hS6
        have HM6 : Hid (m'.length = b) := hl6
        clear hS6 hl6
        go_wp2
        go_roundw
        case rel =>
          first
            | exact ⟨k + 1, m', by omega, by go_num, HS6.out, HM6⟩
            | ((repeat apply Exists.intro); refine ⟨?_, rfl⟩; exact ⟨k + 1, m', by omega, by go_num, HS6.out, HM6⟩)
        case measure => simp [intOf]; omega
      · refine HSA.out.clear.mono ?_
        rintro e w6 ⟨rfl, hS6⟩
        rw [HM.out] at hS6
        have HS6 := hide hS6
        have HC6 := hide (show (List.replicate b (none : Option Cl)).countP Option.isSome = 0 from List.countP_eq_zero.2 (fun a ha => by rw [(List.mem_replicate.1 ha).2]; simp))
        have HB6 := hide (show (List.replicate b (none : Option Cl)).length = b by simp)
        have HN6 := hide (show ∀ (q : Nat) (c : Cl), (List.replicate b (none : Option Cl))[q]? ≠ some (some c) from fun q c h => by
          have := List.mem_of_getElem? h
          rw [List.mem_replicate] at this
          cases this.2)
        clear hS6
        generalize List.replicate b (none : Option Cl) = m' at *
        go_wp2_with fail
        refine HS6.out.len.mono ?_
        rintro e w7 ⟨rfl, rfl⟩
        rw [HC6.out]
        go_wp2_with fail
        refine HS6.out.bound.mono ?_
        rintro e w7 ⟨rfl, rfl⟩
        rw [HB6.out]
        go_wp2_with fail
        refine (HS6.out.next 0).mono ?_
        rintro e w7 ⟨rfl, h7⟩
        obtain rfl : e = .returned (.int .i64 (-1)) := by
          rcases h7 with ⟨q, _, h7⟩ | ⟨h7, _⟩
          · obtain ⟨c, hc⟩ := h7.2.1
            exact absurd hc (HN6.out q c)
          · exact h7
        clear h7
        go_wp2
        go_roundw
        case rel =>
          first
            | exact ⟨k + 1, m', by omega, by go_num, HS6.out, HB6⟩
            | ((repeat apply Exists.intro); refine ⟨?_, rfl⟩; exact ⟨k + 1, m', by omega, by go_num, HS6.out, HB6⟩)
        case measure => simp [intOf]; omega
      · go_roundw
        case rel =>
          first
            | exact ⟨k + 1, m, by omega, by go_num, HSA.out, HM⟩
            | ((repeat apply Exists.intro); refine ⟨?_, rfl⟩; exact ⟨k + 1, m, by omega, by go_num, HSA.out, HM⟩)
        case measure => simp [intOf]; omega
    · go_wp2
      go_ret
      exact ⟨rfl, HS.out.bel⟩
end Go.Proofs.Ytooikfmebjohfaa
