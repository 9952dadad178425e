import Derived.Test.YtbfagiofhakjnaaDoorMA20
namespace Go.Proofs.YtbfagiofhakjnaaDoor
open Go.RowKit
theorem info_u32 : ∃ i, Tryd.prog.info? 46 = some i ∧ i.zero = some (.int .u32 0) ∧ i.size = 1 ∧ i.bytes = 4 := info_parts (by kernel_rfl)
section
variable (w : World)
set_option maxRecDepth 100000 in
set_option maxHeartbeats 1000000 in
theorem same_any (ao ao' : Option Addr) (cap cap' : Nat) (ns : List Nat) (hl : ns.length ≤ 1048576) (hW : Wd w ao ns) (hW' : Wd w ao' ns) : Calls Tryd.prog 6 #[.slice ao ns.length cap, .slice ao' ns.length cap'] w fun e w' => e = .returned (.bool true) ∧ Below w.heap.size w w' := by
  have HW := hide hW
  have HV := hide hW'
  clear hW hW'
  go_enter Tryd.func6, Tryd.ntmps6
  go_upto_region 4 with fail
  go_loopw [5] (fun k wr => ∃ j : Nat, j ≤ ns.length ∧ k = .int .i64 (j : Int) ∧ ∃ d, wr = w.drewN d) (fun k _ => ns.length - (intOf k).toNat)
  case atStart => exact ⟨0, by omega, rfl, 0, by rw [World.drewN_zero]⟩
  case round =>
  obtain ⟨j, hj, rfl, d, rfl⟩ := hrel
  by_cases hlt : j < ns.length
  · obtain ⟨a, rfl, c0⟩ := HW.out j hlt
    obtain ⟨b, rfl, c1⟩ := HV.out j hlt
    have hd : (j : Int) < (ns.length : Int) := by omega
    generalize ns[j] = x at *
    have e0 : ∀ n, (w.drewN n).cell? (a.add j) = some (.int .u32 (x : Nat)) := fun n => by rw [World.cell?_drewN]; exact c0
    have e1 : ∀ n, (w.drewN n).cell? (b.add j) = some (.int .u32 (x : Nat)) := fun n => by rw [World.cell?_drewN]; exact c1
    go_upto_region 6 with fail
    go_region
    go_wp2
    refine ⟨⟨j + 1, by omega, by simp, d + 1, rfl⟩, ?_⟩
    simp [intOf]
    omega
  · obtain rfl : j = ns.length := by omega
    go_wp2
    go_ret
    exact ⟨rfl, rfl, rfl, rfl, Nat.le_refl _, fun _ _ => rfl⟩
end
end Go.Proofs.YtbfagiofhakjnaaDoor

namespace Go.Proofs.YtbfagiofhakjnaaDoor
open Go.RowKit
theorem asmL_len (ps : List (Tx × (Nat × Int))) : ∀ (ls : List Ln) (k : Nat) (ws : List Nat), ws.length ≤ 512 → (asmL ps ls k ws).1.length ≤ 512
  | [], _, _, h => h
  | l :: r, k, ws, h => by
    rw [asmL]
    split
    · next hf =>
      have := flt_room hf
      exact asmL_len ps r (k + 1) _ (by simp; omega)
    · simp
theorem asm_len (s : Tx) : (asmT s).1.length ≤ 512 := by
  unfold asmT
  split
  · simp
  · exact asmL_len _ _ _ _ (by simp)
theorem own_Wd {w : World} {base n : Nat} {fo : Option Addr} {c : Nat} {ns : List Nat} (h : w.ownsRow base 46 1 (.slice fo n c) n (wds ns)) : Wd w fo ns := by
  intro j hj
  have hj' : j < (wds ns).length := by simpa [wds] using hj
  have hl := h.1
  rcases h.2 with ⟨h1, h2⟩ | ⟨k, cap, cur, h1, h2, h3, _, _, _, h7⟩
  · omega
  · simp only [Value.slice.injEq] at h1
    refine ⟨_, h1.1, ?_⟩
    rw [add0, Lib.cell_of_heap h3]
    have e : (cur.toList.take (n * 1))[j]? = some (wds ns)[j] := by rw [h7]; exact List.getElem?_eq_getElem hj'
    rw [List.getElem?_take] at e
    split at e
    · simpa [wds] using e
    · cases e
theorem Wd.under {w w' : World} {ao : Option Addr} {ns : List Nat} (h : Wd w ao ns) (hb : Below w.heap.size w w') : Wd w' ao ns := fun j hj => by
  obtain ⟨a, h1, h2⟩ := h j hj
  exact ⟨a, h1, by rw [hb.cell (cell_blk h2)]; exact h2⟩
section
variable (w : World)
set_option maxRecDepth 100000 in
set_option maxHeartbeats 4000000 in
theorem assembles_walk (s : Tx) (hl : s.length ≤ 140737488351232) (hO : Ops w) (hN : Nms w) : Calls Tryd.prog 3 #[.string ⟨s.toArray⟩] w fun e w' => e = .returned (.bool true) ∧ Below w.heap.size w w' := by
  have hlen := asm_len s
  have HA := hide (asm_any w s (by omega) hO)
  have HD0 := hide (fun W (h : Below w.heap.size w W) => asmD_any W s (by omega) (hN.below h))
  clear hO hN
  generalize asmT s = R at *
  obtain ⟨ns, n, z⟩ := R
  simp only at HA HD0 hlen
  go_enter Tryd.func3, Tryd.ntmps3
  go_wp2_with fail
  refine HA.out.mono ?_
  rintro e w1 ⟨v, rfl, ho1, hb1⟩
  obtain ⟨a1, c1, rfl⟩ := own_shape ho1
  have HW1 := hide (own_Wd ho1)
  have HB1 := hide hb1
  have hs1 := hb1.size
  have HD := hide (HD0.out w1 hb1)
  clear ho1 hb1 HA HD0
  go_wp2_with fail
  refine HD.out.mono ?_
  rintro e w2 ⟨v, rfl, ho2, hb2⟩
  obtain ⟨a2, c2, rfl⟩ := own_shape ho2
  have HS := hide (same_any w2 a1 a2 c1 c2 ns (by omega) (HW1.out.under hb2) (own_Wd ho2))
  have HB2 := hide (HB1.out.trans (hb2.mono hs1))
  have hs2 := HB2.out.size
  clear ho2 hb2 HD HW1 HB1
  go_wp2_with fail
  refine HS.out.mono ?_
  rintro e w3 ⟨rfl, hb3⟩
  have HB3 := hide (HB2.out.trans (hb3.mono hs2))
  clear hb3 HS HB2
  go_wp2
  go_ret
  exact ⟨rfl, HB3.out⟩
end
end Go.Proofs.YtbfagiofhakjnaaDoor
