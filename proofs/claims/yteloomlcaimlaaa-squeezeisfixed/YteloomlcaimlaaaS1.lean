import Derived.Test.YteloomlcaimlaaaG1
namespace Go.Proofs.Yteloomlcaimlaaa
open Go.RowKit
theorem results_row1 {P : Program} {fn : Func} {p : Tmp} {ty : TypeId} (h : fn.results = #[.cell p ty]) (tmps : Array Value) (w : World) (g : Nat) (t : TypeId) (cs : Array Value) (fr : Nat × Nat) (d : TypeDesc)
    (hp : tmps.getD p undef = .pointer (some ⟨g, 0, none⟩)) (hg : w.heap[g]? = some (.cells cs t fr))
    (hu : P.underlying ty = some d) (hd : (match d with | .struct _ | .array _ _ => true | _ => false) = true) (hi : (P.info? ty).map (·.size) = some cs.size) :
    (results fn tmps).run P w = .ok (.agg cs) w := by
  have hp' : tmps[p]?.getD undef = .pointer (some ⟨g, 0, none⟩) := by simpa using hp
  unfold results
  simp [h, hp', asAddr, run_loadVar_row w g t ty cs fr d hg hu hd hi]
theorem info_pc : (Try.prog.info? 31).map (·.size) = some 3 := by kernel_rfl
/-- a piece: what it makes, its distance, its bytes -/
def pcV (a b c : Nat) : Value := .agg #[.int .i64 (a : Nat), .int .i64 (b : Nat), .int .i64 (c : Nat)]
/-- what the law's eye reads of the token t -/
def pcT : Tok → Nat × Nat × Nat
  | .inl r => (r.length, 0, r.length + 1)
  | .inr c => (c.1, c.2, 3)
/-- a token as Pack lays it -/
def okT : Tok → Prop
  | .inl r => r ≠ [] ∧ r.length ≤ 128
  | .inr c => 4 ≤ c.1 ∧ c.1 ≤ 131 ∧ 1 ≤ c.2 ∧ c.2 ≤ 65536
section
variable (w : World)
set_option maxRecDepth 100000 in
set_option maxHeartbeats 1000000 in
theorem read_any (v : Value) (p : List Nat) (at0 B : Nat) (t : Tok) (rest : List Nat) (hv : Rb w B v p) (hy : Bys p) (hl : p.length ≤ 1000000) (hp : p.drop at0 = enc t ++ rest) (ht : okT t) (hat : at0 < p.length) :
    Calls Try.prog 12 #[v, .int .i64 (at0 : Nat)] w fun e w' => e = .returned (pcV (pcT t).1 (pcT t).2.1 (pcT t).2.2) ∧ Below w.heap.size w w' := by
  have HV := hide hv
  obtain ⟨ao, cap, rfl, hcap⟩ := hv.len
  obtain ⟨a, rfl, hab, hc⟩ := hv.some_of (by omega)
  have hbt := World.block_lt_of_cell? w _ (hc at0 hat)
  rw [blk_add] at hbt
  have hget : ∀ j, (enc t ++ rest).getD j 0 = p.getD (at0 + j) 0 := fun j => by
    rw [← hp]; simp [List.getD_eq_getElem?_getD]
  have hlen : p.length = at0 + ((enc t).length + rest.length) := by
    have := congrArg List.length hp
    rw [List.length_drop, List.length_append] at this
    omega
  have HC := hide hc
  have HG := hide hget
  have HY := hide hy
  obtain ⟨n, hn⟩ : ∃ n, p.length = n := ⟨_, rfl⟩
  have HLn := hide hn
  rw [hn] at hl hcap HC hlen hat ⊢
  clear hc hv hy hn hget hp
  have hi0 : (at0 : Int) < n := by omega
  obtain ⟨q0, hq0⟩ : ∃ q, p.getD at0 0 = q := ⟨_, rfl⟩
  have b0 := HY.out.get at0
  rw [hq0] at b0
  have HQ0 := hide hq0
  clear hq0
  go_enter Try.func12, Try.ntmps12
  go_upto_region 1 with fail
  have hq := heap_alloc_last w (.cells #[.int .i64 0, .int .i64 0, .int .i64 0] 31)
  have HB := hide ((Below.refl w.heap.size w).alloc (Nat.le_refl _) (.cells #[.int .i64 0, .int .i64 0, .int .i64 0] 31))
  generalize w.alloc (.cells #[.int .i64 0, .int .i64 0, .int .i64 0] 31) = w1 at *
  have HC1 : Hid (∀ i, i < n → w1.cell? (a.add i) = some (.int .u8 (p.getD i 0 : Nat))) := hide (fun i hi => by
    rw [HB.out.cell (by rw [blk_add]; exact hbt)]; exact HC.out i hi)
  have c0 := HC1.out at0 hat
  rw [HQ0.out] at c0
  obtain ⟨z0, z1, z2⟩ := cells3 hq
  have f0 : w1.frozen? ⟨w.heap.size, 0, none⟩ = false := frozen_of_row _ _ _ _ _ hq
  have f1 : w1.frozen? ⟨w.heap.size, 1, none⟩ = false := frozen_of_row _ _ _ _ _ hq
  have f2 : w1.frozen? ⟨w.heap.size, 2, none⟩ = false := frozen_of_row _ _ _ _ _ hq
  have HQ := hide hq
  have hsz : w.heap.size < w1.heap.size := (Array.getElem?_eq_some_iff.1 hq).1
  clear hq
  cases t with
  | inl r =>
    obtain ⟨hr0, hr1⟩ := ht
    have hrp : 0 < r.length := List.length_pos_iff.2 hr0
    have hq1 : q0 = r.length - 1 := by
      have := HG.out 0
      rw [Nat.add_zero, HQ0.out] at this
      exact this.symm
    have hel : (enc (.inl r)).length = r.length + 1 := rfl
    rw [hel] at hlen
    obtain ⟨m, hm⟩ : ∃ m, r.length = m := ⟨_, rfl⟩
    rw [hm] at hq1 hlen hr1 hrp
    have hqI : (q0 : Int) < 128 := by omega
    have hsI : (at0 : Int) + (q0 : Int) + 2 ≤ (n : Int) := by omega
    have HM : Hid ((q0 : Int) + 1 = (m : Nat)) := hide (by omega)
    have HM2 : Hid ((q0 : Int) + 2 = ((m + 1 : Nat) : Int)) := hide (by omega)
    have HPm := hide hm
    clear hq1 hm hlen hel
    go_wp2
    refine bodyPost_ret (results_row1 rfl _ _ w.heap.size 31 _ (0, 0) _ rfl (set3 HQ.out _ _ _) Try.underlying31 rfl info_pc) rfl ?_
    refine ⟨?_, bel_set3 HB.out _ _ _⟩
    show _ = Ending.returned (pcV r.length 0 (r.length + 1))
    rw [HPm.out, HM.out, HM2.out]
    rfl
  | inr c =>
    obtain ⟨h1, h2, h3, h4⟩ := ht
    have hq1 : q0 = 124 + c.1 := by
      have := HG.out 0
      rw [Nat.add_zero, HQ0.out] at this
      exact this.symm
    have g1 : p.getD (at0 + 1) 0 = (c.2 - 1) % 256 := (HG.out 1).symm
    have g2 : p.getD (at0 + 2) 0 = (c.2 - 1) / 256 % 256 := (HG.out 2).symm
    have hel : (enc (.inr c)).length = 3 := rfl
    rw [hel] at hlen
    obtain ⟨y1, e1⟩ : ∃ y, at0 + 1 = y := ⟨_, rfl⟩
    obtain ⟨y2, e2⟩ : ∃ y, at0 + 2 = y := ⟨_, rfl⟩
    have c1 := HC1.out y1 (by omega)
    have c2 := HC1.out y2 (by omega)
    rw [← e1, g1, e1] at c1
    rw [← e2, g2, e2] at c2
    obtain ⟨c', d⟩ := c
    simp only at h1 h2 h3 h4 hq1 c1 c2
    have b1 : (d - 1) % 256 < 256 := Nat.mod_lt _ (by omega)
    have b2 : (d - 1) / 256 % 256 < 256 := Nat.mod_lt _ (by omega)
    have hde : (d - 1) % 256 + 256 * ((d - 1) / 256 % 256) + 1 = d := by omega
    generalize (d - 1) % 256 = p1 at *
    generalize (d - 1) / 256 % 256 = p2 at *
    have hqI : ¬ (q0 : Int) < 128 := by omega
    have hq2I : (128 : Int) ≤ (q0 : Int) := by omega
    have hsI : (at0 : Int) + 3 ≤ (n : Int) := by omega
    have j1 : IntKind.i64.wrap ((at0 : Int) + 1) = (y1 : Nat) := by rw [wi _ (by omega) (by omega)]; omega
    have j2 : IntKind.i64.wrap ((at0 : Int) + 2) = (y2 : Nat) := by rw [wi _ (by omega) (by omega)]; omega
    have i1 : (y1 : Int) < n := by omega
    have i2 : (y2 : Int) < n := by omega
    have HM : Hid ((q0 : Int) - 124 = (c' : Nat)) := hide (by omega)
    have HM2 : Hid ((p1 : Int) + 256 * (p2 : Int) + 1 = (d : Nat)) := hide (by omega)
    clear hq1 hlen hel g1 g2 e1 e2 hde
    go_upto_region 5 with fail
    go_region
    rw [HM.out, HM2.out]
    have HR : Hid (∀ a b c : Value, (((w1.setCell ⟨w.heap.size, 0, none⟩ a).setCell ⟨w.heap.size, 1, none⟩ b).setCell ⟨w.heap.size, 2, none⟩ c).drew.heap[w.heap.size]? = some (.cells #[a, b, c] 31 (0, 0)) ∧ Below w.heap.size w (((w1.setCell ⟨w.heap.size, 0, none⟩ a).setCell ⟨w.heap.size, 1, none⟩ b).setCell ⟨w.heap.size, 2, none⟩ c).drew) := hide (fun a b c => ⟨set3 HQ.out _ _ _, (bel_set3 HB.out a b c).drew⟩)
    go_wp2
    refine bodyPost_ret (results_row1 rfl _ _ w.heap.size 31 _ (0, 0) _ rfl (HR.out _ _ _).1 Try.underlying31 rfl info_pc) rfl ?_
    exact ⟨rfl, (HR.out _ _ _).2⟩
set_option maxRecDepth 100000 in
set_option maxHeartbeats 1000000 in
theorem agrl_any (v : Value) (b : List Nat) (i d B : Nat) (hv : Rb w B v b) (hl : b.length ≤ 65536) (hi : i < b.length) (hd : d ≤ i) :
    Calls Try.prog 22 #[v, .int .i64 (i : Nat), .int .i64 (d : Nat)] w fun e w' => e = .returned (.int .i64 (mt b i d : Nat)) ∧ Below w.heap.size w w' := by
  have HV := hide hv
  obtain ⟨ao, cap, rfl, hcap⟩ := hv.len
  have hm1 := mt_le b i d
  have hm2 := mst_le b i
  have hm3 := mst_le2 b i
  have HA := hide (agr_at b (mst b i) (i - d) i)
  have HN := hide (agr_no b (mst b i) (i - d) i)
  rw [show agr b (i - d) i (mst b i) = mt b i d from rfl] at HA HN
  have HM : Hid (mst b i = min 131 (b.length - i)) := hide rfl
  obtain ⟨a, rfl, _, hc⟩ := hv.some_of (by omega)
  have HC := hide hc
  obtain ⟨n, hn⟩ : ∃ n, b.length = n := ⟨_, rfl⟩
  have HLn := hide hn
  rw [hn] at hl hi hcap hm3 HV HM HC ⊢
  generalize mt b i d = r at *
  generalize mst b i = m at *
  clear hv hc hn
  go_enter Try.func22, Try.ntmps22
  go_wp2
  go_loopw [7] (fun kv wr => ∃ k : Nat, kv = .int .i64 (k : Nat) ∧ k ≤ r ∧ Below w.heap.size w wr) (fun kv _ => r - (intOf kv).toNat)
  case atStart => exact ⟨0, rfl, Nat.zero_le _, Below.refl _ _⟩
  case round =>
    obtain ⟨k, rfl, hk, hB⟩ := hrel
    by_cases h131 : k < 131
    · have h1I : (k : Int) < 131 := by omega
      by_cases hin : i + k < n
      · have h2I : (i : Int) + (k : Int) < (n : Int) := by omega
        have hkm : k < m := by have := HM.out; omega
        have c1 := HC.out (i + k) (by omega)
        have c2 := HC.out (i - d + k) (by omega)
        rw [← hB.cell (World.block_lt_of_cell? w _ c1)] at c1
        rw [← hB.cell (World.block_lt_of_cell? w _ c2)] at c2
        have HK : Hid (b.getD (i - d + k) 0 = b.getD (i + k) 0 ↔ k < r) := hide ⟨fun h => by
          rcases Nat.lt_or_ge k r with h1 | h1
          · exact h1
          · obtain rfl : k = r := by omega
            exact absurd h (HN.out hkm), HA.out k⟩
        generalize b.getD (i + k) 0 = p1 at *
        generalize b.getD (i - d + k) 0 = p2 at *
        obtain ⟨y1, e1⟩ : ∃ y, i + k = y := ⟨_, rfl⟩
        obtain ⟨y2, e2⟩ : ∃ y, i - d + k = y := ⟨_, rfl⟩
        rw [e1] at c1
        rw [e2] at c2
        have j1 : IntKind.i64.wrap ((i : Int) + (k : Int)) = (y1 : Nat) := by rw [wi _ (by omega) (by omega)]; omega
        have j2 : IntKind.i64.wrap ((y1 : Int) - (d : Int)) = (y2 : Nat) := by rw [wi _ (by omega) (by omega)]; omega
        have j3 : (i : Int) + (k : Int) = (y1 : Nat) := by omega
        have i1 : (y1 : Int) < n := by omega
        have i2 : (y2 : Int) < n := by omega
        clear HA HN e1 e2 h2I
        by_cases hr : k < r
        · have he := eqN p1 p2 (HK.out.2 hr).symm
          clear HK
          go_upto_region 2 with fail
          go_quiet (fail)
          go_wp2
          go_roundw
          case rel => exact ⟨k + 1, by go_num, by omega, hB.trans (drewN_below _ _ _)⟩
          case measure => simp [intOf]; omega
        · have he := neN p1 p2 (fun h => hr (HK.out.1 h.symm))
          obtain rfl : k = r := by omega
          clear HK
          go_upto_region 2 with fail
          go_quiet (fail)
          go_wp2
          go_ret
          exact ⟨rfl, hB.trans (drewN_below _ _ _)⟩
      · have h2I : decide ((i : Int) + (k : Int) < (n : Int)) = false := by simp; omega
        obtain rfl : k = r := by
          have := HM.out
          omega
        go_upto_region 2 with fail
        go_quiet (fail)
        go_wp2
        go_ret
        exact ⟨rfl, hB.trans (drewN_below _ _ _)⟩
    · have h1I : decide ((k : Int) < 131) = false := by simp; omega
      obtain rfl : k = r := by omega
      go_upto_region 2 with fail
      go_quiet (fail)
      go_wp2
      go_ret
      exact ⟨rfl, hB.trans (drewN_below _ _ _)⟩
end
end Go.Proofs.Yteloomlcaimlaaa
