import Derived.Test.YteloomlcaimlaabA8
namespace Go.Proofs.Yteloomlcaimlaab
open Go.RowKit
theorem results_row2 {P : Program} {fn : Func} {p u : Tmp} {ty : TypeId} (h : fn.results = #[.cell p ty, .tmp u]) (tmps : Array Value) (w : World) (g : Nat) (t : TypeId) (cs : Array Value) (fr : Nat × Nat) (d : TypeDesc)
    (hp : tmps.getD p undef = .pointer (some ⟨g, 0, none⟩)) (hg : w.heap[g]? = some (.cells cs t fr))
    (hu : P.underlying ty = some d) (hd : (match d with | .struct _ | .array _ _ => true | _ => false) = true) (hi : (P.info? ty).map (·.size) = some cs.size) :
    (results fn tmps).run P w = .ok (.tuple #[.agg cs, tmps.getD u undef]) w := by
  rw [results_cell_tmp h, hp]
  simp [asAddr, run_loadVar_row w g t ty cs fr d hg hu hd hi]
theorem set3 {w1 : World} {N : Nat} {o0 o1 o2 : Value} {t : TypeId} (q : w1.heap[N]? = some (.cells #[o0, o1, o2] t (0, 0))) (a b c : Value) :
    (((w1.setCell ⟨N, 0, none⟩ a).setCell ⟨N, 1, none⟩ b).setCell ⟨N, 2, none⟩ c).heap[N]? = some (.cells #[a, b, c] t (0, 0)) := by
  have e1 := heap_setCell_same w1 N 0 _ t a q
  have e2 := heap_setCell_same _ N 1 _ t b e1
  have e3 := heap_setCell_same _ N 2 _ t c e2
  exact e3
theorem bel_set3 {w w1 : World} (h : Below w.heap.size w w1) (a b c : Value) :
    Below w.heap.size w (((w1.setCell ⟨w.heap.size, 0, none⟩ a).setCell ⟨w.heap.size, 1, none⟩ b).setCell ⟨w.heap.size, 2, none⟩ c) :=
  ((h.setCell (Nat.le_refl _) _).setCell (Nat.le_refl _) _).setCell (Nat.le_refl _) _
theorem info_tok : (Try.prog.info? 47).map (·.size) = some 3 := by kernel_rfl
/-- a token as it lies -/
def tkV (x : Nat × Nat × Nat) : Value := .agg #[.int .i64 (x.1 : Nat), .int .i64 (x.2.1 : Nat), .int .i64 (x.2.2 : Nat)]
theorem or64 (a b : Nat) (ha : a < 256) (hb : b < 256) : bits .or .i64 (a : Int) ((b : Int) * 256) = ((a + 256 * b : Nat) : Int) := by
  have e : (b : Int) * 256 = ((b * 256 : Nat) : Int) := by omega
  have h1 : (BitVec.ofInt 64 (a : Int)).toNat = a := by
    rw [BitVec.ofInt_natCast, BitVec.toNat_ofNat]; exact Nat.mod_eq_of_lt (by omega)
  have h2 : (BitVec.ofInt 64 ((b * 256 : Nat) : Int)).toNat = b * 256 := by
    rw [BitVec.ofInt_natCast, BitVec.toNat_ofNat]; exact Nat.mod_eq_of_lt (by omega)
  have h3 := or_add a b 8 ha
  rw [show (2 : Nat) ^ 8 = 256 from rfl] at h3
  rw [e]
  show IntKind.i64.wrap ((BitVec.ofInt 64 (a : Int) ||| BitVec.ofInt 64 ((b * 256 : Nat) : Int)).toNat : Int) = _
  rw [BitVec.toNat_or, h1, h2, h3, IntKind.wrap_i64]
  omega
def TkR (p : List Nat) (e : Ending) : Prop := (∃ x, e = .returned (.tuple #[tkV x, .bool true]) ∧ tkn p = some x) ∨ ∃ x, e = .returned (.tuple #[tkV x, .bool false]) ∧ tkn p = none
section
variable (w : World)
set_option maxHeartbeats 1000000 in
theorem Pack_ok (v : Value) (b : List Nat) (hv : Rb w w.heap.size v b) (hy : Bys b) (hl : b.length ≤ 65536) :
    Calls Try.prog 6 #[v] w fun e w' => ∃ r, e = .returned (.tuple #[r, .int .i64 0]) ∧ Ow w' w.heap.size r (pkd b) ∧ Below w.heap.size w w' := by
  have HV := hide hv
  have HY := hide hy
  obtain ⟨ao, cap, rfl, hcap⟩ := hv.len
  obtain ⟨n, hn⟩ : ∃ n, b.length = n := ⟨_, rfl⟩
  have HLn := hide hn
  rw [hn] at hl HV hcap ⊢
  have hd : ¬ (65536 : Int) < (n : Int) := by omega
  clear hv hy hn
  go_enter Try.func6, Try.ntmps6
  go_wp2_with fail
  refine (pack_any w _ b HV.out HY.out (by rw [HLn.out]; exact hl)).mono ?_
  rintro e w1 ⟨r, rfl, hO, hB⟩
  have HO := hide hO
  have HB := hide hB
  clear hO hB
  go_wp2
  go_ret2
  exact ⟨_, rfl, HO.out, HB.out⟩
set_option maxHeartbeats 1000000 in
theorem Pack_big (v : Value) (b : List Nat) (B : Nat) (hv : Rb w B v b) (hl : ¬ b.length ≤ 65536) :
    Calls Try.prog 6 #[v] w fun e w' => e = .returned (.tuple #[.slice none 0 0, .int .i64 41]) ∧ w' = w := by
  obtain ⟨ao, cap, rfl, hcap⟩ := hv.len
  generalize b.length = n at *
  have hd : (65536 : Int) < (n : Int) := by omega
  clear hv
  go_enter Try.func6, Try.ntmps6
  go_wp2
  go_ret2
  exact ⟨rfl, rfl⟩
set_option maxRecDepth 100000 in
set_option maxHeartbeats 1000000 in
theorem readToken_any (v : Value) (p : List Nat) (B : Nat) (hv : Rb w B v p) (hy : Bys p) (hp : p ≠ []) (hl : p.length ≤ 140737488351232) :
    Calls Try.prog 29 #[v] w fun e w' => TkR p e ∧ Below w.heap.size w w' := by
  have h0 : 0 < p.length := List.length_pos_iff.2 hp
  obtain ⟨ao, cap, rfl, hcap⟩ := hv.len
  obtain ⟨a, rfl, hab, hc⟩ := hv.some_of h0
  have hbt := World.block_lt_of_cell? w _ (hc 0 h0)
  rw [blk_add] at hbt
  have HT : Hid (tkn p = _) := hide (by unfold tkn; rfl)
  have c0 := hc 0 h0
  have b0 := hy.get 0
  have HC := hide hc
  have HY := hide hy
  obtain ⟨n, hn⟩ : ∃ n, p.length = n := ⟨_, rfl⟩
  have HLn := hide hn
  rw [hn] at hl hcap h0 HC ⊢
  clear hc hv hy
  obtain ⟨t, ht⟩ : ∃ t, p.getD 0 0 = t := ⟨_, rfl⟩
  rw [ht] at c0 b0 HT
  have HT0 := hide ht
  have hi0 : (0 : Int) < n := by omega
  clear ht hn c0
  go_enter Try.func29, Try.ntmps29
  go_upto_region 1 with fail
  have hq := heap_alloc_last w (.cells #[.int .i64 0, .int .i64 0, .int .i64 0] 47)
  have HB := hide ((Below.refl w.heap.size w).alloc (Nat.le_refl _) (.cells #[.int .i64 0, .int .i64 0, .int .i64 0] 47))
  generalize w.alloc (.cells #[.int .i64 0, .int .i64 0, .int .i64 0] 47) = w1 at *
  have HC1 : Hid (∀ i, i < n → w1.cell? (a.add i) = some (.int .u8 (p.getD i 0 : Nat))) := hide (fun i hi => by
    rw [HB.out.cell (by rw [blk_add]; exact hbt)]; exact HC.out i hi)
  have c0 : w1.cell? a = some (.int .u8 (t : Nat)) := by
    have := HC1.out 0 h0
    rw [HT0.out] at this
    simpa [Addr.add] using this
  have z0 : w1.cell? ⟨w.heap.size, 0, none⟩ = some (.int .i64 0) := by rw [cell_of_row _ _ _ _ _ _ hq]; rfl
  have z1 : w1.cell? ⟨w.heap.size, 1, none⟩ = some (.int .i64 0) := by rw [cell_of_row _ _ _ _ _ _ hq]; rfl
  have z2 : w1.cell? ⟨w.heap.size, 2, none⟩ = some (.int .i64 0) := by rw [cell_of_row _ _ _ _ _ _ hq]; rfl
  have f0 : w1.frozen? ⟨w.heap.size, 0, none⟩ = false := frozen_of_row _ _ _ _ _ hq
  have f1 : w1.frozen? ⟨w.heap.size, 1, none⟩ = false := frozen_of_row _ _ _ _ _ hq
  have f2 : w1.frozen? ⟨w.heap.size, 2, none⟩ = false := frozen_of_row _ _ _ _ _ hq
  have HQ := hide hq
  have hsz : w.heap.size < w1.heap.size := (Array.getElem?_eq_some_iff.1 hq).1
  clear hq
  by_cases h128 : t < 128
  · have h128I : (t : Int) < 128 := by omega
    go_upto_region 4 with fail
    go_region
    have HR : Hid (∀ a b c : Value, ∀ o : Obj, ((((w1.setCell ⟨w.heap.size, 0, none⟩ a).setCell ⟨w.heap.size, 1, none⟩ b).setCell ⟨w.heap.size, 2, none⟩ c).alloc o).drew.heap[w.heap.size]? = some (.cells #[a, b, c] 47 (0, 0)) ∧ Below w.heap.size w ((((w1.setCell ⟨w.heap.size, 0, none⟩ a).setCell ⟨w.heap.size, 1, none⟩ b).setCell ⟨w.heap.size, 2, none⟩ c).alloc o).drew) := hide (fun a b c o => ⟨by
      show ((((w1.setCell ⟨w.heap.size, 0, none⟩ a).setCell ⟨w.heap.size, 1, none⟩ b).setCell ⟨w.heap.size, 2, none⟩ c).alloc o).heap[w.heap.size]? = _
      rw [Below.heap_alloc _ _ _ (by simpa using hsz)]
      exact set3 HQ.out _ _ _, ((bel_set3 HB.out a b c).alloc (by simpa using Nat.le_of_lt hsz) o).drew⟩)
    have ht2 : (t : Int) + 2 = ((t + 2 : Nat) : Int) := by omega
    have ht1 : (t : Int) + 1 = ((t + 1 : Nat) : Int) := by omega
    have HT2 := hide ht2
    have HT1 := hide ht1
    by_cases hn2 : t + 2 ≤ n
    · have hdd : decide ((t : Int) + 2 ≤ (n : Int)) = true := by simp; omega
      rw [hdd]
      clear ht1 ht2
      go_wp2
      refine bodyPost_ret (results_row2 rfl _ _ w.heap.size 47 _ (0, 0) _ rfl (HR.out _ _ _ _).1 Try.underlying47 rfl info_tok) rfl ?_
      refine ⟨.inl ⟨(t + 2, t + 1, 0), by rw [HT1.out, HT2.out]; rfl, ?_⟩, (HR.out _ _ _ _).2⟩
      rw [HT.out, if_pos h128, if_pos (by rw [HLn.out]; exact hn2)]
    · have hdd : decide ((t : Int) + 2 ≤ (n : Int)) = false := by simp; omega
      rw [hdd]
      clear ht1 ht2
      go_wp2
      refine bodyPost_ret (results_row2 rfl _ _ w.heap.size 47 _ (0, 0) _ rfl (HR.out _ _ _ _).1 Try.underlying47 rfl info_tok) rfl ?_
      refine ⟨.inr ⟨(t + 2, t + 1, 0), by rw [HT1.out, HT2.out]; rfl, ?_⟩, (HR.out _ _ _ _).2⟩
      rw [HT.out, if_pos h128, if_neg (by rw [HLn.out]; exact hn2)]
  · have h128I : ¬ (t : Int) < 128 := by omega
    by_cases h3 : n < 3
    · have h3I : (n : Int) < 3 := by omega
      go_wp2
      refine bodyPost_ret (results_row2 rfl _ _ w.heap.size 47 #[.int .i64 0, .int .i64 0, .int .i64 0] (0, 0) _ rfl (set3 HQ.out _ _ _) Try.underlying47 rfl info_tok) rfl ?_
      refine ⟨.inr ⟨(0, 0, 0), rfl, ?_⟩, bel_set3 HB.out _ _ _⟩
      rw [HT.out, if_neg h128, if_pos (by rw [HLn.out]; exact h3)]
    · have h3I : ¬ (n : Int) < 3 := by omega
      have c1 : w1.cell? ⟨a.block, a.off + 1, none⟩ = some (.int .u8 (p.getD 1 0 : Nat)) := by simpa [Addr.add] using HC1.out 1 (by omega)
      have c2 : w1.cell? ⟨a.block, a.off + 2, none⟩ = some (.int .u8 (p.getD 2 0 : Nat)) := by simpa [Addr.add] using HC1.out 2 (by omega)
      have i1 : (1 : Int) < n := by omega
      have i2 : (2 : Int) < n := by omega
      have y1 := HY.out.get 1
      have y2 := HY.out.get 2
      generalize p.getD 1 0 = p1 at *
      generalize p.getD 2 0 = p2 at *
      obtain ⟨m, hm⟩ : ∃ m, p1 + 256 * p2 = m := ⟨_, rfl⟩
      have hor := or64 p1 p2 y1 y2
      rw [hm] at hor
      go_upto_region 7 with fail
      go_quiet (fail)
      have HQ2 : Hid ((w1.drewN nq).heap[w.heap.size]? = some (.cells #[.int .i64 0, .int .i64 0, .int .i64 0] 47 (0, 0))) := HQ
      have HB2 := hide (HB.out.trans (drewN_below w1 _ nq))
      have z0 : (w1.drewN nq).cell? ⟨w.heap.size, 0, none⟩ = some (.int .i64 0) := by rw [cell_of_row _ _ _ _ _ _ HQ2.out]; rfl
      have z1 : (w1.drewN nq).cell? ⟨w.heap.size, 1, none⟩ = some (.int .i64 0) := by rw [cell_of_row _ _ _ _ _ _ HQ2.out]; rfl
      have z2 : (w1.drewN nq).cell? ⟨w.heap.size, 2, none⟩ = some (.int .i64 0) := by rw [cell_of_row _ _ _ _ _ _ HQ2.out]; rfl
      have f0 : (w1.drewN nq).frozen? ⟨w.heap.size, 0, none⟩ = false := frozen_of_row _ _ _ _ _ HQ2.out
      have f1 : (w1.drewN nq).frozen? ⟨w.heap.size, 1, none⟩ = false := frozen_of_row _ _ _ _ _ HQ2.out
      have f2 : (w1.drewN nq).frozen? ⟨w.heap.size, 2, none⟩ = false := frozen_of_row _ _ _ _ _ HQ2.out
      clear c1 c2 hor
      generalize w1.drewN nq = w2 at *
      have e1 : IntKind.i64.wrap ((t : Int) - 128 + 4) = ((t - 124 : Nat) : Int) := by rw [wi _ (by omega) (by omega)]; omega
      have e2 : (t : Int) - 128 + 4 = ((t - 124 : Nat) : Int) := by omega
      have e3 : (m : Int) + 1 = ((m + 1 : Nat) : Int) := by omega
      have HE2 := hide e2
      have HE3 := hide e3
      have hm1 : m < 65536 := by omega
      have HMm := hide hm
      clear e2 e3 hm
      go_wp2
      refine bodyPost_ret (results_row2 rfl _ _ w.heap.size 47 _ (0, 0) _ rfl (set3 HQ2.out _ _ _) Try.underlying47 rfl info_tok) rfl ?_
      refine ⟨.inl ⟨(3, t - 124, m + 1), ?_, ?_⟩, bel_set3 HB2.out _ _ _⟩
      · first | rfl | (rw [HE3.out]; rfl) | (rw [HE2.out, HE3.out]; rfl)
      · rw [HT.out, if_neg h128, if_neg (by rw [HLn.out]; exact h3), HMm.out]
end
end Go.Proofs.Yteloomlcaimlaab
