import Derived.Test.YtogpgchfaalikaaX4
namespace Go.Proofs.Ytogpgchfaalikaa
open Go.RowKit

/-- pairs of numbers that came in -/
def IsPairs (w : World) (a : Option Addr) (len : Nat) (Z : Nat → Int × Int) : Prop :=
  ∀ k, k < len → ∃ x, a = some x ∧ w.cell? (x.add (k * 2)) = some (.int .i64 (Z k).1) ∧ w.cell? (x.add (k * 2 + 1)) = some (.int .i64 (Z k).2)
theorem cell_below {w w' : World} (hb : Below w.heap.size w w') {p : Addr} {v : Value} (h : w.cell? p = some v) : w'.cell? p = some v := by
  have hl : p.block < w.heap.size := by
    unfold World.cell? at h
    cases hq : w.heap[p.block]? with
    | none => simp [hq] at h
    | some o => exact (Array.getElem?_eq_some_iff.1 hq).1
  have := hb.block p.block hl
  unfold World.cell? at h ⊢
  rw [this]; exact h
theorem IsPairs.below {w w' : World} {a : Option Addr} {len : Nat} {Z : Nat → Int × Int} (h : IsPairs w a len Z) (hb : Below w.heap.size w w') : IsPairs w' a len Z := by
  intro k hk
  obtain ⟨x, h1, h2, h3⟩ := h k hk
  exact ⟨x, h1, cell_below hb h2, cell_below hb h3⟩
/-- a number as one below m -/
theorem rest_nat (z : Int) (m : Nat) (hm : 0 < m) (hM : m ≤ 1024) (hd : (18446744073709551616 : Int) % m = 0) : wrap64 ((IntKind.u64.wrap z).tmod m) = (((z % m).toNat : Nat) : Int) := by
  have e1 : IntKind.u64.wrap z = z % 18446744073709551616 := by simp [IntKind.wrap, IntKind.signed, IntKind.bits]
  have e2 : (z % 18446744073709551616).tmod m = z % 18446744073709551616 % m := Int.tmod_eq_emod_of_nonneg (by omega)
  have e3 : z % 18446744073709551616 % m = z % m := Int.emod_emod_of_dvd z (Int.dvd_of_emod_eq_zero hd)
  have h1 : 0 ≤ z % m := Int.emod_nonneg _ (by omega)
  have h2 : z % m < m := Int.emod_lt_of_pos _ (by omega)
  rw [e1, e2, e3]
  unfold wrap64
  omega
theorem add_pos' (x : Addr) (i : Nat) (hi : i ≠ 0) : x.add i = ⟨x.block, x.off + i, none⟩ := by
  unfold Addr.add; split <;> simp_all
theorem far_cell {w : World} {x : Addr} {n i : Nat} {v : Value} (hi : i ≠ 0) (h : w.cell? (x.add (n + i)) = some v) : w.cell? ⟨(x.add n).block, (x.add n).off + i, none⟩ = some v := by
  have e : (x.add n).add i = x.add (n + i) := Deep.add_add x n i
  rw [← add_pos' _ i hi, e]; exact h
theorem rest32 (z : Int) : wrap64 ((IntKind.u64.wrap z).tmod 32) = (((z % 32).toNat : Nat) : Int) := rest_nat z 32 (by omega) (by omega) (by decide)
theorem rest4 (z : Int) : wrap64 ((IntKind.u64.wrap z).tmod 4) = (((z % 4).toNat : Nat) : Int) := rest_nat z 4 (by omega) (by omega) (by decide)
/-- the law's own count of holds -/
structure Hr (w : World) (B : Nat) (C : Nat → Cl) : Prop where
  out : ∃ hs : Array Value, w.heap[B]? = some (.cells hs 27 (0, 0)) ∧ hs.size = 32 ∧ ∀ n, n < 32 → hs[n]? = some (.int .i64 ((C n).ho : Int))
theorem Hr.get {w : World} {B : Nat} {C : Nat → Cl} (h : Hr w B C) {n : Nat} (hn : n < 32) : w.cell? ⟨B, n, none⟩ = some (.int .i64 ((C n).ho : Int)) := by
  obtain ⟨hs, h1, h2, h3⟩ := h.out; rw [cell_of_row _ _ _ _ _ _ h1]; exact h3 n hn
theorem Hr.frz {w : World} {B : Nat} {C : Nat → Cl} (h : Hr w B C) (n : Nat) : w.frozen? ⟨B, n, none⟩ = false := by
  obtain ⟨hs, h1, h2, h3⟩ := h.out; exact frozen_of_row _ _ _ _ _ h1
theorem Hr.lt {w : World} {B : Nat} {C : Nat → Cl} (h : Hr w B C) : B < w.heap.size := by
  obtain ⟨hs, h1, h2, h3⟩ := h.out; exact (Array.getElem?_eq_some_iff.1 h1).1
theorem Hr.keep {w w' : World} {B : Nat} {C : Nat → Cl} (h : Hr w B C) (hk : w'.heap[B]? = w.heap[B]?) : Hr w' B C := by
  obtain ⟨hs, h1, h2, h3⟩ := h.out; exact ⟨hs, hk.trans h1, h2, h3⟩
theorem Hr.set {w : World} {B : Nat} {C : Nat → Cl} (h : Hr w B C) {k : Nat} (hk : k < 32) (c : Cl) : Hr (w.setCell ⟨B, k, none⟩ (.int .i64 (c.ho : Int))) B (put C k c) := by
  obtain ⟨hs, h1, h2, h3⟩ := h.out
  refine ⟨_, heap_setCell_same _ _ _ _ _ _ h1, by simpa using h2, fun n hn => ?_⟩
  by_cases e : n = k
  · subst e; rw [Array.getElem?_setIfInBounds_self_of_lt (by omega), put_same]
  · rw [Array.getElem?_setIfInBounds_ne (by omega), put_other _ _ e]; exact h3 n hn
/-- what the law has in its hands behind i steps -/
structure Al (w wr : World) (T B : Nat) (dv : Value) (C : Nat → Cl) (i : Nat) : Prop where
  tab : Tb wr T dv C
  row : Hr wr B C
  ne : B ≠ T
  t0 : w.heap.size ≤ T
  b0 : w.heap.size ≤ B
  bel : Below w.heap.size w wr
  le : ∀ n, n < 32 → (C n).ho ≤ i
  se : ∀ n, n < 32 → 0 < (C n).ho → (C n).se = 7
section
variable {w wr w2 : World} {T B : Nat} {dv : Value} {C : Nat → Cl} {i : Nat}
theorem Al.same (h : Al w wr T B dv C i) : Al w wr T B dv C (i + 1) := ⟨h.tab, h.row, h.ne, h.t0, h.b0, h.bel, fun n hn => Nat.le_succ_of_le (h.le n hn), h.se⟩
theorem At.bel (ha : At wr T w2) (hb : Below w.heap.size w wr) (ht : w.heap.size ≤ T) : Below w.heap.size w w2 :=
  hb.trans ⟨ha.os, ha.tape, ha.output, ha.size, fun k hk => by
    by_cases e : k < wr.heap.size
    · exact ha.block k e (by omega)
    · have := hb.size; omega⟩
theorem Al.row2 (h : Al w wr T B dv C i) (ha : At wr T w2) : Hr w2 B C := h.row.keep (ha.block B h.row.lt h.ne)
theorem Al.next (h : Al w wr T B dv C i) (ha : At wr T w2) {k : Nat} (hk : k < 32) (c : Cl) (ht : Tb w2 T dv (put C k c)) (hc : c.ho ≤ i + 1) (hs : 0 < c.ho → c.se = 7) : Al w (w2.setCell ⟨B, k, none⟩ (.int .i64 (c.ho : Int))) T B dv (put C k c) (i + 1) := by
  refine ⟨ht.keep (heap_setCell_other _ _ _ _ (fun e => h.ne e.symm)), (h.row2 ha).set hk c, h.ne, h.t0, h.b0, (ha.bel h.bel h.t0).setCell (p := ⟨B, k, none⟩) h.b0 _, fun n hn => ?_, fun n hn => ?_⟩
  · by_cases e : n = k
    · subst e; rw [put_same]; exact hc
    · rw [put_other _ _ e]; exact Nat.le_succ_of_le (h.le n hn)
  · by_cases e : n = k
    · subst e; rw [put_same]; exact hs
    · rw [put_other _ _ e]; exact h.se n hn
theorem Al.after (h : Al w wr T B dv C i) (ha : At wr T w2) (ht : Tb w2 T dv C) : Al w w2 T B dv C (i + 1) :=
  ⟨ht, h.row2 ha, h.ne, h.t0, h.b0, ha.bel h.bel h.t0, fun n hn => Nat.le_succ_of_le (h.le n hn), h.se⟩
end
theorem Al.drewN {w wr : World} {T B : Nat} {dv : Value} {C : Nat → Cl} {i : Nat} (h : Al w wr T B dv C i) (n : Nat) : Al w (wr.drewN n) T B dv C i :=
  ⟨⟨h.tab.out⟩, ⟨h.row.out⟩, h.ne, h.t0, h.b0, ⟨h.bel.os, h.bel.tape, h.bel.output, h.bel.size, h.bel.block⟩, h.le, h.se⟩
theorem clr_none (C : Nat → Cl) : clr C 32 (-1) 7 = (-1, 2) := by simp [clr, chr]
theorem clr_low (C : Nat → Cl) {L : Nat} (h : L < 32) : clr C L (-1) 7 = ((L : Int), 0) := by
  have : L ≠ 32 := by omega
  simp [clr, chr, this]
theorem clr_free {C : Nat → Cl} {L n : Nat} (hn : n < 32) (h : (C n).ho = 0) : clr C L (n : Int) 7 = ((n : Int), 0) := by
  have h1 : ¬ (n : Int) = -1 := by omega
  have h2 : (0 : Int) ≤ n ∧ (n : Int) < 32 := by omega
  have h3 : isCl C (n : Int) = false := by rw [isCl_nat C hn]; simp [h]
  unfold clr chr
  rw [if_neg (by omega), if_neg h1, if_neg (by simpa using h2), h3]; rfl
theorem clr_taken {C : Nat → Cl} {L n : Nat} (hn : n < 32) (h : 0 < (C n).ho) : clr C L (n : Int) 7 = (-1, 101) := by
  have h1 : ¬ (n : Int) = -1 := by omega
  have h2 : (0 : Int) ≤ n ∧ (n : Int) < 32 := by omega
  have h3 : isCl C (n : Int) = true := by rw [isCl_nat C hn]; simp [h]
  unfold clr chr
  rw [if_neg (by omega), if_neg h1, if_neg (by simpa using h2), h3]; rfl
theorem clC_no {C : Nat → Cl} {L : Nat} {z s a b : Int} (h : clr C L z s = (a, b)) (hb : b ≠ 0) : clC C L z s = C := by unfold clC; rw [h, if_neg hb]
theorem clC_yes {C : Nat → Cl} {L n : Nat} {z s : Int} (h : clr C L z s = ((n : Int), 0)) : clC C L z s = put C n ⟨s, 1⟩ := by unfold clC; rw [h, if_pos rfl]; rfl
theorem cld_more (C : Nat → Cl) (k d : Nat) : ∃ R, cld C (k + d) = cld C k ++ R := by
  induction d with
  | zero => exact ⟨[], by simp⟩
  | succ d ih =>
    obtain ⟨R, h⟩ := ih
    by_cases h0 : (C (k + d)).ho = 0
    · exact ⟨R, by rw [← Nat.add_assoc, cld_no h0, h]⟩
    · exact ⟨R ++ [k + d], by rw [← Nat.add_assoc, cld_yes (by omega), h, List.append_assoc]⟩
theorem cld_at (C : Nat → Cl) {j : Nat} (hj : j < 32) (h : 0 < (C j).ho) : ∃ R, cld C 32 = cld C j ++ j :: R := by
  obtain ⟨R, hR⟩ := cld_more C (j + 1) (31 - j)
  rw [show j + 1 + (31 - j) = 32 by omega, cld_yes h] at hR
  exact ⟨R, by rw [hR]; simp⟩
theorem cld_full (C : Nat → Cl) (k : Nat) (h : ∀ j, j < k → 0 < (C j).ho) : (cld C k).length = k := by
  unfold cld
  rw [List.filter_eq_self.2 (fun n hn => by simpa using h n (by simpa using hn))]
  simp
theorem low_cld {C : Nat → Cl} {L : Nat} (h : Low C L) : L = 32 ↔ (cld C 32).length = 32 := by
  constructor
  · rintro rfl
    exact cld_full C 32 h.lo
  · intro he
    by_cases h32 : L = 32
    · exact h32
    · have hL : L < 32 := by have := h.le; omega
      have h0 := h.fr hL
      have h1 : (cld C 32).length < 32 := by
        unfold cld
        have := List.length_filter_lt_length_iff_exists (p := fun n => decide (0 < (C n).ho)) (l := List.range 32) |>.2 ⟨L, by simpa using hL, by simp [h0]⟩
        simpa using this
      omega
theorem tells_at {C : Nat → Cl} {l R : List Nat} {j t : Nat} {v : Value} (ht : (tell1 C j)[t]? = some v) : (tells C (l ++ j :: R))[l.length * 3 + t]? = some v := by
  have h1 : tells C (l ++ j :: R) = tells C l ++ (tell1 C j ++ tells C R) := by simp [tells]
  rw [h1, List.getElem?_append_right (by rw [tells_len]; omega), tells_len, show l.length * 3 + t - l.length * 3 = t by omega, List.getElem?_append_left (List.getElem?_eq_some_iff.1 ht).1]
  exact ht
set_option maxRecDepth 8000 in
set_option maxHeartbeats 3200000 in
theorem alone_walk (a : Option Addr) (len cap : Nat) (Z : Nat → Int × Int) (w : World) (hl : len ≤ maxLen) (hZ : IsPairs w a len Z) :
    Calls Try.prog 3 #[.slice a len cap] w fun e w' => e = .returned (.bool true) ∧ Below w.heap.size w w' := by
  have HZ := hide hZ
  clear hZ
  go_enter Try.func3, Try.ntmps3
  go_wp2_with fail
  refine (new_any w).mono ?_
  rintro e1 w1 ⟨rfl, -, hb1⟩
  have HB1 := hide hb1
  clear hb1
  go_wp2_with fail
  refine (newE_any w1 w.heap.size).mono ?_
  rintro e1 w2 ⟨rfl, hT, hb2⟩
  have HT2 := hide hT
  have HB2 := hide (HB1.out.trans (hb2.mono HB1.out.size))
  have hT1 : w.heap.size ≤ w1.heap.size := HB1.out.size
  clear hT hb2 HB1
  generalize w1.heap.size = T at *
  generalize (Value.iface 23 (tp w.heap.size)) = dv at *
  go_upto_region 8 with fail
  have HA : Hid (Al w (w2.alloc (.cells (List.replicate 32 (Value.int .i64 0)).toArray 27)) T w2.heap.size dv (fun _ => Cl.zero) 0) := by
    refine hide ⟨HT2.out.keep (Below.heap_alloc _ _ _ HT2.out.lt), ⟨_, heap_alloc_new w2 _, rfl, fun n hn => ?_⟩, fun e => by have := HT2.out.lt; omega, hT1, HB2.out.size, HB2.out.alloc HB2.out.size _, fun n _ => Nat.le_refl _, fun n _ h => absurd h (by simp [Cl.zero])⟩
    show (List.replicate 32 (Value.int .i64 0)).toArray[n]? = some (.int .i64 ((0 : Nat) : Int))
    rw [List.getElem?_toArray, List.getElem?_replicate, if_pos hn]; rfl
  simp only [List.replicate] at HA
  generalize w2.alloc _ = w3 at *
  generalize w2.heap.size = B at *
  clear HT2 HB2
  go_wp2_with fail
  go_loopw [6] (fun x wr => ∃ (k : Nat) (C : Nat → Cl), k ≤ len ∧ x = .int .i64 (k : Int) ∧ Hid (Al w wr T B dv C k)) (fun x _ => len - (intOf x).toNat)
  case atStart => exact ⟨0, _, by omega, rfl, HA⟩
  case round =>
  obtain ⟨k, C, hk, rfl, K1⟩ := hrel
  clear HA
  by_cases hlt : k < len
  · have hd : decide ((k : Int) < (len : Int)) = true := by simp; omega
    have hkb : k < 9223372036854775807 := by unfold maxLen at hl; omega
    obtain ⟨x, rfl, hx1, hx0⟩ := HZ.out.below K1.out.bel k hlt
    have hx2 := far_cell (by omega) hx0
    clear hx0
    have e1 := rest32 (Z k).1
    have e2 := rest4 (Z k).2
    have hn : ((Z k).1 % 32).toNat < 32 := by omega
    have hq : ((Z k).2 % 4).toNat < 4 := by omega
    generalize (Z k).1 = z1 at *
    generalize (Z k).2 = z2 at *
    go_upto_region 13 with fail
    rw [e1, e2]
    clear hx1 hx2 e1 e2
    generalize (z1 % 32).toNat = n at *
    generalize (z2 % 4).toNat = q at *
    have hq4 : q = 0 ∨ q = 1 ∨ q = 2 ∨ q = 3 := by omega
    clear hq
    rcases hq4 with rfl | rfl | rfl | rfl
    · obtain ⟨L, hL⟩ := low_any C
      have HL := hide hL
      have hL32 := hL.le
      clear hL
      go_wp2_with fail
      go_loopw [8] (fun y wx => ∃ j : Nat, j ≤ L ∧ y = .int .i64 (j : Int) ∧ wx = wr) (fun y _ => 32 - (intOf y).toNat)
      case atStart => exact ⟨0, by omega, rfl, rfl⟩
      case round =>
      obtain ⟨j, hj, rfl, rfl⟩ := hrel
      by_cases hjL : j < L
      · have hj32 : decide ((j : Int) < 32) = true := by simp; omega
        have c1 := K1.out.row.get (n := j) (by omega)
        have hpos : decide (0 < (C j).ho) = true := by have := HL.out.lo j hjL; simp [this]
        generalize (C j).ho = m at *
        go_wp2
        go_roundw
        case rel =>
          first
            | exact ⟨j + 1, by omega, by go_num, by first | rfl | trivial⟩
            | ((repeat apply Exists.intro); refine ⟨?_, rfl⟩; exact ⟨j + 1, by omega, by go_num, by first | rfl | trivial⟩)
        case measure => simp [intOf]; omega
      · obtain rfl : j = L := by omega
        clear hj hjL
        by_cases h32 : j < 32
        · have hd3 : decide ((j : Int) < 32) = true := by simp; omega
          have hd4 : ((j : Int) == 32) = false := by simp; omega
          have c1 := K1.out.row.get (n := j) h32
          rw [HL.out.fr h32] at c1
          have HC := hide (claim_any _ T dv C K1.out.tab j HL.out (-1) 7)
          rw [clC_yes (clr_low C h32), clr_low C h32] at HC
          go_wp2_with fail
          refine HC.out.mono ?_
          rintro e1 w4 ⟨rfl, hT4, hA4⟩
          have HN := hide (K1.out.next hA4 h32 ⟨7, 1⟩ hT4 (by show 1 ≤ k + 1; omega) (fun _ => rfl))
          have r4 := (K1.out.row2 hA4).get (n := j) h32
          have f4 := (K1.out.row2 hA4).frz j
          clear hT4 hA4 HC c1
          go_wp2
          go_roundw
          case rel =>
            first
              | exact ⟨k + 1, _, by omega, by go_num, HN⟩
              | ((repeat apply Exists.intro); refine ⟨?_, rfl⟩; exact ⟨k + 1, _, by omega, by go_num, HN⟩)
          case measure => simp [intOf]; omega
        · obtain rfl : j = 32 := by omega
          have HC := hide (claim_any _ T dv C K1.out.tab 32 HL.out (-1) 7)
          rw [clC_no (clr_none C) (by decide), clr_none C] at HC
          go_wp2_with fail
          refine HC.out.mono ?_
          rintro e1 w4 ⟨rfl, hT4, hA4⟩
          have HN := hide (K1.out.after hA4 hT4)
          clear hT4 hA4 HC
          go_wp2
          go_roundw
          case rel =>
            first
              | exact ⟨k + 1, _, by omega, by go_num, HN⟩
              | ((repeat apply Exists.intro); refine ⟨?_, rfl⟩; exact ⟨k + 1, _, by omega, by go_num, HN⟩)
          case measure => simp [intOf]; omega
    · obtain ⟨L, hL⟩ := low_any C
      have HC := hide (claim_any wr T dv C K1.out.tab L hL (n : Int) 7)
      clear hL
      by_cases h0 : (C n).ho = 0
      · rw [clC_yes (clr_free hn h0), clr_free hn h0] at HC
        go_wp2_with fail
        refine HC.out.mono ?_
        rintro e1 w4 ⟨rfl, hT4, hA4⟩
        have HN := hide (K1.out.next hA4 hn ⟨7, 1⟩ hT4 (by show 1 ≤ k + 1; omega) (fun _ => rfl))
        have r4 := (K1.out.row2 hA4).get (n := n) hn
        have f4 := (K1.out.row2 hA4).frz n
        rw [h0] at r4
        clear hT4 hA4 HC
        go_wp2
        go_roundw
        case rel =>
          first
            | exact ⟨k + 1, _, by omega, by go_num, HN⟩
            | ((repeat apply Exists.intro); refine ⟨?_, rfl⟩; exact ⟨k + 1, _, by omega, by go_num, HN⟩)
        case measure => simp [intOf]; omega
      · have h0' : 0 < (C n).ho := by omega
        rw [clC_no (clr_taken hn h0') (by decide), clr_taken hn h0'] at HC
        go_wp2_with fail
        refine HC.out.mono ?_
        rintro e1 w4 ⟨rfl, hT4, hA4⟩
        have HN := hide (K1.out.after hA4 hT4)
        have r4 := (K1.out.row2 hA4).get (n := n) hn
        have hd5 : decide (0 < (C n).ho) = true := by simp [h0']
        have hd6 : ((C n).ho == 0) = false := by simp [h0]
        clear hT4 hA4 HC
        generalize (C n).ho = m at *
        go_wp2
        go_roundw
        case rel =>
          first
            | exact ⟨k + 1, _, by omega, by go_num, HN⟩
            | ((repeat apply Exists.intro); refine ⟨?_, rfl⟩; exact ⟨k + 1, _, by omega, by go_num, HN⟩)
        case measure => simp [intOf]; omega
    · by_cases h0 : (C n).ho = 0
      · have HC := hide (hold_no wr T dv C K1.out.tab (n : Int) (by rw [isCl_nat C hn]; simp [h0]))
        have HN := hide K1.out.same
        have r4 := K1.out.row.get (n := n) hn
        rw [h0] at r4
        go_wp2_with fail
        refine HC.out.mono ?_
        rintro e1 w4 ⟨rfl, rfl⟩
        go_wp2
        go_roundw
        case rel =>
          first
            | exact ⟨k + 1, _, by omega, by go_num, HN⟩
            | ((repeat apply Exists.intro); refine ⟨?_, rfl⟩; exact ⟨k + 1, _, by omega, by go_num, HN⟩)
        case measure => simp [intOf]; omega
      · have h0' : 0 < (C n).ho := by omega
        have hle := K1.out.le n hn
        have HC := hide (hold_ok wr T dv C K1.out.tab n hn _ rfl h0' (by omega))
        go_wp2_with fail
        refine HC.out.mono ?_
        rintro e1 w4 ⟨rfl, hT4, hA4⟩
        have HN := hide (K1.out.next hA4 hn ⟨(C n).se, (C n).ho + 1⟩ hT4 (by show (C n).ho + 1 ≤ k + 1; omega) (fun _ => K1.out.se n hn h0'))
        have r4 := (K1.out.row2 hA4).get (n := n) hn
        have f4 := (K1.out.row2 hA4).frz n
        have hd5 : decide (0 < (C n).ho) = true := by simp [h0']
        have hd6 : ((C n).ho == 0) = false := by simp [h0]
        clear hT4 hA4 HC
        obtain ⟨m, hm⟩ : ∃ m, (C n).ho = m := ⟨_, rfl⟩
        rw [hm] at r4 hd5 hd6 hle h0'
        simp only [hm] at HN
        rw [show ((m + 1 : Nat) : Int) = (m : Int) + 1 by omega] at HN
        clear hm h0
        go_wp2
        go_roundw
        case rel =>
          first
            | exact ⟨k + 1, _, by omega, by go_num, HN⟩
            | ((repeat apply Exists.intro); refine ⟨?_, rfl⟩; exact ⟨k + 1, _, by omega, by go_num, HN⟩)
        case measure => simp [intOf]; omega
    · by_cases h0 : (C n).ho = 0
      · have HC := hide (drop_no wr T dv C K1.out.tab (n : Int) (by rw [isCl_nat C hn]; simp [h0]))
        have HN := hide K1.out.same
        have r4 := K1.out.row.get (n := n) hn
        rw [h0] at r4
        go_wp2_with fail
        refine HC.out.mono ?_
        rintro e1 w4 ⟨rfl, rfl⟩
        go_wp2
        go_roundw
        case rel =>
          first
            | exact ⟨k + 1, _, by omega, by go_num, HN⟩
            | ((repeat apply Exists.intro); refine ⟨?_, rfl⟩; exact ⟨k + 1, _, by omega, by go_num, HN⟩)
        case measure => simp [intOf]; omega
      · by_cases h1 : (C n).ho = 1
        · have HC := hide (drop_last wr T dv C K1.out.tab n hn h1)
          go_wp2_with fail
          refine HC.out.mono ?_
          rintro e1 w4 ⟨rfl, hT4, hA4⟩
          have HN := hide (K1.out.next hA4 hn Cl.zero hT4 (Nat.zero_le _) (fun h => absurd h (by simp [Cl.zero])))
          have r4 := (K1.out.row2 hA4).get (n := n) hn
          have f4 := (K1.out.row2 hA4).frz n
          rw [h1] at r4
          clear hT4 hA4 HC
          go_wp2
          go_roundw
          case rel =>
            first
              | exact ⟨k + 1, _, by omega, by go_num, HN⟩
              | ((repeat apply Exists.intro); refine ⟨?_, rfl⟩; exact ⟨k + 1, _, by omega, by go_num, HN⟩)
          case measure => simp [intOf]; omega
        · have hle := K1.out.le n hn
          have h2' : 1 < (C n).ho := by omega
          have HC := hide (drop_some wr T dv C K1.out.tab n hn _ rfl h2' (by omega))
          go_wp2_with fail
          refine HC.out.mono ?_
          rintro e1 w4 ⟨rfl, hT4, hA4⟩
          have HN := hide (K1.out.next hA4 hn ⟨(C n).se, (C n).ho - 1⟩ hT4 (by show (C n).ho - 1 ≤ k + 1; omega) (fun _ => K1.out.se n hn (by omega)))
          have r4 := (K1.out.row2 hA4).get (n := n) hn
          have f4 := (K1.out.row2 hA4).frz n
          have hd5 : decide (0 < (C n).ho) = true := by simp; omega
          have hd6 : ((C n).ho == 0) = false := by simp [h0]
          have hd7 : ((C n).ho == 1) = false := by simp [h1]
          clear hT4 hA4 HC
          obtain ⟨m, hm⟩ : ∃ m, (C n).ho = m := ⟨_, rfl⟩
          rw [hm] at r4 hd5 hd6 hd7 hle h2'
          simp only [hm] at HN
          rw [show ((m - 1 : Nat) : Int) = (m : Int) - 1 by omega] at HN
          clear hm h0 h1
          have hd8 : ((m : Int) == 1) = false := by simp; omega
          go_wp2
          go_roundw
          case rel =>
            first
              | exact ⟨k + 1, _, by omega, by go_num, HN⟩
              | ((repeat apply Exists.intro); refine ⟨?_, rfl⟩; exact ⟨k + 1, _, by omega, by go_num, HN⟩)
          case measure => simp [intOf]; omega
  · obtain rfl : k = len := by omega
    have hd : decide ((k : Int) < (k : Int)) = false := by simp
    have HLs := hide (list_any wr T dv C K1.out.tab)
    go_wp2_with fail
    refine HLs.out.mono ?_
    rintro e1 w4 ⟨v, rfl, hrow, hb4⟩
    have K2 : Hid (Al w w4 T B dv C k) := hide ⟨K1.out.tab.below hb4, K1.out.row.keep (hb4.block B K1.out.row.lt), K1.out.ne, K1.out.t0, K1.out.b0, K1.out.bel.trans (hb4.mono K1.out.bel.size), K1.out.le, K1.out.se⟩
    have HRow := hide hrow
    obtain ⟨av, cv, rfl⟩ := own_shape hrow
    clear hrow hb4 K1 HLs
    go_wp2_with fail
    generalize wr.heap.size = bs at *
    go_loopw [17, 18] (fun y x wx => ∃ j : Nat, j ≤ 32 ∧ x = .int .i64 (j : Int) ∧ y = .int .i64 ((cld C j).length : Nat) ∧ Hid (Al w wx T B dv C k) ∧ Hid (wx.ownsRow bs 39 3 (.slice av (cld C 32).length cv) (cld C 32).length (tells C (cld C 32)))) (fun _ x _ => 32 - (intOf x).toNat)
    case atStart => exact ⟨0, by omega, rfl, rfl, K2, HRow⟩
    case round =>
    clear K2 HRow
    obtain ⟨j, hj, rfl, rfl, K2, HRow⟩ := hrel
    by_cases h32 : j < 32
    · have hj2 : decide ((j : Int) < 32) = true := by simp; omega
      have c1 := K2.out.row.get (n := j) h32
      have hcl := cld_len C j
      by_cases h0 : (C j).ho = 0
      · rw [h0] at c1
        have HY := hide (cld_no h0)
        clear h0
        go_wp2
        go_roundw
        case rel =>
          first
            | exact ⟨j + 1, by omega, by go_num, by rw [HY.out], K2, HRow⟩
            | ((repeat apply Exists.intro); refine ⟨?_, rfl⟩; exact ⟨j + 1, by omega, by go_num, by rw [HY.out], K2, HRow⟩)
        case measure => simp [intOf]; omega
      · have h0' : 0 < (C j).ho := by omega
        have hd5 : decide (0 < (C j).ho) = true := by simp [h0']
        have HY := hide (cld_yes h0')
        obtain ⟨R, hR⟩ := cld_at C h32 h0'
        have hrow := HRow.out
        have hlen : (cld C j).length < (cld C 32).length := by rw [hR]; simp
        obtain ⟨g, cp, rfl, hge⟩ : ∃ g cp, av = some ⟨g, 0, none⟩ ∧ cp = cv := by
          obtain ⟨_, ⟨h8, _⟩ | ⟨g, cap', cur, hv, _⟩⟩ := hrow
          · injection h8 with _ h9 _; omega
          · cases hv; exact ⟨g, _, rfl, rfl⟩
        have cells := World.ownsRow.cells hrow rfl
        rw [hR] at cells
        have d0 := cells _ _ (tells_at (t := 0) rfl)
        have d1 := cells _ _ (tells_at (t := 1) rfl)
        have d2 := cells _ _ (tells_at (t := 2) rfl)
        rw [add0] at d0 d1 d2
        rw [Nat.add_zero] at d0
        rw [K2.out.se j h32 h0'] at d1
        clear cells hrow hR h0 hge
        have hLL : (cld C 32).length ≤ 32 := cld_len C 32
        generalize (C j).ho = m at *
        have HEq : Hid ((cld C (j + 1)).length = (cld C j).length + 1) := hide (by rw [HY.out]; simp)
        have HRD := hide (fun n => (hide (show (wr.drewN n).ownsRow bs 39 3 (.slice (some ⟨g, 0, none⟩) (cld C 32).length cv) (cld C 32).length (tells C (cld C 32)) from HRow.out)))
        clear HY HRow
        generalize tells C (cld C 32) = TL at *
        generalize (cld C j).length = i at *
        generalize (cld C 32).length = Ln at *
        have hge : decide ((Ln : Int) ≤ (i : Int)) = false := by simp; omega
        have hj3 : (j : Int) < 32 := by omega
        go_upto_region 46 with fail
        go_quiet (fail)
        go_wp2
        go_roundw
        case rel =>
          first
            | exact ⟨j + 1, by omega, by go_num, by rw [HEq.out]; go_num, hide (K2.out.drewN _), HRD.out _⟩
            | ((repeat apply Exists.intro); refine ⟨?_, rfl⟩; exact ⟨j + 1, by omega, by go_num, by rw [HEq.out]; go_num, hide (K2.out.drewN _), HRD.out _⟩)
        case measure => simp [intOf]; omega
    · obtain rfl : j = 32 := by omega
      obtain ⟨L, hL⟩ := low_any C
      have HC := hide (claim_any _ T dv C K2.out.tab L hL (-1) 7)
      have hLL : (cld C 32).length ≤ 32 := cld_len C 32
      have HLc : Hid (L = 32 ↔ (cld C 32).length = 32) := hide (low_cld hL)
      have hL32 := hL.le
      have HAll := K2
      clear hL
      by_cases h32 : L = 32
      · subst h32
        have hln := HLc.out.1 rfl
        rw [clC_no (clr_none C) (by decide), clr_none C] at HC
        rw [hln]
        clear HLc hLL
        go_wp2_with fail
        refine HC.out.mono ?_
        rintro e1 w5 ⟨rfl, hT4, hA4⟩
        have HF := hide (hA4.bel K2.out.bel K2.out.t0)
        clear hT4 hA4
        go_wp2
        go_ret
        exact ⟨rfl, HF.out⟩
      · have hln : (cld C 32).length < 32 := Nat.lt_of_le_of_ne hLL (fun e => h32 (HLc.out.2 e))
        rw [clC_yes (clr_low C (by omega)), clr_low C (by omega)] at HC
        clear HLc hLL
        generalize (cld C 32).length = Ln at *
        have hdl : decide ((Ln : Int) < 32) = true := by simp; omega
        go_wp2_with fail
        refine HC.out.mono ?_
        rintro e1 w5 ⟨rfl, hT4, hA4⟩
        have HF := hide (hA4.bel K2.out.bel K2.out.t0)
        clear hT4 hA4
        go_wp2
        go_ret
        exact ⟨rfl, HF.out⟩
end Go.Proofs.Ytogpgchfaalikaa
