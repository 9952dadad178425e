import Derived.Test.YtogpgchfaalikaaXA
import Derived.Laws.OwnMore
namespace Go.Proofs.Ytogpgchfaalikaa
open Go.RowKit

/-- triples of numbers that came in -/
def IsTri (w : World) (a : Option Addr) (len : Nat) (Z : Nat → Int × Int × Int) : Prop :=
  ∀ k, k < len → ∃ x, a = some x ∧ w.cell? (x.add (k * 3)) = some (.int .i64 (Z k).1) ∧ w.cell? (x.add (k * 3 + 1)) = some (.int .i64 (Z k).2.1) ∧ w.cell? (x.add (k * 3 + 2)) = some (.int .i64 (Z k).2.2)
theorem IsTri.below {w w' : World} {a : Option Addr} {len : Nat} {Z : Nat → Int × Int × Int} (h : IsTri w a len Z) (hb : Below w.heap.size w w') : IsTri w' a len Z := by
  intro k hk
  obtain ⟨x, h1, h2, h3, h4⟩ := h k hk
  exact ⟨x, h1, cell_belowN hb h2, cell_belowN hb h3, cell_belowN hb h4⟩
theorem addr_pos (x : Addr) (i : Nat) (hi : i ≠ 0) : x.add i = ⟨x.block, x.off + i, none⟩ := by
  unfold Addr.add; split <;> simp_all
theorem far_at {w : World} {x : Addr} {n i : Nat} {v : Value} (hi : i ≠ 0) (h : w.cell? (x.add (n + i)) = some v) : w.cell? ⟨(x.add n).block, (x.add n).off + i, none⟩ = some v := by
  have e : (x.add n).add i = x.add (n + i) := Deep.add_add x n i
  rw [← addr_pos _ i hi, e]; exact h
theorem low32 (z : Int) : wrap64 ((IntKind.u64.wrap z).tmod 32) = (((z % 32).toNat : Nat) : Int) := by
  have e1 : IntKind.u64.wrap z = z % 18446744073709551616 := by simp [IntKind.wrap, IntKind.signed, IntKind.bits]
  have e2 : (z % 18446744073709551616).tmod 32 = z % 18446744073709551616 % 32 := Int.tmod_eq_emod_of_nonneg (by omega)
  rw [e1, e2]
  unfold wrap64
  omega
/-- the marks, as a row -/
theorem range52 (W : World) (M : Nat) (A : Array Value) (h : W.heap[M]? = some (.cells A 52 (0, 0))) : W.rangeAt M 0 A.toList := by
  intro j v hv
  rw [cell_of_row _ _ _ _ _ _ h]; simpa using hv
set_option maxRecDepth 100000 in
set_option maxHeartbeats 6400000 in
theorem walls_walk (w : World) (a1 a2 a3 : Option Addr) (len1 cap1 len2 cap2 len3 cap3 : Nat) (Z1 Z2 : Nat → Int) (Z3 : Nat → Int × Int × Int) (hl1 : len1 ≤ 1048576) (hl2 : len2 ≤ 1048576) (hl3 : len3 ≤ 1048576)
    (h1 : IsInts w a1 len1 Z1) (h2 : IsInts w a2 len2 Z2) (h3 : IsTri w a3 len3 Z3) :
    Calls Try.prog 5 #[.slice a1 len1 cap1, .slice a2 len2 cap2, .slice a3 len3 cap3] w fun e w' => e = .returned (.bool true) ∧ Below w.heap.size w w' := by
  have H1 := hide h1
  have H2 := hide h2
  have H3 := hide h3
  clear h1 h2 h3
  go_enter Try.func5, Try.ntmps5
  go_wp2_with fail
  refine (filled_any w a1 len1 cap1 Z1 hl1 H1.out).mono ?_
  rintro e1 w1 ⟨B, F, rfl, hD, hF, hb1⟩
  have HD1 := hide hD
  have HF1 := hide hF
  have HB1 := hide hb1
  clear hD hF hb1
  go_wp2_with fail
  refine (newE_any w1 B).mono ?_
  rintro e1 w2 ⟨rfl, hT, hb2⟩
  have HT2 := hide hT
  have HB2 := hide hb2
  clear hT hb2
  go_upto_region 8 with fail
  have HA : Hid (∃ D, Wd w (w2.alloc (.cells (List.replicate 32 (Value.bool false)).toArray 52)) B w1.heap.size w2.heap.size (fun _ => Cl.zero) D F ∧ D.acts = len1 ∧ D.c.length = len1) := by
    have hlt := (good_dk _ _).lt HD1.out
    have hT1 := HT2.out.lt
    refine hide ⟨wait zro (fil Z1 len1) len1, ?_, rfl, fil_len _ _⟩
    have hb3 : Below w2.heap.size w2 (w2.alloc (.cells (List.replicate 32 (Value.bool false)).toArray 52)) := (Below.refl _ _).alloc (Nat.le_refl _) _
    refine ⟨(good_dk _ _).below ((good_dk _ _).below HD1.out HB2.out) hb3, HT2.out.below hb3, ⟨_, heap_alloc_new w2 _, rfl, fun n hn => ?_⟩, fun hf => by have := hlt _ hf; omega, fun hf => by have := hlt _ hf; omega, by omega, HF1.out, HB1.out.size, by have := HB1.out.size; omega, (HB1.out.trans (HB2.out.mono HB1.out.size)).trans (hb3.mono (Nat.le_trans HB1.out.size HB2.out.size)), rfl, rfl⟩
    show (List.replicate 32 (Value.bool false)).toArray[n]? = some (.bool (decide (0 < 0)))
    rw [List.getElem?_toArray, List.getElem?_replicate, if_pos hn]; rfl
  simp only [List.replicate] at HA
  generalize w2.alloc _ = w3 at *
  generalize w2.heap.size = M at *
  generalize w1.heap.size = T at *
  clear HD1 HF1 HB1 HT2 HB2
  go_wp2_with fail
  go_loopw [10] (fun x wr => ∃ k : Nat, k ≤ len2 ∧ x = .int .i64 (k : Int) ∧ Hid (∃ C D, Wd w wr B T M C D F ∧ D.acts = len1 ∧ D.c.length = len1)) (fun x _ => len2 - (intOf x).toNat)
  case atStart => exact ⟨0, by omega, rfl, by obtain ⟨D, h1⟩ := HA.out; exact hide ⟨_, D, h1⟩⟩
  case round =>
  clear HA
  obtain ⟨k, hk, rfl, K1⟩ := hrel
  by_cases hlt : k < len2
  · have hd : decide ((k : Int) < (len2 : Int)) = true := by simp; omega
    obtain ⟨C, D, hW, hDa, hDc⟩ := K1.out
    obtain ⟨x, rfl, hx⟩ := H2.out.below hW.bel k hlt
    have HW := hide hW
    have HDD := hide (And.intro hDa hDc)
    have e1 := low32 (Z2 k)
    have hn : ((Z2 k) % 32).toNat < 32 := by omega
    clear hW K1 hDa hDc
    generalize Z2 k = z at *
    go_upto_region 12 with fail
    rw [e1]
    clear e1 hx
    generalize (z % 32).toNat = n at *
    obtain ⟨L, hL⟩ := low_any C
    have HC := hide (claim_any wr T (dvB B) C HW.out.tab L hL (n : Int) ((k : Int) + 1))
    clear hL
    by_cases h0 : (C n).ho = 0
    · have hcl := clS_free (C := C) (L := L) (n := n) (s := (k : Int) + 1) (by omega) hn h0
      rw [clS_yes hcl, hcl] at HC
      clear hcl
      go_wp2_with fail
      refine HC.out.mono ?_
      rintro e1 w4 ⟨rfl, hT4, hA4⟩
      have HN : Hid (∃ C D, Wd w (w4.setCell ⟨M, n, none⟩ (.bool true)) B T M C D F ∧ D.acts = len1 ∧ D.c.length = len1) := hide ⟨_, D, HW.out.claim hA4 hT4 hn (by rw [put_same]; exact Nat.one_pos) (fun m hm => put_other _ _ hm), HDD.out⟩
      have r4 := (HW.out.mi.keep (hA4.block M HW.out.mi.lt HW.out.ne)).get hn
      have f4 := (HW.out.mi.keep (hA4.block M HW.out.mi.lt HW.out.ne)).frz n
      rw [show decide (0 < (C n).ho) = false by simp [h0]] at r4
      clear hT4 hA4 HC
      go_wp2
      go_roundw
      case rel =>
        first
          | exact ⟨k + 1, by omega, by go_num, HN⟩
          | ((repeat apply Exists.intro); refine ⟨?_, rfl⟩; exact ⟨k + 1, by omega, by go_num, HN⟩)
      case measure => simp [intOf]; omega
    · have h0' : 0 < (C n).ho := by omega
      have hcl := clS_taken (C := C) (L := L) (n := n) (s := (k : Int) + 1) (by omega) hn h0'
      rw [clS_no hcl (by decide), hcl] at HC
      clear hcl
      go_wp2_with fail
      refine HC.out.mono ?_
      rintro e1 w4 ⟨rfl, hT4, hA4⟩
      have HN : Hid (∃ C D, Wd w (w4.setCell ⟨M, n, none⟩ (.bool true)) B T M C D F ∧ D.acts = len1 ∧ D.c.length = len1) := hide ⟨_, D, HW.out.claim hA4 hT4 hn h0' (fun _ _ => rfl), HDD.out⟩
      have r4 := (HW.out.mi.keep (hA4.block M HW.out.mi.lt HW.out.ne)).get hn
      have f4 := (HW.out.mi.keep (hA4.block M HW.out.mi.lt HW.out.ne)).frz n
      rw [show decide (0 < (C n).ho) = true by simp [h0']] at r4
      clear hT4 hA4 HC
      go_wp2
      go_roundw
      case rel =>
        first
          | exact ⟨k + 1, by omega, by go_num, HN⟩
          | ((repeat apply Exists.intro); refine ⟨?_, rfl⟩; exact ⟨k + 1, by omega, by go_num, HN⟩)
      case measure => simp [intOf]; omega
  · obtain rfl : k = len2 := by omega
    have hd : decide ((k : Int) < (k : Int)) = false := by simp
    obtain ⟨C, D, hW, hDa, hDc⟩ := K1.out
    have HW := hide hW
    have HDD := hide (And.intro hDa hDc)
    have HWh := hide (whole_any hW.dk hW.up)
    clear hW K1 hDa hDc
    go_wp2_with fail
    refine HWh.out.mono ?_
    rintro e1 w4 ⟨v, H, rfl, hR, hH, hb4⟩
    obtain ⟨ao, cp, hvv, hrr⟩ := rows_read hR
    rw [seens_len] at hvv
    subst hvv
    obtain ⟨g, _, rfl, _, _⟩ := hrr 0 _ (seens_get D (by omega))
    have K2 : Hid (We w w4 B T M C (.slice (some ⟨g, 0, none⟩) 1024 cp) len1) := by
      refine hide ⟨D, F, H, HW.out.below hb4, hR, fun b hb => ?_, by rw [HDD.out.1]; exact Nat.le_refl _, by rw [HDD.out.2]; exact Nat.le_refl _⟩
      have hq := hH b hb
      have q1 := HW.out.tab.lt
      have q2 := HW.out.mi.lt
      have q3 := HW.out.bel.size
      exact ⟨fun hf => by have := (good_dk _ _).lt HW.out.dk b hf; omega, by omega, by omega, by omega⟩
    clear hR hH hb4 hrr HWh HW HDD
    go_upto_region 17 with fail
    go_cut [94] (fun u wx => u = .bool false ∧ Hid (We w wx B T M C (.slice (some ⟨g, 0, none⟩) 1024 cp) len1))
    case first =>
      obtain ⟨A, hA1, hA2, hA3⟩ : ∃ A : Array Value, w4.heap[M]? = some (.cells A 52 (0, 0)) ∧ A.size = 32 ∧ ∀ n, n < 32 → A[n]? = some (.bool (decide (0 < (C n).ho))) := by
        obtain ⟨D, F, H, h1, _⟩ := K2.out; exact h1.mi.out
      have hwd : Below w4.heap.size w4 w4.drew := ⟨rfl, rfl, rfl, Nat.le_refl _, fun _ _ => rfl⟩
      have HS0 : Hid (w4.drew.heap[M]? = some (.cells A 52 (0, 0)) ∧ We w w4.drew B T M C (.slice (some ⟨g, 0, none⟩) 1024 cp) len1) := hide ⟨hA1, K2.out.below hwd⟩
      have HCn := hide (fun W => count_any W C A hA2 hA3)
      have HA2 := hide hA2
      have HT : Hid (∀ W, We w W B T M C (.slice (some ⟨g, 0, none⟩) 1024 cp) len1 → Tb W T (dvB B) C) := hide (fun W h => by obtain ⟨D, F, H, h1, _⟩ := h.out; exact h1.tab)
      clear hA1 hA3 hwd K2
      refine wp_region_held_drew (S := fun W => W.heap[M]? = some (.cells A 52 (0, 0)) ∧ We w W B T M C (.slice (some ⟨g, 0, none⟩) 1024 cp) len1) (by kernel_rfl) HS0.out (fun _ => ?_)
      generalize w4.drew = w5 at *
      refine hd_take 0 (o := ⟨some 84, _, _, _, _, _⟩) (.slice (some ⟨g, 0, none⟩) 1024 cp) (by kernel_rfl) (by kernel_rfl) (by kernel_rfl) rfl (by rfl) (fun W hSw => by go_simp) (fun _ _ _ h => h) HS0.out ?_
      simp only [Act.put, List.setIfInBounds_toArray, List.set_cons_zero, List.set_cons_succ]
      refine hd_take 1 (o := ⟨some 85, _, _, _, _, _⟩) (.int .i64 1024) (by kernel_rfl) (by kernel_rfl) (by kernel_rfl) rfl (by rfl) (fun W hSw => by go_simp) (fun _ _ _ h => h) HS0.out ?_
      simp only [Act.put, List.setIfInBounds_toArray, List.set_cons_zero, List.set_cons_succ]
      refine hd_take 2 (o := ⟨some 86, _, _, _, _, _⟩) (.bool false) (by kernel_rfl) (by kernel_rfl) (by kernel_rfl) rfl (by rfl) (fun W hSw => by go_simp) (fun _ _ _ h => h) HS0.out ?_
      simp only [Act.put, List.setIfInBounds_toArray, List.set_cons_zero, List.set_cons_succ]
      refine hd_take 3 (o := ⟨some 87, _, _, _, _, _⟩) (.bool false) (by kernel_rfl) (by kernel_rfl) (by kernel_rfl) rfl (by rfl) (fun W hSw => by go_simp) (fun _ _ _ h => h) HS0.out ?_
      simp only [Act.put, List.setIfInBounds_toArray, List.set_cons_zero, List.set_cons_succ]
      refine hd_take 4 (o := ⟨some 88, _, _, _, _, _⟩) (tp T) (by kernel_rfl) (by kernel_rfl) (by kernel_rfl) rfl (by rfl) (fun W hSw => by go_simp) (fun _ _ _ h => h) HS0.out ?_
      simp only [Act.put, List.setIfInBounds_toArray, List.set_cons_zero, List.set_cons_succ]
      refine held_load 7 (o := ⟨some 91, _, _, _, _, _⟩) (by kernel_rfl) (by kernel_rfl) (by kernel_rfl) rfl (by rfl) rfl A.toList rfl (fun W hSw => range52 W M A hSw.1) Try.underlying52 rfl (by rw [Array.length_toList, HA2.out]; kernel_rfl) (fun _ _ _ h => h) HS0.out ?_
      simp only [Array.toArray_toList, Act.put, List.setIfInBounds_toArray, List.set_cons_zero, List.set_cons_succ]
      generalize hLn : (cld C 32).length = Ln at *
      refine hd_call 5 (o := ⟨some 89, _, _, _, _, _⟩) (by kernel_rfl) rfl (by rfl) (fun K hK => ?_)
      go_simp
      go_wp2_with (go_at_call 13; refine (list_any _ T (dvB B) C (HT.out _ HS0.out.2)).mono ?_; rintro e1 w6 ⟨vL, rfl, hrow, hb6⟩)
      obtain ⟨aL, cL, rfl⟩ := own_shape hrow
      have HS6 : Hid (w6.heap[M]? = some (.cells A 52 (0, 0)) ∧ We w w6 B T M C (.slice (some ⟨g, 0, none⟩) 1024 cp) len1) := hide ⟨(hb6.block M (Array.getElem?_eq_some_iff.1 HS0.out.1).1).trans HS0.out.1, HS0.out.2.below hb6⟩
      clear hrow hb6
      refine hK _ _ HS6.out ?_
      clear hK K
      try simp only [Act.put, List.setIfInBounds_toArray, List.set_cons_zero, List.set_cons_succ]
      refine hd_take 6 (o := ⟨some 90, _, _, _, _, _⟩) (.int .i64 (Ln : Int)) (by kernel_rfl) (by kernel_rfl) (by kernel_rfl) rfl (by rfl) (fun W hSw => by go_simp) (fun _ _ _ h => h) HS6.out ?_
      simp only [Act.put, List.setIfInBounds_toArray, List.set_cons_zero, List.set_cons_succ]
      refine hd_call 8 (o := ⟨some 92, _, _, _, _, _⟩) (by kernel_rfl) rfl (by rfl) (fun K hK => ?_)
      go_simp
      go_wp2_with (go_at_call 21; refine (HCn.out _).mono ?_; rintro e1 w7 ⟨rfl, hb7⟩)
      have HS7 : Hid (w7.heap[M]? = some (.cells A 52 (0, 0)) ∧ We w w7 B T M C (.slice (some ⟨g, 0, none⟩) 1024 cp) len1) := hide ⟨(hb7.block M (Array.getElem?_eq_some_iff.1 HS6.out.1).1).trans HS6.out.1, HS6.out.2.below hb7⟩
      clear hb7
      refine hK _ _ HS7.out ?_
      clear hK K
      try simp only [Act.put, List.setIfInBounds_toArray, List.set_cons_zero, List.set_cons_succ]
      refine hd_take 9 (o := ⟨some 93, _, _, _, _, _⟩) (.bool false) (by kernel_rfl) (by kernel_rfl) (by kernel_rfl) rfl (by rfl) (fun W hSw => by go_simp) (fun _ _ _ h => h) HS7.out ?_
      simp only [Act.put, List.setIfInBounds_toArray, List.set_cons_zero, List.set_cons_succ]
      refine hd_take 10 (o := ⟨some 94, _, _, _, _, _⟩) (.bool false) (by kernel_rfl) (by kernel_rfl) (by kernel_rfl) rfl (by rfl) (fun W hSw => by go_simp) (fun _ _ _ h => h) HS7.out ?_
      simp only [Act.put, List.setIfInBounds_toArray, List.set_cons_zero, List.set_cons_succ]
      refine wpAnyH_done (by kernel_rfl) ?_ _
      have HW9 : Hid (We w _ B T M C (.slice (some ⟨g, 0, none⟩) 1024 cp) len1) := hide HS7.out.2
      go_wp2_with fail
      go_meet
      case rel => exact ⟨rfl, HW9⟩
    case rest =>
    clear K2
    obtain ⟨rfl, K2⟩ := hcut
    go_upto_region 20 with fail
    go_loopw [15] (fun x wr => ∃ j : Nat, j ≤ len3 ∧ x = .int .i64 (j : Int) ∧ Hid (We w wr B T M C (.slice (some ⟨g, 0, none⟩) 1024 cp) (len1 + j))) (fun x _ => len3 - (intOf x).toNat)
    case atStart => exact ⟨0, by omega, rfl, K2⟩
    case round =>
    clear K2
    obtain ⟨j, hj, rfl, K3⟩ := hrel
    by_cases hlt3 : j < len3
    · have hd3 : decide ((j : Int) < (len3 : Int)) = true := by simp; omega
      obtain ⟨x, rfl, hx1, hx2', hx3'⟩ := H3.out.below K3.out.bel j hlt3
      have hx2 := far_at (by omega) hx2'
      have hx3 := far_at (by omega) hx3'
      have hj3 : (j : Int) < (len3 : Int) := by omega
      have e1 : IntKind.u8.wrap (Z3 j).2.2 = (((Z3 j).2.2 % 256).toNat : Int) := by
        simp [IntKind.wrap, IntKind.signed, IntKind.bits]; omega
      have h256 : ((Z3 j).2.2 % 256).toNat < 256 := by omega
      clear hx2' hx3'
      generalize (Z3 j).1 = z1 at *
      generalize (Z3 j).2.1 = z2 at *
      generalize (Z3 j).2.2 = z3 at *
      generalize (z3 % 256).toNat = b at *
      go_upto_region 22 with fail
      go_quiet (fail)
      have K4 : Hid (We w (wr.drewN nq) B T M C (.slice (some ⟨g, 0, none⟩) 1024 cp) (len1 + j)) := hide (K3.out.below ⟨rfl, rfl, rfl, Nat.le_refl _, fun _ _ => rfl⟩)
      clear K3 hx1 hx2 hx3
      generalize wr.drewN nq = w5 at *
      go_wp2_with fail
      refine (run_any w5 b 128 (by omega)).mono ?_
      rintro e3 w6 ⟨v1, rfl, hv1, hb6⟩
      obtain ⟨D, F5, H, hW5, hR5, hH5, hA5, hC5⟩ := K4.out
      have HV1 := hide hv1
      have HW6 := hide (hW5.below hb6)
      have HR6 := hide ((good_rows _ _).below hR5 hb6)
      have HH5 := hide hH5
      have HAC := hide (And.intro hA5 hC5)
      have HFar := hide (own_farD hv1 hW5.dk)
      have HS56 := hide hb6.size
      have K6 : Hid (We w w6 B T M C (.slice (some ⟨g, 0, none⟩) 1024 cp) (len1 + j)) := hide (K4.out.below hb6)
      have HT6 : Hid (Tb w6 T (dvB B) C) := hide HW6.out.tab
      have HLk := hide (looked_any HW6.out.dk HW6.out.up HR6.out z1 z2)
      clear hv1 hb6 hW5 hR5 hH5 hA5 hC5 K4
      go_wp2_with fail
      cases hcl : isCl C z1
      · have hloc : (loc C z1 z2).2 = 100 := by unfold loc; rw [hcl]; rfl
        rcases Int.lt_or_le z1 0 with hz | hz
        · have hdz : decide (z1 < 0) = true := by simp [hz]
          have HWn := hide (writeE_no w6 T (dvB B) C HT6.out z1 z2 v1 (by rw [hloc]; decide))
          have HRn := hide (readE_no w6 T (dvB B) C HT6.out z1 z2 (by rw [hloc]; decide))
          rw [hloc] at HWn HRn
          clear hloc
          refine HWn.out.mono ?_
          rintro e3 w7 ⟨rfl, rfl⟩
          go_wp2_with fail
          refine HRn.out.mono ?_
          rintro e3 w8 ⟨rfl, rfl⟩
          go_wp2_with fail
          refine HLk.out.mono ?_
          rintro e3 w9 ⟨rfl, hb9⟩
          have KN : Hid (We w w9 B T M C (.slice (some ⟨g, 0, none⟩) 1024 cp) (len1 + (j + 1))) := hide ((K6.out.below hb9).mono (by omega))
          clear hb9
          go_wp2
          go_roundw
          case rel =>
            first
              | exact ⟨j + 1, by omega, by go_num, KN⟩
              | ((repeat apply Exists.intro); refine ⟨?_, rfl⟩; exact ⟨j + 1, by omega, by go_num, KN⟩)
          case measure => simp [intOf]; omega
        · have hdz : decide (z1 < 0) = false := by simp; omega
          by_cases hz2 : z1 < 32
          · have hdz2 : decide (32 ≤ z1) = false := by simp; omega
            obtain ⟨n, rfl⟩ := Int.eq_ofNat_of_zero_le hz
            have hn : n < 32 := by omega
            have c1 := HW6.out.mi.get hn
            rw [← isCl_nat C hn, hcl] at c1
            have HWn := hide (writeE_no w6 T (dvB B) C HT6.out (n : Int) z2 v1 (by rw [hloc]; decide))
            have HRn := hide (readE_no w6 T (dvB B) C HT6.out (n : Int) z2 (by rw [hloc]; decide))
            rw [hloc] at HWn HRn
            clear hloc
            refine HWn.out.mono ?_
            rintro e3 w7 ⟨rfl, rfl⟩
            go_wp2_with fail
            refine HRn.out.mono ?_
            rintro e3 w8 ⟨rfl, rfl⟩
            go_wp2_with fail
            refine HLk.out.mono ?_
            rintro e3 w9 ⟨rfl, hb9⟩
            have KN : Hid (We w w9 B T M C (.slice (some ⟨g, 0, none⟩) 1024 cp) (len1 + (j + 1))) := hide ((K6.out.below hb9).mono (by omega))
            clear hb9
            go_wp2
            go_roundw
            case rel =>
              first
                | exact ⟨j + 1, by omega, by go_num, KN⟩
                | ((repeat apply Exists.intro); refine ⟨?_, rfl⟩; exact ⟨j + 1, by omega, by go_num, KN⟩)
            case measure => simp [intOf]; omega
          · have hdz2 : decide (32 ≤ z1) = true := by simp; omega
            have HWn := hide (writeE_no w6 T (dvB B) C HT6.out z1 z2 v1 (by rw [hloc]; decide))
            have HRn := hide (readE_no w6 T (dvB B) C HT6.out z1 z2 (by rw [hloc]; decide))
            rw [hloc] at HWn HRn
            clear hloc
            refine HWn.out.mono ?_
            rintro e3 w7 ⟨rfl, rfl⟩
            go_wp2_with fail
            refine HRn.out.mono ?_
            rintro e3 w8 ⟨rfl, rfl⟩
            go_wp2_with fail
            refine HLk.out.mono ?_
            rintro e3 w9 ⟨rfl, hb9⟩
            have KN : Hid (We w w9 B T M C (.slice (some ⟨g, 0, none⟩) 1024 cp) (len1 + (j + 1))) := hide ((K6.out.below hb9).mono (by omega))
            clear hb9
            go_wp2
            go_roundw
            case rel =>
              first
                | exact ⟨j + 1, by omega, by go_num, KN⟩
                | ((repeat apply Exists.intro); refine ⟨?_, rfl⟩; exact ⟨j + 1, by omega, by go_num, KN⟩)
            case measure => simp [intOf]; omega
      · obtain ⟨n, rfl, hn⟩ : ∃ n : Nat, z1 = (n : Int) ∧ n < 32 := by
          unfold isCl at hcl
          have hz : (0 ≤ z1 ∧ z1 < 32) ∧ 0 < (C z1.toNat).ho := by simpa using hcl
          exact ⟨z1.toNat, by omega, by omega⟩
        have c1 := HW6.out.mi.get hn
        have hho : 0 < (C n).ho := by rw [isCl_nat C hn] at hcl; simpa using hcl
        rw [← isCl_nat C hn, hcl] at c1
        have hdn : decide (32 ≤ n) = false := by simp; omega
        have hdn2 : decide (32 ≤ (n : Int)) = false := by simp; omega
        rcases Int.lt_or_le z2 0 with hz | hz
        · have hdz : decide (z2 < 0) = true := by simp [hz]
          have hloc : (loc C (n : Int) z2).2 = 40 := by unfold loc; rw [hcl, if_pos rfl, if_neg (by omega)]
          have HWn := hide (writeE_no w6 T (dvB B) C HT6.out (n : Int) z2 v1 (by rw [hloc]; decide))
          have HRn := hide (readE_no w6 T (dvB B) C HT6.out (n : Int) z2 (by rw [hloc]; decide))
          rw [hloc] at HWn HRn
          clear hloc
          refine HWn.out.mono ?_
          rintro e3 w7 ⟨rfl, rfl⟩
          go_wp2_with fail
          refine HRn.out.mono ?_
          rintro e3 w8 ⟨rfl, rfl⟩
          go_wp2_with fail
          refine HLk.out.mono ?_
          rintro e3 w9 ⟨rfl, hb9⟩
          have KN : Hid (We w w9 B T M C (.slice (some ⟨g, 0, none⟩) 1024 cp) (len1 + (j + 1))) := hide ((K6.out.below hb9).mono (by omega))
          clear hb9
          go_wp2
          go_roundw
          case rel =>
            first
              | exact ⟨j + 1, by omega, by go_num, KN⟩
              | ((repeat apply Exists.intro); refine ⟨?_, rfl⟩; exact ⟨j + 1, by omega, by go_num, KN⟩)
          case measure => simp [intOf]; omega
        · have hdz : decide (z2 < 0) = false := by simp; omega
          by_cases hz2 : z2 < 32
          · obtain ⟨q, rfl⟩ := Int.eq_ofNat_of_zero_le hz
            have hq : q < 32 := by omega
            have hdq : decide (32 ≤ q) = false := by simp; omega
            have hdq2 : decide (32 ≤ (q : Int)) = false := by simp; omega
            have hnq : n * 32 + q < 1024 := by omega
            have HWo := hide (writeE_ok HT6.out HW6.out.dk n q hn hq hho v1 _ HV1.out.rd (sec_rep b h256) HFar.out HW6.out.up (fun h => by rw [HW6.out.na] at h; cases h) (by have := HAC.out.1; omega) (by have := HAC.out.2; omega))
            obtain ⟨P, hP⟩ : ∃ P, n * 32 + q = P := ⟨_, rfl⟩
            rw [hP] at HWo hnq
            have eP : 32 * (n : Int) + (q : Int) = (P : Int) := by omega
            clear hcl
            refine HWo.out.mono ?_
            rintro e3 w7 ⟨rfl, F7, hD7, hX7⟩
            have HW7 : Hid (Wd w w7 B T M C (D.acted.put P (List.replicate 128 b)) F7) := hide (HW6.out.write hD7 hX7 HW6.out.up HW6.out.na)
            have HR7 : Hid (RowsA (.slice (some ⟨g, 0, none⟩) 1024 cp) (seens D 1024) w7 H) := hide ((good_rows _ _).keep HR6.out hX7.mod.size (fun c hc => hX7.mod.block c ((good_rows _ _).lt HR6.out c hc) (HH5.out c hc).1))
            have HH7 : Hid (∀ c, H c → ¬ F7 c ∧ c ≠ T ∧ c ≠ M ∧ w.heap.size ≤ c) := hide (fun c hc => ⟨fun hf => (hX7.new c hf).elim (HH5.out c hc).1 (fun e => by have := (good_rows _ _).lt HR6.out c hc; omega), (HH5.out c hc).2⟩)
            have c7 : w7.cell? ⟨M, n, none⟩ = some (.bool true) := by
              have := HW7.out.mi.get hn
              rw [show decide (0 < (C n).ho) = true by simp [hho]] at this; exact this
            have HRd := hide (readE_ok HW7.out.tab HW7.out.dk n q hn hq hho HW7.out.up)
            rw [hP, put_seen, if_pos rfl] at HRd
            clear hD7 hX7 HWo c1 HLk K6
            go_wp2_with fail
            refine HRd.out.mono ?_
            rintro e3 w8 ⟨r, rfl, hr8, hb8⟩
            have HW8 := hide (HW7.out.below hb8)
            have HR8 := hide ((good_rows _ _).below HR7.out hb8)
            have HO8 := hide hr8
            have c8 := cell_belowN hb8 c7
            have HS78 := hide hb8.size
            obtain ⟨ar, cr, hrv⟩ := hr8.len
            rw [List.length_replicate] at hrv
            subst hrv
            clear hr8 hb8 c7
            go_wp2_with fail
            refine (run_any w8 b 128 (by omega)).mono ?_
            rintro e3 w9 ⟨v2, rfl, hv2, hb9⟩
            have HW9 := hide (HW8.out.below hb9)
            have HR9 := hide ((good_rows _ _).below HR8.out hb9)
            have HO9 := hide (HO8.out.below hb9 (Nat.le_refl _))
            have HSm := hide (same_eq (.slice ar 128 cr) v2 _ w9 HO9.out.rd hv2.rd)
            clear hv2 hb9 c8
            go_wp2_with fail
            refine HSm.out.mono ?_
            rintro e3 w10 ⟨rfl, rfl⟩
            have HWe : Hid (We w (w10.setCell ⟨g, P, none⟩ (.slice ar 128 cr)) B T M C (.slice (some ⟨g, 0, none⟩) 1024 cp) (len1 + (j + 1))) := by
              refine hide (We.set HW9.out HR9.out HH7.out (HO9.out.mono (Nat.zero_le _)) (fun c hc => ?_) hnq (seens_put hnq) ?_ ?_)
              · have h1 := (World.ownsRow.lt HO8.out c hc).1
                have h2 := HW7.out.tab.lt
                have h3 := HW7.out.mi.lt
                have h4 := HW7.out.bel.size
                exact ⟨fun hf => by have := (good_dk _ _).lt HW7.out.dk c hf; omega, by omega, by omega, by omega⟩
              · show D.acts + 1 ≤ _; have := HAC.out.1; omega
              · show (D.c ++ [_]).length ≤ _; rw [List.length_append]; have := HAC.out.2; simp; omega
            obtain ⟨r', c10, _⟩ := rows_cell HR9.out (seens_get D hnq)
            have f10 := rows_frz rfl HR9.out P
            have hP2 : (P : Int) < 1024 := by omega
            go_upto_region 38 with fail
            generalize w10.setCell ⟨g, P, none⟩ (.slice ar 128 cr) = w11 at *
            have HLk : Hid (Calls Try.prog 22 #[dp B, .slice (some ⟨g, 0, none⟩) 1024 cp, .int .i64 (n : Int), .int .i64 (q : Int)] w11 fun e w' => e = .returned (.bool true) ∧ Below w11.heap.size w11 w') := by
              obtain ⟨D9, F9, H9, h1, h2, _⟩ := HWe.out; exact hide (looked_any h1.dk h1.up h2 _ _)
            clear c10 f10 HR9 HO9 HW9 HSm
            go_wp2_with fail
            refine HLk.out.mono ?_
            rintro e3 w12 ⟨rfl, hb12⟩
            have KN : Hid (We w w12 B T M C (.slice (some ⟨g, 0, none⟩) 1024 cp) (len1 + (j + 1))) := hide (HWe.out.below hb12)
            clear hb12 HWe
            go_wp2
            go_roundw
            case rel =>
              first
                | exact ⟨j + 1, by omega, by go_num, KN⟩
                | ((repeat apply Exists.intro); refine ⟨?_, rfl⟩; exact ⟨j + 1, by omega, by go_num, KN⟩)
            case measure => simp [intOf]; omega

          · have hdz2 : decide (32 ≤ z2) = true := by simp; omega
            have hloc : (loc C (n : Int) z2).2 = 40 := by unfold loc; rw [hcl, if_pos rfl, if_neg (by omega)]
            have HWn := hide (writeE_no w6 T (dvB B) C HT6.out (n : Int) z2 v1 (by rw [hloc]; decide))
            have HRn := hide (readE_no w6 T (dvB B) C HT6.out (n : Int) z2 (by rw [hloc]; decide))
            rw [hloc] at HWn HRn
            clear hloc
            refine HWn.out.mono ?_
            rintro e3 w7 ⟨rfl, rfl⟩
            go_wp2_with fail
            refine HRn.out.mono ?_
            rintro e3 w8 ⟨rfl, rfl⟩
            go_wp2_with fail
            refine HLk.out.mono ?_
            rintro e3 w9 ⟨rfl, hb9⟩
            have KN : Hid (We w w9 B T M C (.slice (some ⟨g, 0, none⟩) 1024 cp) (len1 + (j + 1))) := hide ((K6.out.below hb9).mono (by omega))
            clear hb9
            go_wp2
            go_roundw
            case rel =>
              first
                | exact ⟨j + 1, by omega, by go_num, KN⟩
                | ((repeat apply Exists.intro); refine ⟨?_, rfl⟩; exact ⟨j + 1, by omega, by go_num, KN⟩)
            case measure => simp [intOf]; omega
    · obtain rfl : j = len3 := by omega
      have hd3 : decide ((j : Int) < (j : Int)) = false := by simp
      obtain ⟨D, F5, H, hW5, hR5, hH5, hA5, hC5⟩ := K3.out
      have HWh := hide (whole_any hW5.dk hW5.up)
      have HBl := hide hW5.bel
      have HR5 := hide hR5
      clear K3 hW5 hR5 hH5 hA5 hC5
      go_wp2_with fail
      refine HWh.out.mono ?_
      rintro e3 w5 ⟨v, H', rfl, hR, hH', hb5⟩
      obtain ⟨ao, cp2, hvv, hrr⟩ := rows_read hR
      rw [seens_len] at hvv
      subst hvv
      obtain ⟨g2, _, rfl, _, _⟩ := hrr 0 _ (seens_get D (by omega))
      have HR6 := hide ((good_rows _ _).below HR5.out hb5)
      have HR7 := hide hR
      have HBl5 := hide (HBl.out.trans (hb5.mono HBl.out.size))
      clear hR hH' hb5 hrr HWh HBl HR5
      go_upto_region 44 with fail
      go_loopw [24] (fun x wx => ∃ i : Nat, i ≤ 1024 ∧ x = .int .i64 (i : Int) ∧ Hid (Below w5.heap.size w5 wx)) (fun x _ => 1024 - (intOf x).toNat)
      case atStart => exact ⟨0, by omega, rfl, Below.refl _ _⟩
      case round =>
      obtain ⟨i, hi, rfl, KB⟩ := hrel
      by_cases hlt4 : i < 1024
      · have hd4 : decide ((i : Int) < 1024) = true := by simp; omega
        have hd5 : (i : Int) < 1024 := by omega
        obtain ⟨r1, c1', q1⟩ := rows_cell HR6.out (seens_get D hlt4)
        obtain ⟨r2, c2', q2⟩ := rows_cell HR7.out (seens_get D hlt4)
        have c1 := cell_belowN KB.out c1'
        have c2 := cell_belowN KB.out c2'
        have HBd := hide (fun n => (KB.out.trans (⟨rfl, rfl, rfl, Nat.le_refl _, fun _ _ => rfl⟩ : Below w5.heap.size wr (wr.drewN n))))
        have HSm := hide (fun n => same_eq r2 r1 _ (wr.drewN n) (q2.below (HBd.out n) (Nat.le_refl _)) (q1.below (HBd.out n) (Nat.le_refl _)))
        clear c1' c2' q1 q2
        go_upto_region 46 with fail
        go_quiet (first | (go_at_call 16; refine Calls.quiet_of_same (HSm.out _)))
        have HBn := hide (HBd.out nq)
        clear HSm HBd
        go_wp2
        go_roundw
        case rel =>
          first
            | exact ⟨i + 1, by omega, by go_num, HBn⟩
            | ((repeat apply Exists.intro); refine ⟨?_, rfl⟩; exact ⟨i + 1, by omega, by go_num, HBn⟩)
        case measure => simp [intOf]; omega
      · obtain rfl : i = 1024 := by omega
        go_wp2
        go_ret
        exact ⟨rfl, HBl5.out.trans (KB.out.mono HBl5.out.size)⟩
end Go.Proofs.Ytogpgchfaalikaa
