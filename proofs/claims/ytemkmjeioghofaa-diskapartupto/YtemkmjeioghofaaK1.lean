import Derived.Test.YtemkmjeioghofaaCG
namespace Go.Proofs.Ytemkmjeioghofaa
open Go.RowKit

/-- numbers that came in -/
def IsInts (w : World) (a : Option Addr) (len : Nat) (I : Nat → Int) : Prop := ∀ k, k < len → ∃ x, a = some x ∧ w.cell? (x.add k) = some (.int .i64 (I k)) ∧ -9223372036854775808 ≤ I k ∧ I k ≤ 9223372036854775807
theorem IsInts.at {w : World} {a : Option Addr} {len : Nat} {I : Nat → Int} (h : IsInts w a len I) {k : Nat} (hk : k < len) : ∃ x, a = some x ∧ ∀ W, Below w.heap.size w W → W.cell? (x.add k) = some (.int .i64 (I k)) := by
  obtain ⟨x, hx, h0, _⟩ := h k hk
  refine ⟨x, hx, fun W hb => ?_⟩
  rw [hb.cell (World.block_lt_of_cell? w _ h0)]; exact h0
theorem u64_rem (z : Int) (n : Nat) (hn : 0 < n) (hn2 : n ≤ 1048576) : ∃ j : Nat, j < n ∧ wrap64 ((IntKind.u64.wrap z).tmod (n : Int)) = (j : Int) := by
  have e1 : IntKind.u64.wrap z = z % 18446744073709551616 := by simp [IntKind.wrap, IntKind.signed, IntKind.bits]
  have e2 : (z % 18446744073709551616).tmod (n : Int) = z % 18446744073709551616 % (n : Int) := Int.tmod_eq_emod_of_nonneg (by omega)
  have h0 : 0 ≤ z % 18446744073709551616 % (n : Int) := Int.emod_nonneg _ (by omega)
  have h1 : z % 18446744073709551616 % (n : Int) < n := Int.emod_lt_of_pos _ (by omega)
  refine ⟨(z % 18446744073709551616 % (n : Int)).toNat, by omega, ?_⟩
  rw [e1, e2]
  generalize z % 18446744073709551616 % (n : Int) = q at *
  unfold wrap64
  omega
theorem u64_wrap_nat (n : Nat) (h : n ≤ 1048576) : IntKind.u64.wrap (n : Int) = (n : Int) := by
  have e1 : IntKind.u64.wrap (n : Int) = (n : Int) % 18446744073709551616 := by simp [IntKind.wrap, IntKind.signed, IntKind.bits]
  rw [e1]; omega
theorem OwI.read {w : World} {base : Nat} {v : Value} {l : List Nat} (h : OwI w base v l) : ∃ (ao : Option Addr) (cap : Nat), v = .slice ao l.length cap ∧ ∀ (k x : Nat), l[k]? = some x → ∃ g, ao = some ⟨g, 0, none⟩ ∧ w.cell? ⟨g, k, none⟩ = some (.int .i64 (x : Int)) := by
  have h' := h
  obtain ⟨hl, ⟨rfl, h0⟩ | ⟨g, cap, cur, rfl, hb, hg, hn, hm, hs, ht⟩⟩ := h
  · refine ⟨none, 0, by rw [h0], fun k x hk => ?_⟩
    have := (List.getElem?_eq_some_iff.1 hk).1; omega
  · refine ⟨_, cap, rfl, fun k x hk => ⟨g, rfl, ?_⟩⟩
    have := World.ownsRow.cells h' rfl k (IV x) (by simp [hk])
    rw [add0] at this; exact this
theorem OwI.below {w w' : World} {base : Nat} {v : Value} {l : List Nat} (h : OwI w base v l) (hb : Below w.heap.size w w') : OwI w' base v l := ownsRow_keep h (fun b e => hb.block b (ownsRow_lt h e))
theorem cell_up {w W : World} (hb : Below w.heap.size w W) {p : Addr} {v : Value} (h : w.cell? p = some v) : W.cell? p = some v := by
  rw [hb.cell (World.block_lt_of_cell? w _ h)]; exact h
theorem puts_sec (Z : Nat → Int × Nat) {k n : Nat} (h : k < n) : ((puts Z n).map (·.1))[k]? = some (pl (Z k).1) := by simp [puts, h]
set_option maxRecDepth 100000 in
set_option maxHeartbeats 4000000 in
theorem keeps_walk (a : Option Addr) (ln cp : Nat) (O : Nat → Opr) (a1 : Option Addr) (len cap : Nat) (Z : Nat → Int × Nat) (a2 : Option Addr) (nb cb : Nat) (I : Nat → Int) (w : World)
    (hln : ln ≤ 1048576) (hO : IsOps w a ln O) (hlen : len ≤ 1048576) (hZ : IsPuts w a1 len Z) (hnb : nb ≤ 1048576) (hI : IsInts w a2 nb I) :
    Calls Try.prog 7 #[.slice a ln cp, .slice a1 len cap, .slice a2 nb cb] w fun e w' => e = .returned (.bool true) ∧ Below w.heap.size w w' := by
  have HZ := hide hZ
  have HI := hide hI
  clear hZ hI
  go_enter Try.func7, Try.ntmps7
  go_wp2_with fail
  refine (fresh_any a ln cp O w hln hO).mono ?_
  rintro e w1 ⟨B, M, A, rfl, h1, hA⟩
  obtain ⟨F0, hd0, hF0, hn0⟩ := h1.call1
  have H0 := hide (And.intro h1.bel (And.intro hF0 hn0))
  have HD0 : Hid (DkA B (wait M [] A) w1 F0) := hd0
  clear h1 hd0 hF0 hn0 hO
  go_wp2_with fail
  refine (laid_any HD0.out H0.out.1 H0.out.2.1 a1 len cap Z hlen HZ.out (by omega) (by simp)).mono ?_
  rintro e w2 ⟨rfl, F2, hd2, hx2⟩
  have Q2 := hide (And.intro hd2 hx2)
  clear hd2 hx2 HD0
  go_wp2_with fail
  refine (arm_ok Q2.out.1 1 (by omega) rfl).mono ?_
  rintro e w3 ⟨rfl, hd3, hx3⟩
  have hx03 := Q2.out.2.trans hx3
  have hb3 : Below w.heap.size w w3 := H0.out.1.trans (hx03.mod.below H0.out.2.1 H0.out.1.size)
  have Q3 := hide (And.intro hd3 (And.intro hx03 hb3))
  clear hd3 hx3 hx03 hb3 Q2
  obtain ⟨D3, hD3⟩ : ∃ D3, (wait M ([] ++ puts Z len) (A + len)).arm 1 = D3 := ⟨_, rfl⟩
  have HDD := hide hD3
  rw [hD3] at Q3
  have hDM : D3.M = M := by rw [← hD3]; rfl
  clear hD3
  go_wp2_with fail
  refine (raws_any Q3.out.1 Q3.out.2.2 a1 len cap Z hlen HZ.out).mono ?_
  rw [hDM]
  rintro e w4 ⟨v, H, rfl, hR4, hH4, hb4⟩
  have Q4 := hide (And.intro ((good_dk _ _).below Q3.out.1 hb4) (And.intro hR4 (And.intro (Q3.out.2.1.trans (Ext.of_below hb4)) (Q3.out.2.2.trans (hb4.mono Q3.out.2.2.size)))))
  clear hR4 hH4 hb4 Q3
  go_wp2_with fail
  refine (acts_any Q4.out.1).mono ?_
  rw [show D3.acts = A + len by rw [← HDD.out]; rfl]
  rintro e w5 ⟨rfl, rfl⟩
  go_wp2
  go_loopw [10] (fun i wr => ∃ k : Nat, k ≤ nb ∧ i = .int .i64 (k : Int) ∧ Below w5.heap.size w5 wr) (fun i _ => nb - (intOf i).toNat)
  case atStart => exact ⟨0, Nat.zero_le _, rfl, Below.refl _ _⟩
  case round =>
    obtain ⟨k, hk, rfl, hbel⟩ := hrel
    have HBE := hide hbel
    have hbw : Below w.heap.size w wr := Q4.out.2.2.2.trans (hbel.mono Q4.out.2.2.2.size)
    clear hbel
    by_cases hlt : k < nb
    · have hd1 : decide (k < nb) = true := by simp; omega
      obtain ⟨y, hy, hyc⟩ := HI.out.at hlt
      subst hy
      have cb0 := hyc _ hbw
      clear hyc
      generalize I k = bk at cb0
      obtain ⟨q, hq, hqe⟩ := u64_rem bk 11 (by omega) (by omega)
      have hqe' : wrap64 ((IntKind.u64.wrap bk).tmod 11) = (q : Int) := hqe
      clear hqe
      by_cases hl0 : len = 0
      · have hdl : decide (0 < len) = false := by simp; omega
        clear hl0
        go_wp2_with fail
        refine (refused_any B q 0 _ hq (by omega)).mono ?_
        rintro e w6 ⟨c, rfl, hb6⟩
        have HB6 := hide (HBE.out.trans (hb6.mono HBE.out.size))
        clear hb6 cb0 hqe'
        go_wp2
        go_roundw
        case rel => exact ⟨k + 1, by omega, by go_num, HB6.out⟩
        case measure => simp [intOf]; omega
      · have hdl : decide (0 < len) = true := by simp; omega
        obtain ⟨j, hj, hje⟩ := u64_rem bk len (by omega) hlen
        have hwl := u64_wrap_nat len hlen
        obtain ⟨x, hx, _, hp⟩ := HZ.out.at hj
        subst hx
        obtain ⟨c0, _⟩ := hp _ hbw
        clear hp
        generalize (Z j).1 = zj at c0
        have hln0 : ¬ (len : Int) = 0 := by omega
        go_wp2_with fail
        refine (place_any zj _).mono ?_
        rintro e w56 ⟨rfl, rfl⟩
        go_wp2_with fail
        refine (refused_any B q (pl zj) _ hq (pl_lt _)).mono ?_
        rintro e w6 ⟨c, rfl, hb6⟩
        have HB6 := hide (HBE.out.trans (hb6.mono HBE.out.size))
        clear hb6 cb0 c0 hqe' hje
        go_wp2
        go_roundw
        case rel => exact ⟨k + 1, by omega, by go_num, HB6.out⟩
        case measure => simp [intOf]; omega
    · obtain rfl : k = nb := by omega
      have hd6 := (good_dk _ _).below Q4.out.1 HBE.out
      have hR6 := (good_rows _ _).below Q4.out.2.1 HBE.out
      have Q6 := hide (And.intro hd6 (And.intro hR6 (And.intro (Q4.out.2.2.1.trans (Ext.of_below HBE.out)) hbw)))
      clear hd6 hR6 Q4 HBE hbw
      go_wp2_with fail
      refine (down_any Q6.out.1).mono ?_
      rw [show D3.down = false by rw [← HDD.out]; rfl]
      rintro e w7 ⟨rfl, rfl⟩
      go_wp2_with fail
      refine (acts_any Q6.out.1).mono ?_
      rw [show D3.acts = A + len by rw [← HDD.out]; rfl]
      rintro e w8 ⟨rfl, rfl⟩
      go_wp2_with fail
      have hcl : D3.c = puts Z len := by rw [← HDD.out]; rfl
      refine (pending_any Q6.out.1 (by rw [hcl, puts_len]; omega)).mono ?_
      rw [hcl]
      rintro e w9 ⟨p, rfl, hp9, hb9⟩
      obtain ⟨ap, cpp, hpv, hpc⟩ := hp9.read
      rw [List.length_map, puts_len] at hpv
      obtain ⟨av, cv, hvv, hvc⟩ := rows_read ((good_rows _ _).below Q6.out.2.1 hb9)
      rw [rawsOf_len] at hvv
      subst hpv
      subst hvv
      have Q9 := hide (And.intro ((good_dk _ _).below Q6.out.1 hb9) (And.intro ((good_rows _ _).below Q6.out.2.1 hb9) (And.intro (Q6.out.2.2.1.trans (Ext.of_below hb9)) (And.intro (Q6.out.2.2.2.trans (hb9.mono Q6.out.2.2.2.size)) hp9))))
      have HPC := hide hpc
      have HVC := hide hvc
      clear Q6 hb9 hp9 hpc hvc hcl
      go_wp2
      go_loopw [15] (fun i wr => ∃ k : Nat, k ≤ len ∧ i = .int .i64 (k : Int) ∧ Below w9.heap.size w9 wr) (fun i _ => len - (intOf i).toNat)
      case atStart => exact ⟨0, Nat.zero_le _, rfl, Below.refl _ _⟩
      case round =>
        rename_i k0 _
        obtain ⟨k, hk, rfl, hbel⟩ := hrel
        by_cases hlt : k < len
        · have hd1 : decide (k < len) = true := by simp; omega
          have hbw : Below w.heap.size w wr := Q9.out.2.2.2.1.trans (hbel.mono Q9.out.2.2.2.1.size)
          obtain ⟨x, hx, _, hp⟩ := HZ.out.at hlt
          subst hx
          obtain ⟨c0, _⟩ := hp _ hbw
          obtain ⟨gp, hgp, cp0⟩ := HPC.out k _ (puts_sec Z hlt)
          obtain ⟨gv, rk, hgv, cv0, hrk⟩ := HVC.out k _ (rawsOf_get M Z hlt)
          subst hgp
          subst hgv
          have HP := hide hp
          have HRK := hide hrk
          generalize hzk : (Z k).1 = zk at *
          clear hp hrk
          go_wp2_with fail
          refine (place_any zk _).mono ?_
          rintro e w10 ⟨rfl, rfl⟩
          go_wp2_with fail
          refine (raw_ok ((good_dk _ _).below Q9.out.1 hbel) (pl zk) (pl_lt _)).mono ?_
          rw [hDM]
          rintro e w11 ⟨r, rfl, hr, hb11⟩
          have hb9 : Below w9.heap.size w9 w11 := hbel.trans (hb11.mono hbel.size)
          have hbw2 : Below w.heap.size w w11 := hbw.trans (hb11.mono hbw.size)
          have d0 := (HP.out _ hbw2).1
          have d1 := cell_up hb9 cp0
          have d2 := cell_up hb9 cv0
          have HQ := hide (And.intro hr.rd (And.intro (HRK.out.below hb9 (Nat.le_refl _)) hb9))
          clear hr hb11 hb9 hbw2 c0 cp0 cv0 hbel hbw HP HRK
          go_wp2
          go_region_held (fun W => W.cell? ⟨gp, k, none⟩ = some (.int .i64 (pl zk : Nat)) ∧ W.cell? (x.add (k * 2)) = some (.int .i64 zk) ∧ W.cell? ⟨gv, k, none⟩ = some rk)
            (first | assumption | exact And.intro d1 (And.intro d0 d2))
            (first
              | (go_at_call 12; refine (place_any zk _).mono ?_; rintro e w' ⟨rfl, rfl⟩)
              | (go_at_call 20; refine (same_eq _ _ _ _ (HQ.out.1.below (Below.refl _ _).drew (Nat.le_refl _)) (HQ.out.2.1.below (Below.refl _ _).drew (Nat.le_refl _))).mono ?_; rintro e w' ⟨rfl, rfl⟩))
          all_goals clear d0 d1 d2
          all_goals go_wp2
          all_goals go_roundw
          all_goals first
            | exact ⟨k + 1, by omega, by go_num, HQ.out.2.2.drew⟩
            | (simp [intOf]; omega)
        · obtain rfl : k = len := by omega
          have hd10 := (good_dk _ _).below Q9.out.1 hbel
          have Q10 := hide (And.intro hd10 (Q9.out.2.2.1.trans (Ext.of_below hbel)))
          clear hd10 Q9 hbel HPC HVC
          go_wp2_with fail
          refine (flush_ok Q10.out.1 (by rw [← HDD.out]; rfl) (fun _ => by rw [← HDD.out]; show 1 ≠ 0; omega) (by rw [← HDD.out]; show A + k < _; omega)).mono ?_
          rintro e w11 ⟨rfl, F11, hd11, hx11⟩
          have Q11 := hide (And.intro hd11 (Q10.out.2.trans hx11))
          clear hd11 hx11 Q10
          go_wp2_with fail
          refine (flush_no Q11.out.1 (.inr (by rw [← HDD.out]; exact ⟨rfl, rfl⟩))).mono ?_
          rintro e w12 ⟨rfl, hd12, hx12⟩
          have Q12 := hide (And.intro hd12 (Q11.out.2.trans hx12))
          clear hd12 hx12 Q11
          go_wp2_with fail
          refine (down_any Q12.out.1).mono ?_
          rw [show (D3.acted.settled yes).off.down = true from rfl]
          rintro e w13 ⟨rfl, rfl⟩
          have HE := hide (H0.out.2.2 _ _ _ Q12.out.1 Q12.out.2)
          clear Q12
          go_wp2
          go_ret
          exact ⟨rfl, HE.out.bel⟩
end Go.Proofs.Ytemkmjeioghofaa
