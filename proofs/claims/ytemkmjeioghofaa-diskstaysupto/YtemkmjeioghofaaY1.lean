import Derived.Test.YtemkmjeioghofaaY0
namespace Go.Proofs.Ytemkmjeioghofaa
open Go.RowKit

theorem made_flags (n : Nat) : madeCells (Value.bool false).cells (n * 1) = ((List.replicate n false).map Value.bool).toArray := by
  rw [← Array.toArray_toList (xs := madeCells _ _)]
  simp [Value.cells, toList_madeCells_one]
set_option maxRecDepth 100000 in
set_option maxHeartbeats 4000000 in
theorem stays_walk (a : Option Addr) (ln cp : Nat) (O : Nat → Opr) (a1 : Option Addr) (len cap : Nat) (Z : Nat → Int × Nat) (kv : Value) (ks : List Bool) (w : World)
    (hln : ln ≤ 1048576) (hO : IsOps w a ln O) (hlen : len ≤ 1048576) (hZ : IsPuts w a1 len Z) (hkl : ks.length ≤ 1048576) (hK : RdB w kv ks) :
    Calls Try.prog 3 #[.slice a ln cp, .slice a1 len cap, kv] w fun e w' => e = .returned (.bool true) ∧ Below w.heap.size w w' := by
  have HZ := hide hZ
  have HK := hide hK
  obtain ⟨a2, cb, hkv⟩ := hK.len
  obtain ⟨nb, hnb⟩ : ∃ nb, ks.length = nb := ⟨_, rfl⟩
  rw [hnb] at hkv hkl
  subst hkv
  have HNB := hide hnb
  obtain ⟨i5, hi, hz, hs, hbb⟩ := info29'
  obtain ⟨i4, hi4, hz4, hs4, hb4⟩ := info4'
  clear hZ hK hnb
  go_enter Try.func3, Try.ntmps3
  go_wp2_with fail
  refine (fresh_any a ln cp O w hln hO).mono ?_
  rintro e w1 ⟨B, M, A, rfl, h1, hA⟩
  obtain ⟨F0, hd0, hF0, hn0⟩ := h1.call1
  have H0 := hide (And.intro h1.bel (And.intro hF0 hn0))
  have HD0 : Hid (DkA B (wait M [] A) w1 F0) := hd0
  clear h1 hd0 hF0 hn0 hO
  go_wp2_with fail
  refine (laid_any HD0.out H0.out.1 H0.out.2.1 a1 len cap Z hlen HZ.out (by omega) (by simp)).mono ?_
  rintro e w2 ⟨rfl, F2, hd2, hx2⟩
  have hd2' : DkA B (wait M (puts Z len) (A + len)) w2 F2 := hd2
  have H2 := hide (H0.out.2.2 _ _ _ hd2' hx2)
  have HD2 := hide hd2'
  clear hd2 hd2' hx2 HD0 H0
  go_wp2
  go_loopw [8, 9] (fun v i wr => ∃ k : Nat, k ≤ len ∧ i = .int .i64 (k : Int) ∧ ∃ H, RowsA v (rawsOf (play M (puts Z len)) Z k) wr H ∧ (∀ b, H b → w2.heap.size ≤ b) ∧ Below w2.heap.size w2 wr) (fun _ i _ => len - (intOf i).toNat)
  case atStart => exact ⟨0, Nat.zero_le _, rfl, fun _ => False, rows_nil _, fun b h => h.elim, Below.refl _ _⟩
  case round =>
    obtain ⟨k, hk, rfl, H, hR, hH, hbel⟩ := hrel
    by_cases hlt : k < len
    · have hd1 : decide (k < len) = true := by simp; omega
      obtain ⟨x, hx, hb8, hp⟩ := HZ.out.at hlt
      subst hx
      obtain ⟨c0, c1⟩ := hp _ (H2.out.bel.trans (hbel.mono H2.out.bel.size))
      obtain ⟨z, hzz⟩ : ∃ z, Z k = z := ⟨_, rfl⟩
      rw [hzz] at c0
      have hD := (good_dk _ _).below HD2.out hbel
      have hRk := rawsOf_succ (play M (puts Z len)) Z k
      rw [hzz] at hRk
      have hsk : Sec ((wait M (puts Z len) (A + len)).seen (pl z.1)) := by
        obtain ⟨_, _, h, _⟩ := hD
        exact h.ok.seen (pl_lt _)
      obtain ⟨rs, hrs⟩ := hR
      have HR := hide (And.intro hrs (And.intro hH (And.intro hbel (And.intro hD hRk))))
      have HSK := hide hsk
      clear hp c1 hH hbel hD hRk hsk
      go_wp2_with fail
      refine (place_any z.1 _).mono ?_
      rintro e w3 ⟨rfl, rfl⟩
      go_wp2_with fail
      refine (read_ok HR.out.2.2.2.1 (pl z.1) (pl_lt _) rfl).mono ?_
      rintro e w4 ⟨r, rfl, hr, hb2⟩
      obtain ⟨ar, cr, hrv⟩ := hr.len
      rw [HSK.out.1] at hrv
      subst hrv
      obtain ⟨ao, cp2, hvv, _⟩ := rows_read ⟨rs, HR.out.1⟩
      rw [rawsOf_len] at hvv
      subst hvv
      have hown : w4.ownsRow 0 29 1 (.slice ao k cp2) k rs := by
        have h1 := HR.out.1.1
        rw [rawsOf_len] at h1
        have h2 := HR.out.1.2.1
        rw [h1] at h2
        exact ownsRow_keep h2 (fun b hb' => hb2.block b (HR.out.1.2.2.2.2 b (HR.out.1.2.2.2.1 b hb')))
      have HO := hide (And.intro hown (And.intro hr hb2))
      clear hr hb2 hown hrs c0
      go_wp2_with (at_builtin; refine wpList_append_own_at _ rfl _ _ 28 rfl 0 29 i5 (.slice none 0 0) 1 24 Try.underlying28 hi hz hs hbb rfl (by decide) _ k rs rfl (HO.out.1.alloc _) ⟨w4.heap.size, 0, none⟩ 1 1 [.slice ar 128 cr] rfl rfl ?c1 ?c2 ?c3 ?c4 ?c5 ?_)
      case c1 => exact cell_one_new _ _ _
      case c2 => simp [Value.oneCell']
      case c3 => unfold maxLen; omega
      case c4 => omega
      case c5 => exact Nat.zero_le _
      intro v' w5 hown3 hg3 _ hloc3
      have hnx := rows_next (rawsOf_len _ _ _) HR.out.1 HR.out.2.1 HR.out.2.2.1 HO.out.2.1 HO.out.2.2 hown3 hg3 hloc3
      have hRk := HR.out.2.2.2.2
      rw [show (wait M (puts Z len) (A + len)).seen (pl z.1) = play M (puts Z len) (pl z.1) from rfl, ← hRk] at hnx
      have HNW := hide hnx
      clear hown3 hg3 hloc3 hnx hRk HO HR
      go_wp2
      go_roundw
      case rel =>
        obtain ⟨H', r1, r2, r3⟩ := HNW.out
        exact ⟨k + 1, by omega, by go_num, H', r1, r2, r3⟩
      case measure => simp [intOf]; omega
    · obtain rfl : k = len := by omega
      have h3 := (H2.out.new (good_dk _ _) hR hH hbel).mono (fun _ _ h => star_comm h)
      have H3 := hide h3
      clear hR hH hbel h3 H2 HD2
      obtain ⟨_, _, _, hR3⟩ := H3.out.two
      obtain ⟨av, cvv, hvv, _⟩ := rows_read hR3
      rw [rawsOf_len] at hvv
      subst hvv
      clear hR3
      obtain ⟨M1, hM1⟩ : ∃ M1, play M (puts Z k) = M1 := ⟨_, rfl⟩
      go_wp2_with fail
      obtain ⟨F3, hd3, _, hn3⟩ := H3.out.call (good_rows _ _)
      refine (flush_ok hd3 rfl (fun h => by cases h) (by show A + k < _; omega)).mono ?_
      rw [flush_wait, hM1]
      rw [hM1] at hn3
      rintro e w5 ⟨rfl, F5, hd5, hx5⟩
      have H5 := hide (hn3 _ _ _ hd5 hx5)
      have HD5 := hide hd5
      clear hd3 hn3 hd5 hx5 H3 hM1
      go_wp2_with fail
      refine (pending_any HD5.out (by show 0 ≤ _; omega)).mono ?_
      rintro e w6 ⟨r6, rfl, hp6, hb6⟩
      obtain ⟨a6, c6, h6⟩ := OwI.nil hp6
      subst h6
      have H6 := hide (H5.out.below ((good_dk _ _).star (good_rows _ _)) hb6)
      clear hp6 hb6 H5 HD5
      have hmk : (Instr.makeSlice 24 (.int .i64 1024) (.int .i64 1024)).run Try.prog w6 = .ok (.slice (some ⟨w6.heap.size, 0, none⟩) 1024 1024) (w6.alloc (.cells ((List.replicate 1024 false).map Value.bool).toArray 4)) := by
        have h := run_make (P := Try.prog) w6 24 4 i4 (.bool false) Try.underlying24 hi4 hz4 .i64 .i64 1024 1024 (by omega) (Int.le_refl _) (by rw [hb4]; omega) (by omega)
        rw [hs4, made_flags] at h
        exact h
      obtain ⟨T0, hT0⟩ : ∃ T0, List.replicate 1024 false = T0 := ⟨_, rfl⟩
      have HT0 : Hid (T0.length = 1024) := by rw [← hT0]; show _ = _; simp
      rw [hT0] at hmk
      clear hT0
      go_wp2
      go_loopw [13] (fun i wr => ∃ (q : Nat) (T : List Bool), q ≤ k ∧ i = .int .i64 (q : Int) ∧ T.length = 1024 ∧ (∀ j, j < q → T[pl (Z j).1]? = some true) ∧ wr.heap[w6.heap.size]? = some (.cells (T.map Value.bool).toArray 4 (0, 0)) ∧ Below w6.heap.size w6 wr) (fun i _ => k - (intOf i).toNat)
      case atStart => exact ⟨0, T0, Nat.zero_le _, rfl, HT0.out, fun j hj => by omega, heap_alloc_last _ _, (Below.refl _ _).alloc (Nat.le_refl _) _⟩
      case round =>
        obtain ⟨q, T, hq, rfl, hTl, hT, hrow, hbel⟩ := hrel
        clear hmk HT0
        by_cases hlt : q < k
        · have hd1 : decide (q < k) = true := by simp; omega
          obtain ⟨x, hx, _, hp⟩ := HZ.out.at hlt
          subst hx
          obtain ⟨c0, _⟩ := hp _ (H6.out.bel.trans (hbel.mono H6.out.bel.size))
          obtain ⟨zq, hzq⟩ : ∃ zq, (Z q).1 = zq := ⟨_, rfl⟩
          rw [hzq] at c0
          have hpl := pl_lt zq
          obtain ⟨b0, hb0⟩ : ∃ b0, T[pl zq]? = some b0 := ⟨_, List.getElem?_eq_getElem (by rw [hTl]; exact hpl)⟩
          have c5 : wr.cell? ⟨w6.heap.size, pl zq, none⟩ = some (.bool b0) := by rw [cell_of_row _ _ _ _ _ _ hrow]; simp [hb0]
          have f5 := frozen_of_row wr w6.heap.size (pl zq) _ _ hrow
          have hset := FlagsA.set hrow (pl zq) true
          have hTn : ∀ j, j < q + 1 → (T.set (pl zq) true)[pl (Z j).1]? = some true := by
            intro j hj
            rw [List.getElem?_set]
            split
            · rename_i e
              rw [if_pos (by rw [hTl]; exact hpl)]
            · rename_i e
              exact hT j (by
                have : j ≠ q := fun e' => e (by rw [e', hzq])
                omega)
          have HN := hide (And.intro hset (And.intro hTn (hbel.setCell (p := ⟨w6.heap.size, pl zq, none⟩) (Nat.le_refl _) (.bool true))))
          have HTl : Hid ((T.set (pl zq) true).length = 1024) := by show _ = _; rw [List.length_set]; exact hTl
          clear hset hTn hrow hT hp hbel hb0 hTl
          go_wp2_with fail
          refine (place_any zq _).mono ?_
          rintro e w7 ⟨rfl, rfl⟩
          generalize pl zq = pz at *
          go_wp2
          go_roundw
          case rel => exact ⟨q + 1, T.set pz true, by omega, by go_num, HTl.out, HN.out.2.1, HN.out.1, HN.out.2.2⟩
          case measure => simp [intOf]; omega
        · obtain rfl : q = k := by omega
          obtain ⟨G, hG⟩ : ∃ G, w6.heap.size = G := ⟨_, rfl⟩
          have h7 := (H6.out.new ((good_dk _ _).star (good_rows _ _)) (X := FlagsA w6.heap.size T) (Fc := fun b => b = w6.heap.size) ⟨hrow, fun _ => Iff.rfl⟩ (fun b hb => by omega) hbel).mono (fun _ _ h => star_last h)
          rw [hG] at h7 ⊢
          have H7 := hide h7
          have HTT := hide (And.intro hTl hT)
          clear hrow hbel h7 H6 hTl hT hG
          go_wp2
          go_loopw [14] (fun i wr => ∃ (u : Nat) (c3 : List (Nat × List Nat)) (A3 : Nat), u ≤ nb ∧ i = .int .i64 (u : Int) ∧ Sys w wr (star (DkA B (wait M1 c3 A3)) (star (RowsA (.slice av q cvv) (rawsOf M1 Z q)) (FlagsA G T))) ∧ c3.length ≤ u ∧ A3 ≤ A + q + 1 + u ∧ ∀ x ∈ c3, ∀ j, j < q → x.1 ≠ pl (Z j).1) (fun i _ => nb - (intOf i).toNat)
          case atStart => exact ⟨0, [], A + q + 1, Nat.zero_le _, rfl, H7.out, by simp, by omega, fun x hx => by simp at hx⟩
          case round =>
            obtain ⟨u, c3, A3, hu, rfl, hS, hc3, hA3, hx3⟩ := hrel
            clear H7
            by_cases hlt : u < nb
            · have hd1 : decide (u < nb) = true := by simp; omega
              have hpl := pl_lt (37 * (u : Int))
              obtain ⟨b0, hb0⟩ : ∃ b0, T[pl (37 * (u : Int))]? = some b0 := ⟨_, List.getElem?_eq_getElem (by rw [HTT.out.1]; exact hpl)⟩
              obtain ⟨_, _, _, hd, _, hf⟩ := hS.three
              obtain ⟨c5, _⟩ := hf.cell hb0
              have h8 := u8_wrap_nat u
              have HS := hide hS
              have HB0 := hide hb0
              obtain ⟨pz, hpz⟩ : ∃ pz, pl (37 * (u : Int)) = pz := ⟨_, rfl⟩
              rw [hpz] at c5 hpl HB0
              clear hS hd hf hb0
              go_wp2_with fail
              refine (place_any _ _).mono ?_
              rw [hpz]
              rintro e w8 ⟨rfl, rfl⟩
              cases b0
              · go_wp2_with fail
                have hfull := full_any (u % 256) w8
                rw [show ((u % 256 : Nat) : Int) = (u : Int) % 256 by omega] at hfull
                refine hfull.mono ?_
                rintro e w9 ⟨r9, rfl, hr9, hb9⟩
                obtain ⟨F8, hd8, _, hn8⟩ := HS.out.call ((good_rows _ _).star (good_flags _ _))
                have Q9 := hide (And.intro hr9.rd (And.intro ((good_dk _ _).below hd8 hb9) (And.intro (own_farD hr9 hd8) (And.intro hn8 hb9))))
                clear hfull hr9 hd8 hn8 hb9
                go_wp2_with fail
                refine (write_ok Q9.out.2.1 pz r9 _ hpl Q9.out.1 (sec_rep _ (by omega)) Q9.out.2.2.1 rfl (fun h => by cases h) (by show A3 < _; omega) (by show c3.length < _; omega)).mono ?_
                rintro e w10 ⟨rfl, F10, hd10, hx10⟩
                have hd10' : DkA B (wait M1 (c3 ++ [(pz, List.replicate 128 (u % 256))]) (A3 + 1)) w10 F10 := hd10
                have H10 := hide (Q9.out.2.2.2.1 _ _ _ hd10' ((Ext.of_below Q9.out.2.2.2.2).trans hx10))
                have HX : Hid (∀ x ∈ c3 ++ [(pz, List.replicate 128 (u % 256))], ∀ j, j < q → x.1 ≠ pl (Z j).1) := by
                  intro x hx j hj
                  rcases List.mem_append.1 hx with h | h
                  · exact hx3 x h j hj
                  · simp at h
                    subst h
                    intro e
                    have h1 := HB0.out
                    have h2 := HTT.out.2 j hj
                    rw [← e, h1] at h2
                    simp at h2
                clear hd10 hd10' hx10 Q9 c5
                go_wp2
                go_roundw
                case rel => exact ⟨u + 1, _, A3 + 1, by omega, by go_num, H10.out, by simp; omega, by omega, HX.out⟩
                case measure => simp [intOf]; omega
              · go_wp2
                go_roundw
                case rel => exact ⟨u + 1, c3, A3, by omega, by go_num, HS.out, by omega, by omega, hx3⟩
                case measure => simp [intOf]; omega
            · obtain rfl : u = nb := by omega
              have HS := hide hS
              have HX3 := hide hx3
              clear hS hx3
              go_wp2_with fail
              refine (flags_any _ ks _ (HK.out.below HS.out.bel (Nat.le_refl _)) (by rw [HNB.out]; exact hkl)).mono ?_
              rintro e w9 ⟨r9, rfl, hr9, hb9⟩
              obtain ⟨F8, hd8, _, hn8⟩ := HS.out.call ((good_rows _ _).star (good_flags _ _))
              have Q9 := hide (And.intro hr9.rd (And.intro ((good_dk _ _).below hd8 hb9) (And.intro (own_farS hr9 hd8) (And.intro hn8 hb9))))
              clear hr9 hd8 hn8 hb9
              go_wp2_with fail
              refine (crash_any Q9.out.2.1 r9 ks Q9.out.1 Q9.out.2.2.1).mono ?_
              rw [crash_wait]
              rintro e w10 ⟨rfl, F10, hd10, hx10⟩
              have H10 := hide (Q9.out.2.2.2.1 _ _ _ hd10 ((Ext.of_below Q9.out.2.2.2.2).trans hx10))
              clear hd10 hx10 Q9 HS
              obtain ⟨_, _, _, hd10, hR10, _⟩ := H10.out.three
              obtain ⟨av', cv', hvv, hvc⟩ := rows_read hR10
              rw [rawsOf_len] at hvv
              simp at hvv
              obtain ⟨rfl, rfl⟩ := hvv
              have HD10 := hide hd10
              have HVC := hide hvc
              have hM4 : ∀ j, j < q → (wait (play M1 (keptTo (kp ks) c3 c3.length)) [] A3).M (pl (Z j).1) = M1 (pl (Z j).1) := fun j hj => play_kept (fun x hx => HX3.out x hx j hj)
              have HM4 := hide hM4
              generalize (wait (play M1 (keptTo (kp ks) c3 c3.length)) [] A3) = D4 at *
              clear hd10 hR10 hvc hM4
              go_wp2
              go_loopw [16] (fun i wr => ∃ t : Nat, t ≤ q ∧ i = .int .i64 (t : Int) ∧ Below w10.heap.size w10 wr) (fun i _ => q - (intOf i).toNat)
              case atStart => exact ⟨0, Nat.zero_le _, rfl, Below.refl _ _⟩
              case round =>
                obtain ⟨t, ht, rfl, hbel⟩ := hrel
                by_cases hlt : t < q
                · have hd1 : decide (t < q) = true := by simp; omega
                  obtain ⟨x, hx, _, hp⟩ := HZ.out.at hlt
                  subst hx
                  obtain ⟨c0, _⟩ := hp _ (H10.out.bel.trans (hbel.mono H10.out.bel.size))
                  obtain ⟨gv, rk, hgv, cv0, hrk⟩ := HVC.out t _ (rawsOf_get M1 Z hlt)
                  subst hgv
                  have hm4 := HM4.out t hlt
                  generalize (Z t).1 = zt at *
                  have HRK := hide hrk
                  have HM := hide hm4
                  clear hp hrk hm4
                  go_wp2_with fail
                  refine (place_any zt _).mono ?_
                  rintro e w11 ⟨rfl, rfl⟩
                  go_wp2_with fail
                  refine (raw_ok ((good_dk _ _).below HD10.out hbel) (pl zt) (pl_lt _)).mono ?_
                  rw [HM.out]
                  rintro e w12 ⟨r, rfl, hr, hb12⟩
                  have hb10 : Below w10.heap.size w10 w12 := hbel.trans (hb12.mono hbel.size)
                  have d2 := cell_up hb10 cv0
                  have HQ := hide (And.intro hr.rd (And.intro (HRK.out.below hb10 (Nat.le_refl _)) hb10))
                  clear hr hb12 hb10 c0 cv0 hbel HRK HM
                  go_wp2_with fail
                  refine (same_eq _ _ _ _ HQ.out.1 HQ.out.2.1).mono ?_
                  rintro e w13 ⟨rfl, rfl⟩
                  clear d2
                  go_wp2
                  go_roundw
                  case rel => exact ⟨t + 1, by omega, by go_num, HQ.out.2.2⟩
                  case measure => simp [intOf]; omega
                · have HE := hide (H10.out.bel.trans (hbel.mono H10.out.bel.size))
                  obtain rfl : t = q := by omega
                  clear hbel H10 HD10 HVC HM4
                  go_wp2
                  go_ret
                  exact ⟨rfl, HE.out⟩
end Go.Proofs.Ytemkmjeioghofaa
