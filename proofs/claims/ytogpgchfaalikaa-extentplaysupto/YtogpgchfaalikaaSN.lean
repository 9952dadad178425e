import Derived.Test.YtogpgchfaalikaaSM
namespace Go.Proofs.Ytogpgchfaalikaa
open Go.ChangeShapes Go.WideShapes Go.ChangeAt Go.RowKit Go.Deep

section
variable {w0 w : World} {A1 A2 A3 A4 A5 A6 Q : Asn}
theorem Sys.p1 (h : Sys w0 w (star A1 (star A2 (star A3 Q)))) : Sys w0 w (star A1 (star A3 (star A2 Q))) := h.mono (fun _ _ h => star_mono (fun _ _ h => star_swap h) h)
theorem Sys.p2 (h : Sys w0 w (star A1 (star A2 (star A3 (star A4 Q))))) : Sys w0 w (star A1 (star A2 (star A4 (star A3 Q)))) := h.mono (fun _ _ h => star_mono (fun _ _ h => star_mono (fun _ _ h => star_swap h) h) h)
theorem Sys.p3 (h : Sys w0 w (star A1 (star A2 (star A3 (star A4 (star A5 Q)))))) : Sys w0 w (star A1 (star A2 (star A3 (star A5 (star A4 Q))))) := h.mono (fun _ _ h => star_mono (fun _ _ h => star_mono (fun _ _ h => star_mono (fun _ _ h => star_swap h) h) h) h)
theorem Sys.p4 (h : Sys w0 w (star A1 (star A2 (star A3 (star A4 (star A5 (star A6 Q))))))) : Sys w0 w (star A1 (star A2 (star A3 (star A4 (star A6 (star A5 Q)))))) := h.mono (fun _ _ h => star_mono (fun _ _ h => star_mono (fun _ _ h => star_mono (fun _ _ h => star_mono (fun _ _ h => star_swap h) h) h) h) h)
/-- all six, in the order of a step -/
theorem Sys.six {Ta Tb Ka Kb B R : Nat} {C : Nat → Cl} {D : Dsk} (h : Sys w0 w (star (TkA Kb R C 0) (star (TkA Ka R C 0) (star (RkA R D 0) (star (TbA Tb B C) (star (TbA Ta B C) (star (DkA B D) emp))))))) :
    Sys w0 w (Qd Ta Ka B R C D 0 0 (star (PrA Tb B Kb R C 0) emp)) := by
  have h := h.swap.p1.p2.p3.p4.p2.p3.p1.p2.swap
  exact h.mono (fun _ _ h => star_mono (fun _ _ h => star_mono (fun _ _ h => star_mono (fun _ _ h => star_pr h) h) h) (star_pr h))
theorem Sys.nil (w : World) : Sys w w emp := ⟨fun _ => False, fun _ h => h, fun _ h => h.elim, Below.refl _ _⟩
end
theorem cs_at {w : World} {x : Addr} {k : Nat} {o : Opr} (h : OpAt w x k o) {w' : World} (hb : Below w.heap.size w w') : ∀ (j : Nat) (v : Value), o.cs[j]? = some v → w'.cell? ((x.add (k * 8)).add j) = some v := by
  intro j v hj
  have h1 := h.cs j v hj
  have h2 := World.block_lt_of_cell? w _ h1
  rw [add_add, hb.cell (by omega)]
  exact h1
theorem cs_one {w : World} {o : Opr} (h : o.Ok w) : ∃ q1 q2 q3, o.kv = .slice q1 q2 q3 := by
  obtain ⟨a, c, h⟩ := h.rb.len
  exact ⟨a, _, c, h⟩
/-- new blocks alone -/
theorem Bd.other {i N M N2 M2 : Nat} {C C2 : Nat → Cl} {D D2 : Dsk} (h : Bd (i + 1) C D N M) (k : Bd i C2 D2 N2 M2) : Bd (i + 1) C2 D N2 M := ⟨by have := k.n; omega, h.m, h.a, fun n => by have := k.h n; omega⟩
theorem Bd.zero {i N M : Nat} {C : Nat → Cl} {D : Dsk} (h : Bd i C D N M) : Bd i (fun _ => Cl.zero) D 0 M := ⟨Nat.zero_le _, h.m, h.a, fun _ => Nat.zero_le _⟩
/-- a new table in the first pair's place -/
theorem Sys.renew {w0 w w' : World} {Ta Ka T K B R N M : Nat} {C : Nat → Cl} {D : Dsk} {Q : Asn} (h : Sys w0 w (star (TbA T B (fun _ => Cl.zero)) (Qd Ta Ka B R C D N M Q))) (hQ : Good Q) (hk : TkA K R (fun _ => Cl.zero) 0 w' (fun b => b = K)) (hK : K = w.heap.size) (hb : Below w.heap.size w w') : Sys w0 w' (Qd T K B R (fun _ => Cl.zero) D 0 M Q) := by
  have h1 := Sys.new h ((good_tb _ _ _).star (good_qd hQ)) hk (fun b e => by rw [e, hK]; exact Nat.le_refl _) hb
  have h2 := h1.swap
  have h3 := h2.mono (fun _ _ h => star_pr h)
  exact h3.swap.drop
set_option maxRecDepth 100000 in
set_option maxHeartbeats 6400000 in
theorem plays_walk (W : World) (a : Option Addr) (len cap : Nat) (Z : Nat → Opr) (hl : len ≤ 1048576) (hz : IsOps W a len Z) : Calls Try.prog 7 #[.slice a len cap] W fun e W' => e = .returned (.bool true) ∧ Below W.heap.size W W' := by
  have HZ := hide hz
  clear hz
  go_enter Try.func7, Try.ntmps7
  go_wp2_with fail
  refine (new_any W).mono ?_
  rintro e w1 ⟨rfl, hd, hb⟩
  have H1 := hide (Sys.new (Sys.nil W) good_emp hd (fun b e => by rw [e]; exact Nat.le_refl _) hb)
  generalize W.heap.size = B at *
  clear hd hb
  go_wp2_with fail
  refine newE_nil.mono ?_
  rintro e w1 ⟨rfl, rfl⟩
  go_wp2_with fail
  refine (newE_any _ B).mono ?_
  rintro e w2 ⟨rfl, ht, hb⟩
  have H2 := hide (Sys.new (X := TbA w1.heap.size B (fun _ => Cl.zero)) H1.out ((good_dk _ _).star good_emp) ⟨ht, fun _ => Iff.rfl⟩ (fun b e => by rw [e]; exact Nat.le_refl _) hb)
  generalize w1.heap.size = Ta at *
  clear ht hb H1
  go_wp2_with fail
  refine (newE_any _ B).mono ?_
  rintro e w3 ⟨rfl, ht, hb⟩
  have H3 := hide (Sys.new (X := TbA w2.heap.size B (fun _ => Cl.zero)) H2.out ((good_tb _ _ _).star ((good_dk _ _).star good_emp)) ⟨ht, fun _ => Iff.rfl⟩ (fun b e => by rw [e]; exact Nat.le_refl _) hb)
  generalize w2.heap.size = Tb at *
  clear ht hb H2
  go_wp2_with fail
  refine (newR_any _).mono ?_
  rintro e w4 ⟨rfl, ht, hb⟩
  have H4 := hide (Sys.new H3.out ((good_tb _ _ _).star ((good_tb _ _ _).star ((good_dk _ _).star good_emp))) ht (fun b e => by rw [e]; exact Nat.le_refl _) hb)
  generalize w3.heap.size = R at *
  clear ht hb H3
  go_wp2_with fail
  refine (newK_any _ R).mono ?_
  rintro e w5 ⟨rfl, ht, hb⟩
  have H5 := hide (Sys.new H4.out ((good_rk _ _ _).star ((good_tb _ _ _).star ((good_tb _ _ _).star ((good_dk _ _).star good_emp)))) ht (fun b e => by rw [e]; exact Nat.le_refl _) hb)
  generalize w4.heap.size = Ka at *
  clear ht hb H4
  go_wp2_with fail
  refine (newK_any _ R).mono ?_
  rintro e w6 ⟨rfl, ht, hb⟩
  have H6 := hide (Sys.six (Sys.new H5.out ((good_tk _ _ _ _).star ((good_rk _ _ _).star ((good_tb _ _ _).star ((good_tb _ _ _).star ((good_dk _ _).star good_emp))))) ht (fun b e => by rw [e]; exact Nat.le_refl _) hb))
  generalize w5.heap.size = Kb at *
  clear ht hb H5
  go_upto_region 12 with fail
  have HB0 : Hid (Bd 0 (fun _ => Cl.zero) D0 0 0) := hide ⟨Nat.le_refl _, Nat.le_refl _, Nat.le_refl _, fun _ => Nat.le_refl _⟩
  go_loopw [4, 5, 7, 8, 9] (fun av bv rav rbv x wr => ∃ (k Ta Tb Ka Kb : Nat) (Ca Cb : Nat → Cl) (D : Dsk) (Na Nb M : Nat), k ≤ len ∧ x = .int .i64 (k : Int) ∧ av = tp Ta ∧ bv = tp Tb ∧ rav = tp Ka ∧ rbv = tp Kb ∧ Hid (Sys W wr (Qd Ta Ka B R Ca D Na M (star (PrA Tb B Kb R Cb Nb) emp))) ∧ Hid (Bd k Ca D Na M) ∧ Hid (Bd k Cb D Nb M)) (fun _ _ _ _ x _ => len - (intOf x).toNat)
  case atStart => exact ⟨0, Ta, Tb, Ka, Kb, _, _, _, _, _, _, by omega, rfl, rfl, rfl, rfl, rfl, H6, HB0, HB0⟩
  case round =>
  clear H6 HB0
  obtain ⟨k, Ta, Tb, Ka, Kb, Ca, Cb, D, Na, Nb, M, hk, rfl, rfl, rfl, rfl, rfl, KS, KA, KB⟩ := hrel
  by_cases hlt : k < len
  · have hd : decide ((k : Int) < (len : Int)) = true := by simp; omega
    have hk3 : (k : Int) < (len : Int) := by omega
    obtain ⟨x, rfl, hop⟩ := HZ.out k hlt
    have HC := hide (cs_at hop KS.out.bel)
    have HOk := hide hop.ok
    obtain ⟨q1, q2, q3, hkv⟩ := cs_one hop.ok
    clear hop
    have HG := hide ((good_pr (T := Tb) (B := B) (K := Kb) (R := R) (C := Cb) (N := Nb)).star good_emp)
    generalize Z k = o at *
    have HSx := hide (KS.out.below (good_qd HG.out) ((Below.refl wr.heap.size wr).alloc (Nat.le_refl _) (.cells o.cs.toArray 73)))
    have HRow := hide (heap_alloc_new wr (.cells o.cs.toArray 73))
    obtain ⟨kd, two, n, sec, se, b, ln, kv, ks⟩ := o
    simp only at hkv
    subst hkv
    unfold Opr.cs at HC HSx HRow
    simp only at HC HSx HRow
    clear KS
    go_upto_region 15 with (refine loadT Try.underlying73 rfl [.int .i64 kd, .bool two, .int .i64 n, .int .i64 sec, .int .i64 se, .int .u8 (b : Int), .int .i64 ln, .slice q1 q2 q3] (by kernel_rfl) rfl _ rfl (x.add (k * 8)) rfl HC.out ?_)
    have c0 : (wr.alloc (.cells #[.int .i64 kd, .bool two, .int .i64 n, .int .i64 sec, .int .i64 se, .int .u8 (b : Int), .int .i64 ln, .slice q1 q2 q3] 73)).cell? ⟨wr.heap.size, 0, none⟩ = some (.int .i64 kd) := by rw [cell_of_row _ _ _ _ _ _ HRow.out]; rfl
    have c1 : (wr.alloc (.cells #[.int .i64 kd, .bool two, .int .i64 n, .int .i64 sec, .int .i64 se, .int .u8 (b : Int), .int .i64 ln, .slice q1 q2 q3] 73)).cell? ⟨wr.heap.size, 1, none⟩ = some (.bool two) := by rw [cell_of_row _ _ _ _ _ _ HRow.out]; rfl
    have HC2 : Hid (∀ (j : Nat) (v : Value), [.int .i64 kd, .bool two, .int .i64 n, .int .i64 sec, .int .i64 se, .int .u8 (b : Int), .int .i64 ln, .slice q1 q2 q3][j]? = some v → (wr.alloc (.cells #[.int .i64 kd, .bool two, .int .i64 n, .int .i64 sec, .int .i64 se, .int .u8 (b : Int), .int .i64 ln, .slice q1 q2 q3] 73)).cell? ((⟨wr.heap.size, 0, none⟩ : Addr).add j) = some v) := hide (op_cells (xs := [.int .i64 kd, .bool two, .int .i64 n, .int .i64 sec, .int .i64 se, .int .u8 (b : Int), .int .i64 ln, .slice q1 q2 q3]) HRow.out)
    generalize wr.alloc (.cells #[.int .i64 kd, .bool two, .int .i64 n, .int .i64 sec, .int .i64 se, .int .u8 (b : Int), .int .i64 ln, .slice q1 q2 q3] 73) = w1 at *
    generalize wr.heap.size = g at *
    clear HC HRow
    by_cases k12 : kd = 12
    · subst k12
      clear HC2
      cases two
      · go_wp2_with fail
        refine (newE_any _ B).mono ?_
        rintro e w2 ⟨rfl, ht, hb⟩
        have H2 := hide (Sys.new (X := TbA w1.heap.size B (fun _ => Cl.zero)) HSx.out (good_qd HG.out) ⟨ht, fun _ => Iff.rfl⟩ (fun b e => by rw [e]; exact Nat.le_refl _) hb)
        have c2 := cell_belowN hb c1
        generalize w1.heap.size = T at *
        clear ht hb HSx c0 c1
        go_wp2_with fail
        refine (newK_any _ R).mono ?_
        rintro e w3 ⟨rfl, ht, hb⟩
        have H3 := hide (Sys.renew H2.out HG.out ht rfl hb)
        have HA := hide (KA.out.up.zero)
        have HB := hide (KB.out.up)
        generalize w2.heap.size = K at *
        clear ht hb H2 c2
        go_wp2
        go_roundw
        case rel =>
          first
            | exact ⟨k + 1, T, Tb, K, Kb, _, _, _, _, _, _, by omega, by go_num, rfl, rfl, rfl, rfl, H3, HA, HB⟩
            | ((repeat apply Exists.intro); refine ⟨?_, rfl⟩; exact ⟨k + 1, T, Tb, K, Kb, _, _, _, _, _, _, by omega, by go_num, rfl, rfl, rfl, rfl, H3, HA, HB⟩)
        case measure => simp [intOf]; omega
      · go_wp2_with fail
        refine (newE_any _ B).mono ?_
        rintro e w2 ⟨rfl, ht, hb⟩
        have H2 := hide ((Sys.new (X := TbA w1.heap.size B (fun _ => Cl.zero)) HSx.out (good_qd HG.out) ⟨ht, fun _ => Iff.rfl⟩ (fun b e => by rw [e]; exact Nat.le_refl _) hb).mono (fun _ _ h => star_mono (fun _ _ h => star_flip h) h))
        have c2 := cell_belowN hb c1
        generalize w1.heap.size = T at *
        clear ht hb HSx c0 c1
        go_wp2_with fail
        refine (newK_any _ R).mono ?_
        rintro e w3 ⟨rfl, ht, hb⟩
        have H3 := hide (Sys.renew H2.out (good_pr.star good_emp) ht rfl hb).flip
        have HA := hide (KA.out.up)
        have HB := hide (KB.out.up.zero)
        generalize w2.heap.size = K at *
        clear ht hb H2 c2
        go_wp2
        go_roundw
        case rel =>
          first
            | exact ⟨k + 1, Ta, T, Ka, K, _, _, _, _, _, _, by omega, by go_num, rfl, rfl, rfl, rfl, H3, HA, HB⟩
            | ((repeat apply Exists.intro); refine ⟨?_, rfl⟩; exact ⟨k + 1, Ta, T, Ka, K, _, _, _, _, _, _, by omega, by go_num, rfl, rfl, rfl, rfl, H3, HA, HB⟩)
        case measure => simp [intOf]; omega
    · have hk12 : (kd == 12) = false := by simp [k12]
      cases two
      · go_wp2_with (refine loadT Try.underlying73 rfl [.int .i64 kd, .bool false, .int .i64 n, .int .i64 sec, .int .i64 se, .int .u8 (b : Int), .int .i64 ln, .slice q1 q2 q3] (by kernel_rfl) rfl _ rfl ⟨g, 0, none⟩ rfl HC2.out ?_)
        refine (played_all HSx.out HG.out KA.out (by omega) ⟨kd, false, n, sec, se, b, ln, .slice q1 q2 q3, ks⟩ HOk.out).mono ?_
        rintro e w2 ⟨rfl, C', D', N', M', h1, h2⟩
        have H3 := hide h1
        have HA := hide h2
        have HB := hide (h2.other KB.out)
        clear h1 h2 HSx HC2 c0 c1
        go_wp2
        go_roundw
        case rel =>
          first
            | exact ⟨k + 1, Ta, Tb, Ka, Kb, _, _, _, _, _, _, by omega, by go_num, rfl, rfl, rfl, rfl, H3, HA, HB⟩
            | ((repeat apply Exists.intro); refine ⟨?_, rfl⟩; exact ⟨k + 1, Ta, Tb, Ka, Kb, _, _, _, _, _, _, by omega, by go_num, rfl, rfl, rfl, rfl, H3, HA, HB⟩)
        case measure => simp [intOf]; omega
      · go_wp2_with (refine loadT Try.underlying73 rfl [.int .i64 kd, .bool true, .int .i64 n, .int .i64 sec, .int .i64 se, .int .u8 (b : Int), .int .i64 ln, .slice q1 q2 q3] (by kernel_rfl) rfl _ rfl ⟨g, 0, none⟩ rfl HC2.out ?_)
        refine (played_all HSx.out.flip (good_pr.star good_emp) KB.out (by omega) ⟨kd, true, n, sec, se, b, ln, .slice q1 q2 q3, ks⟩ HOk.out).mono ?_
        rintro e w2 ⟨rfl, C', D', N', M', h1, h2⟩
        have H3 := hide h1.flip
        have HB := hide h2
        have HA := hide (h2.other KA.out)
        clear h1 h2 HSx HC2 c0 c1
        go_wp2
        go_roundw
        case rel =>
          first
            | exact ⟨k + 1, Ta, Tb, Ka, Kb, _, _, _, _, _, _, by omega, by go_num, rfl, rfl, rfl, rfl, H3, HA, HB⟩
            | ((repeat apply Exists.intro); refine ⟨?_, rfl⟩; exact ⟨k + 1, Ta, Tb, Ka, Kb, _, _, _, _, _, _, by omega, by go_num, rfl, rfl, rfl, rfl, H3, HA, HB⟩)
        case measure => simp [intOf]; omega
  · obtain rfl : k = len := by omega
    have hd : decide ((k : Int) < (k : Int)) = false := by simp
    have HG := hide ((good_pr (T := Tb) (B := B) (K := Kb) (R := R) (C := Cb) (N := Nb)).star good_emp)
    have b1 := KA.out.n
    have b2 := KB.out.n
    go_upto_region 30 with fail
    go_loopw [14] (fun x wx => ∃ j : Nat, j ≤ k ∧ x = .int .i64 (j : Int) ∧ Hid (Sys W wx (Qd Ta Ka B R Ca D Na M (star (PrA Tb B Kb R Cb Nb) emp)))) (fun x _ => k - (intOf x).toNat)
    case atStart => exact ⟨0, by omega, rfl, KS⟩
    case round =>
    clear KS
    obtain ⟨j, hj, rfl, KS⟩ := hrel
    by_cases hlt2 : j < k
    · have hd2 : decide ((j : Int) < (k : Int)) = true := by simp; omega
      have hk3 : (j : Int) < (k : Int) := by omega
      obtain ⟨x, rfl, hop⟩ := HZ.out j hlt2
      have HC := hide (cs_at hop KS.out.bel)
      obtain ⟨q1, q2, q3, hkv⟩ := cs_one hop.ok
      clear hop
      generalize Z j = o at *
      have HSx := hide (KS.out.below (good_qd HG.out) ((Below.refl wr.heap.size wr).alloc (Nat.le_refl _) (.cells o.cs.toArray 73)))
      have HRow := hide (heap_alloc_new wr (.cells o.cs.toArray 73))
      obtain ⟨kd, two, n, sec, se, b, ln, kv, ks⟩ := o
      simp only at hkv
      subst hkv
      unfold Opr.cs at HC HSx HRow
      simp only at HC HSx HRow
      clear KS
      go_upto_region 33 with (refine loadT Try.underlying73 rfl [.int .i64 kd, .bool two, .int .i64 n, .int .i64 sec, .int .i64 se, .int .u8 (b : Int), .int .i64 ln, .slice q1 q2 q3] (by kernel_rfl) rfl _ rfl (x.add (j * 8)) rfl HC.out ?_)
      have c0 : (wr.alloc (.cells #[.int .i64 kd, .bool two, .int .i64 n, .int .i64 sec, .int .i64 se, .int .u8 (b : Int), .int .i64 ln, .slice q1 q2 q3] 73)).cell? ⟨wr.heap.size, 0, none⟩ = some (.int .i64 kd) := by rw [cell_of_row _ _ _ _ _ _ HRow.out]; rfl
      have c2 : (wr.alloc (.cells #[.int .i64 kd, .bool two, .int .i64 n, .int .i64 sec, .int .i64 se, .int .u8 (b : Int), .int .i64 ln, .slice q1 q2 q3] 73)).cell? ⟨wr.heap.size, 2, none⟩ = some (.int .i64 n) := by rw [cell_of_row _ _ _ _ _ _ HRow.out]; rfl
      have c3 : (wr.alloc (.cells #[.int .i64 kd, .bool two, .int .i64 n, .int .i64 sec, .int .i64 se, .int .u8 (b : Int), .int .i64 ln, .slice q1 q2 q3] 73)).cell? ⟨wr.heap.size, 3, none⟩ = some (.int .i64 sec) := by rw [cell_of_row _ _ _ _ _ _ HRow.out]; rfl
      generalize wr.alloc (.cells #[.int .i64 kd, .bool two, .int .i64 n, .int .i64 sec, .int .i64 se, .int .u8 (b : Int), .int .i64 ln, .slice q1 q2 q3] 73) = w1 at *
      generalize wr.heap.size = g at *
      clear HC HRow
      by_cases k6 : kd = 6
      · subst k6
        go_wp2_with fail
        refine (played_raw HSx.out HG.out KA.out (by omega) 0 _ 0 0 false 0 (.slice none 0 0)).mono ?_
        rintro e w2 ⟨rfl, h1⟩
        have H3 := hide h1
        clear h1 HSx c0 c2 c3
        go_wp2
        go_roundw
        case rel =>
          first
            | exact ⟨j + 1, by omega, by go_num, H3⟩
            | ((repeat apply Exists.intro); refine ⟨?_, rfl⟩; exact ⟨j + 1, by omega, by go_num, H3⟩)
        case measure => simp [intOf]; omega
      · have hk6 : (kd == 6) = false := by simp [k6]
        go_wp2
        go_roundw
        case rel =>
          first
            | exact ⟨j + 1, by omega, by go_num, HSx⟩
            | ((repeat apply Exists.intro); refine ⟨?_, rfl⟩; exact ⟨j + 1, by omega, by go_num, HSx⟩)
        case measure => simp [intOf]; omega
    · obtain rfl : j = k := by omega
      go_wp2_with fail
      refine (played_list KS.out HG.out (by omega) 0 0 0 0 false 0 (.slice none 0 0)).mono ?_
      rintro e w1 ⟨rfl, h1⟩
      have H1 := hide h1.flip
      clear h1 KS
      go_wp2_with fail
      refine (played_list H1.out (good_pr.star good_emp) (by omega) 0 0 0 0 false 0 (.slice none 0 0)).mono ?_
      rintro e w2 ⟨rfl, h1⟩
      have H2 := hide h1.flip
      clear h1 H1
      go_wp2_with fail
      refine (played_acts H2.out HG.out 0 0 0 0 false 0 (.slice none 0 0)).mono ?_
      rintro e w3 ⟨rfl, h1⟩
      have H3 := hide h1.bel
      clear h1 H2
      go_wp2
      go_ret
      exact ⟨rfl, H3.out⟩
end Go.Proofs.Ytogpgchfaalikaa
