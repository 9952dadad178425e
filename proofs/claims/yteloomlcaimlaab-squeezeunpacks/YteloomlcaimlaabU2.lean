import Derived.Test.YteloomlcaimlaabU1
namespace Go.Proofs.Yteloomlcaimlaab
open Go.RowKit
/-- what unfold leaves -/
def UfR (w : World) (p : List Nat) (e : Ending) (w' : World) : Prop :=
  ∃ r, e = .returned (.tuple #[r, .int .i64 ((uf p).2.2 : Nat), .int .i64 ((uf p).1 : Nat)]) ∧ Ow w' w.heap.size r (uf p).2.1 ∧ Below w.heap.size w w'
theorem UfR.bad {w w' : World} {p : List Nat} {c : Nat} (h : uf p = (c, [], 0)) (hb : Below w.heap.size w w') : UfR w p (.returned (.tuple #[.slice none 0 0, .int .i64 0, .int .i64 (c : Nat)])) w' :=
  ⟨.slice none 0 0, by rw [h]; rfl, by rw [h]; exact ow_none _ _, hb⟩
theorem uf_short {p : List Nat} (h : p.length < 4) : uf p = (20, [], 0) := by unfold uf; rw [if_pos h]
theorem uf_long {p : List Nat} (h : ¬ p.length < 4) (h2 : 65536 < four p) : uf p = (200, [], 0) := by unfold uf; rw [if_neg h, if_pos h2]
theorem uf_err {p : List Nat} (h : ¬ p.length < 4) (h2 : ¬ 65536 < four p) (h3 : (dc (four p) (p.drop 4) [] 0).1 ≠ 0) : uf p = ((dc (four p) (p.drop 4) [] 0).1, [], 0) := by unfold uf; rw [if_neg h, if_neg h2, if_pos h3]
theorem uf_few {p : List Nat} (h : ¬ p.length < 4) (h2 : ¬ 65536 < four p) (h3 : (dc (four p) (p.drop 4) [] 0).1 = 0) (h4 : (dc (four p) (p.drop 4) [] 0).2.1.length < four p) : uf p = (200, [], 0) := by
  unfold uf; rw [if_neg h, if_neg h2, if_neg (by rw [h3]; simp), if_pos h4]
theorem uf_yes {p : List Nat} (h : ¬ p.length < 4) (h2 : ¬ 65536 < four p) (h3 : (dc (four p) (p.drop 4) [] 0).1 = 0) (h4 : ¬ (dc (four p) (p.drop 4) [] 0).2.1.length < four p) : uf p = dc (four p) (p.drop 4) [] 0 := by
  unfold uf; rw [if_neg h, if_neg h2, if_neg (by rw [h3]; simp), if_neg h4]
section
variable (w : World)
set_option maxRecDepth 100000 in
set_option maxHeartbeats 2000000 in
theorem unfold_any (v : Value) (p : List Nat) (hv : Rb w w.heap.size v p) (hy : Bys p) (hl : p.length ≤ 140737488351232) :
    Calls Try.prog 26 #[v] w fun e w' => UfR w p e w' := by
  have HV := hide hv
  have HY := hide hy
  obtain ⟨ao, cap, rfl, hcap⟩ := hv.len
  obtain ⟨n, hn⟩ : ∃ n, p.length = n := ⟨_, rfl⟩
  have HLn := hide hn
  by_cases h4 : n < 4
  · have HU := hide (uf_short (by rw [hn]; exact h4))
    rw [hn] at hl HV hcap ⊢
    have h4I : (n : Int) < 4 := by omega
    clear hv hy hn
    go_enter Try.func26, Try.ntmps26
    go_wp2
    go_ret3
    exact UfR.bad HU.out (Below.refl _ _)
  obtain ⟨y, rfl, _, hc⟩ := hv.some_of (by omega)
  have c0 : w.cell? y = some (.int .u8 (p.getD 0 0 : Nat)) := by have := hc 0 (by omega); simpa [Addr.add] using this
  have c1 : w.cell? ⟨y.block, y.off + 1, none⟩ = some (.int .u8 (p.getD 1 0 : Nat)) := by simpa [Addr.add] using hc 1 (by omega)
  have c2 : w.cell? ⟨y.block, y.off + 2, none⟩ = some (.int .u8 (p.getD 2 0 : Nat)) := by simpa [Addr.add] using hc 2 (by omega)
  have c3 : w.cell? ⟨y.block, y.off + 3, none⟩ = some (.int .u8 (p.getD 3 0 : Nat)) := by simpa [Addr.add] using hc 3 (by omega)
  have b0 := hy.get 0
  have b1 := hy.get 1
  have b2 := hy.get 2
  have b3 := hy.get 3
  have hFe : four p = p.getD 0 0 + 256 * p.getD 1 0 + 65536 * p.getD 2 0 + 16777216 * p.getD 3 0 := rfl
  have HL4 := hide (show ¬ p.length < 4 by omega)
  obtain ⟨F, hF⟩ : ∃ F, four p = F := ⟨_, rfl⟩
  have HFe := hide hF
  rw [hF] at hFe
  rw [hn] at hl HV hcap ⊢
  generalize p.getD 0 0 = p0 at *
  generalize p.getD 1 0 = p1 at *
  generalize p.getD 2 0 = p2 at *
  generalize p.getD 3 0 = p3 at *
  have h4I : ¬ (n : Int) < 4 := by omega
  have i0 : (0 : Int) < n := by omega
  have i0n : 0 < n := by omega
  have i1 : (1 : Int) < n := by omega
  have i2 : (2 : Int) < n := by omega
  have i3 : (3 : Int) < n := by omega
  obtain ⟨s1, e1⟩ : ∃ s, 256 * p1 = s := ⟨_, rfl⟩
  obtain ⟨s2, e2⟩ : ∃ s, 65536 * p2 = s := ⟨_, rfl⟩
  obtain ⟨s3, e3⟩ : ∃ s, 16777216 * p3 = s := ⟨_, rfl⟩
  obtain ⟨t1, f1⟩ : ∃ s, p0 + s1 = s := ⟨_, rfl⟩
  obtain ⟨t2, f2⟩ : ∃ s, t1 + s2 = s := ⟨_, rfl⟩
  have x0 : IntKind.i64.wrap (p0 : Int) = (p0 : Int) := wi _ (by omega) (by omega)
  have x1 : IntKind.i64.wrap (p1 : Int) = (p1 : Int) := wi _ (by omega) (by omega)
  have x2 : IntKind.i64.wrap (p2 : Int) = (p2 : Int) := wi _ (by omega) (by omega)
  have x3 : IntKind.i64.wrap (p3 : Int) = (p3 : Int) := wi _ (by omega) (by omega)
  have z1 : IntKind.i64.wrap (256 * (p1 : Int)) = (s1 : Nat) := by rw [wi _ (by omega) (by omega)]; omega
  have z2 : IntKind.i64.wrap (65536 * (p2 : Int)) = (s2 : Nat) := by rw [wi _ (by omega) (by omega)]; omega
  have z3 : IntKind.i64.wrap (16777216 * (p3 : Int)) = (s3 : Nat) := by rw [wi _ (by omega) (by omega)]; omega
  have y1 : IntKind.i64.wrap ((p0 : Int) + (s1 : Int)) = (t1 : Nat) := by rw [wi _ (by omega) (by omega)]; omega
  have y2 : IntKind.i64.wrap ((t1 : Int) + (s2 : Int)) = (t2 : Nat) := by rw [wi _ (by omega) (by omega)]; omega
  have y3 : IntKind.i64.wrap ((t2 : Int) + (s3 : Int)) = (F : Nat) := by rw [wi _ (by omega) (by omega)]; omega
  have hFl : F < 4294967296 := by omega
  clear hv hy hn hc hF hFe e1 e2 e3 f1 f2
  go_enter Try.func26, Try.ntmps26
  go_upto_region 3 with fail
  go_quiet (fail)
  have HV1 : Hid (Rb (w.drewN nq) w.heap.size (.slice (some y) n cap) p) := HV
  have HB1 := hide (drewN_below w w.heap.size nq)
  clear c0 c1 c2 c3 x0 x1 x2 x3 z1 z2 z3 y1 y2 y3 HV1
  generalize w.drewN nq = w1 at *
  by_cases h6 : 65536 < F
  · have HU := hide (uf_long HL4.out (by rw [HFe.out]; exact h6))
    have h6I : (65536 : Int) < (F : Int) := by omega
    go_wp2
    go_ret3
    exact UfR.bad HU.out HB1.out
  have h6I : ¬ (65536 : Int) < (F : Int) := by omega
  have HUe := hide (fun h3 => uf_err HL4.out (by rw [HFe.out]; exact h6) h3)
  have HUn := hide (fun h3 h4 => uf_few HL4.out (by rw [HFe.out]; exact h6) h3 h4)
  have HUy := hide (fun h3 h4 => uf_yes HL4.out (by rw [HFe.out]; exact h6) h3 h4)
  rw [HFe.out] at HUe HUn HUy
  obtain ⟨D, hD⟩ : ∃ D, dc F (p.drop 4) [] 0 = D := ⟨_, rfl⟩
  have HD := hide hD
  rw [hD] at HUe HUn HUy
  clear hD
  go_upto_region 9 with fail
  go_loopw [6, 7, 8] (fun ov tv av wr => ∃ (pl : List Nat) (t a : Nat), Ow wr w.heap.size ov pl ∧ tv = .int .i64 (t : Nat) ∧ av = .int .i64 (a : Nat) ∧ dc F (p.drop a) pl t = D ∧ pl.length ≤ F ∧ a ≤ n ∧ t ≤ a ∧ Below w.heap.size w wr) (fun _ _ av _ => n - (intOf av).toNat)
  case atStart => exact ⟨[], 0, 4, ow_none _ _, rfl, rfl, HD.out, Nat.zero_le _, by omega, by omega, HB1.out⟩
  case round =>
    obtain ⟨pl, t, a, hO, rfl, rfl, hE, hpl, ha, hta, hB⟩ := hrel
    have HO := hide hO
    have HE := hide hE
    have HB := hide hB
    have HVr := hide (HV.out.keep hB)
    have hsr := hB.size
    obtain ⟨oa, ok, oc, rfl, HK, _⟩ := hO.len2
    rw [HK.out] at hpl
    clear hO hE hB HD
    by_cases hlt : a < n
    · have haI : (a : Int) < (n : Int) := by omega
      have hqn : p.drop a ≠ [] := by
        intro e
        have := congrArg List.length e
        rw [List.length_drop, HLn.out] at this
        simp at this
        omega
      have htok := token_any wr _ p a _ HVr.out HY.out (by rw [HLn.out]; exact hl) (by rw [HLn.out]; exact hlt)
      cases htk : tkn (p.drop a) with
      | none =>
        have HE2 := hide ((dc_short (n := F) (pl := pl) (t := t) hqn htk).symm.trans HE.out)
        have HU := hide (HUe.out (by rw [← HE2.out]; simp))
        rw [← HE2.out] at HU
        rw [htk] at htok
        simp only [Option.map_none, Option.getD_none] at htok
        rw [show (((0 : Nat) : Nat) : Int) = 0 from rfl] at htok
        have HTo := hide htok
        clear htok
        go_wp2_with fail
        refine HTo.out.mono ?_
        rintro e w2 ⟨rfl, rfl⟩
        go_wp2
        go_ret3
        exact UfR.bad HU.out HB.out
      | some x =>
        have htw := tkn_two htk
        obtain ⟨tk, mk, ds⟩ := x
        simp only at htw
        obtain ⟨g1, g2, g3, g4, g5⟩ := htw
        rw [List.length_drop, HLn.out] at g2
        have hb0 := HY.out.get a
        have hq0 : (p.drop a).getD 0 0 = p.getD a 0 := by rw [drop_get, Nat.add_zero]
        have hmk : mk ≤ 387 := by rw [hq0] at g4; omega
        rw [htk] at htok
        simp only [Option.map_some, Option.getD_some] at htok
        have HTo := hide htok
        have HTk := hide htk
        have htk0 : ((tk : Int) == 0) = false := by simp; omega
        clear htok htk g4
        go_wp2_with fail
        refine HTo.out.mono ?_
        rintro e w2 ⟨rfl, rfl⟩
        clear HTo
        by_cases hbig : F < ok + mk
        · have HE2 := hide ((dc_bad (n := F) (pl := pl) (t := t) hqn HTk.out (by rw [HK.out]; simp only; omega)).symm.trans HE.out)
          have HU := hide (HUe.out (by rw [← HE2.out]; simp))
          rw [← HE2.out] at HU
          have hbI : (F : Int) < (ok : Int) + (mk : Int) := by omega
          go_wp2
          go_ret3
          exact UfR.bad HU.out HB.out
        have hbI : ¬ (F : Int) < (ok : Int) + (mk : Int) := by omega
        have hcc := HVr.out.some_of (by rw [HLn.out]; omega)
        obtain ⟨y', hy', _, hcell⟩ := hcc
        cases hy'
        have d0 := hcell a (by rw [HLn.out]; exact hlt)
        have HCl := hide hcell
        have HTn : Hid (tkn (p.drop a) = if p.getD a 0 < 128 then (if p.getD a 0 + 2 ≤ p.length - a then some (p.getD a 0 + 2, p.getD a 0 + 1, 0) else none)
            else if p.length - a < 3 then none else some (3, p.getD a 0 - 124, p.getD (a + 1) 0 + 256 * p.getD (a + 2) 0 + 1)) := hide (by
          unfold tkn
          rw [drop_get, drop_get, drop_get, List.length_drop, Nat.add_zero])
        clear hcell hq0
        by_cases h128 : p.getD a 0 < 128
        · have hds : ds = 0 := by
            have := HTn.out
            rw [if_pos h128, HTk.out] at this
            split at this
            · simp only [Option.some.injEq, Prod.mk.injEq] at this; exact this.2.2
            · cases this
          have HE2 := hide ((dc_step (n := F) (pl := pl) (t := t) hqn HTk.out (by rw [HK.out]; simp only; omega)).symm.trans HE.out)
          have HJ : Hid (jn pl (p.drop a) (tk, mk, ds) = pl ++ cut p (a + 1) (a + tk)) := hide (by
            unfold jn
            rw [if_pos hds, cut_drop_cut])
          have htm := g5 hds
          obtain ⟨q, hq⟩ : ∃ q, p.getD a 0 = q := ⟨_, rfl⟩
          rw [hq] at d0 h128
          have hqI : (q : Int) < 128 := by omega
          obtain ⟨ye, hye⟩ : ∃ z, a + tk = z := ⟨_, rfl⟩
          obtain ⟨ya, hya⟩ : ∃ z, a + 1 = z := ⟨_, rfl⟩
          have HR := hide (HVr.out.sub (lo := ya) (hi := ye) (by omega) (by rw [HLn.out]; omega) (ye - ya) (cap - ya) rfl (by omega))
          rw [hye, hya] at HJ
          have x1 : IntKind.i64.wrap ((a : Int) + 1) = (ya : Nat) := by rw [wi _ (by omega) (by omega)]; omega
          have x2 : IntKind.i64.wrap ((a : Int) + (tk : Int)) = (ye : Nat) := by rw [wi _ (by omega) (by omega)]; omega
          have x3 : (a : Int) + 1 = (ya : Nat) := by omega
          have x4 : (a : Int) + (tk : Int) = (ye : Nat) := by omega
          have l1 : (ya : Int) ≤ (ye : Int) := by omega
          have l2 : (ye : Int) ≤ (cap : Int) := by omega
          have l3 : ¬ cap = ya := by omega
          have hcl : (cut p ya ye).length = mk := by rw [cut_len (by omega) (by rw [HLn.out]; omega)]; omega
          have HCl2 := hide hcl
          have HYe := hide hye
          have hyel : ye ≤ n := by omega
          have hyeg : a + 1 ≤ ye := by omega
          clear hq hye hya hcl htm g5 hds
          go_upto_region 24 with (at_builtin; refine app_rd rfl _ _ rfl w.heap.size _ pl rfl HO.out hsr _ _ (cut p ya ye) rfl HR.out (by rw [HK.out, HCl2.out]; omega) ?_; intro r3 w3 ho3 hg3 hk3; obtain ⟨a3, k3, c3, rfl, HK3, _⟩ := ho3.len2)
          rw [← HJ.out] at ho3
          have HO3 := hide ho3
          have HB3 := hide (HB.out.trans hk3.1)
          have HL3 : Hid ((jn pl (p.drop a) (tk, mk, ds)).length ≤ F) := hide (by rw [HJ.out, List.length_append, HK.out, HCl2.out]; omega)
          rw [List.drop_drop] at HE2
          clear ho3 hg3 hk3 HO HB HR
          go_wp2
          refine ⟨⟨_, t + 1, ye, HO3.out, by go_num, by first | rfl | go_num, ?_, HL3.out, hyel, by omega, HB3.out⟩, ?_⟩
          · rw [← HYe.out]; exact HE2.out
          · simp [intOf]; omega
        · have hT3 := HTn.out
          rw [if_neg h128, HTk.out] at hT3
          by_cases h3 : p.length - a < 3
          · rw [if_pos h3] at hT3; cases hT3
          rw [if_neg h3] at hT3
          simp only [Option.some.injEq, Prod.mk.injEq] at hT3
          obtain ⟨htk3, _, hdse⟩ := hT3
          obtain ⟨v1, hv1⟩ : ∃ z, a + 1 = z := ⟨_, rfl⟩
          obtain ⟨v2, hv2⟩ : ∃ z, a + 2 = z := ⟨_, rfl⟩
          rw [hv1, hv2] at hdse
          rw [HLn.out] at h3
          have d1 := HCl.out v1 (by rw [HLn.out]; omega)
          have d2 := HCl.out v2 (by rw [HLn.out]; omega)
          have bb1 := HY.out.get v1
          have bb2 := HY.out.get v2
          generalize p.getD v1 0 = u1 at *
          generalize p.getD v2 0 = u2 at *
          generalize p.getD a 0 = q at *
          have hqI : ¬ (q : Int) < 128 := by omega
          obtain ⟨m1, hm1⟩ : ∃ z, 256 * u2 = z := ⟨_, rfl⟩
          obtain ⟨m2, hm2⟩ : ∃ z, u1 + m1 = z := ⟨_, rfl⟩
          have x1 : IntKind.i64.wrap ((a : Int) + 1) = (v1 : Nat) := by rw [wi _ (by omega) (by omega)]; omega
          have x2 : IntKind.i64.wrap ((a : Int) + 2) = (v2 : Nat) := by rw [wi _ (by omega) (by omega)]; omega
          have x3 : IntKind.i64.wrap (u1 : Int) = (u1 : Int) := wi _ (by omega) (by omega)
          have x4 : IntKind.i64.wrap (u2 : Int) = (u2 : Int) := wi _ (by omega) (by omega)
          have x5 : IntKind.i64.wrap (256 * (u2 : Int)) = (m1 : Nat) := by rw [wi _ (by omega) (by omega)]; omega
          have x6 : IntKind.i64.wrap ((u1 : Int) + (m1 : Int)) = (m2 : Nat) := by rw [wi _ (by omega) (by omega)]; omega
          have x7 : IntKind.i64.wrap ((m2 : Int) + 1) = (ds : Nat) := by rw [wi _ (by omega) (by omega)]; omega
          have l1 : (v1 : Int) < (n : Int) := by omega
          have l2 : (v2 : Int) < (n : Int) := by omega
          have hds0 : ds ≠ 0 := by omega
          have hdsl : ds ≤ 65536 := by omega
          have HTk3 := hide htk3
          clear hv1 hv2 hm1 hm2 hdse htk3 HTn HCl g5
          go_upto_region 17 with fail
          go_quiet (fail)
          have HO3 : Hid (Ow (w2.drewN nq) w.heap.size (.slice oa ok oc) pl) := HO
          have HB3 := hide (HB.out.trans (drewN_below w2 _ nq))
          clear d0 d1 d2 x1 x2 x3 x4 x5 x6 x7 HO HB HVr hsr
          generalize w2.drewN nq = w3 at *
          have hs3 := HB3.out.size
          by_cases hdb : ok < ds
          · have HE2 := hide ((dc_bad (n := F) (pl := pl) (t := t) hqn HTk.out (.inl (by rw [HK.out]; exact hdb))).symm.trans HE.out)
            have HU := hide (HUe.out (by rw [← HE2.out]; simp))
            rw [← HE2.out] at HU
            have hdI : (ok : Int) < (ds : Int) := by omega
            go_wp2
            go_ret3
            exact UfR.bad HU.out HB3.out
          have hdI : ¬ (ok : Int) < (ds : Int) := by omega
          have HE2 := hide ((dc_step (n := F) (pl := pl) (t := t) hqn HTk.out (by rw [HK.out]; simp only; omega)).symm.trans HE.out)
          have HJ : Hid (jn pl (p.drop a) (tk, mk, ds) = cpy pl ds mk) := hide (if_neg hds0)
          rw [HJ.out, List.drop_drop] at HE2
          go_upto_region 21 with fail
          go_loopw [6, 12] (fun ov kv wr => ∃ k : Nat, kv = .int .i64 (k : Nat) ∧ k ≤ mk ∧ Ow wr w.heap.size ov (cpy pl ds k) ∧ Below w.heap.size w wr) (fun _ kv _ => mk - (intOf kv).toNat)
          case atStart => exact ⟨0, rfl, Nat.zero_le _, HO3.out, HB3.out⟩
          case round =>
            obtain ⟨k, rfl, hk, hOk, hBk⟩ := hrel
            have HOk := hide hOk
            have HBk := hide hBk
            have hsk := hBk.size
            obtain ⟨ka, kk, kc, rfl, HKk, _⟩ := hOk.len2
            have hcl := cpy_len k pl ds
            rw [HKk.out, HK.out] at hcl
            by_cases hkm : k < mk
            · have hkI : (k : Int) < (mk : Int) := by omega
              have hcz : (cpy pl ds k).length = kk := HKk.out
              obtain ⟨yy, rfl, _, hck⟩ := hOk.rb.some_of (by rw [hcz]; omega)
              have hcr := hck (kk - ds) (by rw [hcz]; omega)
              have HS := hide (cpy_succ k pl ds)
              rw [hcz] at HS
              generalize (cpy pl ds k).getD (kk - ds) 0 = c at *
              obtain ⟨j, hj⟩ : ∃ j, kk - ds = j := ⟨_, rfl⟩
              rw [hj] at hcr
              have hjI : IntKind.i64.wrap ((kk : Int) - (ds : Int)) = (j : Nat) := by rw [wi _ (by omega) (by omega)]; omega
              have hjI2 : (kk : Int) - (ds : Int) = (j : Nat) := by omega
              have hj1 : (j : Int) < (kk : Int) := by omega
              have hkk : kk ≤ 1000000 := by omega
              clear hOk hBk hck hcz hj hcl
              go_upto_region 22 with (at_builtin; refine app_rd rfl _ _ rfl w.heap.size _ (cpy pl ds k) rfl (HOk.out.alloc _) (by rw [al_size]; omega) _ _ [c] rfl (rb_one _ c) (by rw [HKk.out]; simp; omega) ?_; intro r4 w4 ho4 hg4 hk4; obtain ⟨a4, k4, c4, rfl, HK4, _⟩ := ho4.len2)
              have HO4 : Hid (Ow w4 w.heap.size (.slice a4 k4 c4) (cpy pl ds (k + 1))) := hide (by rw [HS.out]; exact ho4)
              have HB4 := hide (HBk.out.trans ((al_kp hsk _).trans hk4).1)
              clear ho4 hg4 hk4 HOk HBk hcr
              go_wp2
              go_roundw
              case rel => exact ⟨k + 1, by go_num, by omega, HO4.out, HB4.out⟩
              case measure => simp [intOf]; omega
            · obtain rfl : k = mk := by omega
              have hkI : ¬ (k : Int) < (k : Int) := by omega
              have hkk : kk ≤ F := by omega
              clear hOk hBk hcl
              go_wp2
              refine ⟨⟨_, t + 1, a + tk, HOk.out, by go_num, by go_num, HE2.out, by rw [HKk.out]; exact hkk, by omega, by omega, HBk.out⟩, ?_⟩
              simp [intOf]; omega
    · obtain rfl : a = n := by omega
      have HE2 : Hid ((0, pl, t) = D) := hide (by
        have := HE.out
        rw [List.drop_of_length_le (by rw [HLn.out]; exact Nat.le_refl _)] at this
        exact this)
      have haI : ¬ (a : Int) < (a : Int) := by omega
      by_cases hfew : ok < F
      · have HU := hide (HUn.out (by rw [← HE2.out]) (by rw [← HE2.out]; show pl.length < F; rw [HK.out]; exact hfew))
        have hfI : (ok : Int) < (F : Int) := by omega
        go_wp2
        go_ret3
        exact UfR.bad HU.out HB.out
      · have HU := hide (HUy.out (by rw [← HE2.out]) (by rw [← HE2.out]; show ¬ pl.length < F; rw [HK.out]; exact hfew))
        have hfI : ¬ (ok : Int) < (F : Int) := by omega
        go_wp2
        go_ret3
        refine ⟨.slice oa ok oc, ?_, ?_, HB.out⟩
        · rw [HU.out, ← HE2.out]; rfl
        · rw [HU.out, ← HE2.out]; exact HO.out
end
end Go.Proofs.Yteloomlcaimlaab
