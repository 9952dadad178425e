import Derived.Test.YtimfgjndgfjjgaaYC
namespace Go.Proofs.Ytimfgjndgfjjgaa
open Go.RowKit Go.Shelf

theorem ng_and {r : Int} {l : List (Int × (Nat × Rc))} (hg : ∀ y ∈ l, y.2.2.k = 2 ∧ y.2.2.o = 3 ∧ y.2.2.s = 11 ∧ bits .and .i64 y.2.2.r r = y.2.2.r) (k : Nat) (hk : k < l.length) : l[k].2.2.k = 2 ∧ l[k].2.2.o = 3 ∧ l[k].2.2.s = 11 ∧ bits .and .i64 l[k].2.2.r r = l[k].2.2.r := hg _ (List.getElem_mem hk)
set_option maxRecDepth 16000 in
set_option maxHeartbeats 8000000 in
theorem neverGrow_walk (r : Int) (a : Option Addr) (len cap : Nat) (O : Nat → Ov) (w : World) (_hl : len ≤ maxLen) (hO : IsOps w a len O) :
    Calls Try.prog 5 #[.int .i64 r, .slice a len cap] w fun e w' => e = .returned (.bool true) ∧ Below w.heap.size w w' := by
  have HO := hide hO
  clear hO
  go_enter Try.func5, Try.ntmps5
  by_cases hr0 : r < 0
  · go_wp2
    go_ret
    exact ⟨rfl, Below.refl _ _⟩
  by_cases hr1 : 15 < r
  · go_wp2
    go_ret
    exact ⟨rfl, Below.refl _ _⟩
  have hr : 0 ≤ r ∧ r ≤ 15 := ⟨by omega, by omega⟩
  have hb0 := (Below.refl w.heap.size w).alloc (Nat.le_refl _) (.cells #[.int .i64 2, .int .i64 3, .int .i64 11, .int .i64 r] 26)
  have HB0 := hide hb0
  clear hb0
  go_wp2_with fail
  generalize w.alloc (.cells #[.int .i64 2, .int .i64 3, .int .i64 11, .int .i64 r] 26) = w0 at *
  refine (begun_any w0 2 3 11 r ⟨by omega, by omega, by omega, by omega, by omega, by omega, hr.1, hr.2⟩).mono ?_
  rintro e w1 ⟨B, F, bk, rfl, h1, h2, h3, h4⟩
  have HS : Hid (Below w.heap.size w w1) := hide (HB0.out.trans (h3.mono HB0.out.size))
  have HF : Hid (∀ b, F b → w.heap.size ≤ b) := hide (fun b hb => Nat.le_trans HB0.out.size (h2 b hb))
  have HBk := hide h1
  have HBe := hide h4
  clear h1 h2 h3 h4 HB0
  go_wp2_with fail
  refine (derive_any w1 F B bk HBk.out 0 0 1 (-1) r).mono ?_
  rintro e w2 ⟨v, c, bk2, F2, rfl, hB2, hE2, hD2⟩
  obtain ⟨hcase, hng, f2, hsn⟩ := derive_ng hr HBe.out (fun i l hl => HBk.out.l48 hl) hD2
  have HSg : Hid (Sg (Ng r) w w2 B) := by
    refine hide ⟨F2, bk2, f2, hB2, hng, hsn, fun b hb => ?_, HS.out.trans (hE2.mod.below HF.out HS.out.size)⟩
    rcases hE2.new b hb with h | h
    · exact HF.out b h
    · exact Nat.le_trans HS.out.size h
  clear hB2 hE2 hD2 hng hsn HS HF HBk HBe
  go_upto_region 8 with fail
  rcases hcase with ⟨hg, rfl, rfl⟩ | ⟨hg, rfl, rfl⟩
  · have HG := hide hg
    have hgg : decide (bits .and .i64 r 4 = 0) = (bits .and .i64 r 4 == 0) := by cases h : (bits .and .i64 r 4 == 0) <;> simp_all
    rw [hg] at hgg
    have hg4 := of_decide_eq_true hgg
    clear hg
    go_wp2_with fail
    go_loopw [9] (fun x wr => ∃ k : Nat, k ≤ len ∧ k ≤ 1024 ∧ x = .int .i64 (k : Int) ∧ Hid (Sg (Ng r) w wr B)) (fun x _ => 1024 - (intOf x).toNat)
    case atStart => exact ⟨0, by omega, by omega, rfl, HSg⟩
    case round =>
    clear HSg
    obtain ⟨k, hk, hk2, rfl, K1⟩ := hrel
    by_cases hlt : k < len
    · by_cases hlt2 : k < 1024
      · have hd1 : decide ((k : Int) < (len : Int)) = true := by simp; omega
        have hd2 : decide ((k : Int) < 1024) = true := by simp; omega
        obtain ⟨x, rfl, hx⟩ := HO.out.below K1.out.bel k hlt
        have HT : Hid (∀ z, Sg (Ng r) w ((freshO wr (O k)).setCell ⟨wr.heap.size, 1, none⟩ (.int .i64 z)) B) := hide fun z => K1.out.below ((freshO_below wr (O k)).setCell (p := ⟨wr.heap.size, 1, none⟩) (Nat.le_refl _) _)
        have HS3 := hide (K1.out.below (freshO_below wr (O k)))
        have hob := freshO_ob wr (O k)
        generalize O k = o at *
        have hz : Ob (wr.alloc (.cells Ov.nil.cells.toArray 49)) wr.heap.size Ov.nil := Ob.new _ _
        have hkl : k * 12 + 11 < len * 12 := by omega
        go_upto_region 14 with (first | refine loadOp ?lwA _ rfl (x.add (k * 12)) ?lxA o ?lcA ?_ | refine storeOp ?hwA _ _ rfl wr.heap.size o Ov.nil ?hxA ?hyA ?hzA ?_)
        case lxA => rfl
        case lcA => exact hx
        case hxA => rfl
        case hyA => rfl
        case hzA => exact hz
        show Code.wp _ _ _ _ (freshO wr o)
        clear hz hx K1
        have hN1 := hob.get (j := 1) rfl
        have hNf : (freshO wr o).frozen? ⟨wr.heap.size, 1, none⟩ = false := frozen_of_row _ _ _ _ _ hob.out
        generalize freshO wr o = w3 at *
        generalize wr.heap.size = N at *
        clear hkl
        by_cases h3 : o.o.q = 3
        · have h3' : decide (o.o.q = 3) = true := by simp [h3]
          have hobX := hob.setq 4
          have HSX := hide (HT.out 4)
          rw [h3] at hN1
          clear HT HS3 hob
          go_upto_region 16 with fail
          generalize w3.setCell ⟨N, 1, none⟩ (.int .i64 4) = w3' at *
          clear hN1 hNf h3'
          have hN1 := 0
          have hNf := 0
          go_wp2_with (refine loadOp ?lwRA1 _ rfl ⟨N, 0, none⟩ ?lxRA1 { o with o := { o.o with q := 4 } } ?lcRA1 ?_)
          try (case lxRA1 => rfl)
          case lcRA1 => exact fun j v hv => by first | exact hobX.get hv | (rw [add0]; exact hobX.get hv)
          clear hobX hN1 hNf
          refine (HSX.out.play { o with o := { o.o with q := 4 } } (fun bk f bk' t1 t2 t3 t4 => t3.step hr t1.rk t2 t4 (show (4 : Int) ≠ 3 by decide))).mono ?_
          rintro e w4 ⟨rfl, hS5⟩
          have HS5 := hide hS5
          clear hS5 HSX
          go_wp2_with fail
          refine HS5.out.all.mono ?_
          rintro e w5 ⟨v, bk5, rfl, hrow, hb5, hng, hlen, F5, f5, hS6⟩
          have HS6 : Hid (Sg (Ng r) w w5 B) := hide ⟨F5, bk5, f5, hS6⟩
          have hh := HeldAt.of_row hrow
          have HG1 : Hid (∀ y ∈ Go.Proofs.Ytimfgjndgfjjgaa.hl bk5 16, y.2.2.k = 2 ∧ y.2.2.o = 3 ∧ y.2.2.s = 11 ∧ bits .and .i64 y.2.2.r r = y.2.2.r) := by
            refine hide fun y hy => ?_
            obtain ⟨i, _, e1, e2⟩ := mem_hl hy
            obtain ⟨⟨g1, g2, g3, g4, _⟩, _⟩ := hng i _ _ e2
            exact ⟨g1, g2, g3, g4⟩
          have hone : (bits .and .i64 r 4 == 0) = true → (Go.Proofs.Ytimfgjndgfjjgaa.hl bk5 16).length ≤ 1 := fun h => hng.one h 16
          replace hone := hone HG.out
          generalize Go.Proofs.Ytimfgjndgfjjgaa.hl bk5 16 = ls at *
          clear hrow hng hS6 HS5 hb5
          obtain ⟨L, hL⟩ : ∃ L, ls.length = L := ⟨_, rfl⟩
          obtain ⟨av, cv, hv, hcl⟩ := hh
          rw [hL] at hv hlen
          rw [hL] at hone
          subst hv
          have HL := hide hL
          have HC := hide hcl
          clear hL hcl
          have hdl : decide (1 < (L : Int)) = decide (1 < L) := by simp; omega
          have hdz : ¬ 1 < L := by omega
          go_upto_region 20 with fail
          go_wp2_with fail
          go_loopw [12] (fun x wr => ∃ k : Nat, k ≤ L ∧ x = .int .i64 (k : Int) ∧ Hid (Below w5.heap.size w5 wr)) (fun x _ => L - (intOf x).toNat)
          case atStart => exact ⟨0, by omega, rfl, Below.refl _ _⟩
          case round =>
          obtain ⟨k', hk', rfl, K3⟩ := hrel
          by_cases hlt3 : k' < L
          · have hlt3' : k' < ls.length := by rw [HL.out]; exact hlt3
            obtain ⟨g, rfl, h2, h3, h4, h5, h6, h7, h8⟩ := HC.out k' hlt3'
            obtain ⟨n1, n2, n3, n4⟩ := ng_and HG1.out k' hlt3'
            have hq : ∀ j, wr.cell? ⟨g, j, none⟩ = w5.cell? ⟨g, j, none⟩ := fun j => K3.out.cell h2
            rw [n1] at h5
            rw [n2] at h6
            rw [n3] at h7
            generalize ls[k'].2.2.r = rr at *
            have q2 : wr.cell? ⟨g, k' * 6 + 2, none⟩ = some (.int .i64 2) := by rw [hq]; exact h5
            have q3 : wr.cell? ⟨g, k' * 6 + 3, none⟩ = some (.int .i64 3) := by rw [hq]; exact h6
            have q4 : wr.cell? ⟨g, k' * 6 + 4, none⟩ = some (.int .i64 11) := by rw [hq]; exact h7
            have q5 : wr.cell? ⟨g, k' * 6 + 5, none⟩ = some (.int .i64 rr) := by rw [hq]; exact h8
            have hkl : (k' : Int) < (L : Int) := by omega
            have hwk : k' * 6 + 5 < L * 6 := by omega
            have hne : ¬ bits .and .i64 rr r ≠ rr := fun h => h n4
            have HA := hide (K3.out.alloc K3.out.size (.cells #[.int .i64 2, .int .i64 3, .int .i64 11, .int .i64 rr] 26))
            clear h2 h3 h4 h5 h6 h7 h8 hq n1 n2 n3
            go_wp2
            go_roundw
            case rel =>
              first
                | exact ⟨k' + 1, by omega, by go_num, HA⟩
                | ((repeat apply Exists.intro); refine ⟨?_, rfl⟩; exact ⟨k' + 1, by omega, by go_num, HA⟩)
            case measure => simp [intOf]; omega
          · have hd : decide ((k' : Int) < (L : Int)) = false := by simp; omega
            have HS7 := hide (HS6.out.below K3.out)
            clear HS6 K3 HC
            go_wp2
            go_roundw
            case rel =>
              first
                | exact ⟨k + 1, by omega, by omega, by go_num, HS7⟩
                | ((repeat apply Exists.intro); refine ⟨?_, rfl⟩; exact ⟨k + 1, by omega, by omega, by go_num, HS7⟩)
            case measure => simp [intOf]; omega
        · have h3' : decide (o.o.q = 3) = false := by simp [h3]
          have hobX := hob
          have HSX := HS3
          clear HT HS3 hob
          go_upto_region 16 with fail
          go_wp2_with (refine loadOp ?lwRA2 _ rfl ⟨N, 0, none⟩ ?lxRA2 o ?lcRA2 ?_)
          try (case lxRA2 => rfl)
          case lcRA2 => exact fun j v hv => by first | exact hobX.get hv | (rw [add0]; exact hobX.get hv)
          clear hobX hN1 hNf
          refine (HSX.out.play o (fun bk f bk' t1 t2 t3 t4 => t3.step hr t1.rk t2 t4 h3)).mono ?_
          rintro e w4 ⟨rfl, hS5⟩
          have HS5 := hide hS5
          clear hS5 HSX
          go_wp2_with fail
          refine HS5.out.all.mono ?_
          rintro e w5 ⟨v, bk5, rfl, hrow, hb5, hng, hlen, F5, f5, hS6⟩
          have HS6 : Hid (Sg (Ng r) w w5 B) := hide ⟨F5, bk5, f5, hS6⟩
          have hh := HeldAt.of_row hrow
          have HG1 : Hid (∀ y ∈ Go.Proofs.Ytimfgjndgfjjgaa.hl bk5 16, y.2.2.k = 2 ∧ y.2.2.o = 3 ∧ y.2.2.s = 11 ∧ bits .and .i64 y.2.2.r r = y.2.2.r) := by
            refine hide fun y hy => ?_
            obtain ⟨i, _, e1, e2⟩ := mem_hl hy
            obtain ⟨⟨g1, g2, g3, g4, _⟩, _⟩ := hng i _ _ e2
            exact ⟨g1, g2, g3, g4⟩
          have hone : (bits .and .i64 r 4 == 0) = true → (Go.Proofs.Ytimfgjndgfjjgaa.hl bk5 16).length ≤ 1 := fun h => hng.one h 16
          replace hone := hone HG.out
          generalize Go.Proofs.Ytimfgjndgfjjgaa.hl bk5 16 = ls at *
          clear hrow hng hS6 HS5 hb5
          obtain ⟨L, hL⟩ : ∃ L, ls.length = L := ⟨_, rfl⟩
          obtain ⟨av, cv, hv, hcl⟩ := hh
          rw [hL] at hv hlen
          rw [hL] at hone
          subst hv
          have HL := hide hL
          have HC := hide hcl
          clear hL hcl
          have hdl : decide (1 < (L : Int)) = decide (1 < L) := by simp; omega
          have hdz : ¬ 1 < L := by omega
          go_upto_region 20 with fail
          go_wp2_with fail
          go_loopw [12] (fun x wr => ∃ k : Nat, k ≤ L ∧ x = .int .i64 (k : Int) ∧ Hid (Below w5.heap.size w5 wr)) (fun x _ => L - (intOf x).toNat)
          case atStart => exact ⟨0, by omega, rfl, Below.refl _ _⟩
          case round =>
          obtain ⟨k', hk', rfl, K3⟩ := hrel
          by_cases hlt3 : k' < L
          · have hlt3' : k' < ls.length := by rw [HL.out]; exact hlt3
            obtain ⟨g, rfl, h2, h3, h4, h5, h6, h7, h8⟩ := HC.out k' hlt3'
            obtain ⟨n1, n2, n3, n4⟩ := ng_and HG1.out k' hlt3'
            have hq : ∀ j, wr.cell? ⟨g, j, none⟩ = w5.cell? ⟨g, j, none⟩ := fun j => K3.out.cell h2
            rw [n1] at h5
            rw [n2] at h6
            rw [n3] at h7
            generalize ls[k'].2.2.r = rr at *
            have q2 : wr.cell? ⟨g, k' * 6 + 2, none⟩ = some (.int .i64 2) := by rw [hq]; exact h5
            have q3 : wr.cell? ⟨g, k' * 6 + 3, none⟩ = some (.int .i64 3) := by rw [hq]; exact h6
            have q4 : wr.cell? ⟨g, k' * 6 + 4, none⟩ = some (.int .i64 11) := by rw [hq]; exact h7
            have q5 : wr.cell? ⟨g, k' * 6 + 5, none⟩ = some (.int .i64 rr) := by rw [hq]; exact h8
            have hkl : (k' : Int) < (L : Int) := by omega
            have hwk : k' * 6 + 5 < L * 6 := by omega
            have hne : ¬ bits .and .i64 rr r ≠ rr := fun h => h n4
            have HA := hide (K3.out.alloc K3.out.size (.cells #[.int .i64 2, .int .i64 3, .int .i64 11, .int .i64 rr] 26))
            clear h2 h3 h4 h5 h6 h7 h8 hq n1 n2 n3
            go_wp2
            go_roundw
            case rel =>
              first
                | exact ⟨k' + 1, by omega, by go_num, HA⟩
                | ((repeat apply Exists.intro); refine ⟨?_, rfl⟩; exact ⟨k' + 1, by omega, by go_num, HA⟩)
            case measure => simp [intOf]; omega
          · have hd : decide ((k' : Int) < (L : Int)) = false := by simp; omega
            have HS7 := hide (HS6.out.below K3.out)
            clear HS6 K3 HC
            go_wp2
            go_roundw
            case rel =>
              first
                | exact ⟨k + 1, by omega, by omega, by go_num, HS7⟩
                | ((repeat apply Exists.intro); refine ⟨?_, rfl⟩; exact ⟨k + 1, by omega, by omega, by go_num, HS7⟩)
            case measure => simp [intOf]; omega
      · have hd1 : decide ((k : Int) < (len : Int)) = true := by simp; omega
        have hd2 : decide ((k : Int) < 1024) = false := by simp; omega
        have HB9 := hide K1.out.bel
        clear K1
        go_wp2
        go_ret
        exact ⟨rfl, HB9.out⟩
    · have hd1 : decide ((k : Int) < (len : Int)) = false := by simp; omega
      have HB9 := hide K1.out.bel
      clear K1
      go_wp2
      go_ret
      exact ⟨rfl, HB9.out⟩
  · have HG := hide hg
    have hgg : decide (bits .and .i64 r 4 = 0) = (bits .and .i64 r 4 == 0) := by cases h : (bits .and .i64 r 4 == 0) <;> simp_all
    rw [hg] at hgg
    have hg4 := of_decide_eq_false hgg
    clear hg
    go_wp2_with fail
    go_loopw [9] (fun x wr => ∃ k : Nat, k ≤ len ∧ k ≤ 1024 ∧ x = .int .i64 (k : Int) ∧ Hid (Sg (Ng r) w wr B)) (fun x _ => 1024 - (intOf x).toNat)
    case atStart => exact ⟨0, by omega, by omega, rfl, HSg⟩
    case round =>
    clear HSg
    obtain ⟨k, hk, hk2, rfl, K1⟩ := hrel
    by_cases hlt : k < len
    · by_cases hlt2 : k < 1024
      · have hd1 : decide ((k : Int) < (len : Int)) = true := by simp; omega
        have hd2 : decide ((k : Int) < 1024) = true := by simp; omega
        obtain ⟨x, rfl, hx⟩ := HO.out.below K1.out.bel k hlt
        have HT : Hid (∀ z, Sg (Ng r) w ((freshO wr (O k)).setCell ⟨wr.heap.size, 1, none⟩ (.int .i64 z)) B) := hide fun z => K1.out.below ((freshO_below wr (O k)).setCell (p := ⟨wr.heap.size, 1, none⟩) (Nat.le_refl _) _)
        have HS3 := hide (K1.out.below (freshO_below wr (O k)))
        have hob := freshO_ob wr (O k)
        generalize O k = o at *
        have hz : Ob (wr.alloc (.cells Ov.nil.cells.toArray 49)) wr.heap.size Ov.nil := Ob.new _ _
        have hkl : k * 12 + 11 < len * 12 := by omega
        go_upto_region 14 with (first | refine loadOp ?lwB _ rfl (x.add (k * 12)) ?lxB o ?lcB ?_ | refine storeOp ?hwB _ _ rfl wr.heap.size o Ov.nil ?hxB ?hyB ?hzB ?_)
        case lxB => rfl
        case lcB => exact hx
        case hxB => rfl
        case hyB => rfl
        case hzB => exact hz
        show Code.wp _ _ _ _ (freshO wr o)
        clear hz hx K1
        have hN1 := hob.get (j := 1) rfl
        have hNf : (freshO wr o).frozen? ⟨wr.heap.size, 1, none⟩ = false := frozen_of_row _ _ _ _ _ hob.out
        generalize freshO wr o = w3 at *
        generalize wr.heap.size = N at *
        clear hkl
        by_cases h3 : o.o.q = 3
        · have h3' : decide (o.o.q = 3) = true := by simp [h3]
          have hobX := hob.setq 4
          have HSX := hide (HT.out 4)
          rw [h3] at hN1
          clear HT HS3 hob
          go_upto_region 16 with fail
          generalize w3.setCell ⟨N, 1, none⟩ (.int .i64 4) = w3' at *
          clear hN1 hNf h3'
          have hN1 := 0
          have hNf := 0
          go_wp2_with (refine loadOp ?lwRB1 _ rfl ⟨N, 0, none⟩ ?lxRB1 { o with o := { o.o with q := 4 } } ?lcRB1 ?_)
          try (case lxRB1 => rfl)
          case lcRB1 => exact fun j v hv => by first | exact hobX.get hv | (rw [add0]; exact hobX.get hv)
          clear hobX hN1 hNf
          refine (HSX.out.play { o with o := { o.o with q := 4 } } (fun bk f bk' t1 t2 t3 t4 => t3.step hr t1.rk t2 t4 (show (4 : Int) ≠ 3 by decide))).mono ?_
          rintro e w4 ⟨rfl, hS5⟩
          have HS5 := hide hS5
          clear hS5 HSX
          go_wp2_with fail
          refine HS5.out.all.mono ?_
          rintro e w5 ⟨v, bk5, rfl, hrow, hb5, hng, hlen, F5, f5, hS6⟩
          have HS6 : Hid (Sg (Ng r) w w5 B) := hide ⟨F5, bk5, f5, hS6⟩
          have hh := HeldAt.of_row hrow
          have HG1 : Hid (∀ y ∈ Go.Proofs.Ytimfgjndgfjjgaa.hl bk5 16, y.2.2.k = 2 ∧ y.2.2.o = 3 ∧ y.2.2.s = 11 ∧ bits .and .i64 y.2.2.r r = y.2.2.r) := by
            refine hide fun y hy => ?_
            obtain ⟨i, _, e1, e2⟩ := mem_hl hy
            obtain ⟨⟨g1, g2, g3, g4, _⟩, _⟩ := hng i _ _ e2
            exact ⟨g1, g2, g3, g4⟩
          have hone : (bits .and .i64 r 4 == 0) = true → (Go.Proofs.Ytimfgjndgfjjgaa.hl bk5 16).length ≤ 1 := fun h => hng.one h 16
          clear hone
          generalize Go.Proofs.Ytimfgjndgfjjgaa.hl bk5 16 = ls at *
          clear hrow hng hS6 HS5 hb5
          obtain ⟨L, hL⟩ : ∃ L, ls.length = L := ⟨_, rfl⟩
          obtain ⟨av, cv, hv, hcl⟩ := hh
          rw [hL] at hv hlen
          skip
          subst hv
          have HL := hide hL
          have HC := hide hcl
          clear hL hcl
          have hdl : decide (1 < (L : Int)) = decide (1 < L) := by simp; omega
          skip
          go_upto_region 20 with fail
          go_wp2_with fail
          go_loopw [12] (fun x wr => ∃ k : Nat, k ≤ L ∧ x = .int .i64 (k : Int) ∧ Hid (Below w5.heap.size w5 wr)) (fun x _ => L - (intOf x).toNat)
          case atStart => exact ⟨0, by omega, rfl, Below.refl _ _⟩
          case round =>
          obtain ⟨k', hk', rfl, K3⟩ := hrel
          by_cases hlt3 : k' < L
          · have hlt3' : k' < ls.length := by rw [HL.out]; exact hlt3
            obtain ⟨g, rfl, h2, h3, h4, h5, h6, h7, h8⟩ := HC.out k' hlt3'
            obtain ⟨n1, n2, n3, n4⟩ := ng_and HG1.out k' hlt3'
            have hq : ∀ j, wr.cell? ⟨g, j, none⟩ = w5.cell? ⟨g, j, none⟩ := fun j => K3.out.cell h2
            rw [n1] at h5
            rw [n2] at h6
            rw [n3] at h7
            generalize ls[k'].2.2.r = rr at *
            have q2 : wr.cell? ⟨g, k' * 6 + 2, none⟩ = some (.int .i64 2) := by rw [hq]; exact h5
            have q3 : wr.cell? ⟨g, k' * 6 + 3, none⟩ = some (.int .i64 3) := by rw [hq]; exact h6
            have q4 : wr.cell? ⟨g, k' * 6 + 4, none⟩ = some (.int .i64 11) := by rw [hq]; exact h7
            have q5 : wr.cell? ⟨g, k' * 6 + 5, none⟩ = some (.int .i64 rr) := by rw [hq]; exact h8
            have hkl : (k' : Int) < (L : Int) := by omega
            have hwk : k' * 6 + 5 < L * 6 := by omega
            have hne : ¬ bits .and .i64 rr r ≠ rr := fun h => h n4
            have HA := hide (K3.out.alloc K3.out.size (.cells #[.int .i64 2, .int .i64 3, .int .i64 11, .int .i64 rr] 26))
            clear h2 h3 h4 h5 h6 h7 h8 hq n1 n2 n3
            go_wp2
            go_roundw
            case rel =>
              first
                | exact ⟨k' + 1, by omega, by go_num, HA⟩
                | ((repeat apply Exists.intro); refine ⟨?_, rfl⟩; exact ⟨k' + 1, by omega, by go_num, HA⟩)
            case measure => simp [intOf]; omega
          · have hd : decide ((k' : Int) < (L : Int)) = false := by simp; omega
            have HS7 := hide (HS6.out.below K3.out)
            clear HS6 K3 HC
            go_wp2
            go_roundw
            case rel =>
              first
                | exact ⟨k + 1, by omega, by omega, by go_num, HS7⟩
                | ((repeat apply Exists.intro); refine ⟨?_, rfl⟩; exact ⟨k + 1, by omega, by omega, by go_num, HS7⟩)
            case measure => simp [intOf]; omega
        · have h3' : decide (o.o.q = 3) = false := by simp [h3]
          have hobX := hob
          have HSX := HS3
          clear HT HS3 hob
          go_upto_region 16 with fail
          go_wp2_with (refine loadOp ?lwRB2 _ rfl ⟨N, 0, none⟩ ?lxRB2 o ?lcRB2 ?_)
          try (case lxRB2 => rfl)
          case lcRB2 => exact fun j v hv => by first | exact hobX.get hv | (rw [add0]; exact hobX.get hv)
          clear hobX hN1 hNf
          refine (HSX.out.play o (fun bk f bk' t1 t2 t3 t4 => t3.step hr t1.rk t2 t4 h3)).mono ?_
          rintro e w4 ⟨rfl, hS5⟩
          have HS5 := hide hS5
          clear hS5 HSX
          go_wp2_with fail
          refine HS5.out.all.mono ?_
          rintro e w5 ⟨v, bk5, rfl, hrow, hb5, hng, hlen, F5, f5, hS6⟩
          have HS6 : Hid (Sg (Ng r) w w5 B) := hide ⟨F5, bk5, f5, hS6⟩
          have hh := HeldAt.of_row hrow
          have HG1 : Hid (∀ y ∈ Go.Proofs.Ytimfgjndgfjjgaa.hl bk5 16, y.2.2.k = 2 ∧ y.2.2.o = 3 ∧ y.2.2.s = 11 ∧ bits .and .i64 y.2.2.r r = y.2.2.r) := by
            refine hide fun y hy => ?_
            obtain ⟨i, _, e1, e2⟩ := mem_hl hy
            obtain ⟨⟨g1, g2, g3, g4, _⟩, _⟩ := hng i _ _ e2
            exact ⟨g1, g2, g3, g4⟩
          have hone : (bits .and .i64 r 4 == 0) = true → (Go.Proofs.Ytimfgjndgfjjgaa.hl bk5 16).length ≤ 1 := fun h => hng.one h 16
          clear hone
          generalize Go.Proofs.Ytimfgjndgfjjgaa.hl bk5 16 = ls at *
          clear hrow hng hS6 HS5 hb5
          obtain ⟨L, hL⟩ : ∃ L, ls.length = L := ⟨_, rfl⟩
          obtain ⟨av, cv, hv, hcl⟩ := hh
          rw [hL] at hv hlen
          skip
          subst hv
          have HL := hide hL
          have HC := hide hcl
          clear hL hcl
          have hdl : decide (1 < (L : Int)) = decide (1 < L) := by simp; omega
          skip
          go_upto_region 20 with fail
          go_wp2_with fail
          go_loopw [12] (fun x wr => ∃ k : Nat, k ≤ L ∧ x = .int .i64 (k : Int) ∧ Hid (Below w5.heap.size w5 wr)) (fun x _ => L - (intOf x).toNat)
          case atStart => exact ⟨0, by omega, rfl, Below.refl _ _⟩
          case round =>
          obtain ⟨k', hk', rfl, K3⟩ := hrel
          by_cases hlt3 : k' < L
          · have hlt3' : k' < ls.length := by rw [HL.out]; exact hlt3
            obtain ⟨g, rfl, h2, h3, h4, h5, h6, h7, h8⟩ := HC.out k' hlt3'
            obtain ⟨n1, n2, n3, n4⟩ := ng_and HG1.out k' hlt3'
            have hq : ∀ j, wr.cell? ⟨g, j, none⟩ = w5.cell? ⟨g, j, none⟩ := fun j => K3.out.cell h2
            rw [n1] at h5
            rw [n2] at h6
            rw [n3] at h7
            generalize ls[k'].2.2.r = rr at *
            have q2 : wr.cell? ⟨g, k' * 6 + 2, none⟩ = some (.int .i64 2) := by rw [hq]; exact h5
            have q3 : wr.cell? ⟨g, k' * 6 + 3, none⟩ = some (.int .i64 3) := by rw [hq]; exact h6
            have q4 : wr.cell? ⟨g, k' * 6 + 4, none⟩ = some (.int .i64 11) := by rw [hq]; exact h7
            have q5 : wr.cell? ⟨g, k' * 6 + 5, none⟩ = some (.int .i64 rr) := by rw [hq]; exact h8
            have hkl : (k' : Int) < (L : Int) := by omega
            have hwk : k' * 6 + 5 < L * 6 := by omega
            have hne : ¬ bits .and .i64 rr r ≠ rr := fun h => h n4
            have HA := hide (K3.out.alloc K3.out.size (.cells #[.int .i64 2, .int .i64 3, .int .i64 11, .int .i64 rr] 26))
            clear h2 h3 h4 h5 h6 h7 h8 hq n1 n2 n3
            go_wp2
            go_roundw
            case rel =>
              first
                | exact ⟨k' + 1, by omega, by go_num, HA⟩
                | ((repeat apply Exists.intro); refine ⟨?_, rfl⟩; exact ⟨k' + 1, by omega, by go_num, HA⟩)
            case measure => simp [intOf]; omega
          · have hd : decide ((k' : Int) < (L : Int)) = false := by simp; omega
            have HS7 := hide (HS6.out.below K3.out)
            clear HS6 K3 HC
            go_wp2
            go_roundw
            case rel =>
              first
                | exact ⟨k + 1, by omega, by omega, by go_num, HS7⟩
                | ((repeat apply Exists.intro); refine ⟨?_, rfl⟩; exact ⟨k + 1, by omega, by omega, by go_num, HS7⟩)
            case measure => simp [intOf]; omega
      · have hd1 : decide ((k : Int) < (len : Int)) = true := by simp; omega
        have hd2 : decide ((k : Int) < 1024) = false := by simp; omega
        have HB9 := hide K1.out.bel
        clear K1
        go_wp2
        go_ret
        exact ⟨rfl, HB9.out⟩
    · have hd1 : decide ((k : Int) < (len : Int)) = false := by simp; omega
      have HB9 := hide K1.out.bel
      clear K1
      go_wp2
      go_ret
      exact ⟨rfl, HB9.out⟩
end Go.Proofs.Ytimfgjndgfjjgaa
