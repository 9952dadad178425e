import Derived.Test.YtihkkbbphdgagabK5
namespace Go.Proofs.Ytihkkbbphdgagab
open Go.RowKit

theorem ost_zero : (#[.bool false, .int .i64 0, .int .i64 0, .int .i64 0, .int .i64 0, .int .u32 0, .int .u32 0, .int .u32 0, .int .u32 0, .int .u32 0, .int .u32 0, .int .u32 0, .int .u32 0, .int .u32 0, .int .u32 0, .int .u32 0, .int .u32 0, .int .u32 0, .int .u32 0, .int .u32 0, .int .u32 0, .int .u32 0, .int .u32 0, .int .u32 0, .int .u32 0, .int .u32 0, .int .u32 0, .int .u32 0, .int .u32 0, .int .u32 0, .int .u32 0, .int .u32 0, .int .u32 0, .int .u32 0, .int .u32 0, .int .u32 0, .int .u32 0] : Array Value) = Ost.nil.cells.toArray := rfl
/-- the frame's numbers in a block of the call's own -/
theorem head_cells (w : World) (f : Fr) : (w.alloc (.cells f.head.toArray 39)).cell? ⟨w.heap.size, 2, none⟩ = some (.bool f.d) ∧ (w.alloc (.cells f.head.toArray 39)).cell? ⟨w.heap.size, 3, none⟩ = some (.int .i64 f.k) :=
  ⟨by rw [cell_of_row _ _ _ _ _ _ (heap_alloc_last _ _)]; rfl, by rw [cell_of_row _ _ _ _ _ _ (heap_alloc_last _ _)]; rfl⟩
set_option maxRecDepth 1000000 in
set_option maxHeartbeats 2000000 in
theorem tells_walk (a : Option Addr) (len cap : Nat) (O : Nat → Ost) (w : World) (hl : len ≤ maxLen) (hO : IsOps w a len O) :
    Calls Try.prog 4 #[.slice a len cap] w fun e w' => e = .returned (.bool true) ∧ Below w.heap.size w w' := by
  have hl2 : len ≤ 9223372036854775807 := by unfold maxLen at hl; omega
  clear hl
  go_enter Try.func4, Try.ntmps4
  go_wp2_with fail
  refine (two_any w 2 (by omega) (by omega)).mono ?_
  rintro e w1 ⟨B, G, rfl, hM, hB, hG, hb1⟩
  have h1 : Sx w w1 B G 2 two := ⟨hM, hB, hG, hb1⟩
  clear hM hB hG hb1
  go_wp2_with fail
  refine (clean_yes w1 B G 2 two 0 5 h1.mem Tw.two.on0 (by decide) (by decide) Tw.two.d).mono ?_
  rintro e w2 ⟨rfl, hg⟩
  have H2 := hide (And.intro (h1.go hg) (Tw.two.clean 5))
  have HO := hide hO
  clear h1 hg hO
  go_wp2
  go_loopw [6, 7, 8] (fun mk d i wr => ∃ (k : Nat) (m : Nat → Fr) (d' : Bool) (z : Int), k ≤ len ∧ k ≤ 4096 ∧ i = .int .i64 (k : Int) ∧ mk = .int .i64 z ∧ d = .bool d' ∧ Sx w wr B G 2 m ∧ Tw m d' z) (fun _ _ i _ => 4097 - (intOf i).toNat)
  case atStart => exact ⟨0, _, false, 5, by omega, by omega, rfl, rfl, rfl, H2.out⟩
  case round =>
    clear H2
    obtain ⟨k, m, d, z, hk, hk2, rfl, rfl, rfl, hS, hT⟩ := hrel
    by_cases hlt : k < len
    · by_cases hlt2 : k < 4096
      · obtain ⟨x, rfl, hx⟩ := HO.out.below hS.bel k hlt
        have hS3 := hS.below (freshO_below wr (O k))
        have hob := freshO_ob wr (O k)
        have hNG0 : wr.heap.size ≠ G := by have := hS.mem.glt; omega
        generalize O k = o at *
        clear hS
        have hd1 : decide ((k : Int) < (len : Int)) = true := by simp; omega
        have hd2 : decide ((k : Int) < 4096) = true := by simp; omega
        have hz : Ob (wr.alloc (.cells Ost.nil.cells.toArray 34)) wr.heap.size Ost.nil := Ob.new _ _
        rw [← ost_zero] at hz
        go_upto_region 13 with (first | refine load34 ?lw _ rfl (x.add (k * 37)) ?lx o ?lc ?_ | refine store34 ?hw _ _ rfl wr.heap.size o Ost.nil ?hx ?hy ?hz ?_)
        case lc => exact hx
        simp only [ost_zero]
        show Code.wp _ _ _ _ (freshO wr o)
        clear hz hx
        generalize freshO wr o = w3 at *
        generalize wr.heap.size = N at *
        obtain ⟨_, c1, c2, c3, c4, c5⟩ := hob.c
        by_cases g2 : o.kd = 2
        · rw [g2] at c1
          clear hob
          rcases d with _ | _
          · go_wp2_with fail
            refine (clean_not w3 B G 2 m 0 (100 + (k : Int)) hS3.mem hT.on0 (by omega) (by omega) hT.d).mono ?_
            rintro e w4 ⟨rfl, rfl⟩
            have hS4 := hS3
            have hT4 := hT
            obtain ⟨m4, hm4⟩ : ∃ m4, m = m4 := ⟨_, rfl⟩
            rw [hm4] at hS4 hT4
            clear hS3 hT hm4
            go_wp2_with fail
            refine (info_on w4 B G 2 m4 0 hS4.mem hT4.on0).mono ?_
            rintro e w5 ⟨rfl, hb5⟩
            have hS5 := hS4.below hb5
            have hS6 := hS5.below ((Below.refl _ _).alloc (Nat.le_refl _) (.cells (m4 0).head.toArray 39))
            have hh : (m4 0).head.toArray = #[.int .i64 (m4 0).s, .int .i64 ((m4 0).h : Nat), .bool false, .int .i64 z] := by simp [Fr.head, hT4.d, hT4.k]
            rw [hh] at hS6 ⊢
            have HX := hide (And.intro hS6 hT4)
            clear hS4 hS5 hS6 hb5 hT4 hh
            generalize (m4 0).s = s0 at *
            generalize (((m4 0).h : Nat) : Int) = h0 at *
            go_wp2
            go_roundw
            case rel => exact ⟨k + 1, m4, false, z, by omega, by omega, by go_num, rfl, rfl, HX.out⟩
            case measure => simp [intOf]; omega
          · go_wp2_with fail
            refine (clean_yes w3 B G 2 m 0 (100 + (k : Int)) hS3.mem hT.on0 (by omega) (by omega) hT.d).mono ?_
            rintro e w4 ⟨rfl, hg⟩
            have hS4 := hS3.go hg
            have hT4 := hT.clean (100 + (k : Int))
            generalize upd m 0 { m 0 with d := false, k := 100 + (k : Int) } = m4 at *
            clear hS3 hT hg
            go_wp2_with fail
            refine (info_on w4 B G 2 m4 0 hS4.mem hT4.on0).mono ?_
            rintro e w5 ⟨rfl, hb5⟩
            have hS5 := hS4.below hb5
            have hS6 := hS5.below ((Below.refl _ _).alloc (Nat.le_refl _) (.cells (m4 0).head.toArray 39))
            have hh : (m4 0).head.toArray = #[.int .i64 (m4 0).s, .int .i64 ((m4 0).h : Nat), .bool false, .int .i64 (100 + (k : Int))] := by simp [Fr.head, hT4.d, hT4.k]
            rw [hh] at hS6 ⊢
            have HX := hide (And.intro hS6 hT4)
            clear hS4 hS5 hS6 hb5 hT4 hh
            generalize (m4 0).s = s0 at *
            generalize (((m4 0).h : Nat) : Int) = h0 at *
            go_wp2
            go_roundw
            case rel => exact ⟨k + 1, m4, false, (100 + (k : Int)), by omega, by omega, by go_num, rfl, rfl, HX.out⟩
            case measure => simp [intOf]; omega
        by_cases g3 : o.kd = 3
        · rw [g3] at c1
          clear hob
          rcases d with _ | _
          · go_wp2_with fail
            refine (clean_not w3 B G 2 m 0 (100 + (k : Int)) hS3.mem hT.on0 (by omega) (by omega) hT.d).mono ?_
            rintro e w4 ⟨rfl, rfl⟩
            have hS4 := hS3
            have hT4 := hT
            obtain ⟨m4, hm4⟩ : ∃ m4, m = m4 := ⟨_, rfl⟩
            rw [hm4] at hS4 hT4
            clear hS3 hT hm4
            go_wp2_with fail
            refine (info_on w4 B G 2 m4 0 hS4.mem hT4.on0).mono ?_
            rintro e w5 ⟨rfl, hb5⟩
            have hS5 := hS4.below hb5
            have hS6 := hS5.below ((Below.refl _ _).alloc (Nat.le_refl _) (.cells (m4 0).head.toArray 39))
            have hh : (m4 0).head.toArray = #[.int .i64 (m4 0).s, .int .i64 ((m4 0).h : Nat), .bool false, .int .i64 z] := by simp [Fr.head, hT4.d, hT4.k]
            rw [hh] at hS6 ⊢
            have HX := hide (And.intro hS6 hT4)
            clear hS4 hS5 hS6 hb5 hT4 hh
            generalize (m4 0).s = s0 at *
            generalize (((m4 0).h : Nat) : Int) = h0 at *
            go_wp2
            go_roundw
            case rel => exact ⟨k + 1, m4, false, z, by omega, by omega, by go_num, rfl, rfl, HX.out⟩
            case measure => simp [intOf]; omega
          · go_wp2_with fail
            refine (clean_yes w3 B G 2 m 0 (100 + (k : Int)) hS3.mem hT.on0 (by omega) (by omega) hT.d).mono ?_
            rintro e w4 ⟨rfl, hg⟩
            have hS4 := hS3.go hg
            have hT4 := hT.clean (100 + (k : Int))
            generalize upd m 0 { m 0 with d := false, k := 100 + (k : Int) } = m4 at *
            clear hS3 hT hg
            go_wp2_with fail
            refine (info_on w4 B G 2 m4 0 hS4.mem hT4.on0).mono ?_
            rintro e w5 ⟨rfl, hb5⟩
            have hS5 := hS4.below hb5
            have hS6 := hS5.below ((Below.refl _ _).alloc (Nat.le_refl _) (.cells (m4 0).head.toArray 39))
            have hh : (m4 0).head.toArray = #[.int .i64 (m4 0).s, .int .i64 ((m4 0).h : Nat), .bool false, .int .i64 (100 + (k : Int))] := by simp [Fr.head, hT4.d, hT4.k]
            rw [hh] at hS6 ⊢
            have HX := hide (And.intro hS6 hT4)
            clear hS4 hS5 hS6 hb5 hT4 hh
            generalize (m4 0).s = s0 at *
            generalize (((m4 0).h : Nat) : Int) = h0 at *
            go_wp2
            go_roundw
            case rel => exact ⟨k + 1, m4, false, (100 + (k : Int)), by omega, by omega, by go_num, rfl, rfl, HX.out⟩
            case measure => simp [intOf]; omega
        by_cases g10 : o.kd = 10 ∧ o.fa = 0
        · rw [g10.1] at c1
          rw [g10.2] at c2
          clear hob
          rcases d with _ | _
          · go_wp2_with fail
            refine (clean_not w3 B G 2 m 0 (100 + (k : Int)) hS3.mem hT.on0 (by omega) (by omega) hT.d).mono ?_
            rintro e w4 ⟨rfl, rfl⟩
            have hS4 := hS3
            have hT4 := hT
            obtain ⟨m4, hm4⟩ : ∃ m4, m = m4 := ⟨_, rfl⟩
            rw [hm4] at hS4 hT4
            clear hS3 hT hm4
            go_wp2_with fail
            refine (info_on w4 B G 2 m4 0 hS4.mem hT4.on0).mono ?_
            rintro e w5 ⟨rfl, hb5⟩
            have hS5 := hS4.below hb5
            have hS6 := hS5.below ((Below.refl _ _).alloc (Nat.le_refl _) (.cells (m4 0).head.toArray 39))
            have hh : (m4 0).head.toArray = #[.int .i64 (m4 0).s, .int .i64 ((m4 0).h : Nat), .bool false, .int .i64 z] := by simp [Fr.head, hT4.d, hT4.k]
            rw [hh] at hS6 ⊢
            have HX := hide (And.intro hS6 hT4)
            clear hS4 hS5 hS6 hb5 hT4 hh
            generalize (m4 0).s = s0 at *
            generalize (((m4 0).h : Nat) : Int) = h0 at *
            go_wp2
            go_roundw
            case rel => exact ⟨k + 1, m4, false, z, by omega, by omega, by go_num, rfl, rfl, HX.out⟩
            case measure => simp [intOf]; omega
          · go_wp2_with fail
            refine (clean_yes w3 B G 2 m 0 (100 + (k : Int)) hS3.mem hT.on0 (by omega) (by omega) hT.d).mono ?_
            rintro e w4 ⟨rfl, hg⟩
            have hS4 := hS3.go hg
            have hT4 := hT.clean (100 + (k : Int))
            generalize upd m 0 { m 0 with d := false, k := 100 + (k : Int) } = m4 at *
            clear hS3 hT hg
            go_wp2_with fail
            refine (info_on w4 B G 2 m4 0 hS4.mem hT4.on0).mono ?_
            rintro e w5 ⟨rfl, hb5⟩
            have hS5 := hS4.below hb5
            have hS6 := hS5.below ((Below.refl _ _).alloc (Nat.le_refl _) (.cells (m4 0).head.toArray 39))
            have hh : (m4 0).head.toArray = #[.int .i64 (m4 0).s, .int .i64 ((m4 0).h : Nat), .bool false, .int .i64 (100 + (k : Int))] := by simp [Fr.head, hT4.d, hT4.k]
            rw [hh] at hS6 ⊢
            have HX := hide (And.intro hS6 hT4)
            clear hS4 hS5 hS6 hb5 hT4 hh
            generalize (m4 0).s = s0 at *
            generalize (((m4 0).h : Nat) : Int) = h0 at *
            go_wp2
            go_roundw
            case rel => exact ⟨k + 1, m4, false, (100 + (k : Int)), by omega, by omega, by go_num, rfl, rfl, HX.out⟩
            case measure => simp [intOf]; omega
        have r34 := hob.all
        have HQ : Hid (o.kd ≠ 2 ∧ o.kd ≠ 3 ∧ ¬ (o.kd = 10 ∧ o.fa = 0)) := hide ⟨g2, g3, g10⟩
        have HM := hide (And.intro hS3 (And.intro hT hob))
        clear hS3 hT
        have hNG : N ≠ G := hNG0
        clear hob hNG0
        by_cases g11 : o.kd = 10
        · have g12 : ¬ o.fa = 0 := fun e => g10 ⟨g11, e⟩
          rw [g11] at c1
          clear g10
          go_upto_region 20 with fail
          go_wp2_with (refine load34 ?pwA _ rfl ⟨N, 0, none⟩ ?pxA o ?pcA ?_)
          case pxA => rfl
          case pcA => intro j v hv; rw [add0]; exact HM.out.2.2.get hv
          refine (play_any w3 B G 2 m o HM.out.1.mem (by omega) HM.out.2.1.b).mono ?_
          rintro e w3b ⟨rfl, m4, he, hg⟩
          have hS4 := HM.out.1.go hg
          have hT4 := HM.out.2.1.step he HQ.out.1 HQ.out.2.1 HQ.out.2.2
          have hob4 : Ob w3b N o := HM.out.2.2.mod hg.2 (by have := HM.out.1.mem; intro e; exact hNG e)
          have HW := hide (And.intro hS4 (And.intro hT4 hob4))
          clear hS4 hT4 hob4 hg he
          rcases d with _ | _
          · go_wp2_with (refine load34 ?qwA _ rfl ⟨N, 0, none⟩ ?qxA o ?qcA ?_)
            case qxA => rfl
            case qcA => intro j v hv; rw [add0]; exact HW.out.2.2.get hv
            refine (writes_any w3b o).mono ?_
            rintro e w4 ⟨rfl, hb4⟩
            have hS4 := HW.out.1.below hb4
            have hT4 := HW.out.2.1
            rw [Bool.false_or] at hT4
            generalize wrB o = dw at *
            clear HW HM hb4
            rcases dw with _ | _
            · go_wp2_with fail
              refine (info_on w4 B G 2 m4 0 hS4.mem hT4.on0).mono ?_
              rintro e w5 ⟨rfl, hb5⟩
              have hS5 := hS4.below hb5
              have hS6 := hS5.below ((Below.refl _ _).alloc (Nat.le_refl _) (.cells (m4 0).head.toArray 39))
              have hh : (m4 0).head.toArray = #[.int .i64 (m4 0).s, .int .i64 ((m4 0).h : Nat), .bool false, .int .i64 z] := by simp [Fr.head, hT4.d, hT4.k]
              rw [hh] at hS6 ⊢
              have HX := hide (And.intro hS6 hT4)
              clear hS4 hS5 hS6 hb5 hT4 hh
              generalize (m4 0).s = s0 at *
              generalize (((m4 0).h : Nat) : Int) = h0 at *
              go_wp2
              go_roundw
              case rel => exact ⟨k + 1, m4, false, z, by omega, by omega, by go_num, rfl, rfl, HX.out⟩
              case measure => simp [intOf]; omega
            · go_wp2_with fail
              refine (info_on w4 B G 2 m4 0 hS4.mem hT4.on0).mono ?_
              rintro e w5 ⟨rfl, hb5⟩
              have hS5 := hS4.below hb5
              have hS6 := hS5.below ((Below.refl _ _).alloc (Nat.le_refl _) (.cells (m4 0).head.toArray 39))
              have hh : (m4 0).head.toArray = #[.int .i64 (m4 0).s, .int .i64 ((m4 0).h : Nat), .bool true, .int .i64 z] := by simp [Fr.head, hT4.d, hT4.k]
              rw [hh] at hS6 ⊢
              have HX := hide (And.intro hS6 hT4)
              clear hS4 hS5 hS6 hb5 hT4 hh
              generalize (m4 0).s = s0 at *
              generalize (((m4 0).h : Nat) : Int) = h0 at *
              go_wp2
              go_roundw
              case rel => exact ⟨k + 1, m4, true, z, by omega, by omega, by go_num, rfl, rfl, HX.out⟩
              case measure => simp [intOf]; omega
          · have hS4 := HW.out.1
            have hT4 := HW.out.2.1
            rw [Bool.true_or] at hT4
            obtain ⟨w4, hw4⟩ : ∃ w4, w3b = w4 := ⟨_, rfl⟩
            rw [hw4] at hS4 ⊢
            clear HW HM
            go_wp2_with fail
            refine (info_on w4 B G 2 m4 0 hS4.mem hT4.on0).mono ?_
            rintro e w5 ⟨rfl, hb5⟩
            have hS5 := hS4.below hb5
            have hS6 := hS5.below ((Below.refl _ _).alloc (Nat.le_refl _) (.cells (m4 0).head.toArray 39))
            have hh : (m4 0).head.toArray = #[.int .i64 (m4 0).s, .int .i64 ((m4 0).h : Nat), .bool true, .int .i64 z] := by simp [Fr.head, hT4.d, hT4.k]
            rw [hh] at hS6 ⊢
            have HX := hide (And.intro hS6 hT4)
            clear hS4 hS5 hS6 hb5 hT4 hh
            generalize (m4 0).s = s0 at *
            generalize (((m4 0).h : Nat) : Int) = h0 at *
            go_wp2
            go_roundw
            case rel => exact ⟨k + 1, m4, true, z, by omega, by omega, by go_num, rfl, rfl, HX.out⟩
            case measure => simp [intOf]; omega
        · clear g10
          have d2 : (o.kd == 2) = false := by simpa using g2
          have d3 : (o.kd == 3) = false := by simpa using g3
          have d10 : (o.kd == 10) = false := by simpa using g11
          go_upto_region 20 with fail
          clear d2 d3 d10
          go_wp2_with (refine load34 ?pwB _ rfl ⟨N, 0, none⟩ ?pxB o ?pcB ?_)
          case pxB => rfl
          case pcB => intro j v hv; rw [add0]; exact HM.out.2.2.get hv
          refine (play_any w3 B G 2 m o HM.out.1.mem (by omega) HM.out.2.1.b).mono ?_
          rintro e w3b ⟨rfl, m4, he, hg⟩
          have hS4 := HM.out.1.go hg
          have hT4 := HM.out.2.1.step he HQ.out.1 HQ.out.2.1 HQ.out.2.2
          have hob4 : Ob w3b N o := HM.out.2.2.mod hg.2 (by have := HM.out.1.mem; intro e; exact hNG e)
          have HW := hide (And.intro hS4 (And.intro hT4 hob4))
          clear hS4 hT4 hob4 hg he
          rcases d with _ | _
          · go_wp2_with (refine load34 ?qwB _ rfl ⟨N, 0, none⟩ ?qxB o ?qcB ?_)
            case qxB => rfl
            case qcB => intro j v hv; rw [add0]; exact HW.out.2.2.get hv
            refine (writes_any w3b o).mono ?_
            rintro e w4 ⟨rfl, hb4⟩
            have hS4 := HW.out.1.below hb4
            have hT4 := HW.out.2.1
            rw [Bool.false_or] at hT4
            generalize wrB o = dw at *
            clear HW HM hb4
            rcases dw with _ | _
            · go_wp2_with fail
              refine (info_on w4 B G 2 m4 0 hS4.mem hT4.on0).mono ?_
              rintro e w5 ⟨rfl, hb5⟩
              have hS5 := hS4.below hb5
              have hS6 := hS5.below ((Below.refl _ _).alloc (Nat.le_refl _) (.cells (m4 0).head.toArray 39))
              have hh : (m4 0).head.toArray = #[.int .i64 (m4 0).s, .int .i64 ((m4 0).h : Nat), .bool false, .int .i64 z] := by simp [Fr.head, hT4.d, hT4.k]
              rw [hh] at hS6 ⊢
              have HX := hide (And.intro hS6 hT4)
              clear hS4 hS5 hS6 hb5 hT4 hh
              generalize (m4 0).s = s0 at *
              generalize (((m4 0).h : Nat) : Int) = h0 at *
              go_wp2
              go_roundw
              case rel => exact ⟨k + 1, m4, false, z, by omega, by omega, by go_num, rfl, rfl, HX.out⟩
              case measure => simp [intOf]; omega
            · go_wp2_with fail
              refine (info_on w4 B G 2 m4 0 hS4.mem hT4.on0).mono ?_
              rintro e w5 ⟨rfl, hb5⟩
              have hS5 := hS4.below hb5
              have hS6 := hS5.below ((Below.refl _ _).alloc (Nat.le_refl _) (.cells (m4 0).head.toArray 39))
              have hh : (m4 0).head.toArray = #[.int .i64 (m4 0).s, .int .i64 ((m4 0).h : Nat), .bool true, .int .i64 z] := by simp [Fr.head, hT4.d, hT4.k]
              rw [hh] at hS6 ⊢
              have HX := hide (And.intro hS6 hT4)
              clear hS4 hS5 hS6 hb5 hT4 hh
              generalize (m4 0).s = s0 at *
              generalize (((m4 0).h : Nat) : Int) = h0 at *
              go_wp2
              go_roundw
              case rel => exact ⟨k + 1, m4, true, z, by omega, by omega, by go_num, rfl, rfl, HX.out⟩
              case measure => simp [intOf]; omega
          · have hS4 := HW.out.1
            have hT4 := HW.out.2.1
            rw [Bool.true_or] at hT4
            obtain ⟨w4, hw4⟩ : ∃ w4, w3b = w4 := ⟨_, rfl⟩
            rw [hw4] at hS4 ⊢
            clear HW HM
            go_wp2_with fail
            refine (info_on w4 B G 2 m4 0 hS4.mem hT4.on0).mono ?_
            rintro e w5 ⟨rfl, hb5⟩
            have hS5 := hS4.below hb5
            have hS6 := hS5.below ((Below.refl _ _).alloc (Nat.le_refl _) (.cells (m4 0).head.toArray 39))
            have hh : (m4 0).head.toArray = #[.int .i64 (m4 0).s, .int .i64 ((m4 0).h : Nat), .bool true, .int .i64 z] := by simp [Fr.head, hT4.d, hT4.k]
            rw [hh] at hS6 ⊢
            have HX := hide (And.intro hS6 hT4)
            clear hS4 hS5 hS6 hb5 hT4 hh
            generalize (m4 0).s = s0 at *
            generalize (((m4 0).h : Nat) : Int) = h0 at *
            go_wp2
            go_roundw
            case rel => exact ⟨k + 1, m4, true, z, by omega, by omega, by go_num, rfl, rfl, HX.out⟩
            case measure => simp [intOf]; omega
      · have HB := hide hS.bel
        have hd1 : decide ((k : Int) < (len : Int)) = true := by simp; omega
        have hd2 : decide ((k : Int) < 4096) = false := by simp; omega
        clear hS hT HO
        go_wp2
        go_ret
        exact ⟨rfl, HB.out⟩
    · have HB := hide hS.bel
      have hd1 : decide ((k : Int) < (len : Int)) = false := by simp; omega
      clear hS hT HO
      go_wp2
      go_ret
      exact ⟨rfl, HB.out⟩
end Go.Proofs.Ytihkkbbphdgagab
