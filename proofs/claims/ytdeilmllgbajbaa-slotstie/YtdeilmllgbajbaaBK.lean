import Derived.Test.YtdeilmllgbajbaaBJ
namespace Go.Proofs.Ytdeilmllgbajbaa
open Go.RowKit

theorem Kt.born {w1 : World} {F : Nat → Prop} {tn : Bool} {X : Nat} (hT : PT w1 F tn X []) : Kt (w1.alloc (.cells #[.slice none 0 0] 45)) (fun x => F x ∨ x = w1.heap.size) tn X w1.heap.size [] := by
  have hb := (Below.refl w1.heap.size w1).alloc (Nat.le_refl _) (.cells #[.slice none 0 0] 45)
  refine ⟨Tight.nil, F, fun x => x = w1.heap.size, hT.below hb, ⟨.slice none 0 0, heap_alloc_new w1 _, ⟨rfl, .inl ⟨rfl, rfl⟩⟩, by simp [Value.ownBlock], rfl, fun b e => by simp [Value.ownBlock] at e, fun b e => by rw [e]; simp⟩, fun x h1 h2 => by have := hT.lt x h1; omega, fun x => Iff.rfl⟩
theorem len_set {ts : List Kn} {k j : Nat} (h : ∀ t ∈ ts, t.m.length ≤ k) {t : Kn} (ht : t.m.length ≤ k + 1) : ∀ u ∈ ts.set j t, u.m.length ≤ k + 1 := by
  intro u hu
  rcases List.mem_or_eq_of_mem_set hu with h1 | h1
  · exact Nat.le_succ_of_le (h u h1)
  · rw [h1]; exact ht
theorem len_snoc {ts : List Kn} {k : Nat} (h : ∀ t ∈ ts, t.m.length ≤ k) {t : Kn} (ht : t.m.length ≤ k + 1) : ∀ u ∈ ts ++ [t], u.m.length ≤ k + 1 := by
  intro u hu
  rcases List.mem_append.1 hu with h1 | h1
  · exact Nat.le_succ_of_le (h u h1)
  · rw [List.mem_singleton.1 h1]; exact ht
set_option maxRecDepth 8000 in
set_option maxHeartbeats 6400000 in
theorem tie_walk (a1 : Option Addr) (len cap : Nat) (Z : Nat → Int × Int × Int × Int) (w : World) (hlen : len ≤ 4398046511104) (hZ : IsQuads w a1 len Z) :
    Calls Try.prog 4 #[.slice a1 len cap] w fun e w' => e = .returned (.bool true) ∧ Below w.heap.size w w' := by
  obtain ⟨i3, hi, hz, hs3, hb3⟩ := infoK
  have HZ := hide hZ
  clear hZ
  go_enter Try.func4, Try.ntmps4
  go_wp2_with fail
  refine (tied_any w).mono ?_
  rintro e w0 ⟨rfl, hb0⟩
  have HB0 := hide hb0
  clear hb0
  go_wp2_with fail
  refine (newP_any w0).mono ?_
  rintro e w1 ⟨rfl, hT1, hb1⟩
  have HK1 := hide (Kt.born (tn := false) hT1)
  have HL1 : Hid (∀ x, ((x = w0.heap.size ∨ x = w0.heap.size + 1 ∨ x = w0.heap.size + 2) ∨ x = w1.heap.size) → w.heap.size ≤ x) := hide (fun x hx => by have := HB0.out.size; have := hb1.size; omega)
  have HB1 : Hid (Below w.heap.size w (w1.alloc (.cells #[.slice none 0 0] 45))) := hide ((HB0.out.trans (hb1.mono HB0.out.size)).alloc (by have := HB0.out.size; have := hb1.size; omega) _)
  clear hT1 hb1 HB0
  go_wp2_with fail
  refine (newQ_any _).mono ?_
  rintro e w3 ⟨rfl, hT3, hb3'⟩
  have HK3 := hide (Kt.born (tn := true) hT3)
  have HB3 := hide (hb3'.alloc hb3'.size (.cells #[.slice none 0 0] 45))
  have HSz := hide hb3'.size
  clear hT3 hb3'
  have HS0 := hide (Sy.start HB1.out HK1.out HL1.out HK3.out (fun x hx => by have := HSz.out; omega) HB3.out)
  clear HK1 HL1 HK3 HB3
  clear HB1
  have e2 : (w1.alloc (.cells #[.slice none 0 0] 45)).heap.size = w1.heap.size + 1 := by simp
  have e3 : (w3.alloc (.cells #[.slice none 0 0] 45)).heap.size = w3.heap.size + 1 := by simp
  rw [e2, e3] at HS0
  clear e2 e3
  obtain ⟨g, c, hv, hc⟩ := HS0.out.cells rfl (by omega)
  simp only [Value.slice.injEq, Option.some.injEq, Addr.mk.injEq, and_true, true_and] at hv
  obtain ⟨rfl, rfl⟩ := hv
  obtain ⟨c0, c1, c2, c3⟩ := And.intro (hc 0 _ rfl 0 _ rfl) (And.intro (hc 0 _ rfl 1 _ rfl) (And.intro (hc 0 _ rfl 2 _ rfl) (hc 0 _ rfl 3 _ rfl)))
  simp only [Nat.zero_mul, Nat.zero_add] at c0 c1 c2 c3
  clear hc
  go_wp2_with fail
  refine (missing_f _ _ _).mono ?_
  rintro e w4 ⟨rfl, hb4⟩
  have HS1 := hide (HS0.out.below hb4)
  clear hb4 HS0 c0 c1 c2 c3 HSz
  obtain ⟨g, c, hv, hc⟩ := HS1.out.cells rfl (by omega)
  simp only [Value.slice.injEq, Option.some.injEq, Addr.mk.injEq, and_true, true_and] at hv
  obtain ⟨rfl, rfl⟩ := hv
  obtain ⟨c0, c1, c2, c3⟩ := And.intro (hc 1 _ rfl 0 _ rfl) (And.intro (hc 1 _ rfl 1 _ rfl) (And.intro (hc 1 _ rfl 2 _ rfl) (hc 1 _ rfl 3 _ rfl)))
  simp only [Nat.one_mul, Nat.reduceAdd, Nat.add_zero] at c0 c1 c2 c3
  clear hc
  go_wp2_with fail
  refine (missing_t _ _ _).mono ?_
  rintro e w5 ⟨rfl, hb5⟩
  have HS2 := hide (HS1.out.below hb5)
  clear hb5 HS1 c0 c1 c2 c3
  go_wp2
  go_loopw [3, 4] (fun v i wr => ∃ (k n : Nat) (ts : List Kn) (g c : Nat), k ≤ len ∧ i = .int .i64 k ∧ v = .slice (some ⟨g, 0, none⟩) n c ∧ 2 ≤ n ∧ n ≤ 6 ∧ Hid (n = ts.length) ∧ Hid (∀ u ∈ ts, u.m.length ≤ k) ∧ Hid (Sy w wr (.slice (some ⟨g, 0, none⟩) n c) n ts)) (fun _ i _ => len - (intOf i).toNat)
  case atStart => exact ⟨0, 2, _, _, 2, by omega, rfl, rfl, by omega, by omega, by simp [Hid], by intro u hu; simp at hu; rcases hu with rfl | rfl <;> exact Nat.le_refl _, HS2⟩
  case round =>
    obtain ⟨k, n, ts, g, c, hk, rfl, rfl, hn2, hn6, HN, HLn, HS⟩ := hrel
    clear HS2
    by_cases hlt : k < len
    · obtain ⟨x, rfl, z0, z1, z2, z3⟩ := quad_at HZ.out HS.out.bel hlt
      have HS3 := hide (HS.out.alloc (.cells #[.int .i64 (Z k).1, .int .i64 (Z k).2.1, .int .i64 (Z k).2.2.1, .int .i64 (Z k).2.2.2] 32))
      have bo := heap_alloc_new wr (.cells #[.int .i64 (Z k).1, .int .i64 (Z k).2.1, .int .i64 (Z k).2.2.1, .int .i64 (Z k).2.2.2] 32)
      have oA := (row4 bo).2.1
      clear HS
      generalize hWA : wr.alloc (.cells #[.int .i64 (Z k).1, .int .i64 (Z k).2.1, .int .i64 (Z k).2.2.1, .int .i64 (Z k).2.2.2] 32) = wA at HS3 bo oA
      go_wp2_with fail
      refine (rest_any _ _ n (by omega) hn6).mono ?_
      rintro e w6 ⟨j, hj, rfl, hw6⟩
      subst w6
      clear z0 z1 z2 z3
      generalize (Z k).1 = kd at *
      generalize (Z k).2.1 = tt at *
      generalize (Z k).2.2.1 = za at *
      generalize (Z k).2.2.2 = zb at *
      clear hWA
      obtain ⟨⟨tn, X, R, m⟩, ht⟩ : ∃ t, ts[j]? = some t := ⟨_, List.getElem?_eq_getElem (by rw [← HN.out]; exact hj)⟩
      have HLt : Hid (m.length ≤ k) := hide (HLn.out _ (List.mem_of_getElem? ht))
      have HT := hide ht
      obtain ⟨g', c', hv, hc⟩ := HS3.out.cells HN.out (by omega)
      simp only [Value.slice.injEq, Option.some.injEq, Addr.mk.injEq, and_true, true_and] at hv
      obtain ⟨rfl, rfl⟩ := hv
      clear ht
      cases tn
      · obtain ⟨c0, c1, c2, c3⟩ : wA.cell? ⟨g, j * 4, none⟩ = some (.bool false) ∧ wA.cell? ⟨g, j * 4 + 1, none⟩ = some (.pointer (some ⟨X, 0, none⟩)) ∧ wA.cell? ⟨g, j * 4 + 2, none⟩ = some (.pointer none) ∧ wA.cell? ⟨g, j * 4 + 3, none⟩ = some (.pointer (some ⟨R, 0, none⟩)) :=
          ⟨hc j _ HT.out 0 _ rfl, hc j _ HT.out 1 _ rfl, hc j _ HT.out 2 _ rfl, hc j _ HT.out 3 _ rfl⟩
        clear hc
        have hbA := (Below.refl wA.heap.size wA).alloc (Nat.le_refl _) (.cells #[.bool false, .pointer (some ⟨X, 0, none⟩), .pointer none, .pointer (some ⟨R, 0, none⟩)] 47)
        have HSB := hide (HS3.out.below hbA)
        have boB := (hbA.block _ (heap_lt bo)).trans bo
        have bsB := heap_alloc_new wA (.cells #[.bool false, .pointer (some ⟨X, 0, none⟩), .pointer none, .pointer (some ⟨R, 0, none⟩)] 47)
        obtain ⟨o0, o1, o2, o3⟩ := row4 boB
        obtain ⟨s0, s1, s2, s3⟩ := row4 bsB
        go_upto_region 12 with fail
        clear c0 c1 c2 c3 HS3 hbA bo oA
        generalize wA.alloc (.cells #[.bool false, .pointer (some ⟨X, 0, none⟩), .pointer none, .pointer (some ⟨R, 0, none⟩)] 47) = wB at *
        obtain ⟨GT, hT, hset⟩ := HSB.out.one HT.out
        have HT1 := hide hT
        have HSet := hide hset
        have hml : m.length < 4398046511104 := by have := HLt.out; omega
        have HL0 : Hid (∀ u ∈ ts, u.m.length ≤ k + 1) := hide (fun u hu => Nat.le_succ_of_le (HLn.out u hu))
        clear hT hset boB bsB
        by_cases k1 : kd = 1
        · subst k1
          go_wp2_with fail
          refine (ties_f _ GT X R m HT1.out hml 1 tt za zb).mono ?_
          rintro e w6 ⟨rfl, m', G6, hT6, hx6, hl6⟩
          have HS6 := hide (HSet.out _ m' G6 hT6 hx6)
          have HL6 : Hid (∀ u ∈ ts.set j ⟨false, X, R, m'⟩, u.m.length ≤ k + 1) := hide (len_set HLn.out (by have := HLt.out; show m'.length ≤ k + 1; omega))
          clear hT6 hx6 hl6 HSB HT1 HSet o0 o1 o2 o3 s0 s1 s2 s3
          go_wp2
          go_roundw
          case rel => exact ⟨k + 1, n, _, g, c, by omega, by go_num, rfl, hn2, hn6, by first | exact HN | (simp only [Hid, List.length_set]; exact HN.out), HL6, HS6⟩
          case measure => simp [intOf]; omega
        have n1 : (kd == 1) = false := by simp [k1]
        by_cases k4 : kd = 4
        · subst k4
          clear k1
          go_wp2_with fail
          refine (ties_f _ GT X R m HT1.out hml 4 tt za zb).mono ?_
          rintro e w6 ⟨rfl, m', G6, hT6, hx6, hl6⟩
          have HS6 := hide (HSet.out _ m' G6 hT6 hx6)
          have HL6 : Hid (∀ u ∈ ts.set j ⟨false, X, R, m'⟩, u.m.length ≤ k + 1) := hide (len_set HLn.out (by have := HLt.out; show m'.length ≤ k + 1; omega))
          clear hT6 hx6 hl6 HSB HT1 HSet o0 o1 o2 o3 s0 s1 s2 s3
          go_wp2
          go_roundw
          case rel => exact ⟨k + 1, n, _, g, c, by omega, by go_num, rfl, hn2, hn6, by first | exact HN | (simp only [Hid, List.length_set]; exact HN.out), HL6, HS6⟩
          case measure => simp [intOf]; omega
        have n4 : (kd == 4) = false := by simp [k4]
        by_cases k2 : kd = 2
        · subst k2
          clear k1 k4
          go_wp2_with fail
          refine (looks_f _ GT X R m HT1.out hml 2 tt za zb).mono ?_
          rintro e w6 ⟨rfl, G6, hT6, hx6⟩
          have HS6 := hide (HSet.out _ m G6 hT6 hx6)
          have HL6 : Hid (∀ u ∈ ts.set j ⟨false, X, R, m⟩, u.m.length ≤ k + 1) := hide (len_set HLn.out (by have := HLt.out; show m.length ≤ k + 1; omega))
          clear hT6 hx6 HSB HT1 HSet o0 o1 o2 o3 s0 s1 s2 s3
          go_wp2
          go_roundw
          case rel => exact ⟨k + 1, n, _, g, c, by omega, by go_num, rfl, hn2, hn6, by first | exact HN | (simp only [Hid, List.length_set]; exact HN.out), HL6, HS6⟩
          case measure => simp [intOf]; omega
        have n2 : (kd == 2) = false := by simp [k2]
        by_cases k3 : kd = 3
        · subst k3
          clear k1 k4 k2
          go_wp2_with fail
          refine (looks_f _ GT X R m HT1.out hml 3 tt za zb).mono ?_
          rintro e w6 ⟨rfl, G6, hT6, hx6⟩
          have HS6 := hide (HSet.out _ m G6 hT6 hx6)
          have HL6 : Hid (∀ u ∈ ts.set j ⟨false, X, R, m⟩, u.m.length ≤ k + 1) := hide (len_set HLn.out (by have := HLt.out; show m.length ≤ k + 1; omega))
          clear hT6 hx6 HSB HT1 HSet o0 o1 o2 o3 s0 s1 s2 s3
          go_wp2
          go_roundw
          case rel => exact ⟨k + 1, n, _, g, c, by omega, by go_num, rfl, hn2, hn6, by first | exact HN | (simp only [Hid, List.length_set]; exact HN.out), HL6, HS6⟩
          case measure => simp [intOf]; omega
        have n3 : (kd == 3) = false := by simp [k3]
        by_cases k5 : kd = 5
        · subst k5
          clear k1 k4 k2 k3
          go_wp2_with fail
          refine (looks_f _ GT X R m HT1.out hml 5 tt za zb).mono ?_
          rintro e w6 ⟨rfl, G6, hT6, hx6⟩
          have HS6 := hide (HSet.out _ m G6 hT6 hx6)
          have HL6 : Hid (∀ u ∈ ts.set j ⟨false, X, R, m⟩, u.m.length ≤ k + 1) := hide (len_set HLn.out (by have := HLt.out; show m.length ≤ k + 1; omega))
          clear hT6 hx6 HSB HT1 HSet o0 o1 o2 o3 s0 s1 s2 s3
          go_wp2
          go_roundw
          case rel => exact ⟨k + 1, n, _, g, c, by omega, by go_num, rfl, hn2, hn6, by first | exact HN | (simp only [Hid, List.length_set]; exact HN.out), HL6, HS6⟩
          case measure => simp [intOf]; omega
        have n5 : (kd == 5) = false := by simp [k5]
        clear k1 k4 k2 k3 k5
        by_cases k6 : kd = 6
        · subst k6
          by_cases h6 : n < 6
          · go_wp2_with fail
            refine (turn_f _ GT X R m HT1.out hml).mono ?_
            rintro e w6 ⟨C, U, G6, rfl, hT6, hlo6, hb6⟩
            have HS6 : Hid (Sy w w6 (.slice (some ⟨g, 0, none⟩) n c) n (ts ++ [⟨true, C, U, sw m⟩])) := hide (HSB.out.add (by rw [HN.out]; exact Nat.le_refl _) hT6 hlo6 hb6)
            have HL6 : Hid (∀ u ∈ ts ++ [⟨true, C, U, sw m⟩], u.m.length ≤ k + 1) := hide (len_snoc HLn.out (by have := HLt.out; show (sw m).length ≤ k + 1; rw [sw_length]; omega))
            have HS7 := hide (HS6.out.alloc (.cells #[.bool true, .pointer none, .pointer (some ⟨C, 0, none⟩), .pointer (some ⟨U, 0, none⟩)] 47))
            have bz := heap_alloc_new w6 (.cells #[.bool true, .pointer none, .pointer (some ⟨C, 0, none⟩), .pointer (some ⟨U, 0, none⟩)] 47)
            obtain ⟨y0, y1, y2, y3⟩ := row4 bz
            clear hT6 hlo6 hb6 HSB HT1 HSet o0 o1 o2 o3 s0 s1 s2 s3 HS6
            go_upto_region 23 with fail
            generalize hw7 : w6.alloc (.cells #[.bool true, .pointer none, .pointer (some ⟨C, 0, none⟩), .pointer (some ⟨U, 0, none⟩)] 47) = w7 at *
            have hs7 : w6.heap.size < w7.heap.size := by rw [← hw7]; simp
            clear hw7
            go_wp2_with fail
            refine (missing_t _ C U).mono ?_
            rintro e w8 ⟨rfl, hb8⟩
            have HS8 := hide (HS7.out.below hb8)
            have bz8 := (hb8.block _ hs7).trans bz
            clear y0 y1 y2 y3 hb8 bz HS7 hs7
            obtain ⟨y0, y1, y2, y3⟩ := row4 bz8
            have HRw := hide (HS8.out.rowS HN.out)
            clear bz8
            go_upto_region 26 with (at_builtin; refine wpList_append_own_at _ rfl _ _ 48 rfl 0 47 i3 (.agg #[.bool false, .pointer none, .pointer none, .pointer none]) 4 32 Try.underlying48 hi hz hs3 hb3 rfl (by decide) (.slice (some ⟨g, 0, none⟩) n c) n (encK ts) rfl (HRw.out.alloc _) ⟨w8.heap.size, 0, none⟩ 1 1 [.bool true, .pointer none, .pointer (some ⟨C, 0, none⟩), .pointer (some ⟨U, 0, none⟩)] rfl rfl (cell_four_new _ _ _ _ _ _) (by simp [Value.oneCell']) (by unfold maxLen; omega) (by omega) (by omega) ?_; intro v2 w9 ho9 hg9 _ hl9; obtain ⟨g2, c2, rfl⟩ := ownsRow_succ' ho9; have HS9 := hide ((HS8.out.alloc _).app HN.out ho9 hg9 hl9); clear ho9 hg9 hl9)
            clear y0 y1 y2 y3 HS8 HRw
            go_wp2
            go_roundw
            case rel => exact ⟨k + 1, n + 1, _, g2, c2, by omega, by go_num, rfl, by omega, by omega, by simp only [Hid, List.length_append, List.length_cons, List.length_nil]; rw [HN.out], HL6, HS9⟩
            case measure => simp [intOf]; omega
          · have HS6 := HSB
            go_wp2
            go_roundw
            case rel => exact ⟨k + 1, n, ts, g, c, by omega, by go_num, rfl, hn2, hn6, by first | exact HN | (simp only [Hid, List.length_set]; exact HN.out), HL0, HS6⟩
            case measure => simp [intOf]; omega
        have n6 : (kd == 6) = false := by simp [k6]
        clear k6
        have HS6 := HSB
        go_wp2
        go_roundw
        case rel => exact ⟨k + 1, n, ts, g, c, by omega, by go_num, rfl, hn2, hn6, by first | exact HN | (simp only [Hid, List.length_set]; exact HN.out), HL0, HS6⟩
        case measure => simp [intOf]; omega
      · obtain ⟨c0, c1, c2, c3⟩ : wA.cell? ⟨g, j * 4, none⟩ = some (.bool true) ∧ wA.cell? ⟨g, j * 4 + 1, none⟩ = some (.pointer none) ∧ wA.cell? ⟨g, j * 4 + 2, none⟩ = some (.pointer (some ⟨X, 0, none⟩)) ∧ wA.cell? ⟨g, j * 4 + 3, none⟩ = some (.pointer (some ⟨R, 0, none⟩)) :=
          ⟨hc j _ HT.out 0 _ rfl, hc j _ HT.out 1 _ rfl, hc j _ HT.out 2 _ rfl, hc j _ HT.out 3 _ rfl⟩
        clear hc
        have hbA := (Below.refl wA.heap.size wA).alloc (Nat.le_refl _) (.cells #[.bool true, .pointer none, .pointer (some ⟨X, 0, none⟩), .pointer (some ⟨R, 0, none⟩)] 47)
        have HSB := hide (HS3.out.below hbA)
        have boB := (hbA.block _ (heap_lt bo)).trans bo
        have bsB := heap_alloc_new wA (.cells #[.bool true, .pointer none, .pointer (some ⟨X, 0, none⟩), .pointer (some ⟨R, 0, none⟩)] 47)
        obtain ⟨o0, o1, o2, o3⟩ := row4 boB
        obtain ⟨s0, s1, s2, s3⟩ := row4 bsB
        go_upto_region 12 with fail
        clear c0 c1 c2 c3 HS3 hbA bo oA
        generalize wA.alloc (.cells #[.bool true, .pointer none, .pointer (some ⟨X, 0, none⟩), .pointer (some ⟨R, 0, none⟩)] 47) = wB at *
        obtain ⟨GT, hT, hset⟩ := HSB.out.one HT.out
        have HT1 := hide hT
        have HSet := hide hset
        have hml : m.length < 4398046511104 := by have := HLt.out; omega
        have HL0 : Hid (∀ u ∈ ts, u.m.length ≤ k + 1) := hide (fun u hu => Nat.le_succ_of_le (HLn.out u hu))
        clear hT hset boB bsB
        by_cases k1 : kd = 1
        · subst k1
          go_wp2_with fail
          refine (ties_t _ GT X R m HT1.out hml 1 tt za zb).mono ?_
          rintro e w6 ⟨rfl, m', G6, hT6, hx6, hl6⟩
          have HS6 := hide (HSet.out _ m' G6 hT6 hx6)
          have HL6 : Hid (∀ u ∈ ts.set j ⟨true, X, R, m'⟩, u.m.length ≤ k + 1) := hide (len_set HLn.out (by have := HLt.out; show m'.length ≤ k + 1; omega))
          clear hT6 hx6 hl6 HSB HT1 HSet o0 o1 o2 o3 s0 s1 s2 s3
          go_wp2
          go_roundw
          case rel => exact ⟨k + 1, n, _, g, c, by omega, by go_num, rfl, hn2, hn6, by first | exact HN | (simp only [Hid, List.length_set]; exact HN.out), HL6, HS6⟩
          case measure => simp [intOf]; omega
        have n1 : (kd == 1) = false := by simp [k1]
        by_cases k4 : kd = 4
        · subst k4
          clear k1
          go_wp2_with fail
          refine (ties_t _ GT X R m HT1.out hml 4 tt za zb).mono ?_
          rintro e w6 ⟨rfl, m', G6, hT6, hx6, hl6⟩
          have HS6 := hide (HSet.out _ m' G6 hT6 hx6)
          have HL6 : Hid (∀ u ∈ ts.set j ⟨true, X, R, m'⟩, u.m.length ≤ k + 1) := hide (len_set HLn.out (by have := HLt.out; show m'.length ≤ k + 1; omega))
          clear hT6 hx6 hl6 HSB HT1 HSet o0 o1 o2 o3 s0 s1 s2 s3
          go_wp2
          go_roundw
          case rel => exact ⟨k + 1, n, _, g, c, by omega, by go_num, rfl, hn2, hn6, by first | exact HN | (simp only [Hid, List.length_set]; exact HN.out), HL6, HS6⟩
          case measure => simp [intOf]; omega
        have n4 : (kd == 4) = false := by simp [k4]
        by_cases k2 : kd = 2
        · subst k2
          clear k1 k4
          go_wp2_with fail
          refine (looks_t _ GT X R m HT1.out hml 2 tt za zb).mono ?_
          rintro e w6 ⟨rfl, G6, hT6, hx6⟩
          have HS6 := hide (HSet.out _ m G6 hT6 hx6)
          have HL6 : Hid (∀ u ∈ ts.set j ⟨true, X, R, m⟩, u.m.length ≤ k + 1) := hide (len_set HLn.out (by have := HLt.out; show m.length ≤ k + 1; omega))
          clear hT6 hx6 HSB HT1 HSet o0 o1 o2 o3 s0 s1 s2 s3
          go_wp2
          go_roundw
          case rel => exact ⟨k + 1, n, _, g, c, by omega, by go_num, rfl, hn2, hn6, by first | exact HN | (simp only [Hid, List.length_set]; exact HN.out), HL6, HS6⟩
          case measure => simp [intOf]; omega
        have n2 : (kd == 2) = false := by simp [k2]
        by_cases k3 : kd = 3
        · subst k3
          clear k1 k4 k2
          go_wp2_with fail
          refine (looks_t _ GT X R m HT1.out hml 3 tt za zb).mono ?_
          rintro e w6 ⟨rfl, G6, hT6, hx6⟩
          have HS6 := hide (HSet.out _ m G6 hT6 hx6)
          have HL6 : Hid (∀ u ∈ ts.set j ⟨true, X, R, m⟩, u.m.length ≤ k + 1) := hide (len_set HLn.out (by have := HLt.out; show m.length ≤ k + 1; omega))
          clear hT6 hx6 HSB HT1 HSet o0 o1 o2 o3 s0 s1 s2 s3
          go_wp2
          go_roundw
          case rel => exact ⟨k + 1, n, _, g, c, by omega, by go_num, rfl, hn2, hn6, by first | exact HN | (simp only [Hid, List.length_set]; exact HN.out), HL6, HS6⟩
          case measure => simp [intOf]; omega
        have n3 : (kd == 3) = false := by simp [k3]
        by_cases k5 : kd = 5
        · subst k5
          clear k1 k4 k2 k3
          go_wp2_with fail
          refine (looks_t _ GT X R m HT1.out hml 5 tt za zb).mono ?_
          rintro e w6 ⟨rfl, G6, hT6, hx6⟩
          have HS6 := hide (HSet.out _ m G6 hT6 hx6)
          have HL6 : Hid (∀ u ∈ ts.set j ⟨true, X, R, m⟩, u.m.length ≤ k + 1) := hide (len_set HLn.out (by have := HLt.out; show m.length ≤ k + 1; omega))
          clear hT6 hx6 HSB HT1 HSet o0 o1 o2 o3 s0 s1 s2 s3
          go_wp2
          go_roundw
          case rel => exact ⟨k + 1, n, _, g, c, by omega, by go_num, rfl, hn2, hn6, by first | exact HN | (simp only [Hid, List.length_set]; exact HN.out), HL6, HS6⟩
          case measure => simp [intOf]; omega
        have n5 : (kd == 5) = false := by simp [k5]
        clear k1 k4 k2 k3 k5
        by_cases k6 : kd = 6
        · subst k6
          by_cases h6 : n < 6
          · go_wp2_with fail
            refine (turn_t _ GT X R m HT1.out hml).mono ?_
            rintro e w6 ⟨C, U, G6, rfl, hT6, hlo6, hb6⟩
            have HS6 : Hid (Sy w w6 (.slice (some ⟨g, 0, none⟩) n c) n (ts ++ [⟨false, C, U, sw m⟩])) := hide (HSB.out.add (by rw [HN.out]; exact Nat.le_refl _) hT6 hlo6 hb6)
            have HL6 : Hid (∀ u ∈ ts ++ [⟨false, C, U, sw m⟩], u.m.length ≤ k + 1) := hide (len_snoc HLn.out (by have := HLt.out; show (sw m).length ≤ k + 1; rw [sw_length]; omega))
            have HS7 := hide (HS6.out.alloc (.cells #[.bool false, .pointer (some ⟨C, 0, none⟩), .pointer none, .pointer (some ⟨U, 0, none⟩)] 47))
            have bz := heap_alloc_new w6 (.cells #[.bool false, .pointer (some ⟨C, 0, none⟩), .pointer none, .pointer (some ⟨U, 0, none⟩)] 47)
            obtain ⟨y0, y1, y2, y3⟩ := row4 bz
            clear hT6 hlo6 hb6 HSB HT1 HSet o0 o1 o2 o3 s0 s1 s2 s3 HS6
            go_upto_region 23 with fail
            generalize hw7 : w6.alloc (.cells #[.bool false, .pointer (some ⟨C, 0, none⟩), .pointer none, .pointer (some ⟨U, 0, none⟩)] 47) = w7 at *
            have hs7 : w6.heap.size < w7.heap.size := by rw [← hw7]; simp
            clear hw7
            go_wp2_with fail
            refine (missing_f _ C U).mono ?_
            rintro e w8 ⟨rfl, hb8⟩
            have HS8 := hide (HS7.out.below hb8)
            have bz8 := (hb8.block _ hs7).trans bz
            clear y0 y1 y2 y3 hb8 bz HS7 hs7
            obtain ⟨y0, y1, y2, y3⟩ := row4 bz8
            have HRw := hide (HS8.out.rowS HN.out)
            clear bz8
            go_upto_region 26 with (at_builtin; refine wpList_append_own_at _ rfl _ _ 48 rfl 0 47 i3 (.agg #[.bool false, .pointer none, .pointer none, .pointer none]) 4 32 Try.underlying48 hi hz hs3 hb3 rfl (by decide) (.slice (some ⟨g, 0, none⟩) n c) n (encK ts) rfl (HRw.out.alloc _) ⟨w8.heap.size, 0, none⟩ 1 1 [.bool false, .pointer (some ⟨C, 0, none⟩), .pointer none, .pointer (some ⟨U, 0, none⟩)] rfl rfl (cell_four_new _ _ _ _ _ _) (by simp [Value.oneCell']) (by unfold maxLen; omega) (by omega) (by omega) ?_; intro v2 w9 ho9 hg9 _ hl9; obtain ⟨g2, c2, rfl⟩ := ownsRow_succ' ho9; have HS9 := hide ((HS8.out.alloc _).app HN.out ho9 hg9 hl9); clear ho9 hg9 hl9)
            clear y0 y1 y2 y3 HS8 HRw
            go_wp2
            go_roundw
            case rel => exact ⟨k + 1, n + 1, _, g2, c2, by omega, by go_num, rfl, by omega, by omega, by simp only [Hid, List.length_append, List.length_cons, List.length_nil]; rw [HN.out], HL6, HS9⟩
            case measure => simp [intOf]; omega
          · have HS6 := HSB
            go_wp2
            go_roundw
            case rel => exact ⟨k + 1, n, ts, g, c, by omega, by go_num, rfl, hn2, hn6, by first | exact HN | (simp only [Hid, List.length_set]; exact HN.out), HL0, HS6⟩
            case measure => simp [intOf]; omega
        have n6 : (kd == 6) = false := by simp [k6]
        clear k6
        have HS6 := HSB
        go_wp2
        go_roundw
        case rel => exact ⟨k + 1, n, ts, g, c, by omega, by go_num, rfl, hn2, hn6, by first | exact HN | (simp only [Hid, List.length_set]; exact HN.out), HL0, HS6⟩
        case measure => simp [intOf]; omega
    · have HB := hide HS.out.bel
      clear HS
      go_wp2
      go_ret
      exact ⟨rfl, HB.out⟩
end Go.Proofs.Ytdeilmllgbajbaa
