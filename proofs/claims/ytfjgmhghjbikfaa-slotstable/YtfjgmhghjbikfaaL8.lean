import Derived.Test.YtfjgmhghjbikfaaL9
import Derived.Laws.AppendOwnNone
import Derived.Maps.AppendAt
namespace Go.Proofs.Ytfjgmhghjbikfaa
open Go.RowKit

theorem infoS : ∃ i, Try.prog.info? 28 = some i ∧ i.zero = some (.agg #[.pointer none, .pointer none, .pointer none]) ∧ i.size = 3 ∧ i.bytes = 24 := info_parts (by kernel_rfl)
theorem cell_three_new (w : World) (a b c : Value) (t : TypeId) : ∀ j u, [a, b, c][j]? = some u → (w.alloc (.cells #[a, b, c] t)).cell? ((⟨w.heap.size, 0, none⟩ : Addr).add j) = some u := by
  intro j u hj
  obtain ⟨c0, c1, c2, _, _, _⟩ := blk3 (heap_alloc_new w (.cells #[a, b, c] t))
  rw [add0]
  match j, hj with
  | 0, hj => simp at hj; subst hj; exact c0
  | 1, hj => simp at hj; subst hj; exact c1
  | 2, hj => simp at hj; subst hj; exact c2
  | j + 3, hj => simp at hj
theorem Sy.rowS {w W : World} {v : Value} {n : Nat} {ts : List Tr} {t : Tr} (h : Sy w W v n (ts ++ [t])) (hn : n = ts.length) : W.ownsRow 0 28 3 v n (encT ts) := by
  obtain ⟨G, h⟩ := h
  have := h.row
  rwa [List.take_append_of_le_length (by omega), List.take_of_length_le (by omega)] at this
theorem ownsRow_succ' {W : World} {base : Nat} {e : TypeId} {size : Nat} {v : Value} {k : Nat} {xs : List Value} (h : W.ownsRow base e size v (k + 1) xs) : ∃ g cap, v = .slice (some ⟨g, 0, none⟩) (k + 1) cap := by
  obtain ⟨_, ⟨_, h0⟩ | ⟨g, cap, cur, rfl, _⟩⟩ := h
  · omega
  · exact ⟨g, cap, rfl⟩
set_option maxRecDepth 8000 in
set_option maxHeartbeats 3200000 in
theorem table_walk (f s : Int) (a1 : Option Addr) (len cap : Nat) (Z : Nat → Int × Int × Int × Int) (w : World) (hlen : len ≤ maxLen) (hZ : IsQuads w a1 len Z) :
    Calls Try.prog 3 #[.int .i64 f, .int .i64 s, .slice a1 len cap] w fun e w' => e = .returned (.bool true) ∧ Below w.heap.size w w' := by
  obtain ⟨i3, hi, hz, hs3, hb3⟩ := infoS
  have HZ := hide hZ
  have hlen2 : len ≤ 9223372036854775807 := hlen
  clear hZ hlen
  go_enter Try.func3, Try.ntmps3
  go_wp2_with fail
  refine (fixed_any w).mono ?_
  rintro e w0 ⟨rfl, hb0⟩
  have HB0 := hide hb0
  clear hb0
  go_wp2_with fail
  refine (made_any w0 f).mono ?_
  rintro e w1 ⟨A, B, R, G, rfl, hT, hlo, hb⟩
  have H1 := hide (And.intro hT (And.intro hlo hb))
  clear hT hlo hb
  go_wp2_with fail
  refine (made_any w1 s).mono ?_
  rintro e w2 ⟨A', B', R', G', rfl, hT, hlo, hb⟩
  have HS0 := hide (Sy.start (HB0.out.trans (H1.out.2.2.mono HB0.out.size)) HB0.out H1.out.1 H1.out.2.2 H1.out.2.1 hT hlo hb)
  clear hT hlo hb H1 HB0
  unfold tv
  go_wp2_with fail
  obtain ⟨G1, hT1, _⟩ := HS0.out.one (k := 0) rfl
  refine (whole_any _ G1 _ _ _ _ hT1).mono ?_
  rintro e w3 ⟨rfl, hb3⟩
  have HS1 := hide (HS0.out.below hb3)
  clear hb3 hT1 HS0
  obtain ⟨g, c, hv, hc⟩ := HS1.out.cells rfl (by omega)
  simp only [Value.slice.injEq, Option.some.injEq, Addr.mk.injEq, and_true, true_and] at hv
  obtain ⟨rfl, rfl⟩ := hv
  obtain ⟨c0, c1, c2⟩ := hc 1 _ rfl
  simp only [Nat.one_mul, Nat.reduceAdd] at c0 c1 c2
  clear hc
  go_wp2_with fail
  obtain ⟨G2, hT2, _⟩ := HS1.out.one (k := 1) rfl
  refine (whole_any _ G2 _ _ _ _ hT2).mono ?_
  rintro e w4 ⟨rfl, hb4⟩
  have HS2 := hide (HS1.out.below hb4)
  clear hb4 hT2 HS1 c0 c1 c2
  go_wp2
  go_loopw [7, 8] (fun v i wr => ∃ (k n : Nat) (ts : List Tr) (g c : Nat), k ≤ len ∧ i = .int .i64 k ∧ v = .slice (some ⟨g, 0, none⟩) n c ∧ 2 ≤ n ∧ n ≤ 6 ∧ Hid (n = ts.length) ∧ Hid (Sy w wr (.slice (some ⟨g, 0, none⟩) n c) n ts)) (fun _ i _ => len - (intOf i).toNat)
  case atStart => exact ⟨0, 2, _, w2.heap.size, 2, by omega, rfl, rfl, by omega, by omega, by simp [Hid], HS2⟩
  case round =>
    obtain ⟨k, n, ts, g, c, hk, rfl, rfl, hn2, hn6, HN, HS⟩ := hrel
    by_cases hlt : k < len
    · obtain ⟨x, rfl, z0, z1, z2, z3⟩ := quad_at HZ.out HS.out.bel hlt
      have HS3 := hide (HS.out.alloc (.cells #[.int .i64 (Z k).1, .int .i64 (Z k).2.1, .int .i64 (Z k).2.2.1, .int .i64 (Z k).2.2.2] 32))
      have o1 := (row4 (heap_alloc_new wr (.cells #[.int .i64 (Z k).1, .int .i64 (Z k).2.1, .int .i64 (Z k).2.2.1, .int .i64 (Z k).2.2.2] 32))).2.1
      clear HS HS2
      go_wp2_with fail
      refine (rest_any _ _ n (by omega) hn6).mono ?_
      rintro e w5 ⟨j, hj, rfl, rfl⟩
      obtain ⟨t, ht⟩ : ∃ t, ts[j]? = some t := ⟨_, List.getElem?_eq_getElem (by rw [← HN.out]; exact hj)⟩
      have HT := hide ht
      obtain ⟨g', c', hv, hc⟩ := HS3.out.cells HN.out (by omega)
      simp only [Value.slice.injEq, Option.some.injEq, Addr.mk.injEq, and_true, true_and] at hv
      obtain ⟨rfl, rfl⟩ := hv
      obtain ⟨c0, c1, c2⟩ := hc j t ht
      clear hc ht
      go_upto_region 12 with fail
      have HSB := hide (HS3.out.alloc (.cells #[.pointer (some ⟨t.A, 0, none⟩), .pointer (some ⟨t.B, 0, none⟩), .pointer (some ⟨t.R, 0, none⟩)] 28))
      have bo : ((wr.alloc (.cells #[.int .i64 (Z k).1, .int .i64 (Z k).2.1, .int .i64 (Z k).2.2.1, .int .i64 (Z k).2.2.2] 32)).alloc (.cells #[.pointer (some ⟨t.A, 0, none⟩), .pointer (some ⟨t.B, 0, none⟩), .pointer (some ⟨t.R, 0, none⟩)] 28)).heap[wr.heap.size]? = some (.cells #[.int .i64 (Z k).1, .int .i64 (Z k).2.1, .int .i64 (Z k).2.2.1, .int .i64 (Z k).2.2.2] 32) := by
        rw [Below.heap_alloc _ _ _ (by simp)]; exact heap_alloc_new wr _
      have bs : ((wr.alloc (.cells #[.int .i64 (Z k).1, .int .i64 (Z k).2.1, .int .i64 (Z k).2.2.1, .int .i64 (Z k).2.2.2] 32)).alloc (.cells #[.pointer (some ⟨t.A, 0, none⟩), .pointer (some ⟨t.B, 0, none⟩), .pointer (some ⟨t.R, 0, none⟩)] 28)).heap[wr.heap.size + 1]? = some (.cells #[.pointer (some ⟨t.A, 0, none⟩), .pointer (some ⟨t.B, 0, none⟩), .pointer (some ⟨t.R, 0, none⟩)] 28) := by
        have := heap_alloc_new (wr.alloc (.cells #[.int .i64 (Z k).1, .int .i64 (Z k).2.1, .int .i64 (Z k).2.2.1, .int .i64 (Z k).2.2.2] 32)) (.cells #[.pointer (some ⟨t.A, 0, none⟩), .pointer (some ⟨t.B, 0, none⟩), .pointer (some ⟨t.R, 0, none⟩)] 28)
        simpa using this
      obtain ⟨o0, o1, o2, o3⟩ := row4 bo
      obtain ⟨s0, s1, s2, _, _, _⟩ := blk3 bs
      clear c0 c1 c2 z0 z1 z2 z3 HS3
      generalize (wr.alloc (.cells #[.int .i64 (Z k).1, .int .i64 (Z k).2.1, .int .i64 (Z k).2.2.1, .int .i64 (Z k).2.2.2] 32)).alloc (.cells #[.pointer (some ⟨t.A, 0, none⟩), .pointer (some ⟨t.B, 0, none⟩), .pointer (some ⟨t.R, 0, none⟩)] 28) = wB at *
      generalize (Z k).1 = kd at *
      generalize (Z k).2.1 = tt at *
      generalize (Z k).2.2.1 = zi at *
      generalize (Z k).2.2.2 = zv at *
      obtain ⟨GT, hT, hset⟩ := HSB.out.one HT.out
      have HT1 := hide hT
      have HSet := hide hset
      clear hT hset
      by_cases k1 : kd = 1
      · subst k1
        go_wp2_with fail
        refine (lays_any _ GT t.A t.B t.R t.m HT1.out 1 tt zi zv).mono ?_
        rintro e w6 ⟨rfl, m', G6, hT6, hx6⟩
        have HS6 := hide (HSet.out _ m' G6 hT6 hx6)
        clear hT6 hx6 HSB HT1 HSet o0 o1 o2 o3 s0 s1 s2 bo bs
        go_wp2
        go_roundw
        case rel => exact ⟨k + 1, n, _, g, c, by omega, by go_num, rfl, hn2, hn6, by first | exact HN | (simp only [Hid, List.length_set]; exact HN.out), HS6⟩
        case measure => simp [intOf]; omega
      have n1 : (kd == 1) = false := by simp [k1]
      by_cases k2 : kd = 2
      · subst k2
        clear k1
        go_wp2_with fail
        refine (lays_any _ GT t.A t.B t.R t.m HT1.out 2 tt zi zv).mono ?_
        rintro e w6 ⟨rfl, m', G6, hT6, hx6⟩
        have HS6 := hide (HSet.out _ m' G6 hT6 hx6)
        clear hT6 hx6 HSB HT1 HSet o0 o1 o2 o3 s0 s1 s2 bo bs
        go_wp2
        go_roundw
        case rel => exact ⟨k + 1, n, _, g, c, by omega, by go_num, rfl, hn2, hn6, by first | exact HN | (simp only [Hid, List.length_set]; exact HN.out), HS6⟩
        case measure => simp [intOf]; omega
      have n2 : (kd == 2) = false := by simp [k2]
      by_cases k4 : kd = 4
      · subst k4
        clear k1 k2
        go_wp2_with fail
        refine (lays_any _ GT t.A t.B t.R t.m HT1.out 4 tt zi zv).mono ?_
        rintro e w6 ⟨rfl, m', G6, hT6, hx6⟩
        have HS6 := hide (HSet.out _ m' G6 hT6 hx6)
        clear hT6 hx6 HSB HT1 HSet o0 o1 o2 o3 s0 s1 s2 bo bs
        go_wp2
        go_roundw
        case rel => exact ⟨k + 1, n, _, g, c, by omega, by go_num, rfl, hn2, hn6, by first | exact HN | (simp only [Hid, List.length_set]; exact HN.out), HS6⟩
        case measure => simp [intOf]; omega
      have n4 : (kd == 4) = false := by simp [k4]
      by_cases k3 : kd = 3
      · subst k3
        clear k1 k2 k4
        go_wp2_with fail
        refine (asks_any _ GT t.A t.B t.R t.m HT1.out 3 tt zi zv).mono ?_
        rintro e w6 ⟨rfl, m', G6, hT6, hx6⟩
        have HS6 := hide (HSet.out _ m' G6 hT6 hx6)
        clear hT6 hx6 HSB HT1 HSet o0 o1 o2 o3 s0 s1 s2 bo bs
        go_wp2
        go_roundw
        case rel => exact ⟨k + 1, n, _, g, c, by omega, by go_num, rfl, hn2, hn6, by first | exact HN | (simp only [Hid, List.length_set]; exact HN.out), HS6⟩
        case measure => simp [intOf]; omega
      have n3 : (kd == 3) = false := by simp [k3]
      by_cases k5 : kd = 5
      · subst k5
        clear k1 k2 k4 k3
        go_wp2_with fail
        refine (asks_any _ GT t.A t.B t.R t.m HT1.out 5 tt zi zv).mono ?_
        rintro e w6 ⟨rfl, m', G6, hT6, hx6⟩
        have HS6 := hide (HSet.out _ m' G6 hT6 hx6)
        clear hT6 hx6 HSB HT1 HSet o0 o1 o2 o3 s0 s1 s2 bo bs
        go_wp2
        go_roundw
        case rel => exact ⟨k + 1, n, _, g, c, by omega, by go_num, rfl, hn2, hn6, by first | exact HN | (simp only [Hid, List.length_set]; exact HN.out), HS6⟩
        case measure => simp [intOf]; omega
      have n5 : (kd == 5) = false := by simp [k5]
      by_cases k6 : kd = 6
      · subst k6
        clear k1 k2 k4 k3 k5
        go_wp2_with fail
        refine (asks_any _ GT t.A t.B t.R t.m HT1.out 6 tt zi zv).mono ?_
        rintro e w6 ⟨rfl, m', G6, hT6, hx6⟩
        have HS6 := hide (HSet.out _ m' G6 hT6 hx6)
        clear hT6 hx6 HSB HT1 HSet o0 o1 o2 o3 s0 s1 s2 bo bs
        go_wp2
        go_roundw
        case rel => exact ⟨k + 1, n, _, g, c, by omega, by go_num, rfl, hn2, hn6, by first | exact HN | (simp only [Hid, List.length_set]; exact HN.out), HS6⟩
        case measure => simp [intOf]; omega
      have n6 : (kd == 6) = false := by simp [k6]
      by_cases k8 : kd = 8
      · subst k8
        clear k1 k2 k4 k3 k5 k6
        go_wp2_with fail
        refine (asks_any _ GT t.A t.B t.R t.m HT1.out 8 tt zi zv).mono ?_
        rintro e w6 ⟨rfl, m', G6, hT6, hx6⟩
        have HS6 := hide (HSet.out _ m' G6 hT6 hx6)
        clear hT6 hx6 HSB HT1 HSet o0 o1 o2 o3 s0 s1 s2 bo bs
        go_wp2
        go_roundw
        case rel => exact ⟨k + 1, n, _, g, c, by omega, by go_num, rfl, hn2, hn6, by first | exact HN | (simp only [Hid, List.length_set]; exact HN.out), HS6⟩
        case measure => simp [intOf]; omega
      have n8 : (kd == 8) = false := by simp [k8]
      by_cases k7 : kd = 7
      · subst k7
        clear k1 k2 k4 k3 k5 k6 k8
        go_wp2_with fail
        refine (asks_any _ GT t.A t.B t.R t.m HT1.out 7 tt zi zv).mono ?_
        rintro e w6 ⟨rfl, m', G6, hT6, hx6⟩
        have HS6 := hide (HSet.out _ m' G6 hT6 hx6)
        clear hT6 hx6 HSB HT1 HSet o0 o1 o2 o3 s0 s1 s2 bo bs
        go_wp2
        go_roundw
        case rel => exact ⟨k + 1, n, _, g, c, by omega, by go_num, rfl, hn2, hn6, by first | exact HN | (simp only [Hid, List.length_set]; exact HN.out), HS6⟩
        case measure => simp [intOf]; omega
      have n7 : (kd == 7) = false := by simp [k7]
      clear k1 k2 k4 k3 k5 k6 k8 k7
      by_cases k10 : kd = 10
      · subst k10
        go_wp2_with fail
        refine (whole_any _ GT t.A t.B t.R t.m HT1.out).mono ?_
        rintro e w6 ⟨rfl, hb6⟩
        have HS6 := hide (HSB.out.below hb6)
        clear hb6 HSB HT1 HSet o0 o1 o2 o3 s0 s1 s2 bo bs
        go_wp2
        go_roundw
        case rel => exact ⟨k + 1, n, ts, g, c, by omega, by go_num, rfl, hn2, hn6, by first | exact HN | (simp only [Hid, List.length_set]; exact HN.out), HS6⟩
        case measure => simp [intOf]; omega
      have n10 : (kd == 10) = false := by simp [k10]
      clear k10
      by_cases k9 : kd = 9
      · subst k9
        by_cases h6 : n < 6
        · go_upto_region 27 with fail
          have HX : Hid (∀ W, Below wB.heap.size wB W → W.heap[wr.heap.size + 1]? = some (.cells #[.pointer (some ⟨t.A, 0, none⟩), .pointer (some ⟨t.B, 0, none⟩), .pointer (some ⟨t.R, 0, none⟩)] 28)) := hide (fun W hW => (hW.block _ (heap_lt bs)).trans bs)
          have HCA : Hid (∀ W, Below wB.heap.size wB W → Calls Try.prog 10 #[.pointer (some ⟨t.A, 0, none⟩)] W fun e w' => ∃ (C : Nat) (Fc : Nat → Prop), e = .returned (.pointer (some ⟨C, 0, none⟩)) ∧ Tab KI w' Fc C t.m ∧ (∀ b, Fc b → W.heap.size ≤ b) ∧ Below W.heap.size W w') := hide (fun W hW => by
            obtain ⟨FA, FB, FR, h3, _⟩ := HT1.out
            exact copyI_any W FA t.A t.m (h3.hA.below hW))
          have HCB : Hid (∀ W, Below wB.heap.size wB W → Calls Try.prog 11 #[.pointer (some ⟨t.B, 0, none⟩)] W fun e w' => ∃ (C : Nat) (Fc : Nat → Prop), e = .returned (.pointer (some ⟨C, 0, none⟩)) ∧ Tab KC w' Fc C (mc t.m) ∧ (∀ b, Fc b → W.heap.size ≤ b) ∧ Below W.heap.size W w') := hide (fun W hW => by
            obtain ⟨FA, FB, FR, h3, _⟩ := HT1.out
            exact copyC_any W FB t.B (mc t.m) (h3.hB.below hW))
          have HCR : Hid (∀ W, Below wB.heap.size wB W → Calls Try.prog 12 #[.pointer (some ⟨t.R, 0, none⟩)] W fun e w' => ∃ (C : Nat) (Fc : Nat → Prop), e = .returned (.pointer (some ⟨C, 0, none⟩)) ∧ Ref w' Fc C t.m ∧ (∀ b, Fc b → W.heap.size ≤ b) ∧ Below W.heap.size W w') := hide (fun W hW => by
            obtain ⟨FA, FB, FR, h3, _⟩ := HT1.out
            exact copyR_any W FR t.R t.m (h3.hR.below hW))
          obtain ⟨wD, hwD⟩ : ∃ wD, wD = wB.drew := ⟨_, rfl⟩
          have HP0 : Hid (Pg wB wD none none none none t.m) := by rw [hwD]; exact hide (Pg.start wB t.m)
          refine wp_region_held_drew (S := fun W => W.heap[wr.heap.size + 1]? = some (.cells #[.pointer (some ⟨t.A, 0, none⟩), .pointer (some ⟨t.B, 0, none⟩), .pointer (some ⟨t.R, 0, none⟩)] 28)) (by kernel_rfl) (by rw [← hwD]; exact HX.out _ HP0.out.bel) (fun _ => ?_)
          rw [← hwD]
          clear hwD bo bs o0 o1 o2 o3 s0 s1 s2 HT1 HSet
          refine hd_take 0 (o := ⟨some 79, _, _, _, _, _⟩) (.pointer (some ⟨wr.heap.size + 1, 0, none⟩)) (by kernel_rfl) (by kernel_rfl) (by kernel_rfl) rfl (by rfl) (fun W hSw => by go_simp) (fun _ _ _ h => h) (HX.out _ HP0.out.bel) ?_
          try simp only [Act.put, List.setIfInBounds_toArray, List.set_cons_zero, List.set_cons_succ]
          refine hd_take 1 (o := ⟨some 80, _, _, _, _, _⟩) (.pointer (some ⟨t.A, 0, none⟩)) (by kernel_rfl) (by kernel_rfl) (by kernel_rfl) rfl (by rfl) (fun W hSw => by obtain ⟨c0, c1, c2, -, -, -⟩ := blk3 hSw; go_simp) (fun _ _ _ h => h) (HX.out _ HP0.out.bel) ?_
          try simp only [Act.put, List.setIfInBounds_toArray, List.set_cons_zero, List.set_cons_succ]
          refine hd_take 3 (o := ⟨some 82, _, _, _, _, _⟩) (.pointer (some ⟨wr.heap.size + 1, 1, none⟩)) (by kernel_rfl) (by kernel_rfl) (by kernel_rfl) rfl (by rfl) (fun W hSw => by go_simp) (fun _ _ _ h => h) (HX.out _ HP0.out.bel) ?_
          try simp only [Act.put, List.setIfInBounds_toArray, List.set_cons_zero, List.set_cons_succ]
          refine hd_take 4 (o := ⟨some 83, _, _, _, _, _⟩) (.pointer (some ⟨t.B, 0, none⟩)) (by kernel_rfl) (by kernel_rfl) (by kernel_rfl) rfl (by rfl) (fun W hSw => by obtain ⟨c0, c1, c2, -, -, -⟩ := blk3 hSw; go_simp) (fun _ _ _ h => h) (HX.out _ HP0.out.bel) ?_
          try simp only [Act.put, List.setIfInBounds_toArray, List.set_cons_zero, List.set_cons_succ]
          refine hd_take 6 (o := ⟨some 85, _, _, _, _, _⟩) (.pointer (some ⟨wr.heap.size + 1, 2, none⟩)) (by kernel_rfl) (by kernel_rfl) (by kernel_rfl) rfl (by rfl) (fun W hSw => by go_simp) (fun _ _ _ h => h) (HX.out _ HP0.out.bel) ?_
          try simp only [Act.put, List.setIfInBounds_toArray, List.set_cons_zero, List.set_cons_succ]
          refine hd_take 7 (o := ⟨some 86, _, _, _, _, _⟩) (.pointer (some ⟨t.R, 0, none⟩)) (by kernel_rfl) (by kernel_rfl) (by kernel_rfl) rfl (by rfl) (fun W hSw => by obtain ⟨c0, c1, c2, -, -, -⟩ := blk3 hSw; go_simp) (fun _ _ _ h => h) (HX.out _ HP0.out.bel) ?_
          try simp only [Act.put, List.setIfInBounds_toArray, List.set_cons_zero, List.set_cons_succ]
          refine hd_two 2 10 (o1 := ⟨some 81, _, _, _, _, _⟩) (o2 := ⟨some 12, _, _, _, _, _⟩) (by kernel_rfl) rfl rfl (by rfl) (by rfl) (fun K hK => ?_) (fun K hK => ?_)
          · go_simp
            go_wp2_with (go_at_call 10; refine (HCA.out _ HP0.out.bel).mono ?_; rintro e1 wza1 ⟨C1, F0, rfl, hT0, hlo0, hb0⟩)
            have HPza1 := hide (HP0.out.c1 hT0 hlo0 hb0)
            clear hT0 hlo0 hb0 HP0
            refine hK _ _ (HX.out _ HPza1.out.bel) ?_
            clear hK K
            try simp only [Act.put, List.setIfInBounds_toArray, List.set_cons_zero, List.set_cons_succ]
            refine hd_two 5 10 (o1 := ⟨some 84, _, _, _, _, _⟩) (o2 := ⟨some 12, _, _, _, _, _⟩) (by kernel_rfl) rfl rfl (by rfl) (by rfl) (fun K hK => ?_) (fun K hK => ?_)
            · go_simp
              go_wp2_with (go_at_call 11; refine (HCB.out _ HPza1.out.bel).mono ?_; rintro e1 wzaa2 ⟨C2, F0, rfl, hT0, hlo0, hb0⟩)
              have HPzaa2 := hide (HPza1.out.c2 hT0 hlo0 hb0)
              clear hT0 hlo0 hb0 HPza1
              refine hK _ _ (HX.out _ HPzaa2.out.bel) ?_
              clear hK K
              try simp only [Act.put, List.setIfInBounds_toArray, List.set_cons_zero, List.set_cons_succ]
              refine hd_two 8 10 (o1 := ⟨some 87, _, _, _, _, _⟩) (o2 := ⟨some 12, _, _, _, _, _⟩) (by kernel_rfl) rfl rfl (by rfl) (by rfl) (fun K hK => ?_) (fun K hK => ?_)
              · go_simp
                go_wp2_with (go_at_call 12; refine (HCR.out _ HPzaa2.out.bel).mono ?_; rintro e1 wzaaa3 ⟨C3, F0, rfl, hT0, hlo0, hb0⟩)
                have HPzaaa3 := hide (HPzaa2.out.c3 hT0 hlo0 hb0)
                clear hT0 hlo0 hb0 HPzaa2
                refine hK _ _ (HX.out _ HPzaaa3.out.bel) ?_
                clear hK K
                try simp only [Act.put, List.setIfInBounds_toArray, List.set_cons_zero, List.set_cons_succ]
                refine hd_take 9 (o := ⟨some 88, _, _, _, _, _⟩) (.agg #[.pointer (some ⟨C1, 0, none⟩), .pointer (some ⟨C2, 0, none⟩), .pointer (some ⟨C3, 0, none⟩)]) (by kernel_rfl) (by kernel_rfl) (by kernel_rfl) rfl (by rfl) (fun W hSw => by go_simp) (fun _ _ _ h => h) (HX.out _ HPzaaa3.out.bel) ?_
                try simp only [Act.put, List.setIfInBounds_toArray, List.set_cons_zero, List.set_cons_succ]
                refine hd_call 10 (o := ⟨some 12, _, _, _, _, _⟩) (by kernel_rfl) rfl (by rfl) (fun K hK => ?_)
                go_simp
                have HPzaaa4 := hide (HPzaaa3.out.al)
                refine hK _ _ (HX.out _ HPzaaa4.out.bel) ?_
                clear hK K HPzaaa3
                obtain ⟨nb, hnb⟩ : ∃ nb, nb = (wzaaa3).heap.size := ⟨_, rfl⟩
                simp only [← hnb] at HPzaaa4 ⊢
                clear hnb
                generalize (wzaaa3).alloc (.cells #[.pointer none, .pointer none, .pointer none] 28) = wzaaa4 at *
                try simp only [Act.put, List.setIfInBounds_toArray, List.set_cons_zero, List.set_cons_succ]
                refine hd_call 11 (o := ⟨none, _, _, _, _, _⟩) (by kernel_rfl) rfl (by rfl) (fun K hK => ?_)
                obtain ⟨⟨x0, d0⟩, ⟨x1, d1⟩, ⟨x2, d2⟩, f0, f1, f2, hnb⟩ := HPzaaa4.out.cells
                have HF := hide (HPzaaa4.out.fin rfl)
                go_simp
                refine hK _ _ (HX.out _ HF.out.1) ?_
                clear hK K d0 d1 d2 f0 f1 f2 hnb HPzaaa4
                generalize ((wzaaa4.setCell ⟨nb, 0, none⟩ (.pointer (some ⟨C1, 0, none⟩))).setCell ⟨nb, 1, none⟩ (.pointer (some ⟨C2, 0, none⟩))).setCell ⟨nb, 2, none⟩ (.pointer (some ⟨C3, 0, none⟩)) = wz at *
                refine wpAnyH_done (by kernel_rfl) ?_ _
                obtain ⟨GZ, hTZ, hloZ⟩ := HF.out.2.2
                have HSZ : Hid (Sy w wz (.slice (some ⟨g, 0, none⟩) n c) n (ts ++ [⟨C1, C2, C3, t.m⟩])) := hide (HSB.out.add (by rw [HN.out]; exact Nat.le_refl _) hTZ hloZ HF.out.1)
                have bz := HF.out.2.1
                obtain ⟨y0, y1, y2, _, _, _⟩ := blk3 bz
                clear HSB HF
                have HTZ := hide hTZ
                clear hTZ hloZ
                go_wp2_with fail
                refine (whole_any _ GZ C1 C2 C3 t.m HTZ.out).mono ?_
                rintro e w7 ⟨rfl, hb7⟩
                have HS7 := hide (HSZ.out.below hb7)
                have bz7 := (hb7.block nb (heap_lt bz)).trans bz
                clear y0 y1 y2 hb7 bz HSZ HTZ
                obtain ⟨y0, y1, y2, _, _, _⟩ := blk3 bz7
                have HRw := hide (HS7.out.rowS HN.out)
                clear bz7
                go_upto_region 30 with (at_builtin; refine wpList_append_own_at _ rfl _ _ 30 rfl 0 28 i3 (.agg #[.pointer none, .pointer none, .pointer none]) 3 24 Try.underlying30 hi hz hs3 hb3 rfl (by decide) (.slice (some ⟨g, 0, none⟩) n c) n (encT ts) rfl (HRw.out.alloc _) ⟨w7.heap.size, 0, none⟩ 1 1 [.pointer (some ⟨C1, 0, none⟩), .pointer (some ⟨C2, 0, none⟩), .pointer (some ⟨C3, 0, none⟩)] rfl rfl (cell_three_new _ _ _ _ _) (by simp [Value.oneCell']) (by unfold maxLen; omega) (by omega) (by omega) ?_; intro v2 w8 ho8 hg8 _ hl8)
                obtain ⟨g2, c2, rfl⟩ := ownsRow_succ' ho8
                have HS8 := hide ((HS7.out.alloc _).app HN.out ho8 hg8 hl8)
                clear ho8 hg8 hl8 y0 y1 y2 HS7 HRw
                go_wp2
                go_roundw
                case rel => exact ⟨k + 1, n + 1, _, g2, c2, by omega, by go_num, rfl, by omega, by omega, by simp only [Hid, List.length_append, List.length_cons, List.length_nil]; rw [HN.out], HS8⟩
                case measure => simp [intOf]; omega
              · go_simp
                have HPzaab3 := hide (HPzaa2.out.al)
                refine hK _ _ (HX.out _ HPzaab3.out.bel) ?_
                clear hK K HPzaa2
                obtain ⟨nb, hnb⟩ : ∃ nb, nb = (wzaa2).heap.size := ⟨_, rfl⟩
                simp only [← hnb] at HPzaab3 ⊢
                clear hnb
                generalize (wzaa2).alloc (.cells #[.pointer none, .pointer none, .pointer none] 28) = wzaab3 at *
                try simp only [Act.put, List.setIfInBounds_toArray, List.set_cons_zero, List.set_cons_succ]
                refine hd_call 8 (o := ⟨some 87, _, _, _, _, _⟩) (by kernel_rfl) rfl (by rfl) (fun K hK => ?_)
                go_simp
                go_wp2_with (go_at_call 12; refine (HCR.out _ HPzaab3.out.bel).mono ?_; rintro e1 wzaab4 ⟨C3, F0, rfl, hT0, hlo0, hb0⟩)
                have HPzaab4 := hide (HPzaab3.out.c3 hT0 hlo0 hb0)
                clear hT0 hlo0 hb0 HPzaab3
                refine hK _ _ (HX.out _ HPzaab4.out.bel) ?_
                clear hK K
                try simp only [Act.put, List.setIfInBounds_toArray, List.set_cons_zero, List.set_cons_succ]
                refine hd_take 9 (o := ⟨some 88, _, _, _, _, _⟩) (.agg #[.pointer (some ⟨C1, 0, none⟩), .pointer (some ⟨C2, 0, none⟩), .pointer (some ⟨C3, 0, none⟩)]) (by kernel_rfl) (by kernel_rfl) (by kernel_rfl) rfl (by rfl) (fun W hSw => by go_simp) (fun _ _ _ h => h) (HX.out _ HPzaab4.out.bel) ?_
                try simp only [Act.put, List.setIfInBounds_toArray, List.set_cons_zero, List.set_cons_succ]
                refine hd_call 11 (o := ⟨none, _, _, _, _, _⟩) (by kernel_rfl) rfl (by rfl) (fun K hK => ?_)
                obtain ⟨⟨x0, d0⟩, ⟨x1, d1⟩, ⟨x2, d2⟩, f0, f1, f2, hnb⟩ := HPzaab4.out.cells
                have HF := hide (HPzaab4.out.fin rfl)
                go_simp
                refine hK _ _ (HX.out _ HF.out.1) ?_
                clear hK K d0 d1 d2 f0 f1 f2 hnb HPzaab4
                generalize ((wzaab4.setCell ⟨nb, 0, none⟩ (.pointer (some ⟨C1, 0, none⟩))).setCell ⟨nb, 1, none⟩ (.pointer (some ⟨C2, 0, none⟩))).setCell ⟨nb, 2, none⟩ (.pointer (some ⟨C3, 0, none⟩)) = wz at *
                refine wpAnyH_done (by kernel_rfl) ?_ _
                obtain ⟨GZ, hTZ, hloZ⟩ := HF.out.2.2
                have HSZ : Hid (Sy w wz (.slice (some ⟨g, 0, none⟩) n c) n (ts ++ [⟨C1, C2, C3, t.m⟩])) := hide (HSB.out.add (by rw [HN.out]; exact Nat.le_refl _) hTZ hloZ HF.out.1)
                have bz := HF.out.2.1
                obtain ⟨y0, y1, y2, _, _, _⟩ := blk3 bz
                clear HSB HF
                have HTZ := hide hTZ
                clear hTZ hloZ
                go_wp2_with fail
                refine (whole_any _ GZ C1 C2 C3 t.m HTZ.out).mono ?_
                rintro e w7 ⟨rfl, hb7⟩
                have HS7 := hide (HSZ.out.below hb7)
                have bz7 := (hb7.block nb (heap_lt bz)).trans bz
                clear y0 y1 y2 hb7 bz HSZ HTZ
                obtain ⟨y0, y1, y2, _, _, _⟩ := blk3 bz7
                have HRw := hide (HS7.out.rowS HN.out)
                clear bz7
                go_upto_region 30 with (at_builtin; refine wpList_append_own_at _ rfl _ _ 30 rfl 0 28 i3 (.agg #[.pointer none, .pointer none, .pointer none]) 3 24 Try.underlying30 hi hz hs3 hb3 rfl (by decide) (.slice (some ⟨g, 0, none⟩) n c) n (encT ts) rfl (HRw.out.alloc _) ⟨w7.heap.size, 0, none⟩ 1 1 [.pointer (some ⟨C1, 0, none⟩), .pointer (some ⟨C2, 0, none⟩), .pointer (some ⟨C3, 0, none⟩)] rfl rfl (cell_three_new _ _ _ _ _) (by simp [Value.oneCell']) (by unfold maxLen; omega) (by omega) (by omega) ?_; intro v2 w8 ho8 hg8 _ hl8)
                obtain ⟨g2, c2, rfl⟩ := ownsRow_succ' ho8
                have HS8 := hide ((HS7.out.alloc _).app HN.out ho8 hg8 hl8)
                clear ho8 hg8 hl8 y0 y1 y2 HS7 HRw
                go_wp2
                go_roundw
                case rel => exact ⟨k + 1, n + 1, _, g2, c2, by omega, by go_num, rfl, by omega, by omega, by simp only [Hid, List.length_append, List.length_cons, List.length_nil]; rw [HN.out], HS8⟩
                case measure => simp [intOf]; omega
            · go_simp
              have HPzab2 := hide (HPza1.out.al)
              refine hK _ _ (HX.out _ HPzab2.out.bel) ?_
              clear hK K HPza1
              obtain ⟨nb, hnb⟩ : ∃ nb, nb = (wza1).heap.size := ⟨_, rfl⟩
              simp only [← hnb] at HPzab2 ⊢
              clear hnb
              generalize (wza1).alloc (.cells #[.pointer none, .pointer none, .pointer none] 28) = wzab2 at *
              try simp only [Act.put, List.setIfInBounds_toArray, List.set_cons_zero, List.set_cons_succ]
              refine hd_call 5 (o := ⟨some 84, _, _, _, _, _⟩) (by kernel_rfl) rfl (by rfl) (fun K hK => ?_)
              go_simp
              go_wp2_with (go_at_call 11; refine (HCB.out _ HPzab2.out.bel).mono ?_; rintro e1 wzab3 ⟨C2, F0, rfl, hT0, hlo0, hb0⟩)
              have HPzab3 := hide (HPzab2.out.c2 hT0 hlo0 hb0)
              clear hT0 hlo0 hb0 HPzab2
              refine hK _ _ (HX.out _ HPzab3.out.bel) ?_
              clear hK K
              try simp only [Act.put, List.setIfInBounds_toArray, List.set_cons_zero, List.set_cons_succ]
              refine hd_call 8 (o := ⟨some 87, _, _, _, _, _⟩) (by kernel_rfl) rfl (by rfl) (fun K hK => ?_)
              go_simp
              go_wp2_with (go_at_call 12; refine (HCR.out _ HPzab3.out.bel).mono ?_; rintro e1 wzab4 ⟨C3, F0, rfl, hT0, hlo0, hb0⟩)
              have HPzab4 := hide (HPzab3.out.c3 hT0 hlo0 hb0)
              clear hT0 hlo0 hb0 HPzab3
              refine hK _ _ (HX.out _ HPzab4.out.bel) ?_
              clear hK K
              try simp only [Act.put, List.setIfInBounds_toArray, List.set_cons_zero, List.set_cons_succ]
              refine hd_take 9 (o := ⟨some 88, _, _, _, _, _⟩) (.agg #[.pointer (some ⟨C1, 0, none⟩), .pointer (some ⟨C2, 0, none⟩), .pointer (some ⟨C3, 0, none⟩)]) (by kernel_rfl) (by kernel_rfl) (by kernel_rfl) rfl (by rfl) (fun W hSw => by go_simp) (fun _ _ _ h => h) (HX.out _ HPzab4.out.bel) ?_
              try simp only [Act.put, List.setIfInBounds_toArray, List.set_cons_zero, List.set_cons_succ]
              refine hd_call 11 (o := ⟨none, _, _, _, _, _⟩) (by kernel_rfl) rfl (by rfl) (fun K hK => ?_)
              obtain ⟨⟨x0, d0⟩, ⟨x1, d1⟩, ⟨x2, d2⟩, f0, f1, f2, hnb⟩ := HPzab4.out.cells
              have HF := hide (HPzab4.out.fin rfl)
              go_simp
              refine hK _ _ (HX.out _ HF.out.1) ?_
              clear hK K d0 d1 d2 f0 f1 f2 hnb HPzab4
              generalize ((wzab4.setCell ⟨nb, 0, none⟩ (.pointer (some ⟨C1, 0, none⟩))).setCell ⟨nb, 1, none⟩ (.pointer (some ⟨C2, 0, none⟩))).setCell ⟨nb, 2, none⟩ (.pointer (some ⟨C3, 0, none⟩)) = wz at *
              refine wpAnyH_done (by kernel_rfl) ?_ _
              obtain ⟨GZ, hTZ, hloZ⟩ := HF.out.2.2
              have HSZ : Hid (Sy w wz (.slice (some ⟨g, 0, none⟩) n c) n (ts ++ [⟨C1, C2, C3, t.m⟩])) := hide (HSB.out.add (by rw [HN.out]; exact Nat.le_refl _) hTZ hloZ HF.out.1)
              have bz := HF.out.2.1
              obtain ⟨y0, y1, y2, _, _, _⟩ := blk3 bz
              clear HSB HF
              have HTZ := hide hTZ
              clear hTZ hloZ
              go_wp2_with fail
              refine (whole_any _ GZ C1 C2 C3 t.m HTZ.out).mono ?_
              rintro e w7 ⟨rfl, hb7⟩
              have HS7 := hide (HSZ.out.below hb7)
              have bz7 := (hb7.block nb (heap_lt bz)).trans bz
              clear y0 y1 y2 hb7 bz HSZ HTZ
              obtain ⟨y0, y1, y2, _, _, _⟩ := blk3 bz7
              have HRw := hide (HS7.out.rowS HN.out)
              clear bz7
              go_upto_region 30 with (at_builtin; refine wpList_append_own_at _ rfl _ _ 30 rfl 0 28 i3 (.agg #[.pointer none, .pointer none, .pointer none]) 3 24 Try.underlying30 hi hz hs3 hb3 rfl (by decide) (.slice (some ⟨g, 0, none⟩) n c) n (encT ts) rfl (HRw.out.alloc _) ⟨w7.heap.size, 0, none⟩ 1 1 [.pointer (some ⟨C1, 0, none⟩), .pointer (some ⟨C2, 0, none⟩), .pointer (some ⟨C3, 0, none⟩)] rfl rfl (cell_three_new _ _ _ _ _) (by simp [Value.oneCell']) (by unfold maxLen; omega) (by omega) (by omega) ?_; intro v2 w8 ho8 hg8 _ hl8)
              obtain ⟨g2, c2, rfl⟩ := ownsRow_succ' ho8
              have HS8 := hide ((HS7.out.alloc _).app HN.out ho8 hg8 hl8)
              clear ho8 hg8 hl8 y0 y1 y2 HS7 HRw
              go_wp2
              go_roundw
              case rel => exact ⟨k + 1, n + 1, _, g2, c2, by omega, by go_num, rfl, by omega, by omega, by simp only [Hid, List.length_append, List.length_cons, List.length_nil]; rw [HN.out], HS8⟩
              case measure => simp [intOf]; omega
          · go_simp
            have HPzb1 := hide (HP0.out.al)
            refine hK _ _ (HX.out _ HPzb1.out.bel) ?_
            clear hK K HP0
            obtain ⟨nb, hnb⟩ : ∃ nb, nb = (wD).heap.size := ⟨_, rfl⟩
            simp only [← hnb] at HPzb1 ⊢
            clear hnb
            generalize (wD).alloc (.cells #[.pointer none, .pointer none, .pointer none] 28) = wzb1 at *
            try simp only [Act.put, List.setIfInBounds_toArray, List.set_cons_zero, List.set_cons_succ]
            refine hd_call 2 (o := ⟨some 81, _, _, _, _, _⟩) (by kernel_rfl) rfl (by rfl) (fun K hK => ?_)
            go_simp
            go_wp2_with (go_at_call 10; refine (HCA.out _ HPzb1.out.bel).mono ?_; rintro e1 wzb2 ⟨C1, F0, rfl, hT0, hlo0, hb0⟩)
            have HPzb2 := hide (HPzb1.out.c1 hT0 hlo0 hb0)
            clear hT0 hlo0 hb0 HPzb1
            refine hK _ _ (HX.out _ HPzb2.out.bel) ?_
            clear hK K
            try simp only [Act.put, List.setIfInBounds_toArray, List.set_cons_zero, List.set_cons_succ]
            refine hd_call 5 (o := ⟨some 84, _, _, _, _, _⟩) (by kernel_rfl) rfl (by rfl) (fun K hK => ?_)
            go_simp
            go_wp2_with (go_at_call 11; refine (HCB.out _ HPzb2.out.bel).mono ?_; rintro e1 wzb3 ⟨C2, F0, rfl, hT0, hlo0, hb0⟩)
            have HPzb3 := hide (HPzb2.out.c2 hT0 hlo0 hb0)
            clear hT0 hlo0 hb0 HPzb2
            refine hK _ _ (HX.out _ HPzb3.out.bel) ?_
            clear hK K
            try simp only [Act.put, List.setIfInBounds_toArray, List.set_cons_zero, List.set_cons_succ]
            refine hd_call 8 (o := ⟨some 87, _, _, _, _, _⟩) (by kernel_rfl) rfl (by rfl) (fun K hK => ?_)
            go_simp
            go_wp2_with (go_at_call 12; refine (HCR.out _ HPzb3.out.bel).mono ?_; rintro e1 wzb4 ⟨C3, F0, rfl, hT0, hlo0, hb0⟩)
            have HPzb4 := hide (HPzb3.out.c3 hT0 hlo0 hb0)
            clear hT0 hlo0 hb0 HPzb3
            refine hK _ _ (HX.out _ HPzb4.out.bel) ?_
            clear hK K
            try simp only [Act.put, List.setIfInBounds_toArray, List.set_cons_zero, List.set_cons_succ]
            refine hd_take 9 (o := ⟨some 88, _, _, _, _, _⟩) (.agg #[.pointer (some ⟨C1, 0, none⟩), .pointer (some ⟨C2, 0, none⟩), .pointer (some ⟨C3, 0, none⟩)]) (by kernel_rfl) (by kernel_rfl) (by kernel_rfl) rfl (by rfl) (fun W hSw => by go_simp) (fun _ _ _ h => h) (HX.out _ HPzb4.out.bel) ?_
            try simp only [Act.put, List.setIfInBounds_toArray, List.set_cons_zero, List.set_cons_succ]
            refine hd_call 11 (o := ⟨none, _, _, _, _, _⟩) (by kernel_rfl) rfl (by rfl) (fun K hK => ?_)
            obtain ⟨⟨x0, d0⟩, ⟨x1, d1⟩, ⟨x2, d2⟩, f0, f1, f2, hnb⟩ := HPzb4.out.cells
            have HF := hide (HPzb4.out.fin rfl)
            go_simp
            refine hK _ _ (HX.out _ HF.out.1) ?_
            clear hK K d0 d1 d2 f0 f1 f2 hnb HPzb4
            generalize ((wzb4.setCell ⟨nb, 0, none⟩ (.pointer (some ⟨C1, 0, none⟩))).setCell ⟨nb, 1, none⟩ (.pointer (some ⟨C2, 0, none⟩))).setCell ⟨nb, 2, none⟩ (.pointer (some ⟨C3, 0, none⟩)) = wz at *
            refine wpAnyH_done (by kernel_rfl) ?_ _
            obtain ⟨GZ, hTZ, hloZ⟩ := HF.out.2.2
            have HSZ : Hid (Sy w wz (.slice (some ⟨g, 0, none⟩) n c) n (ts ++ [⟨C1, C2, C3, t.m⟩])) := hide (HSB.out.add (by rw [HN.out]; exact Nat.le_refl _) hTZ hloZ HF.out.1)
            have bz := HF.out.2.1
            obtain ⟨y0, y1, y2, _, _, _⟩ := blk3 bz
            clear HSB HF
            have HTZ := hide hTZ
            clear hTZ hloZ
            go_wp2_with fail
            refine (whole_any _ GZ C1 C2 C3 t.m HTZ.out).mono ?_
            rintro e w7 ⟨rfl, hb7⟩
            have HS7 := hide (HSZ.out.below hb7)
            have bz7 := (hb7.block nb (heap_lt bz)).trans bz
            clear y0 y1 y2 hb7 bz HSZ HTZ
            obtain ⟨y0, y1, y2, _, _, _⟩ := blk3 bz7
            have HRw := hide (HS7.out.rowS HN.out)
            clear bz7
            go_upto_region 30 with (at_builtin; refine wpList_append_own_at _ rfl _ _ 30 rfl 0 28 i3 (.agg #[.pointer none, .pointer none, .pointer none]) 3 24 Try.underlying30 hi hz hs3 hb3 rfl (by decide) (.slice (some ⟨g, 0, none⟩) n c) n (encT ts) rfl (HRw.out.alloc _) ⟨w7.heap.size, 0, none⟩ 1 1 [.pointer (some ⟨C1, 0, none⟩), .pointer (some ⟨C2, 0, none⟩), .pointer (some ⟨C3, 0, none⟩)] rfl rfl (cell_three_new _ _ _ _ _) (by simp [Value.oneCell']) (by unfold maxLen; omega) (by omega) (by omega) ?_; intro v2 w8 ho8 hg8 _ hl8)
            obtain ⟨g2, c2, rfl⟩ := ownsRow_succ' ho8
            have HS8 := hide ((HS7.out.alloc _).app HN.out ho8 hg8 hl8)
            clear ho8 hg8 hl8 y0 y1 y2 HS7 HRw
            go_wp2
            go_roundw
            case rel => exact ⟨k + 1, n + 1, _, g2, c2, by omega, by go_num, rfl, by omega, by omega, by simp only [Hid, List.length_append, List.length_cons, List.length_nil]; rw [HN.out], HS8⟩
            case measure => simp [intOf]; omega
        · have HS6 := HSB
          go_wp2
          go_roundw
          case rel => exact ⟨k + 1, n, ts, g, c, by omega, by go_num, rfl, hn2, hn6, by first | exact HN | (simp only [Hid, List.length_set]; exact HN.out), HS6⟩
          case measure => simp [intOf]; omega
      have n9 : (kd == 9) = false := by simp [k9]
      clear k9
      have HS6 := HSB
      go_wp2
      go_roundw
      case rel => exact ⟨k + 1, n, ts, g, c, by omega, by go_num, rfl, hn2, hn6, by first | exact HN | (simp only [Hid, List.length_set]; exact HN.out), HS6⟩
      case measure => simp [intOf]; omega
    · have HSE := HS
      clear HS HS2
      generalize wr = we at *
      go_wp2
      go_loopw [13] (fun i wr => ∃ j : Nat, j ≤ n ∧ i = .int .i64 j ∧ Hid (Sy w wr (.slice (some ⟨g, 0, none⟩) n c) n ts)) (fun i _ => n - (intOf i).toNat)
      case atStart => exact ⟨0, by omega, rfl, HSE⟩
      case round =>
        obtain ⟨j, hj, rfl, HSJ⟩ := hrel
        by_cases hjn : j < n
        · obtain ⟨t, ht⟩ : ∃ t, ts[j]? = some t := ⟨_, List.getElem?_eq_getElem (by rw [← HN.out]; exact hjn)⟩
          obtain ⟨g', c', hv, hc⟩ := HSJ.out.cells HN.out (by omega)
          simp only [Value.slice.injEq, Option.some.injEq, Addr.mk.injEq, and_true, true_and] at hv
          obtain ⟨rfl, rfl⟩ := hv
          obtain ⟨c0, c1, c2⟩ := hc j t ht
          obtain ⟨GT, hT, _⟩ := HSJ.out.one ht
          have HT1 := hide hT
          clear hc ht hT HSE
          go_wp2_with fail
          refine (whole_any _ GT t.A t.B t.R t.m HT1.out).mono ?_
          rintro e w6 ⟨rfl, hb6⟩
          have HS6 := hide (HSJ.out.below hb6)
          clear hb6 HSJ HT1 c0 c1 c2
          go_wp2
          go_roundw
          case rel => exact ⟨j + 1, by omega, by go_num, HS6⟩
          case measure => simp [intOf]; omega
        · have HB := hide HSJ.out.bel
          clear HSJ HSE
          go_wp2
          go_ret
          exact ⟨rfl, HB.out⟩
end Go.Proofs.Ytfjgmhghjbikfaa
