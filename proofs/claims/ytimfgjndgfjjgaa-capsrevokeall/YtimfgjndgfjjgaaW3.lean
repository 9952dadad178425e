import Derived.Test.YtimfgjndgfjjgaaW2
import Derived.Deep.DeepCutAuto
namespace Go.Proofs.Ytimfgjndgfjjgaa
open Go.RowKit

/-- a slice of numbers that came in -/
def IsInts (w : World) (a : Option Addr) (len : Nat) (Z : Nat → Int) : Prop := ∀ k, k < len → ∃ x, a = some x ∧ w.cell? (x.add k) = some (.int .i64 (Z k))
theorem cell_lt' {w : World} {a : Addr} {v : Value} (h : w.cell? a = some v) : a.block < w.heap.size := by
  unfold World.cell? at h
  cases hb : w.heap[a.block]? with
  | none => rw [hb] at h; simp at h
  | some o => exact (Array.getElem?_eq_some_iff.1 hb).1
theorem IsInts.at {w : World} {a : Option Addr} {len : Nat} {Z : Nat → Int} (h : IsInts w a len Z) {k : Nat} (hk : k < len) : ∃ x, a = some x ∧ ∀ W, Below w.heap.size w W → W.cell? (x.add k) = some (.int .i64 (Z k)) := by
  obtain ⟨x, h1, h2⟩ := h k hk
  exact ⟨x, h1, fun W hW => (hW.cell (cell_lt' h2)).trans h2⟩
theorem lowF_skip {tb : List Bool} : ∀ (q : Nat), (∀ s, s < q → tb[s]? = some true) → lowF tb 0 = lowF tb q
  | 0, _ => rfl
  | q + 1, h => by rw [lowF_skip q (fun s hs => h s (by omega)), lowF_taken (h q (by omega))]
theorem lowF_at {tb : List Bool} {q : Nat} (h : ∀ s, s < q → tb[s]? = some true) (hq : tb[q]? = some false) : lowF tb 0 = q := by
  rw [lowF_skip q h, lowF_free hq]
theorem st_start {w w2 : World} {F : Nat → Prop} {B : Nat} {bk : List (Option Lst)} (hB : Book w2 F B bk) (hI : Inv (List.replicate 48 false) bk) (hF : ∀ b, F b → w.heap.size ≤ b) (hb : Below w.heap.size w w2) :
    St w ((w2.alloc (.cells #[.int .i64 3, .int .i64 0, .int .i64 1, .int .i64 0] 26)).alloc (.cells ((List.replicate 48 false).map Value.bool).toArray 42)) B (w2.heap.size + 1) w2.heap.size (List.replicate 48 false) (List.replicate 48 false) := by
  have hb2 := ((Below.refl w2.heap.size w2).alloc (Nat.le_refl _) (.cells #[.int .i64 3, .int .i64 0, .int .i64 1, .int .i64 0] 26)).alloc (by simp) (.cells ((List.replicate 48 false).map Value.bool).toArray 42)
  exact ⟨F, bk, hB.below hb2, hI, heap_alloc2_new _ _ _, heap_alloc2_old _ _ _, fun hf => by have := hB.lt _ hf; omega, fun hf => by have := hB.lt _ hf; omega, hF, Nat.le_succ_of_le hb.size, by omega, hb.trans (hb2.mono hb.size)⟩
set_option maxRecDepth 8000 in
set_option maxHeartbeats 8000000 in
theorem lowest_walk (a1 : Option Addr) (len1 cap1 : Nat) (Z1 : Nat → Int) (a2 : Option Addr) (len2 cap2 : Nat) (Z2 : Nat → Int) (w : World) (hl1 : len1 ≤ maxLen) (h1 : IsInts w a1 len1 Z1) (hl2 : len2 ≤ maxLen) (h2 : IsInts w a2 len2 Z2) :
    Calls Try.prog 4 #[.slice a1 len1 cap1, .slice a2 len2 cap2] w fun e w' => e = .returned (.bool true) ∧ Below w.heap.size w w' := by
  have HI1 := hide h1
  have HI2 := hide h2
  clear h1 h2
  go_enter Try.func4, Try.ntmps4
  go_wp2_with fail
  refine (new_any w).mono ?_
  rintro e w1 ⟨B, F, rfl, hB, hF, hb1⟩
  have HB := hide hB
  have HF := hide hF
  have HB1 := hide hb1
  clear hB hF hb1
  go_wp2_with fail
  refine (open_any w1 F B _ HB.out 2).mono ?_
  rintro e w2 ⟨c, bk', F', rfl, hB2, hE2, hO2⟩
  obtain ⟨rfl, rfl⟩ : c = 0 ∧ bk' = (List.replicate 16 (none : Option Lst)).set 2 (some (List.replicate 48 none)) := by
    rcases hO2 with ⟨k, hk, _, h3, h4⟩ | ⟨_, _, h3⟩
    · obtain rfl : k = 2 := by omega
      exact ⟨h3, h4⟩
    · exact (h3 2 rfl rfl).elim
  have HB2 := hide hB2
  have HE2 := hide hE2
  clear hB2 hE2 hO2
  go_upto_region 6 with fail
  have HS : Hid (St w ((w2.alloc (.cells #[.int .i64 3, .int .i64 0, .int .i64 1, .int .i64 0] 26)).alloc (.cells #[.bool false, .bool false, .bool false, .bool false, .bool false, .bool false, .bool false, .bool false, .bool false, .bool false, .bool false, .bool false, .bool false, .bool false, .bool false, .bool false, .bool false, .bool false, .bool false, .bool false, .bool false, .bool false, .bool false, .bool false, .bool false, .bool false, .bool false, .bool false, .bool false, .bool false, .bool false, .bool false, .bool false, .bool false, .bool false, .bool false, .bool false, .bool false, .bool false, .bool false, .bool false, .bool false, .bool false, .bool false, .bool false, .bool false, .bool false, .bool false] 42)) B (w2.heap.size + 1) w2.heap.size (List.replicate 48 false) (List.replicate 48 false)) :=
    st_start HB2.out inv_start (fun b hb => by rcases HE2.out.new b hb with h | h; exact HF.out b h; have := HB1.out.size; omega) (HB1.out.trans (HE2.out.mod.below HF.out HB1.out.size))
  generalize (w2.alloc (.cells #[.int .i64 3, .int .i64 0, .int .i64 1, .int .i64 0] 26)).alloc (.cells #[.bool false, .bool false, .bool false, .bool false, .bool false, .bool false, .bool false, .bool false, .bool false, .bool false, .bool false, .bool false, .bool false, .bool false, .bool false, .bool false, .bool false, .bool false, .bool false, .bool false, .bool false, .bool false, .bool false, .bool false, .bool false, .bool false, .bool false, .bool false, .bool false, .bool false, .bool false, .bool false, .bool false, .bool false, .bool false, .bool false, .bool false, .bool false, .bool false, .bool false, .bool false, .bool false, .bool false, .bool false, .bool false, .bool false, .bool false, .bool false] 42) = W0 at *
  generalize hnt : w2.heap.size + 1 = nt at *
  generalize w2.heap.size = nc at *
  clear HB HF HB1 HB2 HE2 hnt
  generalize List.replicate 48 false = t0 at *
  go_wp2_with fail
  go_loopw [8] (fun x wr => ∃ (k : Nat) (tk : List Bool), k ≤ len1 ∧ k ≤ 200 ∧ x = .int .i64 (k : Int) ∧ Hid (St w wr B nt nc tk tk)) (fun x _ => 200 - (intOf x).toNat)
  case atStart => exact ⟨0, t0, by omega, by omega, rfl, HS⟩
  case round =>
  obtain ⟨k, tk, hk1, hk2, rfl, K1⟩ := hrel
  clear HS
  have hml : (len1 : Int) ≤ 9223372036854775807 := by unfold maxLen at hl1; omega
  by_cases hlt : k < len1 ∧ k < 200
  · obtain ⟨hlt1, hlt2⟩ := hlt
    obtain ⟨x, rfl, hx⟩ := HI1.out.at hlt1
    have cx := hx wr K1.out.bel
    have HX := hide hx
    clear hx
    generalize hza : Z1 k = a at *
    clear hza
    obtain ⟨cc0, cc1, cc2, cc3⟩ := K1.out.capc
    have hki : (k : Int) < (len1 : Int) := by omega
    have hk3 : (k : Int) < 200 := by omega
    by_cases ha : a = -1
    · subst ha
      go_wp2_with fail
      go_loopw [9, 10] (fun v z wx => wx = wr ∧ ((∃ p : Nat, p < 48 ∧ z = .int .i64 (p : Int) ∧ v = .int .i64 (lowF tk (p + 1))) ∨ (z = .int .i64 (-1) ∧ v = .int .i64 (lowF tk 0)))) (fun _ z _ => (intOf z + 1).toNat)
      case atStart => exact ⟨rfl, .inl ⟨47, by omega, rfl, by rw [lowF_end K1.out.blen]⟩⟩
      case round =>
      obtain ⟨rfl, ⟨p, hp, rfl, rfl⟩ | ⟨rfl, rfl⟩⟩ := hrel
      · obtain ⟨t, ht⟩ : ∃ t, tk[p]? = some t := ⟨_, List.getElem?_eq_getElem (by rw [K1.out.blen]; exact hp)⟩
        obtain ⟨ct, -⟩ := K1.out.cells ht
        have hp3 : (p : Int) < 48 := by omega
        have hp4 : (0 : Int) ≤ (p : Int) := by omega
        have HL : Hid (lowF tk p = if t then lowF tk (p + 1) else (p : Int)) := by
          cases t
          · exact lowF_free ht
          · exact lowF_taken ht
        clear cc0 cc1 cc2 cc3
        cases t
        · go_wp2
          go_roundw
          case rel =>
            refine ⟨by first | rfl | trivial, ?_⟩
            rcases Nat.eq_zero_or_pos p with rfl | hp5
            · exact .inr ⟨by go_num, by rw [HL.out]; rfl⟩
            · exact .inl ⟨p - 1, by omega, by go_num, by rw [show p - 1 + 1 = p by omega, HL.out]; rfl⟩
          case measure => simp [intOf]
        · go_wp2
          go_roundw
          case rel =>
            refine ⟨by first | rfl | trivial, ?_⟩
            rcases Nat.eq_zero_or_pos p with rfl | hp5
            · exact .inr ⟨by go_num, by rw [HL.out]; rfl⟩
            · exact .inl ⟨p - 1, by omega, by go_num, by rw [show p - 1 + 1 = p by omega, HL.out]; rfl⟩
          case measure => simp [intOf]
      · have c17 : wr.drew.cell? (x.add k) = some (.int .i64 (-1)) ∧ wr.drew.cell? ⟨nc, 0, none⟩ = some (.int .i64 3) ∧ wr.drew.cell? ⟨nc, 1, none⟩ = some (.int .i64 0) ∧ wr.drew.cell? ⟨nc, 2, none⟩ = some (.int .i64 1) ∧ wr.drew.cell? ⟨nc, 3, none⟩ = some (.int .i64 0) := ⟨cx, cc0, cc1, cc2, cc3⟩
        have HM := hide ((K1.out.below (Below.refl _ _).drew).mint (-1))
        go_wp2_with fail
        go_region_held (fun W => W.cell? (x.add k) = some (.int .i64 (-1)) ∧ W.cell? ⟨nc, 0, none⟩ = some (.int .i64 3) ∧ W.cell? ⟨nc, 1, none⟩ = some (.int .i64 0) ∧ W.cell? ⟨nc, 2, none⟩ = some (.int .i64 1) ∧ W.cell? ⟨nc, 3, none⟩ = some (.int .i64 0))
          (first | assumption | exact q1 | exact c17)
          (first | (go_at_call 16; refine HM.out.mono ?_; rintro e1 w5 ⟨c, rfl, hM5⟩
                    have hSt : ∃ tb', St w w5 B nt nc tb' tk := by
                      rcases hM5 with ⟨_, kk, _, _, _, h⟩ | ⟨_, _, h, _⟩
                      · exact ⟨_, h⟩
                      · exact ⟨_, h⟩
                    have q1 : w5.cell? (x.add k) = some (.int .i64 (-1)) ∧ w5.cell? ⟨nc, 0, none⟩ = some (.int .i64 3) ∧ w5.cell? ⟨nc, 1, none⟩ = some (.int .i64 0) ∧ w5.cell? ⟨nc, 2, none⟩ = some (.int .i64 1) ∧ w5.cell? ⟨nc, 3, none⟩ = some (.int .i64 0) := by
                      obtain ⟨tb', hSt⟩ := hSt
                      exact ⟨HX.out w5 hSt.bel, hSt.capc⟩
                    have HM5 := hide hM5
                    clear hM5 hSt))
        have hw : want tk (-1) = lowF tk 0 := by unfold want; rw [if_pos rfl]
        rw [hw]
        rw [hw] at HM5
        rcases HM5.out with ⟨rfl, kk, hkk, hkk2, hkk3, hS5⟩ | ⟨hc, hv, hS5, -⟩
        · rw [hkk]
          have hcell := hS5.cells hkk3
          obtain ⟨ct, ft⟩ := hcell
          have K2 := hide (hS5.store kk true)
          have hkk4 : (kk : Int) < 48 := by omega
          clear hS5 q1 c17 HM HM5 cx cc0 cc1 cc2 cc3
          go_wp2
          go_roundw
          case rel =>
            first
              | exact ⟨k + 1, tk.set kk true, by omega, by omega, by go_num, K2⟩
              | ((repeat apply Exists.intro); refine ⟨?_, rfl⟩; exact ⟨k + 1, tk.set kk true, by omega, by omega, by go_num, K2⟩)
          case measure => simp [intOf]; omega
        · rw [hv]
          have hcb : (c == 0) = false := by simpa using hc
          have K2 := hide hS5
          clear hS5 q1 c17 HM HM5 cx cc0 cc1 cc2 cc3
          go_wp2
          go_roundw
          case rel =>
            first
              | exact ⟨k + 1, tk, by omega, by omega, by go_num, K2⟩
              | ((repeat apply Exists.intro); refine ⟨?_, rfl⟩; exact ⟨k + 1, tk, by omega, by omega, by go_num, K2⟩)
          case measure => simp [intOf]; omega
    · by_cases hr : 0 ≤ a ∧ a < 48
      · obtain ⟨h0, h48⟩ := hr
        obtain ⟨t, htk⟩ : ∃ t, tk[a.toNat]? = some t := ⟨_, List.getElem?_eq_getElem (by rw [K1.out.blen]; omega)⟩
        cases t
        · have hane0 : ¬ a = -1 := by omega
          obtain ⟨ct, -⟩ := K1.out.cells (s := a.toNat) htk
          go_wp2_with fail
          go_loopw [9, 10] (fun v z wx => wx = wr ∧ z = .int .i64 47 ∧ v = .int .i64 a) (fun _ _ _ => 0)
          case atStart => exact ⟨rfl, rfl, rfl⟩
          case round =>
          obtain ⟨rfl, rfl, rfl⟩ := hrel
          have hane : decide (a = -1) = false := by simp; omega
          have hane2 : (a == -1) = false := by simp; omega
          have c17 : wr.drew.cell? (x.add k) = some (.int .i64 a) ∧ wr.drew.cell? ⟨nc, 0, none⟩ = some (.int .i64 3) ∧ wr.drew.cell? ⟨nc, 1, none⟩ = some (.int .i64 0) ∧ wr.drew.cell? ⟨nc, 2, none⟩ = some (.int .i64 1) ∧ wr.drew.cell? ⟨nc, 3, none⟩ = some (.int .i64 0) := ⟨cx, cc0, cc1, cc2, cc3⟩
          have HM := hide ((K1.out.below (Below.refl _ _).drew).mint a)
          go_wp2_with fail
          go_region_held (fun W => W.cell? (x.add k) = some (.int .i64 a) ∧ W.cell? ⟨nc, 0, none⟩ = some (.int .i64 3) ∧ W.cell? ⟨nc, 1, none⟩ = some (.int .i64 0) ∧ W.cell? ⟨nc, 2, none⟩ = some (.int .i64 1) ∧ W.cell? ⟨nc, 3, none⟩ = some (.int .i64 0))
            (first | assumption | exact q1 | exact c17)
            (first | (go_at_call 16; refine HM.out.mono ?_; rintro e1 w5 ⟨c, rfl, hM5⟩
                      have hSt : ∃ tb', St w w5 B nt nc tb' tk := by
                        rcases hM5 with ⟨_, kk, _, _, _, h⟩ | ⟨_, _, h, _⟩
                        · exact ⟨_, h⟩
                        · exact ⟨_, h⟩
                      have q1 : w5.cell? (x.add k) = some (.int .i64 a) ∧ w5.cell? ⟨nc, 0, none⟩ = some (.int .i64 3) ∧ w5.cell? ⟨nc, 1, none⟩ = some (.int .i64 0) ∧ w5.cell? ⟨nc, 2, none⟩ = some (.int .i64 1) ∧ w5.cell? ⟨nc, 3, none⟩ = some (.int .i64 0) := by
                        obtain ⟨tb', hSt⟩ := hSt
                        exact ⟨HX.out w5 hSt.bel, hSt.capc⟩
                      have HM5 := hide hM5
                      clear hM5 hSt))
          have hw : want tk a = a := by unfold want; rw [if_neg hane0, if_pos ⟨h0, h48, htk⟩]
          rw [hw]
          rw [hw] at HM5
          rcases HM5.out with ⟨rfl, kk, hkk, hkk2, hkk3, hS5⟩ | ⟨hc, hv, hS5, -⟩
          · subst hkk
            have hcell := hS5.cells hkk3
            obtain ⟨ct, ft⟩ := hcell
            have K2 := hide (hS5.store kk true)
            have hkk4 : (kk : Int) < 48 := by omega
            clear hS5 q1 c17 HM HM5 cx cc0 cc1 cc2 cc3
            go_wp2
            go_roundw
            case rel =>
              first
                | exact ⟨k + 1, tk.set kk true, by omega, by omega, by go_num, K2⟩
                | ((repeat apply Exists.intro); refine ⟨?_, rfl⟩; exact ⟨k + 1, tk.set kk true, by omega, by omega, by go_num, K2⟩)
            case measure => simp [intOf]; omega
          · omega
        · have hane0 : ¬ a = -1 := by omega
          obtain ⟨ct, -⟩ := K1.out.cells (s := a.toNat) htk
          go_wp2_with fail
          go_loopw [9, 10] (fun v z wx => wx = wr ∧ z = .int .i64 47 ∧ v = .int .i64 (-1)) (fun _ _ _ => 0)
          case atStart => exact ⟨rfl, rfl, rfl⟩
          case round =>
          obtain ⟨rfl, rfl, rfl⟩ := hrel
          have hane : decide (a = -1) = false := by simp; omega
          have hane2 : (a == -1) = false := by simp; omega
          have c17 : wr.drew.cell? (x.add k) = some (.int .i64 a) ∧ wr.drew.cell? ⟨nc, 0, none⟩ = some (.int .i64 3) ∧ wr.drew.cell? ⟨nc, 1, none⟩ = some (.int .i64 0) ∧ wr.drew.cell? ⟨nc, 2, none⟩ = some (.int .i64 1) ∧ wr.drew.cell? ⟨nc, 3, none⟩ = some (.int .i64 0) := ⟨cx, cc0, cc1, cc2, cc3⟩
          have HM := hide ((K1.out.below (Below.refl _ _).drew).mint a)
          go_wp2_with fail
          go_region_held (fun W => W.cell? (x.add k) = some (.int .i64 a) ∧ W.cell? ⟨nc, 0, none⟩ = some (.int .i64 3) ∧ W.cell? ⟨nc, 1, none⟩ = some (.int .i64 0) ∧ W.cell? ⟨nc, 2, none⟩ = some (.int .i64 1) ∧ W.cell? ⟨nc, 3, none⟩ = some (.int .i64 0))
            (first | assumption | exact q1 | exact c17)
            (first | (go_at_call 16; refine HM.out.mono ?_; rintro e1 w5 ⟨c, rfl, hM5⟩
                      have hSt : ∃ tb', St w w5 B nt nc tb' tk := by
                        rcases hM5 with ⟨_, kk, _, _, _, h⟩ | ⟨_, _, h, _⟩
                        · exact ⟨_, h⟩
                        · exact ⟨_, h⟩
                      have q1 : w5.cell? (x.add k) = some (.int .i64 a) ∧ w5.cell? ⟨nc, 0, none⟩ = some (.int .i64 3) ∧ w5.cell? ⟨nc, 1, none⟩ = some (.int .i64 0) ∧ w5.cell? ⟨nc, 2, none⟩ = some (.int .i64 1) ∧ w5.cell? ⟨nc, 3, none⟩ = some (.int .i64 0) := by
                        obtain ⟨tb', hSt⟩ := hSt
                        exact ⟨HX.out w5 hSt.bel, hSt.capc⟩
                      have HM5 := hide hM5
                      clear hM5 hSt))
          have hw : want tk a = -1 := by unfold want; rw [if_neg hane0, if_neg (by rw [htk]; simp)]
          rw [hw]
          rw [hw] at HM5
          rcases HM5.out with ⟨rfl, kk, hkk, hkk2, hkk3, hS5⟩ | ⟨hc, hv, hS5, -⟩
          · omega
          · have hcb : (c == 0) = false := by simpa using hc
            have K2 := hide hS5
            clear hS5 q1 c17 HM HM5 cx cc0 cc1 cc2 cc3
            go_wp2
            go_roundw
            case rel =>
              first
                | exact ⟨k + 1, tk, by omega, by omega, by go_num, K2⟩
                | ((repeat apply Exists.intro); refine ⟨?_, rfl⟩; exact ⟨k + 1, tk, by omega, by omega, by go_num, K2⟩)
            case measure => simp [intOf]; omega
      · by_cases h0 : 0 ≤ a
        · have h48 : ¬ a < 48 := by omega
          go_wp2_with fail
          go_loopw [9, 10] (fun v z wx => wx = wr ∧ z = .int .i64 47 ∧ v = .int .i64 (-1)) (fun _ _ _ => 0)
          case atStart => exact ⟨rfl, rfl, rfl⟩
          case round =>
          obtain ⟨rfl, rfl, rfl⟩ := hrel
          have hane : decide (a = -1) = false := by simp; omega
          have hane2 : (a == -1) = false := by simp; omega
          have c17 : wr.drew.cell? (x.add k) = some (.int .i64 a) ∧ wr.drew.cell? ⟨nc, 0, none⟩ = some (.int .i64 3) ∧ wr.drew.cell? ⟨nc, 1, none⟩ = some (.int .i64 0) ∧ wr.drew.cell? ⟨nc, 2, none⟩ = some (.int .i64 1) ∧ wr.drew.cell? ⟨nc, 3, none⟩ = some (.int .i64 0) := ⟨cx, cc0, cc1, cc2, cc3⟩
          have HM := hide ((K1.out.below (Below.refl _ _).drew).mint a)
          go_wp2_with fail
          go_region_held (fun W => W.cell? (x.add k) = some (.int .i64 a) ∧ W.cell? ⟨nc, 0, none⟩ = some (.int .i64 3) ∧ W.cell? ⟨nc, 1, none⟩ = some (.int .i64 0) ∧ W.cell? ⟨nc, 2, none⟩ = some (.int .i64 1) ∧ W.cell? ⟨nc, 3, none⟩ = some (.int .i64 0))
            (first | assumption | exact q1 | exact c17)
            (first | (go_at_call 16; refine HM.out.mono ?_; rintro e1 w5 ⟨c, rfl, hM5⟩
                      have hSt : ∃ tb', St w w5 B nt nc tb' tk := by
                        rcases hM5 with ⟨_, kk, _, _, _, h⟩ | ⟨_, _, h, _⟩
                        · exact ⟨_, h⟩
                        · exact ⟨_, h⟩
                      have q1 : w5.cell? (x.add k) = some (.int .i64 a) ∧ w5.cell? ⟨nc, 0, none⟩ = some (.int .i64 3) ∧ w5.cell? ⟨nc, 1, none⟩ = some (.int .i64 0) ∧ w5.cell? ⟨nc, 2, none⟩ = some (.int .i64 1) ∧ w5.cell? ⟨nc, 3, none⟩ = some (.int .i64 0) := by
                        obtain ⟨tb', hSt⟩ := hSt
                        exact ⟨HX.out w5 hSt.bel, hSt.capc⟩
                      have HM5 := hide hM5
                      clear hM5 hSt))
          have hw : want tk a = -1 := by unfold want; rw [if_neg ha, if_neg (fun h => hr ⟨h.1, h.2.1⟩)]
          rw [hw]
          rw [hw] at HM5
          rcases HM5.out with ⟨rfl, kk, hkk, hkk2, hkk3, hS5⟩ | ⟨hc, hv, hS5, -⟩
          · omega
          · have hcb : (c == 0) = false := by simpa using hc
            have K2 := hide hS5
            clear hS5 q1 c17 HM HM5 cx cc0 cc1 cc2 cc3
            go_wp2
            go_roundw
            case rel =>
              first
                | exact ⟨k + 1, tk, by omega, by omega, by go_num, K2⟩
                | ((repeat apply Exists.intro); refine ⟨?_, rfl⟩; exact ⟨k + 1, tk, by omega, by omega, by go_num, K2⟩)
            case measure => simp [intOf]; omega
        · go_wp2_with fail
          go_loopw [9, 10] (fun v z wx => wx = wr ∧ z = .int .i64 47 ∧ v = .int .i64 (-1)) (fun _ _ _ => 0)
          case atStart => exact ⟨rfl, rfl, rfl⟩
          case round =>
          obtain ⟨rfl, rfl, rfl⟩ := hrel
          have hane : decide (a = -1) = false := by simp; omega
          have hane2 : (a == -1) = false := by simp; omega
          have c17 : wr.drew.cell? (x.add k) = some (.int .i64 a) ∧ wr.drew.cell? ⟨nc, 0, none⟩ = some (.int .i64 3) ∧ wr.drew.cell? ⟨nc, 1, none⟩ = some (.int .i64 0) ∧ wr.drew.cell? ⟨nc, 2, none⟩ = some (.int .i64 1) ∧ wr.drew.cell? ⟨nc, 3, none⟩ = some (.int .i64 0) := ⟨cx, cc0, cc1, cc2, cc3⟩
          have HM := hide ((K1.out.below (Below.refl _ _).drew).mint a)
          go_wp2_with fail
          go_region_held (fun W => W.cell? (x.add k) = some (.int .i64 a) ∧ W.cell? ⟨nc, 0, none⟩ = some (.int .i64 3) ∧ W.cell? ⟨nc, 1, none⟩ = some (.int .i64 0) ∧ W.cell? ⟨nc, 2, none⟩ = some (.int .i64 1) ∧ W.cell? ⟨nc, 3, none⟩ = some (.int .i64 0))
            (first | assumption | exact q1 | exact c17)
            (first | (go_at_call 16; refine HM.out.mono ?_; rintro e1 w5 ⟨c, rfl, hM5⟩
                      have hSt : ∃ tb', St w w5 B nt nc tb' tk := by
                        rcases hM5 with ⟨_, kk, _, _, _, h⟩ | ⟨_, _, h, _⟩
                        · exact ⟨_, h⟩
                        · exact ⟨_, h⟩
                      have q1 : w5.cell? (x.add k) = some (.int .i64 a) ∧ w5.cell? ⟨nc, 0, none⟩ = some (.int .i64 3) ∧ w5.cell? ⟨nc, 1, none⟩ = some (.int .i64 0) ∧ w5.cell? ⟨nc, 2, none⟩ = some (.int .i64 1) ∧ w5.cell? ⟨nc, 3, none⟩ = some (.int .i64 0) := by
                        obtain ⟨tb', hSt⟩ := hSt
                        exact ⟨HX.out w5 hSt.bel, hSt.capc⟩
                      have HM5 := hide hM5
                      clear hM5 hSt))
          have hw : want tk a = -1 := by unfold want; rw [if_neg ha, if_neg (fun h => hr ⟨h.1, h.2.1⟩)]
          rw [hw]
          rw [hw] at HM5
          rcases HM5.out with ⟨rfl, kk, hkk, hkk2, hkk3, hS5⟩ | ⟨hc, hv, hS5, -⟩
          · omega
          · have hcb : (c == 0) = false := by simpa using hc
            have K2 := hide hS5
            clear hS5 q1 c17 HM HM5 cx cc0 cc1 cc2 cc3
            go_wp2
            go_roundw
            case rel =>
              first
                | exact ⟨k + 1, tk, by omega, by omega, by go_num, K2⟩
                | ((repeat apply Exists.intro); refine ⟨?_, rfl⟩; exact ⟨k + 1, tk, by omega, by omega, by go_num, K2⟩)
            case measure => simp [intOf]; omega
  · go_upto_region 7 with fail
    go_cut [37] (fun v wx => v = .bool false ∧ wx = wr)
    case first =>
      by_cases hkl : k < len1
      · have hkli : (k : Int) < (len1 : Int) := by omega
        have hk200 : ¬ (k : Int) < 200 := by omega
        go_wp2_with fail
        go_meet
        case rel => exact ⟨rfl, rfl⟩
      · have hkli : ¬ (k : Int) < (len1 : Int) := by omega
        go_wp2_with fail
        go_meet
        case rel => exact ⟨rfl, rfl⟩
    case rest =>
    obtain ⟨rfl, rfl⟩ := hcut
    clear hlt hk1 hk2 HI1 hml
    have hml : (len2 : Int) ≤ 9223372036854775807 := by unfold maxLen at hl2; omega
    go_wp2_with fail
    go_loopw [13] (fun x wr => ∃ (k : Nat) (tk : List Bool), k ≤ len2 ∧ k ≤ 200 ∧ x = .int .i64 (k : Int) ∧ Hid (St w wr B nt nc tk tk)) (fun x _ => 200 - (intOf x).toNat)
    case atStart => exact ⟨0, tk, by omega, by omega, rfl, K1⟩
    case round =>
    clear K1
    obtain ⟨k2, tk2, hk1, hk2, rfl, K1⟩ := hrel
    by_cases hlt : k2 < len2 ∧ k2 < 200
    · obtain ⟨hlt1, hlt2⟩ := hlt
      obtain ⟨x, rfl, hx⟩ := HI2.out.at hlt1
      have cx := hx _ K1.out.bel
      have HX := hide hx
      clear hx
      generalize hza : Z2 k2 = a at *
      clear hza
      have hki : (k2 : Int) < (len2 : Int) := by omega
      have hk3 : (k2 : Int) < 200 := by omega
      by_cases h0 : 0 ≤ a
      · by_cases h48 : a < 48
        · obtain ⟨d, rfl⟩ : ∃ d : Nat, a = (d : Int) := ⟨a.toNat, by omega⟩
          obtain ⟨t, htk⟩ : ∃ t, tk2[d]? = some t := ⟨_, List.getElem?_eq_getElem (by rw [K1.out.blen]; omega)⟩
          have HD := hide (K1.out.dropc htk)
          clear K1
          go_wp2_with fail
          refine HD.out.mono ?_
          rintro e w5 ⟨dk, dod, dq, dr, c, rfl, hc, hS5⟩
          have hS6 := hS5.below ((Below.refl _ _).alloc (Nat.le_refl _) (.cells #[.int .i64 dk, .int .i64 dod, .int .i64 dq, .int .i64 dr] 26))
          clear hS5 HD cx
          go_upto_region 27 with fail
          generalize w5.alloc (.cells #[.int .i64 dk, .int .i64 dod, .int .i64 dq, .int .i64 dr] 26) = w6 at *
          have cx := HX.out w6 hS6.bel
          obtain ⟨ct, ft⟩ := hS6.cells htk
          have K2 := hide (hS6.store d false)
          clear hS6
          cases t
          · go_wp2
            go_roundw
            case rel =>
              first
                | exact ⟨k2 + 1, tk2.set d false, by omega, by omega, by go_num, K2⟩
                | ((repeat apply Exists.intro); refine ⟨?_, rfl⟩; exact ⟨k2 + 1, tk2.set d false, by omega, by omega, by go_num, K2⟩)
            case measure => simp [intOf]; omega
          · go_wp2
            go_roundw
            case rel =>
              first
                | exact ⟨k2 + 1, tk2.set d false, by omega, by omega, by go_num, K2⟩
                | ((repeat apply Exists.intro); refine ⟨?_, rfl⟩; exact ⟨k2 + 1, tk2.set d false, by omega, by omega, by go_num, K2⟩)
            case measure => simp [intOf]; omega
        · go_wp2
          go_roundw
          case rel =>
            first
              | exact ⟨k2 + 1, tk2, by omega, by omega, by go_num, K1⟩
              | ((repeat apply Exists.intro); refine ⟨?_, rfl⟩; exact ⟨k2 + 1, tk2, by omega, by omega, by go_num, K1⟩)
          case measure => simp [intOf]; omega
      · go_wp2
        go_roundw
        case rel =>
          first
            | exact ⟨k2 + 1, tk2, by omega, by omega, by go_num, K1⟩
            | ((repeat apply Exists.intro); refine ⟨?_, rfl⟩; exact ⟨k2 + 1, tk2, by omega, by omega, by go_num, K1⟩)
        case measure => simp [intOf]; omega
    · go_upto_region 23 with fail
      go_cut [112] (fun v wx => v = .bool false ∧ wx = wr)
      case first =>
        by_cases hkl : k2 < len2
        · have hkli : (k2 : Int) < (len2 : Int) := by omega
          have hk200 : ¬ (k2 : Int) < 200 := by omega
          go_wp2_with fail
          go_meet
          case rel => exact ⟨rfl, rfl⟩
        · have hkli : ¬ (k2 : Int) < (len2 : Int) := by omega
          go_wp2_with fail
          go_meet
          case rel => exact ⟨rfl, rfl⟩
      case rest =>
      obtain ⟨rfl, rfl⟩ := hcut
      clear hlt hk1 hk2 HI2 hml
      go_wp2_with fail
      go_loopw [16] (fun x wr => ∃ (q : Nat) (tb : List Bool), q ≤ 48 ∧ x = .int .i64 (q : Int) ∧ Hid (St w wr B nt nc tb tk2) ∧ (∀ s, s < q → tb[s]? = some true) ∧ ∀ s, q ≤ s → tb[s]? = tk2[s]?) (fun x _ => 48 - (intOf x).toNat)
      case atStart => exact ⟨0, tk2, by omega, rfl, K1, fun s hs => by omega, fun s _ => rfl⟩
      case round =>
      clear K1
      obtain ⟨q, tb, hq, rfl, K1, hq1, hq2⟩ := hrel
      by_cases hq3 : q < 48
      · obtain ⟨t, htq⟩ : ∃ t, tb[q]? = some t := ⟨_, List.getElem?_eq_getElem (by rw [K1.out.blen]; exact hq3)⟩
        obtain ⟨ct, -⟩ := K1.out.cells ((hq2 q (Nat.le_refl _)).symm.trans htq)
        have hq4 : (q : Int) < 48 := by omega
        cases t
        · have hw : want tb (-1) = (q : Int) := by unfold want; rw [if_pos rfl]; exact lowF_at hq1 htq
          have HM := hide (K1.out.mint (-1))
          rw [hw] at HM
          obtain ⟨cc0, cc1, cc2, cc3⟩ := K1.out.capc
          have HQ := hide (And.intro hq1 hq2)
          have HLb := hide K1.out.blen
          clear hq1 hq2 K1 hw
          go_wp2_with fail
          refine HM.out.mono ?_
          rintro e w5 ⟨c, rfl, ⟨rfl, kk, hkk, hkk2, hkk3, hS5⟩ | ⟨_, hv, _⟩⟩
          · obtain rfl : q = kk := by omega
            have K2 := hide hS5
            clear hS5 HM cc0 cc1 cc2 cc3
            go_wp2
            go_roundw
            case rel =>
              have HR : (∀ s, s < q + 1 → (tb.set q true)[s]? = some true) ∧ ∀ s, q + 1 ≤ s → (tb.set q true)[s]? = tk2[s]? := by
                refine ⟨fun s hs => ?_, fun s hs => ?_⟩
                · by_cases e : q = s
                  · subst e; rw [List.getElem?_set_self (by rw [HLb.out]; exact hq3)]
                  · rw [List.getElem?_set_ne e]; exact HQ.out.1 s (by omega)
                · rw [List.getElem?_set_ne (by omega)]; exact HQ.out.2 s (by omega)
              first
                | exact ⟨q + 1, tb.set q true, by omega, by go_num, K2, HR.1, HR.2⟩
                | ((repeat apply Exists.intro); refine ⟨?_, rfl⟩; exact ⟨q + 1, tb.set q true, by omega, by go_num, K2, HR.1, HR.2⟩)
            case measure => simp [intOf]; omega
          · omega
        · have HQ : Hid ((∀ s, s < q + 1 → tb[s]? = some true) ∧ ∀ s, q + 1 ≤ s → tb[s]? = tk2[s]?) := by
            refine ⟨fun s hs => ?_, fun s hs => hq2 s (by omega)⟩
            rcases Nat.lt_or_ge s q with h | h
            · exact hq1 s h
            · obtain rfl : s = q := by omega
              exact htq
          clear hq1 hq2
          go_wp2
          go_roundw
          case rel =>
            first
              | exact ⟨q + 1, tb, by omega, by go_num, K1, HQ.out.1, HQ.out.2⟩
              | ((repeat apply Exists.intro); refine ⟨?_, rfl⟩; exact ⟨q + 1, tb, by omega, by go_num, K1, HQ.out.1, HQ.out.2⟩)
          case measure => simp [intOf]; omega
      · have hq4 : ¬ (q : Int) < 48 := by omega
        have hfull : ∀ s, s < 48 → tb[s]? = some true := fun s hs => hq1 s (by omega)
        have HFull := hide hfull
        have HM := hide (K1.out.mint (-1))
        obtain ⟨cc0, cc1, cc2, cc3⟩ := K1.out.capc
        clear hq1 hq2 K1 hfull
        go_wp2_with fail
        refine HM.out.mono ?_
        rintro e w5 ⟨c, rfl, ⟨_, kk, _, hkk2, hkk3, _⟩ | ⟨hc, hv, hS5, hc2⟩⟩
        · rw [HFull.out kk hkk2] at hkk3; cases hkk3
        · obtain rfl : c = 2 := by first | exact hc2 rfl | exact hc2 trivial
          rw [hv]
          have HR := hide (hS5.room HFull.out)
          have HO := hide (hS5.on HFull.out)
          clear hS5 hc hc2 HM cc0 cc1 cc2 cc3 hv
          go_wp2_with fail
          refine HR.out.mono ?_
          rintro e w6 ⟨rfl, rfl⟩
          go_wp2_with fail
          refine HO.out.mono ?_
          rintro e w7 ⟨rfl, hb7⟩
          have HB7 := hide hb7
          clear hb7
          go_wp2
          go_ret
          exact ⟨rfl, HB7.out⟩
end Go.Proofs.Ytimfgjndgfjjgaa
