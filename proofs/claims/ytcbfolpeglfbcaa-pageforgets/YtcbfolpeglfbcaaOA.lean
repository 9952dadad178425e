import Derived.Test.YtcbfolpeglfbcaaGE
namespace Go.Proofs.Ytcbfolpeglfbcaa
open Go.RowKit
theorem leads_fg (m : Nat → E) (s : Int) {v : Nat} (hv : v < 16) : leads (fg m s 16 v) s = false := by
  unfold fg
  by_cases h : leads (m v) s = true
  · rw [if_pos ⟨hv, h⟩]; rfl
  · rw [if_neg (fun e => h e.2)]; simpa using h
theorem cnt_fg (m : Nat → E) (s : Int) (k : Nat) (hk : k ≤ 16) : cnt (fg m s 16) s k = 0 := by
  induction k with
  | zero => rfl
  | succ k ih => rw [cnt_no (leads_fg m s (by omega)), ih (by omega)]
theorem fg_fg (m : Nat → E) (s : Int) (v : Nat) (hv : v < 16) : fg (fg m s 16) s 16 v = fg m s 16 v := by
  have := leads_fg m s hv
  rw [fg, if_neg (by simp [this])]
set_option maxRecDepth 100000 in
set_option maxHeartbeats 4000000 in
theorem forgets_walk (a : Option Addr) (len cap : Nat) (Z : Nat → Ost) (s : Int) (w : World) (hl : len ≤ maxLen) (hz : IsOps w a len Z) :
    Calls Try.prog 4 #[.slice a len cap, .int .i64 s] w fun e w' => e = .returned (.bool true) ∧ Below w.heap.size w w' := by
  have HZ := hide hz
  have hl' : len ≤ 9223372036854775807 := hl
  clear hz
  go_enter Try.func4, Try.ntmps4
  go_wp2_with fail
  refine (first_any w).mono ?_
  rintro e w1 ⟨rfl, h1, hb1⟩
  have HS1 : Hid (Ts w w1 w.heap.size (upd nil 3 (some (7, false)))) := hide ⟨h1, first_sm, hb1, Nat.le_refl _⟩
  clear h1 hb1
  obtain ⟨B, hB⟩ : ∃ B, w.heap.size = B := ⟨_, rfl⟩
  rw [hB] at HS1 ⊢
  go_upto_region 5 with fail
  go_loopw [6] (fun i wr => ∃ (k : Nat) (m : Nat → E), k ≤ len ∧ i = .int .i64 (k : Int) ∧ Ts w wr B m) (fun i _ => len - (intOf i).toNat)
  case atStart => exact ⟨0, _, by omega, rfl, HS1.out⟩
  case round =>
    obtain ⟨k, m, hk, rfl, hS⟩ := hrel
    clear HS1
    by_cases hlt : k < len
    · have hd : decide (k < len) = true := by simp; omega
      obtain ⟨x, hx, ho⟩ := (HZ.out.below hS.b) k hlt
      subst hx
      have HO := hide ho
      have HS := hide hS
      clear ho hS
      go_wp2_with (refine load_st 31 _ Try.underlying31 rfl (Z k).cells info31 rfl _ rfl (x.add (k * 7)) rfl HO.out.c ?_)
      refine (done_any wr B m (Z k) HS.out.t HO.out.z HO.out.l).mono ?_
      rintro e w2 ⟨c, m', rfl, hst, hg⟩
      have HS2 := hide (HS.out.go hg (hst.sm HS.out.s))
      clear hst hg HS HO
      go_wp2
      go_roundw
      case rel => exact ⟨k + 1, m', by omega, by go_num, HS2.out⟩
      case measure => simp [intOf]; omega
    · have hd : decide (k < len) = false := by simp; omega
      have HS := hide hS
      clear hS HZ
      go_wp2_with fail
      refine (seen_any wr B m HS.out.t).mono ?_
      rintro e w2 ⟨rfl, hb2⟩
      have hS2 := HS.out.below hb2
      obtain ⟨hn, hb3⟩ := seen_new w2 m
      have hS3 := hS2.below hb3
      have hBN : B ≠ w2.heap.size := by have := hS2.t.lt; omega
      rw [sc_nil] at hn hS3 hb3
      have HH := hide (And.intro hn hS3)
      clear hn hS3 hb3 hS2 hb2 HS
      go_upto_region 9 with (refine wpList_store_row rfl 35 _ _ rfl w2.heap.size (sc m).toArray rfl rfl 35 _ (heap_alloc_last w2 _) (by simp only [List.size_toArray, sc_len]; exact info35) (by simp only [List.size_toArray, sc_len]; rfl) (all_oneCell_toArray (sc_one m)) ?_)
      generalize (w2.alloc (.cells _ 35)).setRow w2.heap.size (sc m).toArray = w3 at *
      generalize w2.heap.size = N at *
      clear hd hlt
      have hi35 : (Try.prog.info? 35).map (·.size) = some (sc m).length := by rw [sc_len]; exact info35
      have hu35 := Try.underlying35
      go_upto_region 11 with fail
      go_loopw [9, 8] (fun i n wr => ∃ j : Nat, j ≤ 16 ∧ i = .int .i64 (j : Int) ∧ n = .int .i64 (cnt m s j : Nat) ∧ Ts w wr B m ∧ Sn wr N m) (fun i _ _ => 16 - (intOf i).toNat)
      case atStart => exact ⟨0, by omega, rfl, rfl, HH.out.2, HH.out.1⟩
      case round =>
        obtain ⟨j, hj, rfl, rfl, hT, hN⟩ := hrel
        clear HH
        have hcl := cnt_le m s j
        by_cases hlt : j < 16
        · have hd : decide ((j : Int) < 16) = true := by simp; omega
          obtain ⟨c0, c1, c2⟩ := hN.c hlt
          have HT := hide (And.intro hT hN)
          clear hT hN
          rcases hm : m j with _ | ⟨t, b⟩
          · have hle : leads (m j) s = false := by rw [hm]; rfl
            rw [hm] at c0
            have c0' : wr.cell? ⟨N, j * 3, none⟩ = some (.bool false) := c0
            clear c0 c1 c2
            go_wp2
            go_roundw
            case rel => exact ⟨j + 1, by omega, by go_num, by rw [cnt_no hle], HT.out⟩
            case measure => simp [intOf]; omega
          · rw [hm] at c0 c1
            have c0' : wr.cell? ⟨N, j * 3, none⟩ = some (.bool true) := c0
            have c1' : wr.cell? ⟨N, j * 3 + 1, none⟩ = some (.int .i64 (t : Int)) := c1
            clear c0 c1 c2
            by_cases ht : (t : Int) = s
            · have hle : leads (m j) s = true := by rw [hm]; simp [leads, ht]
              rw [ht] at c1'
              go_wp2
              go_roundw
              case rel => exact ⟨j + 1, by omega, by go_num, by rw [cnt_yes hle]; go_num, HT.out⟩
              case measure => simp [intOf]; omega
            · have hle : leads (m j) s = false := by rw [hm]; simp [leads, ht]
              have hte : ((t : Int) == s) = false := by simpa using ht
              go_wp2
              go_roundw
              case rel => exact ⟨j + 1, by omega, by go_num, by rw [cnt_no hle], HT.out⟩
              case measure => simp [intOf]; omega
        · obtain rfl : j = 16 := by omega
          have hd : decide (((16 : Nat) : Int) < 16) = false := by simp
          have HT := hide (And.intro hT hN)
          clear hT hN
          go_wp2_with fail
          refine (forget_any wr B m s HT.out.1.t).mono ?_
          rintro e w4 ⟨rfl, hg⟩
          have hsm : Sm (fg m s 16) := by
            intro v t b h
            unfold fg at h
            split at h
            · simp at h
            · exact HT.out.1.s v t b h
          have HT2 := hide (And.intro (HT.out.1.go hg hsm) (HT.out.2.mod hg.2 (fun e => hBN e.symm)))
          clear HT hg
          generalize cnt m s 16 = n at *
          go_wp2_with fail
          refine (forget_any w4 B (fg m s 16) s HT2.out.1.t).mono ?_
          rintro e w5 ⟨rfl, hg⟩
          rw [cnt_fg m s 16 (by omega)]
          have HT3 := hide (And.intro (HT2.out.1.go ⟨hg.1.congr (fg_fg m s), hg.2⟩ hsm) (HT2.out.2.mod hg.2 (fun e => hBN e.symm)))
          have hr := HT3.out.2.all
          clear HT2 hg
          go_upto_region 18 with fail
          go_region_held (fun W => W.rangeAt N 0 (sc m))
            (first | exact hr | exact (HT3.out.2.drew.below hb6).all | exact ((HT3.out.2.drew.below hb6).below hb7).all)
            (first
              | (refine (seen_any _ B (fg m s 16) HT3.out.1.t.drew).mono ?_; rintro e w6 ⟨rfl, hb6⟩)
              | (refine (stepped_6 _ m (fg m s 16) ⟨6, 0, 0, s, false, 0, none, 0, 0, fun _ => ⟨0, 0, false⟩⟩ rfl (fun j hj => by simp [fg, hj])).mono ?_; rintro e w7 ⟨rfl, hb7⟩))
          have HB := hide ((HT3.out.1.drew.below hb6).below hb7).b
          rename_i hHeld
          clear hHeld hr HT3 hb6 hb7
          go_wp2
          go_ret
          exact ⟨rfl, HB.out⟩
end Go.Proofs.Ytcbfolpeglfbcaa
