import Derived.Test.YtihkkbbphdgagaaJ5
namespace Go.Proofs.Ytihkkbbphdgagaa
open Go.RowKit

set_option maxRecDepth 1000000 in
set_option maxHeartbeats 4000000 in
theorem counts_walk (n : Int) (a : Option Addr) (len cap : Nat) (Z : Nat → Int) (w : World) (hl : len ≤ maxLen) (hZ : IsInts w a len Z) :
    Calls Try.prog 6 #[.int .i64 n, .slice a len cap] w fun e w' => e = .returned (.bool true) ∧ Below w.heap.size w w' := by
  have hl2 : len ≤ 9223372036854775807 := by unfold maxLen at hl; omega
  clear hl
  obtain ⟨i4, hi, hz, hs, hb⟩ := info4'
  obtain ⟨i3, hi3, hz3, hs3, hb3⟩ := info3'
  go_enter Try.func6, Try.ntmps6
  by_cases g0 : n < 0
  · go_wp2
    go_ret
    exact ⟨rfl, Below.refl _ _⟩
  by_cases g1 : 64 < n
  · go_wp2
    go_ret
    exact ⟨rfl, Below.refl _ _⟩
  obtain ⟨N, rfl⟩ := Int.eq_ofNat_of_zero_le (show 0 ≤ n by omega)
  have hN : N ≤ 64 := by omega
  have d0 : decide ((N : Int) < 0) = false := by simp
  have d1 : decide (64 < (N : Int)) = false := by simp; omega
  clear g0 g1
  go_wp2_with fail
  refine (new_any w (N : Int) N (by omega)).mono ?_
  rintro e w1 ⟨rfl, hM, hb1⟩
  have h1 : Sx w w1 (w.heap.size + 1) w.heap.size N (fun _ => Fr.nil) := ⟨hM, by omega, Nat.le_refl _, hb1⟩
  have hBl := hM.lt
  have hGl := hM.glt
  generalize w.heap.size + 1 = B at *
  obtain ⟨G, hG⟩ : ∃ G, w.heap.size = G := ⟨_, rfl⟩
  have h1' : Sx w w1 B G N (fun _ => Fr.nil) := by rw [← hG]; exact h1
  rw [hG] at hGl
  obtain ⟨b0, hb0⟩ : ∃ b0, w1.heap.size = b0 := ⟨_, rfl⟩
  have hw0 : w.heap.size ≤ b0 := by rw [← hb0]; exact hb1.size
  rw [hb0] at hBl hGl
  have hb0' : Hid (b0 ≤ w1.heap.size) := hide (by omega)
  have H1 := hide h1'
  have HZ := hide hZ
  clear hM hb1 h1 h1' hG hZ d0 d1 hb0
  go_wp2
  go_loopw [6, 7] (fun v i wr => ∃ (k : Nat) (m : Nat → Fr) (us : List Bool), k ≤ N ∧ i = .int .i64 (k : Int) ∧ Us m us k ∧ (∀ j, j < k → us[j]? = some true) ∧ OwB wr b0 v us ∧ Sx w wr B G N m ∧ b0 ≤ wr.heap.size) (fun _ i _ => 65 - (intOf i).toNat)
  case atStart => exact ⟨0, _, [], by omega, rfl, Us.nil, fun j hj => by omega, World.ownsRow_nil _ _ _ _, H1.out, hb0'.out⟩
  case round =>
    clear H1 hb0'
    obtain ⟨k, m, us, hk, rfl, hU, hA, hO, hS, hbw⟩ := hrel
    by_cases hlt : k < N
    · have hd : decide ((k : Int) < (N : Int)) = true := by simp; omega
      go_wp2_with fail
      refine (alloc_ok wr B G N m ((k : Int) + 1) hS.mem hN (by omega) (by omega) k (fun j hj => by rw [(hU.yes j (hA j hj)).1]; omega) hlt (hU.out k (Nat.le_refl _))).mono ?_
      rintro e w2 ⟨rfl, hg⟩
      have hS2 := hS.go hg
      have hO2 := hO.mod hg.2 (fun b e => by rw [e]; exact hGl)
      have hU2 := hU.snoc
      have hbw2 := Nat.le_trans hbw hg.2.size
      have hlen := hU.len
      have hA2 : ∀ j, j < k + 1 → (us ++ [true])[j]? = some true := fun j hj => by
        by_cases e : j = k
        · subst e; rw [← hlen, List.getElem?_concat_length]
        · rw [List.getElem?_append_left (by omega)]; exact hA j (by omega)
      have HK := hide (And.intro hU2 hA2)
      obtain ⟨ao, cp, rfl⟩ := hO2.len
      rw [hlen] at hO2 ⊢
      have HO2 : Hid (w2.ownsRow b0 4 1 (.slice ao k cp) k (us.map Value.bool)) := hide (by have := hO2; unfold OwB at this; rwa [hlen] at this)
      have HS2 := hide hS2
      clear hS hg hO hU hU2 hA hA2 hO2 hS2
      go_wp2_with (at_builtin; refine wpList_append_own _ rfl _ _ 38 rfl b0 4 i4 (.bool false) 1 1 Try.underlying38 hi hz hs hb rfl (by decide) _ k (us.map Value.bool) rfl (HO2.out.alloc _) ⟨w2.heap.size, 0, none⟩ 1 1 [.bool true] rfl rfl ?c1 ?c2 ?c3 ?c4 ?c5 ?_)
      case c1 => exact cell_one_new _ _ _
      case c2 => simp [Value.oneCell']
      case c3 => unfold maxLen; omega
      case c4 => omega
      case c5 => simp; omega
      intro r2 w3 hown hg3 _
      have HX : Hid (OwB w3 b0 r2 (us ++ [true]) ∧ Sx w w3 B G N (upd m k (Fr.new ((k : Int) + 1))) ∧ b0 ≤ w3.heap.size) := by
        refine hide ⟨?_, HS2.out.grown hg3 (fun q e => (World.ownsRow.lt HO2.out q e).1) hBl hGl hw0, ?_⟩
        · unfold OwB; rw [List.length_append, hlen, List.map_append]; exact hown
        · have := hg3.size; simp at this; omega
      clear hown hg3 HS2 HO2
      go_wp2
      go_roundw
      case rel => exact ⟨k + 1, _, us ++ [true], by omega, by go_num, HK.out.1, HK.out.2, HX.out⟩
      case measure => simp [intOf]; omega
    · have hkN : k = N := by omega
      have hU' : Us m us N := by rw [← hkN]; exact hU
      have hfull : ∀ j, j < N → (m j).h ≠ 0 := fun j hj => by rw [(hU.yes j (hA j (by omega))).1]; omega
      go_wp2_with fail
      refine (alloc_full wr B G N m ((N : Int) + 1) hS.mem hN (by omega) (by omega) hfull).mono ?_
      rintro e w2 ⟨rfl, rfl⟩
      have H2 := hide (And.intro hU' (And.intro hO (And.intro hS hbw)))
      clear hU hU' hA hO hS hbw hfull hlt
      go_wp2
      clear hkN hk
      go_loopw [12] (fun i wr => ∃ (k : Nat) (m : Nat → Fr) (us : List Bool), k ≤ len ∧ k ≤ 100 ∧ i = .int .i64 (k : Int) ∧ Us m us N ∧ OwB wr b0 u6 us ∧ Sx w wr B G N m ∧ b0 ≤ wr.heap.size) (fun i _ => 101 - (intOf i).toNat)
      case atStart => exact ⟨0, _, us, by omega, by omega, rfl, H2.out⟩
      case round =>
        clear H2
        obtain ⟨k, m, us, hk, hk2, rfl, hU, hO, hS, hbw⟩ := hrel
        by_cases hlt : k < len
        · by_cases hlt2 : k < 100
          · obtain ⟨x, rfl, hx0⟩ := HZ.out k hlt
            have hxlt := World.block_lt_of_cell? w _ hx0
            have hx := cell_up hx0 hS.bel
            clear hx0
            generalize Z k = d at *
            have hd1 : decide ((k : Int) < (len : Int)) = true := by simp; omega
            have hd2 : decide ((k : Int) < 100) = true := by simp; omega
            have HX := hide (And.intro hU (And.intro hO (And.intro hS hbw)))
            by_cases q1 : d < 0
            · clear hU hO hS hbw
              go_wp2
              go_roundw
              case rel => exact ⟨k + 1, m, us, by omega, by omega, by go_num, HX.out⟩
              case measure => simp [intOf]; omega
            by_cases q2 : (N : Int) ≤ d
            · clear hU hO hS hbw
              have hd3 : decide (d < 0) = false := by simp; omega
              have hd4 : decide ((N : Int) ≤ d) = true := by simp; omega
              go_wp2
              go_roundw
              case rel => exact ⟨k + 1, m, us, by omega, by omega, by go_num, HX.out⟩
              case measure => simp [intOf]; omega
            obtain ⟨q, rfl⟩ := Int.eq_ofNat_of_zero_le (show 0 ≤ d by omega)
            have hq : q < N := by omega
            have hd3 : decide ((q : Int) < 0) = false := by simp
            have hd4 : decide ((N : Int) ≤ (q : Int)) = false := by simp; omega
            obtain ⟨b, hb'⟩ := hU.get hq
            obtain ⟨g, cp, rfl, hgb, hgc, hgl⟩ := hO.some_of (by rw [hU.len]; omega)
            have c1 := hO.cell hb'
            have f1 := hO.frz q
            have hlen := hU.len
            rw [hlen] at hgc
            rcases b with _ | _
            · clear hU hO hS hbw
              rw [hlen] at HX ⊢
              go_wp2
              go_roundw
              case rel => exact ⟨k + 1, m, us, by omega, by omega, by go_num, HX.out⟩
              case measure => simp [intOf]; omega
            · have hy := hU.yes q hb'
              clear HX
              rw [hlen] at hO ⊢
              go_wp2_with fail
              refine (drop_last wr B G N m q hS.mem ⟨hq, by rw [hy.1]; omega⟩ hy.1).mono ?_
              rintro e w3 ⟨rfl, hg3⟩
              have hS3 := hS.go hg3
              have hO3 := hO.mod hg3.2 (fun b e => by rw [e]; exact hGl)
              have hU3 := hU.drop hq
              have hbw3 := Nat.le_trans hbw hg3.2.size
              have hx3 := cell_mod hx hg3.2 (by intro e; have := hS.g; omega)
              have c3 := hO3.cell hb'
              have f3 := hO3.frz q
              have HX : Hid (Us (upd m q Fr.nil) (us.set q false) N ∧ OwB (w3.setCell ⟨g, q, none⟩ (.bool false)) b0 (.slice (some ⟨g, 0, none⟩) N cp) (us.set q false) ∧ Sx w (w3.setCell ⟨g, q, none⟩ (.bool false)) B G N (upd m q Fr.nil) ∧ b0 ≤ (w3.setCell ⟨g, q, none⟩ (.bool false)).heap.size) :=
                hide ⟨hU3, hO3.set false, hS3.setCell (a := ⟨g, q, none⟩) (by show B ≠ g; omega) (by show G ≠ g; omega) (by show w.heap.size ≤ g; omega) _, by simp [World.setCell]; exact hbw3⟩
              clear hU hO hS hbw hU3 hO3 hS3 hbw3 hg3 c1 f1 hx hy
              go_wp2
              go_roundw
              case rel => exact ⟨k + 1, _, _, by omega, by omega, by go_num, HX.out⟩
              case measure => simp [intOf]; omega
          · have hd1 : decide ((k : Int) < (len : Int)) = true := by simp; omega
            have hd2 : decide ((k : Int) < 100) = false := by simp; omega
            have HX := hide (And.intro hU (And.intro hO (And.intro hS hbw)))
            clear hU hO hS hbw HZ
            go_upto_region 25 with fail
            obtain ⟨hU, hO, hS, hbw⟩ := HX.out
            clear HX
            have hub : ∀ b, u6.ownBlock = some b → b < wr.heap.size := fun b e => (hO.lt e).2
            obtain ⟨b1, hb1⟩ : ∃ b1, wr.heap.size = b1 := ⟨_, rfl⟩
            rw [hb1] at hub hbw
            have hBl1 : B < b1 := by omega
            have hGl1 : G < b1 := by omega
            have hw1 : w.heap.size ≤ b1 := by omega
            have HX := hide (And.intro hO (And.intro hS hb1))
            clear hO hS hb1 hlt
            go_wp2
            go_loopw [15, 16] (fun v i wr => ∃ k : Nat, k ≤ N ∧ i = .int .i64 (k : Int) ∧ OwI wr b1 v (lives m k) ∧ OwB wr b0 u6 us ∧ Sx w wr B G N m ∧ b1 ≤ wr.heap.size) (fun _ i _ => 65 - (intOf i).toNat)
            case atStart => exact ⟨0, by omega, rfl, World.ownsRow_nil _ _ _ _, HX.out.1, HX.out.2.1, by have := HX.out.2.2; omega⟩
            case round =>
              clear HX
              obtain ⟨k, hk, rfl, hI, hO, hS, hsz⟩ := hrel
              by_cases hlt : k < N
              · have hd : decide ((k : Int) < (N : Int)) = true := by simp; omega
                obtain ⟨b, hb'⟩ := hU.get hlt
                obtain ⟨g, cp, hu6, hgb, hgc, hgl⟩ := hO.some_of (by rw [hU.len]; omega)
                have hlen := hU.len
                rw [hlen] at hu6 hgc
                subst hu6
                have c1 := hO.cell hb'
                have hgb1 := hub g rfl
                rcases b with _ | _
                · have hno := hU.no k hb'
                  go_wp2_with fail
                  refine (info_off wr B G N m (k : Int) hS.mem (fun j hj _ => by obtain rfl : j = k := (by omega); exact hno)).mono ?_
                  rintro e w5 ⟨rfl, hb5⟩
                  have hI5 := hI.up hb5
                  rw [← lives_no hno] at hI5
                  have hO5 := hO.up hb5
                  have hS5 := hS.below hb5
                  have hsz5 := Nat.le_trans hsz hb5.size
                  rw [show Fr.nil.head.toArray = #[.int .i64 0, .int .i64 0, .bool false, .int .i64 0] from rfl]
                  clear hI hO hS hsz hb5 c1
                  have hal : Below w5.heap.size w5 (w5.alloc (.cells #[.int .i64 0, .int .i64 0, .bool false, .int .i64 0] 42)) := (Below.refl _ _).alloc (Nat.le_refl _) _
                  have HF := hide (And.intro (hI5.up hal) (And.intro (hO5.up hal) (And.intro (hS5.below hal) (Nat.le_trans hsz5 hal.size))))
                  have e1 := cell_up (hO5.cell hb') hal
                  have e2 : (w5.alloc (.cells #[.int .i64 0, .int .i64 0, .bool false, .int .i64 0] 42)).cell? ⟨w5.heap.size, 0, none⟩ = some (.int .i64 0) := by rw [cell_of_row _ _ _ _ _ _ (heap_alloc_last _ _)]; rfl
                  clear hI5 hO5 hS5 hsz5 hal
                  go_upto_region 32 with fail
                  generalize w5.alloc (.cells #[.int .i64 0, .int .i64 0, .bool false, .int .i64 0] 42) = w6 at *
                  generalize w5.heap.size = N5 at *
                  go_wp2
                  go_roundw
                  case rel => exact ⟨k + 1, by omega, by go_num, HF.out⟩
                  case measure => simp [intOf]; omega
                · obtain ⟨hy1, hy2⟩ := hU.yes k hb'
                  have hll := lives_len m k
                  obtain ⟨a2, c2, rfl⟩ := hI.len
                  obtain ⟨L, hL⟩ : ∃ L, (lives m k).length = L := ⟨_, rfl⟩
                  have HO2 : Hid (wr.ownsRow b1 3 1 (.slice a2 L c2) L ((lives m k).map In)) := hide (by have := hI; unfold OwI at this; rw [hL] at this; exact this)
                  rw [hL] at hll ⊢
                  have HS := hide (And.intro hO (And.intro hS hsz))
                  clear hI hO hS
                  go_wp2_with (at_builtin; refine wpList_append_own _ rfl _ _ 35 rfl b1 3 i3 (.int .i64 0) 1 8 Try.underlying35 hi3 hz3 hs3 hb3 rfl (by decide) _ L ((lives m k).map In) rfl (HO2.out.alloc _) ⟨wr.heap.size, 0, none⟩ 1 1 [In k] rfl rfl ?c1x ?c2x ?c3x ?c4x ?c5x ?_)
                  case c1x => exact cell_one_new _ _ _
                  case c2x => simp [In, Value.oneCell']
                  case c3x => unfold maxLen; omega
                  case c4x => omega
                  case c5x => simp; omega
                  intro r2 w3 hown hg3 _
                  have hI3 : OwI w3 b1 r2 (lives m (k + 1)) := by
                    unfold OwI
                    rw [lives_yes (by omega), List.length_append, hL, List.map_append]; exact hown
                  have hS3 := HS.out.2.1.grown hg3 (fun q e => (World.ownsRow.lt HO2.out q e).1) hBl1 hGl1 hw1
                  have hO3 : OwB w3 b0 (.slice (some ⟨g, 0, none⟩) N cp) us := (HS.out.1.up ((Below.refl _ _).alloc (Nat.le_refl _) _)).keep (fun b e => hg3.block b (by have := hub b e; simp; omega) (fun e2 => by have := (World.ownsRow.lt HO2.out b e2.symm).1; have := hub b e; omega))
                  have hsz3 : b1 ≤ w3.heap.size := by have := hg3.size; simp at this; omega
                  clear hown hg3 HS HO2 hsz c1
                  go_wp2_with fail
                  refine (info_on w3 B G N m k hS3.mem ⟨hlt, by rw [hy1]; omega⟩).mono ?_
                  rintro e w5 ⟨rfl, hb5⟩
                  have hI5 := hI3.up hb5
                  have hO5 := hO3.up hb5
                  have hS5 := hS3.below hb5
                  have hsz5 := Nat.le_trans hsz3 hb5.size
                  obtain ⟨dd, hdd⟩ : ∃ dd, (m k).d = dd := ⟨_, rfl⟩
                  obtain ⟨kk, hkk⟩ : ∃ kk, (m k).k = kk := ⟨_, rfl⟩
                  rw [show (m k).head.toArray = #[.int .i64 ((k : Int) + 1), .int .i64 1, .bool dd, .int .i64 kk] by simp [Fr.head, hy1, hy2, hdd, hkk]]
                  clear hI3 hO3 hS3 hsz3 hb5
                  have hal : Below w5.heap.size w5 (w5.alloc (.cells #[.int .i64 ((k : Int) + 1), .int .i64 1, .bool dd, .int .i64 kk] 42)) := (Below.refl _ _).alloc (Nat.le_refl _) _
                  have HF := hide (And.intro (hI5.up hal) (And.intro (hO5.up hal) (And.intro (hS5.below hal) (Nat.le_trans hsz5 hal.size))))
                  have e1 := cell_up (hO5.cell hb') hal
                  have e2 : (w5.alloc (.cells #[.int .i64 ((k : Int) + 1), .int .i64 1, .bool dd, .int .i64 kk] 42)).cell? ⟨w5.heap.size, 0, none⟩ = some (.int .i64 ((k : Int) + 1)) := by rw [cell_of_row _ _ _ _ _ _ (heap_alloc_last _ _)]; rfl
                  clear hI5 hO5 hS5 hsz5 hal
                  go_upto_region 32 with fail
                  generalize w5.alloc (.cells #[.int .i64 ((k : Int) + 1), .int .i64 1, .bool dd, .int .i64 kk] 42) = w6 at *
                  generalize w5.heap.size = N5 at *
                  go_wp2
                  go_roundw
                  case rel => exact ⟨k + 1, by omega, by go_num, HF.out⟩
                  case measure => simp [intOf]; omega
              · have hkN : k = N := by omega
                rw [hkN] at hI
                have hll := lives_len m N
                go_wp2_with fail
                refine (live_any wr B G N m hS.mem hN).mono ?_
                rintro e w5 ⟨r, rfl, hI5, hb5⟩
                have hL5 := hI.up hb5
                have hS5 := hS.below hb5
                obtain ⟨a6, c6, hu⟩ := hL5.len
                subst hu
                obtain ⟨a7, c7, hu⟩ := hI5.len
                subst hu
                clear hI hO hS hsz hb5
                go_wp2_with fail
                refine (same_ints w5 _ _ _ _ (lives m N) hI5 hL5 (by omega)).mono ?_
                rintro e w6 ⟨rfl, hb6⟩
                have hS6 := hS5.below hb6
                clear hI5 hL5 hS5 hb6
                go_wp2_with fail
                refine (free_any w6 B G N m hS6.mem hN).mono ?_
                rintro e w7 ⟨rfl, hb7⟩
                have HB := hide (hS6.below hb7).bel
                clear hS6 hb7
                generalize (lives m N).length = L at *
                have hw9 : ((N - L : Nat) : Int) = (N : Int) - (L : Int) := by omega
                rw [hw9]
                go_wp2
                go_ret
                exact ⟨rfl, HB.out⟩
        · have hd1 : decide ((k : Int) < (len : Int)) = false := by simp; omega
          have HX := hide (And.intro hU (And.intro hO (And.intro hS hbw)))
          clear hU hO hS hbw HZ
          go_upto_region 25 with fail
          obtain ⟨hU, hO, hS, hbw⟩ := HX.out
          clear HX
          have hub : ∀ b, u6.ownBlock = some b → b < wr.heap.size := fun b e => (hO.lt e).2
          obtain ⟨b1, hb1⟩ : ∃ b1, wr.heap.size = b1 := ⟨_, rfl⟩
          rw [hb1] at hub hbw
          have hBl1 : B < b1 := by omega
          have hGl1 : G < b1 := by omega
          have hw1 : w.heap.size ≤ b1 := by omega
          have HX := hide (And.intro hO (And.intro hS hb1))
          clear hO hS hb1 hlt
          go_wp2
          go_loopw [15, 16] (fun v i wr => ∃ k : Nat, k ≤ N ∧ i = .int .i64 (k : Int) ∧ OwI wr b1 v (lives m k) ∧ OwB wr b0 u6 us ∧ Sx w wr B G N m ∧ b1 ≤ wr.heap.size) (fun _ i _ => 65 - (intOf i).toNat)
          case atStart => exact ⟨0, by omega, rfl, World.ownsRow_nil _ _ _ _, HX.out.1, HX.out.2.1, by have := HX.out.2.2; omega⟩
          case round =>
            clear HX
            obtain ⟨k, hk, rfl, hI, hO, hS, hsz⟩ := hrel
            by_cases hlt : k < N
            · have hd : decide ((k : Int) < (N : Int)) = true := by simp; omega
              obtain ⟨b, hb'⟩ := hU.get hlt
              obtain ⟨g, cp, hu6, hgb, hgc, hgl⟩ := hO.some_of (by rw [hU.len]; omega)
              have hlen := hU.len
              rw [hlen] at hu6 hgc
              subst hu6
              have c1 := hO.cell hb'
              have hgb1 := hub g rfl
              rcases b with _ | _
              · have hno := hU.no k hb'
                go_wp2_with fail
                refine (info_off wr B G N m (k : Int) hS.mem (fun j hj _ => by obtain rfl : j = k := (by omega); exact hno)).mono ?_
                rintro e w5 ⟨rfl, hb5⟩
                have hI5 := hI.up hb5
                rw [← lives_no hno] at hI5
                have hO5 := hO.up hb5
                have hS5 := hS.below hb5
                have hsz5 := Nat.le_trans hsz hb5.size
                rw [show Fr.nil.head.toArray = #[.int .i64 0, .int .i64 0, .bool false, .int .i64 0] from rfl]
                clear hI hO hS hsz hb5 c1
                have hal : Below w5.heap.size w5 (w5.alloc (.cells #[.int .i64 0, .int .i64 0, .bool false, .int .i64 0] 42)) := (Below.refl _ _).alloc (Nat.le_refl _) _
                have HF := hide (And.intro (hI5.up hal) (And.intro (hO5.up hal) (And.intro (hS5.below hal) (Nat.le_trans hsz5 hal.size))))
                have e1 := cell_up (hO5.cell hb') hal
                have e2 : (w5.alloc (.cells #[.int .i64 0, .int .i64 0, .bool false, .int .i64 0] 42)).cell? ⟨w5.heap.size, 0, none⟩ = some (.int .i64 0) := by rw [cell_of_row _ _ _ _ _ _ (heap_alloc_last _ _)]; rfl
                clear hI5 hO5 hS5 hsz5 hal
                go_upto_region 32 with fail
                generalize w5.alloc (.cells #[.int .i64 0, .int .i64 0, .bool false, .int .i64 0] 42) = w6 at *
                generalize w5.heap.size = N5 at *
                go_wp2
                go_roundw
                case rel => exact ⟨k + 1, by omega, by go_num, HF.out⟩
                case measure => simp [intOf]; omega
              · obtain ⟨hy1, hy2⟩ := hU.yes k hb'
                have hll := lives_len m k
                obtain ⟨a2, c2, rfl⟩ := hI.len
                obtain ⟨L, hL⟩ : ∃ L, (lives m k).length = L := ⟨_, rfl⟩
                have HO2 : Hid (wr.ownsRow b1 3 1 (.slice a2 L c2) L ((lives m k).map In)) := hide (by have := hI; unfold OwI at this; rw [hL] at this; exact this)
                rw [hL] at hll ⊢
                have HS := hide (And.intro hO (And.intro hS hsz))
                clear hI hO hS
                go_wp2_with (at_builtin; refine wpList_append_own _ rfl _ _ 35 rfl b1 3 i3 (.int .i64 0) 1 8 Try.underlying35 hi3 hz3 hs3 hb3 rfl (by decide) _ L ((lives m k).map In) rfl (HO2.out.alloc _) ⟨wr.heap.size, 0, none⟩ 1 1 [In k] rfl rfl ?c1y ?c2y ?c3y ?c4y ?c5y ?_)
                case c1y => exact cell_one_new _ _ _
                case c2y => simp [In, Value.oneCell']
                case c3y => unfold maxLen; omega
                case c4y => omega
                case c5y => simp; omega
                intro r2 w3 hown hg3 _
                have hI3 : OwI w3 b1 r2 (lives m (k + 1)) := by
                  unfold OwI
                  rw [lives_yes (by omega), List.length_append, hL, List.map_append]; exact hown
                have hS3 := HS.out.2.1.grown hg3 (fun q e => (World.ownsRow.lt HO2.out q e).1) hBl1 hGl1 hw1
                have hO3 : OwB w3 b0 (.slice (some ⟨g, 0, none⟩) N cp) us := (HS.out.1.up ((Below.refl _ _).alloc (Nat.le_refl _) _)).keep (fun b e => hg3.block b (by have := hub b e; simp; omega) (fun e2 => by have := (World.ownsRow.lt HO2.out b e2.symm).1; have := hub b e; omega))
                have hsz3 : b1 ≤ w3.heap.size := by have := hg3.size; simp at this; omega
                clear hown hg3 HS HO2 hsz c1
                go_wp2_with fail
                refine (info_on w3 B G N m k hS3.mem ⟨hlt, by rw [hy1]; omega⟩).mono ?_
                rintro e w5 ⟨rfl, hb5⟩
                have hI5 := hI3.up hb5
                have hO5 := hO3.up hb5
                have hS5 := hS3.below hb5
                have hsz5 := Nat.le_trans hsz3 hb5.size
                obtain ⟨dd, hdd⟩ : ∃ dd, (m k).d = dd := ⟨_, rfl⟩
                obtain ⟨kk, hkk⟩ : ∃ kk, (m k).k = kk := ⟨_, rfl⟩
                rw [show (m k).head.toArray = #[.int .i64 ((k : Int) + 1), .int .i64 1, .bool dd, .int .i64 kk] by simp [Fr.head, hy1, hy2, hdd, hkk]]
                clear hI3 hO3 hS3 hsz3 hb5
                have hal : Below w5.heap.size w5 (w5.alloc (.cells #[.int .i64 ((k : Int) + 1), .int .i64 1, .bool dd, .int .i64 kk] 42)) := (Below.refl _ _).alloc (Nat.le_refl _) _
                have HF := hide (And.intro (hI5.up hal) (And.intro (hO5.up hal) (And.intro (hS5.below hal) (Nat.le_trans hsz5 hal.size))))
                have e1 := cell_up (hO5.cell hb') hal
                have e2 : (w5.alloc (.cells #[.int .i64 ((k : Int) + 1), .int .i64 1, .bool dd, .int .i64 kk] 42)).cell? ⟨w5.heap.size, 0, none⟩ = some (.int .i64 ((k : Int) + 1)) := by rw [cell_of_row _ _ _ _ _ _ (heap_alloc_last _ _)]; rfl
                clear hI5 hO5 hS5 hsz5 hal
                go_upto_region 32 with fail
                generalize w5.alloc (.cells #[.int .i64 ((k : Int) + 1), .int .i64 1, .bool dd, .int .i64 kk] 42) = w6 at *
                generalize w5.heap.size = N5 at *
                go_wp2
                go_roundw
                case rel => exact ⟨k + 1, by omega, by go_num, HF.out⟩
                case measure => simp [intOf]; omega
            · have hkN : k = N := by omega
              rw [hkN] at hI
              have hll := lives_len m N
              go_wp2_with fail
              refine (live_any wr B G N m hS.mem hN).mono ?_
              rintro e w5 ⟨r, rfl, hI5, hb5⟩
              have hL5 := hI.up hb5
              have hS5 := hS.below hb5
              obtain ⟨a6, c6, hu⟩ := hL5.len
              subst hu
              obtain ⟨a7, c7, hu⟩ := hI5.len
              subst hu
              clear hI hO hS hsz hb5
              go_wp2_with fail
              refine (same_ints w5 _ _ _ _ (lives m N) hI5 hL5 (by omega)).mono ?_
              rintro e w6 ⟨rfl, hb6⟩
              have hS6 := hS5.below hb6
              clear hI5 hL5 hS5 hb6
              go_wp2_with fail
              refine (free_any w6 B G N m hS6.mem hN).mono ?_
              rintro e w7 ⟨rfl, hb7⟩
              have HB := hide (hS6.below hb7).bel
              clear hS6 hb7
              generalize (lives m N).length = L at *
              have hw9 : ((N - L : Nat) : Int) = (N : Int) - (L : Int) := by omega
              rw [hw9]
              go_wp2
              go_ret
              exact ⟨rfl, HB.out⟩
end Go.Proofs.Ytihkkbbphdgagaa
