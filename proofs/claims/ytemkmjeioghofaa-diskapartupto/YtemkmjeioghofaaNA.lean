import Derived.Test.YtemkmjeioghofaaN9
namespace Go.Proofs.Ytemkmjeioghofaa
open Go.RowKit

set_option maxRecDepth 100000 in
set_option maxHeartbeats 8000000 in
theorem apart_walk (a : Option Addr) (ln cp : Nat) (O : Nat → Opr) (ps : Int) (pb : Nat) (w : World) (hln : ln ≤ 1048576) (hO : IsOps w a ln O) (hpb : pb < 256) :
    Calls Try.prog 5 #[.slice a ln cp, .agg #[.int .i64 ps, .int .u8 (pb : Int)]] w fun e w' => e = .returned (.bool true) ∧ Below w.heap.size w w' := by
  have HOO := hide hO
  obtain ⟨i5, hi, hz, hs5, hb5⟩ := info5'
  obtain ⟨i29, hi29, hz29, hs29, hb29⟩ := info29'
  have HB0 : Hid (Below w.heap.size w (w.alloc (Obj.cells #[.int .i64 ps, .int .u8 (pb : Int)] 35))) := (Below.refl _ _).alloc (Nat.le_refl _) _
  have HR0 : Hid ((w.alloc (Obj.cells #[.int .i64 ps, .int .u8 (pb : Int)] 35)).heap[w.heap.size]? = some (.cells #[.int .i64 ps, .int .u8 (pb : Int)] 35 (0, 0))) := heap_alloc_last _ _
  clear hO
  have hfull := full_any pb
  obtain ⟨RP, hRP⟩ : ∃ RP, List.replicate 128 pb = RP := ⟨_, rfl⟩
  have hRS := sec_rep pb hpb
  rw [hRP] at hfull hRS
  have HF := hide hfull
  have HRS := hide hRS
  have HRP := hide hRP
  clear hfull hRS hRP
  go_enter Try.func5, Try.ntmps5
  go_wp2_with fail
  generalize w.alloc (Obj.cells #[.int .i64 ps, .int .u8 (pb : Int)] 35) = w0 at *
  refine (fresh_any a ln cp O w0 hln (fun k hk => by obtain ⟨x, hx, ho⟩ := HOO.out k hk; exact ⟨x, hx, ho.below HB0.out (Nat.le_refl _)⟩)).mono ?_
  rintro e w1 ⟨B, M, A, rfl, h1, hA⟩
  have h1' : Sys w w1 (star (DkA B (wait M [] A)) (PutA w.heap.size ps pb)) := h1.under HR0.out HB0.out
  obtain ⟨_, _, hd1, hp1⟩ := h1'.two
  obtain ⟨c0, c1⟩ := hp1.cells
  have H1 := hide h1'
  have HD1 := hide hd1
  obtain ⟨s, hs⟩ : ∃ s, pl ps = s := ⟨_, rfl⟩
  have hsl := pl_lt ps
  rw [hs] at hsl
  have hls : (M s).length = 128 := by obtain ⟨_, _, h, _⟩ := hd1; exact (h.ok.m s hsl).1
  clear h1 h1' hd1 hp1
  generalize hTB : w.heap.size = TB at c0 c1 H1 ⊢
  go_wp2_with fail
  refine (place_any ps _).mono ?_
  rw [hs]
  rintro e w2 ⟨rfl, rfl⟩
  go_wp2_with fail
  refine (raw_ok HD1.out s hsl).mono ?_
  rw [show (wait M [] A).M s = M s from rfl]
  rintro e w3 ⟨rv, rfl, hrv, hb3⟩
  obtain ⟨gr, cr, hrvv, _, _, _⟩ := hrv.some_of (by rw [hls]; omega)
  rw [hls] at hrvv
  subst hrvv
  have h3 := H1.out.row ((good_dk _ _).star (good_put _ _ _)) hrv hb3
  have c2 := cell_up hb3 c1
  have H3 := hide h3
  clear hrv hb3 h3 c0 c1 H1 HD1
  go_wp2_with fail
  refine (HF.out _).mono ?_
  rintro e w4 ⟨iv, rfl, hiv, hb4⟩
  obtain ⟨gi0, ci0, hivv, _, _, _⟩ := hiv.some_of (by rw [HRS.out.1]; omega)
  rw [HRS.out.1] at hivv
  subst hivv
  have h4 := H3.out.row ((good_ow _ _).star ((good_dk _ _).star (good_put _ _ _))) hiv hb4
  obtain ⟨_, _, _, hi4, _, _⟩ := h4.three
  have hown : w4.ownsRow 0 5 1 (.slice (some ⟨gi0, 0, none⟩) 128 ci0) 128 (RP.map By) := by
    have := hi4.1; unfold Ow at this; rw [HRS.out.1] at this; exact this
  have c3 := cell_up hb4 c2
  have H4 := hide h4
  have HO4 := hide hown
  clear hiv hb4 h4 hi4 hown c2 H3
  go_wp2_with (at_builtin; refine wpList_append_own_at _ rfl _ _ 29 rfl 0 5 i5 (.int .u8 0) 1 1 Try.underlying29 hi hz hs5 hb5 rfl (by decide) _ 128 (RP.map By) rfl (HO4.out.alloc _) ⟨w4.heap.size, 0, none⟩ 1 1 [By 119] rfl rfl ?c1 ?c2 ?c3 ?c4 ?c5 ?_)
  case c1 => exact cell_one_new _ _ _
  case c2 => simp [By, Value.oneCell']
  case c3 => unfold maxLen; omega
  case c4 => omega
  case c5 => exact Nat.zero_le _
  intro v5 w5 ho5 hg5 _ hl5
  have h5 := (H4.out.appRow ((good_ow _ _).star ((good_dk _ _).star (good_put _ _ _))) (ys := [119]) HRS.out.1.symm rfl ho5 hg5 hl5).mono (fun _ _ h => star_k3 h)
  obtain ⟨a5, ci, hv5, hci⟩ := World.ownsRow.shape ho5
  obtain ⟨gi, hgi⟩ : ∃ gi, a5 = some ⟨gi, 0, none⟩ := by
    obtain ⟨_, ⟨h0, _⟩ | ⟨g, cc, cur, hv, _⟩⟩ := ho5
    · rw [hv5] at h0; simp at h0
    · rw [hv5] at hv; simp at hv; exact ⟨g, hv.1⟩
  subst hgi
  subst hv5
  clear ho5 hg5 hl5 H4 HO4 c3
  have G4 : Good (star (OwA (.slice (some ⟨gi, 0, none⟩) 129 ci) (RP ++ [119])) (star (OwA (.slice (some ⟨gr, 0, none⟩) 128 cr) (M s)) (PutA TB ps pb))) := (good_ow _ _).star ((good_ow _ _).star (good_put _ _ _))
  have HG4 := hide G4
  clear G4
  have h5d := h5.below ((good_dk _ _).star HG4.out) (Below.refl _ _).drew
  have H5 := hide h5d
  clear h5 h5d
  go_wp2_with fail
  have HIP : Hid (∀ (W : World) (D : Dsk), Sys w W (star (DkA B D) (star (OwA (.slice (some ⟨gi, 0, none⟩) 129 ci) (RP ++ [119])) (star (OwA (.slice (some ⟨gr, 0, none⟩) 128 cr) (M s)) (PutA TB ps pb)))) → W.cell? ⟨gi, 128, none⟩ = some (.int .u8 119) ∧ W.cell? ⟨TB, 1, none⟩ = some (.int .u8 (pb : Int))) := by
    intro W D h
    obtain ⟨_, _, _, _, hin, hr⟩ := h.three
    obtain ⟨_, _, _, hp, _, _⟩ := hr
    exact ⟨in_cell hin HRS.out.1, hp.cells.2⟩
  have c5 := HIP.out _ _ H5.out
  have hci2 : (129 : Int) ≤ (ci : Int) := by omega
  go_region_held (fun W => W.cell? ⟨gi, 128, none⟩ = some (.int .u8 119) ∧ W.cell? ⟨TB, 1, none⟩ = some (.int .u8 (pb : Int)))
    (first | assumption | exact q4 | exact q3 | exact c5)
    (first
      | (go_at_call 15; refine (write_in H5.out ((good_ow _ _).star (good_put _ _ _)) hsl HRS.out (by omega)).mono ?_
         rintro e w6 ⟨rfl, h6⟩
         have q3 := HIP.out _ _ h6
         have H6 := hide h6
         clear h6)
      | (go_at_call 16; refine (HF.out _).mono ?_; rintro e w7 ⟨r7, rfl, hr7, hb7⟩
         have h7 := H6.out.below ((good_dk _ _).star HG4.out) hb7
         have q4 := HIP.out _ _ h7
         have HR7 := hide hr7
         have H7 := hide h7
         clear hr7 hb7 h7)
      | (go_at_call 20; refine (same_eq _ _ RP _ (by obtain ⟨_, _, _, _, hin, _⟩ := H7.out.three; exact in_rd hin HRS.out.1) HR7.out.rd).mono ?_; rintro e w' ⟨rfl, rfl⟩))
  have h8 : Sys w w' (star (AnyIn gi) (star (DkA B (wait M [(s, RP)] (A + 1))) (star (OwA (.slice (some ⟨gr, 0, none⟩) 128 cr) (M s)) (PutA TB ps pb)))) := (H7.out.mono (fun _ _ h => star_swap h)).mono (fun _ _ h => by
    obtain ⟨F1, F2, h1, h2, h3, h4⟩ := h
    exact ⟨F1, F2, AnyIn.of h1 (by rw [List.length_append, HRS.out.1]; rfl), h2, h3, h4⟩)
  have G8 : Good (star (DkA B (wait M [(s, RP)] (A + 1))) (star (OwA (.slice (some ⟨gr, 0, none⟩) 128 cr) (M s)) (PutA TB ps pb))) := (good_dk _ _).star ((good_ow _ _).star (good_put _ _ _))
  have HG8 := hide G8
  have H8 := hide h8
  clear h8 G8 H7 HR7 q4 q3 H6 c5 HIP H5 HG4
  generalize w' = w8 at *
  go_wp2_with fail
  go_loopw [10] (fun i wr => ∃ k : Nat, k ≤ 129 ∧ i = .int .i64 (k : Int) ∧ Sys w wr (star (AnyIn gi) (star (DkA B (wait M [(s, RP)] (A + 1))) (star (OwA (.slice (some ⟨gr, 0, none⟩) 128 cr) (M s)) (PutA TB ps pb))))) (fun i _ => 129 - (intOf i).toNat)
  case atStart => exact ⟨0, by omega, rfl, H8.out⟩
  case round =>
  obtain ⟨k, hk, rfl, hS⟩ := hrel
  have HS := hide hS
  by_cases hlt : k < 129
  · have hd1 : decide (k < 129) = true := by simp; omega
    have hd2 : decide ((k : Int) < 129) = true := by simp; omega
    obtain ⟨_, _, hany, _⟩ := hS.two
    obtain ⟨⟨z, hz⟩, hfr⟩ := hany.cell hlt
    clear hany hS
    go_wp2
    go_roundw
    case rel => exact ⟨k + 1, by omega, by go_num, HS.out.setAny HG8.out⟩
    case measure => simp [intOf]; omega
  have hd1 : decide ((k : Int) < 129) = false := by simp; omega
  clear hS
  have hmk : (Instr.makeSlice 28 (.int .i64 4) (.int .i64 4)).run Try.prog wr = .ok (.slice (some ⟨wr.heap.size, 0, none⟩) 4 4) (wr.alloc (.cells #[.slice none 0 0, .slice none 0 0, .slice none 0 0, .slice none 0 0] 29)) := by
    have hm := run_make (P := Try.prog) wr 28 29 i29 (.slice none 0 0) Try.underlying28 hi29 hz29 .i64 .i64 4 4 (by omega) (Int.le_refl _) (by rw [hb29]; omega) (by omega)
    rw [hs29] at hm
    have hmc : madeCells (Value.slice none 0 0).cells ((4 : Int).toNat * 1) = #[.slice none 0 0, .slice none 0 0, .slice none 0 0, .slice none 0 0] := by
      rw [← Array.toArray_toList (xs := madeCells _ _)]
      simp [Value.cells, toList_madeCells_one, List.replicate]
    rw [hmc] at hm
    exact hm
  have H9 := hide (HS.out.drop.new HG8.out (X := TabA wr.heap.size []) (tab_nil (heap_alloc_last wr (.cells #[.slice none 0 0, .slice none 0 0, .slice none 0 0, .slice none 0 0] 29))) (fun b hb => by rw [hb]; exact Nat.le_refl _) ((Below.refl _ _).alloc (Nat.le_refl _) _))
  clear HS H8
  go_wp2_with fail
  clear hmk
  generalize wr.alloc (.cells #[.slice none 0 0, .slice none 0 0, .slice none 0 0, .slice none 0 0] 29) = w9 at *
  generalize wr.heap.size = G at *
  clear hd1 hlt hk
  go_loopw [12] (fun i wr => ∃ k : Nat, k ≤ 4 ∧ i = .int .i64 (k : Int) ∧ Sys w wr (star (TabA G (List.take k [RP, M s, RP, M s])) (star (DkA B (wait M [(s, RP)] (A + 1))) (star (OwA (.slice (some ⟨gr, 0, none⟩) 128 cr) (M s)) (PutA TB ps pb))))) (fun i _ => 4 - (intOf i).toNat)
  case atStart => exact ⟨0, by omega, rfl, H9.out⟩
  case round =>
  obtain ⟨k, hk, rfl, hS⟩ := hrel
  have HS := hide hS
  clear hS H9
  by_cases hlt : k < 4
  · obtain rfl | rfl | rfl | rfl : k = 0 ∨ k = 1 ∨ k = 2 ∨ k = 3 := by omega
    · go_wp2_with fail
      obtain ⟨_, _, _, _, hdk, _⟩ := HS.out.three
      refine (read_ok hdk s hsl rfl).mono ?_
      rw [seen_one]
      rintro e w10 ⟨r10, rfl, hr, hb⟩
      obtain ⟨g10, c10, hv, _, _, _⟩ := hr.some_of (by rw [HRS.out.1]; omega)
      rw [HRS.out.1] at hv
      subst hv
      have h10 := HS.out.below ((good_tab _ _).star HG8.out) hb
      obtain ⟨⟨u10, q1⟩, q2⟩ := h10.tabCell (i := 0) (by omega)
      have h11 := HS.out.putRow HG8.out (zs := RP) (by simp) (by rw [HRS.out.1]; exact hr) hb
      rw [HRS.out.1] at h11
      obtain ⟨_, _, q3, _⟩ := h11.tabRow (i := 0) (zs := RP) rfl
      rw [HRS.out.1] at q3
      have H11 := hide h11
      clear h11 h10 hr hb hdk
      go_wp2
      go_roundw
      case rel => exact ⟨1, by omega, by go_num, H11.out⟩
      case measure => simp [intOf]
    · go_wp2_with fail
      obtain ⟨_, _, _, _, hdk, _⟩ := HS.out.three
      refine (raw_ok hdk s hsl).mono ?_
      rw [show (wait M [(s, RP)] (A + 1)).M s = M s from rfl]
      rintro e w10 ⟨r10, rfl, hr, hb⟩
      obtain ⟨g10, c10, hv, _, _, _⟩ := hr.some_of (by rw [hls]; omega)
      rw [hls] at hv
      subst hv
      have h10 := HS.out.below ((good_tab _ _).star HG8.out) hb
      obtain ⟨⟨u10, q1⟩, q2⟩ := h10.tabCell (i := 1) (by omega)
      have h11 := HS.out.putRow HG8.out (zs := (M s)) (by simp) (by rw [hls]; exact hr) hb
      rw [hls] at h11
      obtain ⟨_, _, q3, _⟩ := h11.tabRow (i := 1) (zs := (M s)) rfl
      rw [hls] at q3
      have H11 := hide h11
      clear h11 h10 hr hb hdk
      skip
      go_wp2
      go_roundw
      case rel => exact ⟨2, by omega, by go_num, H11.out⟩
      case measure => simp [intOf]
    · go_wp2_with fail
      obtain ⟨_, _, _, _, hdk, _⟩ := HS.out.three
      refine (read_ok hdk s hsl rfl).mono ?_
      rw [seen_one]
      rintro e w10 ⟨r10, rfl, hr, hb⟩
      obtain ⟨g10, c10, hv, _, _, _⟩ := hr.some_of (by rw [HRS.out.1]; omega)
      rw [HRS.out.1] at hv
      subst hv
      have h10 := HS.out.below ((good_tab _ _).star HG8.out) hb
      obtain ⟨⟨u10, q1⟩, q2⟩ := h10.tabCell (i := 2) (by omega)
      have h11 := HS.out.putRow HG8.out (zs := RP) (by simp) (by rw [HRS.out.1]; exact hr) hb
      rw [HRS.out.1] at h11
      obtain ⟨_, _, q3, _⟩ := h11.tabRow (i := 2) (zs := RP) rfl
      rw [HRS.out.1] at q3
      have H11 := hide h11
      clear h11 h10 hr hb hdk
      skip
      go_wp2
      go_roundw
      case rel => exact ⟨3, by omega, by go_num, H11.out⟩
      case measure => simp [intOf]
    · go_wp2_with fail
      obtain ⟨_, _, _, _, hdk, _⟩ := HS.out.three
      refine (raw_ok hdk s hsl).mono ?_
      rw [show (wait M [(s, RP)] (A + 1)).M s = M s from rfl]
      rintro e w10 ⟨r10, rfl, hr, hb⟩
      obtain ⟨g10, c10, hv, _, _, _⟩ := hr.some_of (by rw [hls]; omega)
      rw [hls] at hv
      subst hv
      have h10 := HS.out.below ((good_tab _ _).star HG8.out) hb
      obtain ⟨⟨u10, q1⟩, q2⟩ := h10.tabCell (i := 3) (by omega)
      have h11 := HS.out.putRow HG8.out (zs := (M s)) (by simp) (by rw [hls]; exact hr) hb
      rw [hls] at h11
      obtain ⟨_, _, q3, _⟩ := h11.tabRow (i := 3) (zs := (M s)) rfl
      rw [hls] at q3
      have H11 := hide h11
      clear h11 h10 hr hb hdk
      skip
      go_wp2
      go_roundw
      case rel => exact ⟨4, by omega, by go_num, H11.out⟩
      case measure => simp [intOf]
  have hd1 : decide ((k : Int) < 4) = false := by simp; omega
  have H4 : Hid (Sys w wr (star (TabA G [RP, M s, RP, M s]) (star (DkA B (wait M [(s, RP)] (A + 1))) (star (OwA (.slice (some ⟨gr, 0, none⟩) 128 cr) (M s)) (PutA TB ps pb))))) := by
    have e : k = 4 := by omega
    subst e
    exact HS
  clear HS
  go_wp2_with fail
  clear hd1 hlt hk
  have H4d := hide (H4.out.below ((good_tab _ _).star HG8.out) (Below.refl _ _).drew)
  have hq : ∃ g0 c0 g1 c1, (wr.drew.cell? ⟨G, 0, none⟩ = some (.slice (some ⟨g0, 0, none⟩) 128 c0) ∧ wr.drew.cell? ⟨G, 1, none⟩ = some (.slice (some ⟨g1, 0, none⟩) 128 c1) ∧ wr.drew.cell? ⟨TB, 1, none⟩ = some (.int .u8 (pb : Int))) ∧ Rd wr.drew (.slice (some ⟨g0, 0, none⟩) 128 c0) RP ∧ Rd wr.drew (.slice (some ⟨g1, 0, none⟩) 128 c1) (M s) ∧ Rd wr.drew (.slice (some ⟨gr, 0, none⟩) 128 cr) (M s) := by
    obtain ⟨g0, c0, q0, r0⟩ := H4d.out.tabRow (i := 0) (zs := RP) rfl
    obtain ⟨g1, c1, q1, r1⟩ := H4d.out.tabRow (i := 1) (zs := M s) rfl
    rw [HRS.out.1] at q0 r0
    rw [hls] at q1 r1
    obtain ⟨_, _, _, _, _, hr⟩ := H4d.out.three
    obtain ⟨_, _, ho, hp, _, _⟩ := hr
    exact ⟨g0, c0, g1, c1, ⟨q0, q1, hp.cells.2⟩, r0, r1, ho.1.rd⟩
  obtain ⟨g0, c0, g1, c1, qq, hrr⟩ := hq
  have HRR := hide hrr
  clear hrr H4
  go_region_held (fun W => W.cell? ⟨G, 0, none⟩ = some (.slice (some ⟨g0, 0, none⟩) 128 c0) ∧ W.cell? ⟨G, 1, none⟩ = some (.slice (some ⟨g1, 0, none⟩) 128 c1) ∧ W.cell? ⟨TB, 1, none⟩ = some (.int .u8 (pb : Int)))
    (first | assumption | exact q7 | exact qq)
    (first
      | (go_at_call 16; refine (HF.out _).mono ?_; rintro e w11 ⟨r11, rfl, hr11, hb11⟩
         have q7 := And.intro (cell_up hb11 qq.1) (And.intro (cell_up hb11 qq.2.1) (cell_up hb11 qq.2.2))
         have HA := hide (HRR.out.1.below hb11 (Nat.le_refl _))
         have HB := hide (HRR.out.2.1.below hb11 (Nat.le_refl _))
         have HC := hide (HRR.out.2.2.below hb11 (Nat.le_refl _))
         have HE := hide hr11.rd
         have H12 := hide (H4d.out.below ((good_tab _ _).star HG8.out) hb11)
         clear hr11 hb11)
      | (go_at_call 20; refine (same_eq _ _ RP _ HA.out HE.out).mono ?_; rintro e w' ⟨rfl, rfl⟩)
      | (go_at_call 20; refine (same_eq _ _ (M s) _ HB.out HC.out).mono ?_; rintro e w' ⟨rfl, rfl⟩))
  clear q7 qq HA HB HC HE HRR H4d
  go_wp2_with fail
  go_loopw [13] (fun i wr => ∃ (k : Nat) (L : List (List Nat)), k ≤ 4 ∧ i = .int .i64 (k : Int) ∧ LB k 0 L ∧ Sys w wr (star (TabA G L) (star (DkA B (wait M [(s, RP)] (A + 1))) (star (OwA (.slice (some ⟨gr, 0, none⟩) 128 cr) (M s)) (PutA TB ps pb))))) (fun i _ => 4 - (intOf i).toNat)
  case atStart => exact ⟨0, _, by omega, rfl, LB.start HRS.out.1 hls, H12.out⟩
  case round =>
  obtain ⟨k3, L, hk, rfl, hL, hS⟩ := hrel
  have HL := hide hL
  have HS := hide hS
  clear hL hS H12
  by_cases hlt : k3 < 4
  · have hd1 : decide ((k3 : Int) < 4) = true := by simp; omega
    have hki : (k3 : Int) < 4 := by omega
    obtain ⟨v, hv⟩ : ∃ v : Nat, 129 + k3 = v := ⟨_, rfl⟩
    have hw1 : IntKind.i64.wrap (129 + (k3 : Int)) = (v : Int) := by
      simp [IntKind.wrap, IntKind.signed, IntKind.bits]; split <;> omega
    have hw2 : IntKind.u8.wrap (v : Int) = (v : Int) := by
      simp [IntKind.wrap, IntKind.signed, IntKind.bits]; omega
    have hw3 : IntKind.u8.wrap (129 + (k3 : Int)) = (v : Int) := by
      simp [IntKind.wrap, IntKind.signed, IntKind.bits]; omega
    have HV := hide hv
    clear hv
    go_wp2_with fail
    go_loopw [14] (fun i wr => ∃ (j : Nat) (L : List (List Nat)), j ≤ 128 ∧ i = .int .i64 (j : Int) ∧ LB k3 j L ∧ Sys w wr (star (TabA G L) (star (DkA B (wait M [(s, RP)] (A + 1))) (star (OwA (.slice (some ⟨gr, 0, none⟩) 128 cr) (M s)) (PutA TB ps pb))))) (fun i _ => 128 - (intOf i).toNat)
    case atStart => exact ⟨0, L, by omega, rfl, HL.out, HS.out⟩
    case round =>
    obtain ⟨j, L', hj, rfl, hL', hS'⟩ := hrel
    clear HL HS
    by_cases hlt2 : j < 128
    · have hd2 : decide ((j : Int) < 128) = true := by simp; omega
      have hji : (j : Int) < 128 := by omega
      obtain ⟨zs, hz, hzl⟩ := hL'.get hlt
      obtain ⟨g, c, q1, q2, q3, hset⟩ := hS'.tabByte HG8.out hz (by rw [hzl]; exact hlt2)
      rw [hzl] at q1
      have hnx := hL'.next hz hlt2
      rw [HV.out] at hnx
      have HN := hide (And.intro hnx (hset v))
      clear hnx hset hL' hS' hz hzl
      go_wp2
      go_roundw
      case rel => exact ⟨j + 1, _, by omega, by go_num, HN.out.1, HN.out.2⟩
      case measure => simp [intOf]; omega
    · have hd2 : decide ((j : Int) < 128) = false := by simp; omega
      have HN1 : Hid (LB (k3 + 1) 0 L') := by
        have e : j = 128 := by omega
        subst e
        exact hL'.wrap
      have HN2 := hide hS'
      clear hL' hS'
      go_wp2
      go_roundw
      case rel => exact ⟨k3 + 1, L', by omega, by go_num, HN1.out, HN2.out⟩
      case measure => simp [intOf]; omega
  have hd1 : decide ((k3 : Int) < 4) = false := by simp; omega
  have HC : Hid (LC 0 L) := by
    have e : k3 = 4 := by omega
    subst e
    exact HL.out.done
  clear HL
  go_wp2_with fail
  clear hd1 hlt hk
  go_loopw [15] (fun i wr => ∃ (k : Nat) (L : List (List Nat)), k ≤ 4 ∧ i = .int .i64 (k : Int) ∧ LC k L ∧ Sys w wr (star (TabA G L) (star (DkA B (wait M [(s, RP)] (A + 1))) (star (OwA (.slice (some ⟨gr, 0, none⟩) 128 cr) (M s)) (PutA TB ps pb))))) (fun i _ => 4 - (intOf i).toNat)
  case atStart => exact ⟨0, L, by omega, rfl, HC.out, HS.out⟩
  case round =>
  obtain ⟨k4, L4, hk, rfl, hL, hS⟩ := hrel
  clear HC HS
  by_cases hlt : k4 < 4
  · have hd1 : decide ((k4 : Int) < 4) = true := by simp; omega
    have hki : (k4 : Int) < 4 := by omega
    obtain ⟨v, hv⟩ : ∃ v : Nat, 145 + k4 = v := ⟨_, rfl⟩
    have hw1 : IntKind.i64.wrap (145 + (k4 : Int)) = (v : Int) := by
      simp [IntKind.wrap, IntKind.signed, IntKind.bits]; split <;> omega
    have hw2 : IntKind.u8.wrap (v : Int) = (v : Int) := by
      simp [IntKind.wrap, IntKind.signed, IntKind.bits]; omega
    have hw3 : IntKind.u8.wrap (145 + (k4 : Int)) = (v : Int) := by
      simp [IntKind.wrap, IntKind.signed, IntKind.bits]; omega
    obtain ⟨zs, hzz, hzl⟩ := hL.get hlt (Nat.le_refl _)
    obtain ⟨g, c, q1, ho, happ⟩ := hS.tabApp HG8.out hzz (by omega)
    rw [hzl] at q1 ho happ
    have HO := hide ho
    have HP := hide happ
    have HN := hide (hL.next (ys := [v, v]) hzz hzl rfl)
    clear ho happ hL hS hzz hzl hv
    go_wp2_with (at_builtin; refine wpList_append_own_at _ rfl _ _ 29 rfl 0 5 i5 (.int .u8 0) 1 1 Try.underlying29 hi hz hs5 hb5 rfl (by decide) _ 128 (zs.map By) rfl (HO.out.alloc _) ⟨wr.heap.size, 0, none⟩ 2 2 [By v, By v] rfl rfl ?c1 ?c2 ?c3 ?c4 ?c5 ?_)
    case c1 => exact cell_pair_new _ _ _ _
    case c2 => simp [By, Value.oneCell']
    case c3 => unfold maxLen; omega
    case c4 => omega
    case c5 => exact Nat.zero_le _
    intro v5 w13 ho5 hg5 _ hl5
    obtain ⟨a13, c13, hv13, _⟩ := World.ownsRow.shape ho5
    subst hv13
    obtain ⟨⟨u13, p1⟩, p2, p3⟩ := HP.out _ w13 [v, v] _ ho5 hg5 hl5
    have HQ := hide p3
    clear p3 ho5 hg5 hl5 HP HO
    go_wp2
    go_roundw
    case rel => exact ⟨k4 + 1, _, by omega, by go_num, HN.out, HQ.out⟩
    case measure => simp [intOf]; omega
  have hd1 : decide ((k4 : Int) < 4) = false := by simp; omega
  have HL := hide hL
  have HS := hide hS
  clear hL hS hd1
  go_wp2_with fail
  obtain ⟨_, _, _, _, hdk, _⟩ := HS.out.three
  refine (pending_at hdk (by show 1 ≤ _; omega)).mono ?_
  rw [show (wait M [(s, RP)] (A + 1)).c.length = 1 from rfl]
  rintro e w14 ⟨rfl, hp14, hb14⟩
  have hp15 : w14.heap[wr.heap.size]? = some (.cells #[.int .i64 (s : Int)] 3 (0, 0)) := hp14
  have c14 : w14.cell? ⟨wr.heap.size, 0, none⟩ = some (.int .i64 (s : Int)) := by rw [cell_of_row _ _ _ _ _ _ hp15]; rfl
  have f14 := frozen_of_row w14 wr.heap.size 0 _ _ hp15
  have HP15 := hide hp15
  have HB14 := hide hb14
  have hlt14 : wr.heap.size < w14.heap.size := (Array.getElem?_eq_some_iff.1 hp15).1
  clear hdk hp14 hp15 hb14
  obtain ⟨i3, hi3, hz3, hs3, hb3⟩ := info3'
  generalize hPB : wr.heap.size = PB at *
  go_wp2_with (at_builtin; refine wpList_append_grows _ rfl _ _ 37 rfl 3 i3 (.int .i64 0) 1 8 Try.underlying37 hi3 hz3 hs3 hb3 rfl (by decide) (some ⟨PB, 0, none⟩) 1 1 [.int .i64 (-7)] rfl (fun h => by cases h) rfl ?d1 ⟨w14.heap.size, 0, none⟩ 1 1 [.int .i64 (-8)] rfl rfl ?d2 ?d3 (by omega) ?d4 ?d5 ?_)
  case d1 =>
    intro b hb j u hu
    cases hb
    have h0 : ((w14.setCell ⟨PB, 0, none⟩ (.int .i64 (-7))).alloc (.cells #[.int .i64 (-8)] 3)).heap[PB]? = some (.cells #[.int .i64 (-7)] 3 (0, 0)) := by
      rw [Below.heap_alloc _ _ _ (by simp [World.setCell]; omega)]
      exact heap_setCell_same w14 PB 0 _ _ _ HP15.out
    rw [add0, cell_of_row _ _ _ _ _ _ h0]
    simpa using hu
  case d2 =>
    have e : (w14.setCell ⟨PB, 0, none⟩ (.int .i64 (-7))).heap.size = w14.heap.size := by simp [World.setCell]
    rw [← e]
    exact cell_one_new _ _ _
  case d3 => simp [Value.oneCell']
  case d4 => unfold maxLen; omega
  case d5 => omega
  intro v15 w15 ho15 hg15
  have h0 : ((w14.setCell ⟨PB, 0, none⟩ (.int .i64 (-7))).alloc (.cells #[.int .i64 (-8)] 3)).heap[PB]? = some (.cells #[.int .i64 (-7)] 3 (0, 0)) := by
    rw [Below.heap_alloc _ _ _ (by simp [World.setCell]; omega)]
    exact heap_setCell_same w14 PB 0 _ _ _ HP15.out
  have hb15s : Below PB w14 (w14.setCell ⟨PB, 0, none⟩ (.int .i64 (-7))) := (Below.refl PB w14).setCell (show PB ≤ (⟨PB, 0, none⟩ : Addr).block from Nat.le_refl PB) _
  have hsz14 : PB ≤ (w14.setCell ⟨PB, 0, none⟩ (.int .i64 (-7))).heap.size := by simp [World.setCell]; omega
  have hb15a : Below PB w14 ((w14.setCell ⟨PB, 0, none⟩ (.int .i64 (-7))).alloc (.cells #[.int .i64 (-8)] 3)) := hb15s.alloc hsz14 _
  have hsz15 : PB ≤ ((w14.setCell ⟨PB, 0, none⟩ (.int .i64 (-7))).alloc (.cells #[.int .i64 (-8)] 3)).heap.size := Nat.le_of_lt (Array.getElem?_eq_some_iff.1 h0).1
  have hb15 : Below PB wr w15 := (HB14.out.trans hb15a).grown hg15 hsz15 (fun k h => by cases h)
  have cp0 : w15.cell? ⟨PB, 0, none⟩ = some (.int .i64 (-7)) := by
    rw [cell_of_row w15 PB _ _ _ _ ((hg15.block PB (Array.getElem?_eq_some_iff.1 h0).1 (by simp)).trans h0)]; rfl
  obtain ⟨g15, c15, hv15, cp1⟩ : ∃ g15 c15, v15 = .slice (some ⟨g15, 0, none⟩) 2 c15 ∧ w15.cell? ⟨g15, 0, none⟩ = some (.int .i64 (-7)) := by
    obtain ⟨_, ⟨h1, h2⟩ | ⟨g, cc, cur, hv, _, hg, hn, _, _, ht⟩⟩ := ho15
    · omega
    · refine ⟨g, cc, hv, ?_⟩
      rw [cell_of_row _ _ _ _ _ _ hg]
      have := congrArg (fun l => l[0]?) ht
      simpa using this
  subst hv15
  have H15 := hide (HS.out.below ((good_tab _ _).star HG8.out) (by rw [hPB]; exact hb15))
  clear ho15 hg15 h0 hb15a hb15s hsz14 hb15 hsz15 HS HB14 HP15 c14 f14 hlt14
  go_wp2_with fail
  obtain ⟨_, _, _, _, hdk, _⟩ := H15.out.three
  refine (pending_at hdk (by show 1 ≤ _; omega)).mono ?_
  rw [show (wait M [(s, RP)] (A + 1)).c.length = 1 from rfl]
  rintro e w16 ⟨rfl, hp16, hb16⟩
  have hp16' : w16.heap[w15.heap.size]? = some (.cells #[.int .i64 (s : Int)] 3 (0, 0)) := hp16
  have cq : w16.cell? ⟨w15.heap.size, 0, none⟩ = some (.int .i64 (s : Int)) := by rw [cell_of_row _ _ _ _ _ _ hp16']; rfl
  have cp2 := cell_up hb16 cp0
  have cp3 := cell_up hb16 cp1
  have H16 := hide (H15.out.below ((good_tab _ _).star HG8.out) hb16)
  clear hdk hp16 hp16' hb16 H15 cp0 cp1
  generalize w15.heap.size = QB at *
  go_wp2_with fail
  obtain ⟨_, _, _, _, hdk, _⟩ := H16.out.three
  refine (medium_any hdk).mono ?_
  rintro e w17 ⟨rm, curm, rfl, hm, hM, hb17⟩
  obtain ⟨am, cm, hrm, _⟩ := World.ownsRow.shape hm
  obtain ⟨gm, hgm⟩ : ∃ gm, am = some ⟨gm, 0, none⟩ := by
    obtain ⟨_, ⟨h0, _⟩ | ⟨g, cc, cur, hv, _⟩⟩ := hm
    · rw [hrm] at h0; simp at h0
    · rw [hrm] at hv; simp at hv; exact ⟨g, hv.1⟩
  subst hgm
  subst hrm
  obtain ⟨o, ho⟩ : ∃ o, s * 128 = o := ⟨_, rfl⟩
  have hwm := wrap_mul s o hsl ho
  have hol : o < 131072 := by omega
  have hoi : (o : Int) < 131072 := by omega
  obtain ⟨z0, hz0⟩ : ∃ z, (M s)[0]? = some z := ⟨_, List.getElem?_eq_getElem (by rw [hls]; omega)⟩
  obtain ⟨cm0, cmf, cmh⟩ : (∃ u, w17.cell? ⟨gm, o, none⟩ = some u) ∧ w17.frozen? ⟨gm, o, none⟩ = false ∧ (w16.heap.size ≤ gm ∧ ∃ cur', w17.heap[gm]? = some (.cells cur' 5 (0, 0)) ∧ o < cur'.size) := by
    obtain ⟨hl, ⟨h0, _⟩ | ⟨g, cc, cur, hv, hbb, hg, hn, _, hs', ht⟩⟩ := hm
    · cases h0
    · cases hv
      have hoc : o < cur.size := by omega
      exact ⟨⟨_, by rw [cell_of_row _ _ _ _ _ _ hg]; exact Array.getElem?_eq_getElem hoc⟩, frozen_of_row _ _ _ _ _ hg, hbb, cur, hg, hoc⟩
  obtain ⟨um, cm1⟩ := cm0
  obtain ⟨hgm16, curx, hgx, hox⟩ := cmh
  have cmx : (w17.setCell ⟨gm, o, none⟩ (.int .u8 60)).cell? ⟨gm, o, none⟩ = some (.int .u8 60) := by
    rw [cell_of_row _ _ _ _ _ _ (heap_setCell_same w17 gm o _ _ (.int .u8 60) hgx)]
    simp [hox]
  have hb18 : Below w16.heap.size w16 (w17.setCell ⟨gm, o, none⟩ (.int .u8 60)) := hb17.setCell hgm16 _
  have cp4 := cell_up hb17 cp2
  have H18 := hide (H16.out.below ((good_tab _ _).star HG8.out) hb18)
  have HK := hide (And.intro cq (And.intro cp3 (And.intro hb18 cmx)))
  have HHM := hide (And.intro ho hz0)
  clear hm hM hb17 hdk hgx hox hb18 cmx cq cp3 cp2 hz0 ho H16
  go_wp2_with fail
  obtain ⟨_, _, _, _, hdk, _⟩ := H18.out.three
  refine (medium_any hdk).mono ?_
  rintro e w19 ⟨rn, curn, rfl, hn, hN, hb19⟩
  obtain ⟨an, cn, hrn, _⟩ := World.ownsRow.shape hn
  obtain ⟨gn, hgn⟩ : ∃ gn, an = some ⟨gn, 0, none⟩ := by
    obtain ⟨_, ⟨h0, _⟩ | ⟨g, cc, cur, hv, _⟩⟩ := hn
    · rw [hrn] at h0; simp at h0
    · rw [hrn] at hv; simp at hv; exact ⟨g, hv.1⟩
  subst hgn
  subst hrn
  have cn1 : w19.cell? ⟨gn, o, none⟩ = some (.int .u8 (z0 : Int)) := by
    have h1 := hN.at' s hsl 0 (By z0) (by rw [List.getElem?_map, show (wait M [(s, RP)] (A + 1)).M s = M s from rfl, HHM.out.2]; rfl)
    rw [Nat.add_zero, HHM.out.1] at h1
    obtain ⟨hl, ⟨h0, _⟩ | ⟨g, cc, cur, hv, hbb, hg, hn', _, hs', ht⟩⟩ := hn
    · cases h0
    · cases hv
      rw [cell_of_row _ _ _ _ _ _ hg, ← Array.getElem?_toList]
      rw [← ht, List.getElem?_take_of_lt (by omega)] at h1
      exact h1
  have cm2 := cell_up hb19 HK.out.2.2.2
  have cq2 := cell_up hb19 (cell_up (HK.out.2.2.1.mono (Nat.le_refl _)) HK.out.1)
  have cp5 := cell_up hb19 (cell_up (HK.out.2.2.1.mono (Nat.le_refl _)) HK.out.2.1)
  have H19 := hide (H18.out.below ((good_tab _ _).star HG8.out) hb19)
  have cr1 : w19.cell? ⟨gr, 0, none⟩ = some (.int .u8 (z0 : Int)) := by
    obtain ⟨_, _, _, _, _, hr⟩ := H19.out.three
    obtain ⟨_, _, ho, _, _, _⟩ := hr
    have := ho.1.cell (j := 0) (by rw [hls]; omega)
    rw [this]
    have h2 := HHM.out.2
    simp [h2]
  clear hn hN hb19 hdk
  have q48 : w19.drew.cell? ⟨gm, o, none⟩ = some (.int .u8 60) ∧ w19.drew.cell? ⟨gn, o, none⟩ = some (.int .u8 (z0 : Int)) ∧ w19.drew.cell? ⟨gr, 0, none⟩ = some (.int .u8 (z0 : Int)) := ⟨cm2, cn1, cr1⟩
  have H20 := hide (H19.out.below ((good_tab _ _).star HG8.out) (Below.refl _ _).drew)
  have HQ20 : Hid (w19.drew.cell? ⟨QB, 0, none⟩ = some (.int .i64 (s : Int)) ∧ w19.drew.cell? ⟨g15, 0, none⟩ = some (.int .i64 (-7))) := ⟨cq2, cp5⟩
  clear cm2 cn1 cr1 cq2 cp5 H19 HK HHM H18 cp4 cm1 cmf
  go_wp2_with fail
  go_region_held (fun W => W.cell? ⟨gm, o, none⟩ = some (.int .u8 60) ∧ W.cell? ⟨gn, o, none⟩ = some (.int .u8 (z0 : Int)) ∧ W.cell? ⟨gr, 0, none⟩ = some (.int .u8 (z0 : Int)))
    (first | assumption | exact q48)
    (fail)
  clear q48
  go_wp2_with fail
  obtain ⟨_, _, _, _, hdk, _⟩ := H20.out.three
  refine (read_ok hdk s hsl rfl).mono ?_
  rw [seen_one]
  rintro e w20 ⟨r20, rfl, hr20, hb20⟩
  have H21 := hide (H20.out.below ((good_tab _ _).star HG8.out) hb20)
  have HQ21 := hide (And.intro (cell_up hb20 HQ20.out.1) (cell_up hb20 HQ20.out.2))
  obtain ⟨g20, c20, hv20, _, _, _⟩ := hr20.some_of (by rw [HRS.out.1]; omega)
  rw [HRS.out.1] at hv20
  subst hv20
  have HR20 := hide hr20.rd
  clear hr20 hb20 hdk H20 HQ20
  go_wp2_with fail
  obtain ⟨_, _, _, _, hdk, _⟩ := H21.out.three
  refine (raw_ok hdk s hsl).mono ?_
  rw [show (wait M [(s, RP)] (A + 1)).M s = M s from rfl]
  rintro e w21 ⟨r21, rfl, hr21, hb21⟩
  have H22 := hide (H21.out.below ((good_tab _ _).star HG8.out) hb21)
  have HQ22 := hide (And.intro (cell_up hb21 HQ21.out.1) (cell_up hb21 HQ21.out.2))
  have HR22 := hide (HR20.out.below hb21 (Nat.le_refl _))
  obtain ⟨g21, c21, hv21, _, _, _⟩ := hr21.some_of (by rw [hls]; omega)
  rw [hls] at hv21
  subst hv21
  have HR21 := hide hr21.rd
  clear hr21 hb21 hdk H21 HQ21 HR20
  have HCC : Hid (∀ t, t < 4 → ∀ j, j < 128 → ∃ g n c, w21.cell? ⟨G, t, none⟩ = some (.slice (some ⟨g, 0, none⟩) n c) ∧ 128 ≤ n ∧ w21.cell? ⟨g, j, none⟩ = some (.int .u8 ((129 + t : Nat) : Int))) := by
    intro t ht j hj
    have hlt : t < L4.length := by rw [HL.out.len]; exact ht
    have hz := List.getElem?_eq_getElem hlt
    have hzl : 128 ≤ (L4[t]).length := by rcases HL.out.row t _ hz with h1 | h1 <;> omega
    obtain ⟨g, c, q1, q2, _, _⟩ := H22.out.tabByte HG8.out hz (j := j) (by omega)
    rw [HL.out.mark t _ hz j hj] at q2
    exact ⟨g, _, c, q1, hzl, q2⟩
  clear HL hlt hk
  go_wp2_with fail
  go_loopw [25] (fun i wr => ∃ k : Nat, k ≤ 4 ∧ i = .int .i64 (k : Int) ∧ wr = w21) (fun i _ => 4 - (intOf i).toNat)
  case atStart => exact ⟨0, by omega, rfl, rfl⟩
  case round =>
  obtain ⟨k5, hk, rfl, rfl⟩ := hrel
  by_cases hlt : k5 < 4
  · have hd1 : decide ((k5 : Int) < 4) = true := by simp; omega
    have hki : (k5 : Int) < 4 := by omega
    obtain ⟨v, hv⟩ : ∃ v : Nat, 129 + k5 = v := ⟨_, rfl⟩
    have hw1 : IntKind.i64.wrap (129 + (k5 : Int)) = (v : Int) := by
      simp [IntKind.wrap, IntKind.signed, IntKind.bits]; split <;> omega
    have hw2 : IntKind.u8.wrap (v : Int) = (v : Int) := by
      simp [IntKind.wrap, IntKind.signed, IntKind.bits]; omega
    have hw3 : IntKind.u8.wrap (129 + (k5 : Int)) = (v : Int) := by
      simp [IntKind.wrap, IntKind.signed, IntKind.bits]; omega
    have HV := hide hv
    clear hv
    go_wp2_with fail
    go_loopw [26] (fun i wx => ∃ j : Nat, j ≤ 128 ∧ i = .int .i64 (j : Int) ∧ wx = wr) (fun i _ => 128 - (intOf i).toNat)
    case atStart => exact ⟨0, by omega, rfl, rfl⟩
    case round =>
    obtain ⟨j, hj, rfl, rfl⟩ := hrel
    by_cases hlt2 : j < 128
    · have hd2 : decide ((j : Int) < 128) = true := by simp; omega
      have hji : (j : Int) < 128 := by omega
      obtain ⟨g, n, c, q1, hn, q2⟩ := HCC.out k5 hlt j hlt2
      rw [HV.out] at q2
      have hjn : (j : Int) < (n : Int) := by omega
      go_wp2
      go_roundw
      case rel => exact ⟨j + 1, by omega, by go_num, by first | rfl | trivial⟩
      case measure => simp [intOf]; omega
    · have hd2 : decide ((j : Int) < 128) = false := by simp; omega
      go_wp2
      go_roundw
      case rel => exact ⟨k5 + 1, by omega, by go_num, by first | rfl | trivial⟩
      case measure => simp [intOf]; omega
  have hd1 : decide ((k5 : Int) < 4) = false := by simp; omega
  have hcb : wr.cell? ⟨TB, 1, none⟩ = some (.int .u8 (pb : Int)) := by
    obtain ⟨_, _, _, _, _, hr⟩ := H22.out.three
    obtain ⟨_, _, _, hp, _, _⟩ := hr
    exact hp.cells.2
  have HRR : Hid (Rd wr (.slice (some ⟨gr, 0, none⟩) 128 cr) (M s)) := by
    obtain ⟨_, _, _, _, _, hr⟩ := H22.out.three
    obtain ⟨_, _, ho, _, _, _⟩ := hr
    exact ho.1.rd
  go_wp2_with fail
  refine (HF.out _).mono ?_
  rintro e w23 ⟨r23, rfl, hr23, hb23⟩
  have HA := hide (HR22.out.below hb23 (Nat.le_refl _))
  have HB := hide hr23.rd
  have HC := hide (HR21.out.below hb23 (Nat.le_refl _))
  have HD := hide (HRR.out.below hb23 (Nat.le_refl _))
  have c1 := cell_up hb23 HQ22.out.1
  have c2 := cell_up hb23 HQ22.out.2
  have HE := hide ((H22.out.bel).trans (hb23.mono H22.out.bel.size))
  clear hr23 hb23 hcb HCC H22 HQ22 HR21 HR22 HRR
  go_wp2_with fail
  refine (same_eq _ _ RP _ HA.out HB.out).mono ?_
  rintro e w24 ⟨rfl, rfl⟩
  go_wp2_with fail
  refine (same_eq _ _ (M s) _ HC.out HD.out).mono ?_
  rintro e w25 ⟨rfl, rfl⟩
  go_wp2
  go_ret
  exact ⟨rfl, HE.out⟩
end Go.Proofs.Ytemkmjeioghofaa
