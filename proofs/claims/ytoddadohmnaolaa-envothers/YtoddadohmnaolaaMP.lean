import Derived.Test.YtoddadohmnaolaaMM
import Derived.Test.YtoddadohmnaolaaMN
import Derived.Test.YtoddadohmnaolaaMO
namespace Go.Proofs.Ytoddadohmnaolaa
open Go.ChangeShapes Go.WideShapes Go.ChangeAt Go.RowKit Go.Deep Go.Shelf Go.Great

theorem comes_any {w : World} {F : Nat → Prop} {T B : Nat} {rs : List (Option Er)} {last : Int} (h : Ns w F T B rs last) (o : Ov) (hk : o.kd = 2 ∨ o.kd = 3) (cs : List Value) (hT : Tc cs (tf rs) (tg rs)) :
    Calls Try.prog 28 #[.pointer (some ⟨B, 0, none⟩), .pointer (some ⟨T, 0, none⟩), .agg o.cells.toArray, .agg cs.toArray] w fun x w' => x = .returned (.bool true) ∧ Nx w F T B (nS o.kd o.e o.n o.m o.q o.g o.pc o.on rs last) (nL o.kd o.e o.n o.q rs last) w' := by
  rcases hk with hk | hk
  · exact comes_make h o.kd o.t o.e o.n o.m o.q o.g o.pc o.on hk cs hT
  · by_cases h0 : 0 ≤ o.e
    · by_cases h1 : o.e < 16
      · exact comes_in h o.kd o.t o.e o.n o.m o.q o.g o.pc o.on hk h0 h1 cs hT
      · exact comes_hi h o.kd o.t o.e o.n o.m o.q o.g o.pc o.on hk h0 h1 cs hT
    · exact comes_lo h o.kd o.t o.e o.n o.m o.q o.g o.pc o.on hk h0 cs hT
theorem ovc_one (o : Ov) : ∀ u ∈ o.cells, u.oneCell' = true := by
  intro u hu
  simp [Ov.cells] at hu
  rcases hu with rfl | rfl | rfl | rfl | rfl | rfl | rfl | rfl | rfl | rfl | rfl | rfl | rfl | rfl | rfl | rfl | rfl | rfl <;> rfl
/-- a step, taken into a block of the law's own -/
def freshO (w : World) (o : Ov) : World := (w.alloc (.cells Ov.nil.cells.toArray 47)).setCells w.heap.size 0 o.cells
theorem freshO_at (w : World) (o : Ov) : (freshO w o).heap[w.heap.size]? = some (.cells o.cells.toArray 47 (0, 0)) := by
  have h1 := heap_setCells_row w.heap.size 47 o.cells 0 _ _ (heap_alloc_new w (.cells Ov.nil.cells.toArray 47))
  rw [setsL_all _ _ (by rw [ov_len, ov_len])] at h1
  exact h1
theorem freshO_below (w : World) (o : Ov) : Below w.heap.size w (freshO w o) :=
  below_setCells ((Below.refl w.heap.size w).alloc (Nat.le_refl _) _) (Nat.le_refl _) _ _
set_option maxRecDepth 100000 in
set_option maxHeartbeats 25600000 in
theorem others_walk (a : Option Addr) (len cap : Nat) (O : Nat → Ov) (w : World) (hl : len ≤ maxLen) (hZ : IsOps w a len O) :
    Calls Try.prog 8 #[.slice a len cap] w fun x w' => x = .returned (.bool true) ∧ Below w.heap.size w w' := by
  have HZ := hide hZ
  have HF := hide (first_ns w)
  unfold maxLen at hl
  clear hZ
  go_enter Try.func8, Try.ntmps8
  go_wp2_with fail
  refine HF.out.mono ?_
  rintro x w1 ⟨T, B, rfl, hB, F, hN, hF, hb⟩
  have HN := hide hN
  have HFl := hide hF
  have HB := hide hb
  have HBl := hide hB
  clear hN hF hb hB HF
  go_upto_region 5 with fail
  go_loopw [5] (fun x wr => ∃ j : Nat, j ≤ len ∧ x = .int .i64 (j : Int) ∧ ∃ rs last F, Hid (Ns wr F T B rs last) ∧ Hid (∀ b, F b → w.heap.size ≤ b) ∧ Hid (Below w.heap.size w wr)) (fun x _ => len - (intOf x).toNat)
  case atStart => exact ⟨0, by omega, rfl, rs3, 3, F, HN, HFl, HB⟩
  case round =>
  clear HN HFl HB
  obtain ⟨j, hj, rfl, rs, last, F, KN, KF, KB⟩ := hrel
  by_cases hlt : j < len
  · have hd : decide ((j : Int) < (len : Int)) = true := by simp; omega
    have hj3 : (j : Int) < (len : Int) := by omega
    obtain ⟨ad, rfl, hcl⟩ := HZ.out.below KB.out j hlt
    have HCl := hide hcl
    clear hcl
    generalize hoj : O j = o at *
    clear hoj
    have hz := heap_alloc_new wr (.cells Ov.nil.cells.toArray 47)
    have hb1 := freshO_below wr o
    have A1 := hide (freshO_at wr o)
    have HN1 := hide (KN.out.below hb1)
    have KB1 := hide (KB.out.trans (hb1.mono KB.out.size))
    have HNF : Hid (¬ wi B F wr.heap.size) := hide (fun e9 => by
      rcases e9 with e9 | e9
      · have := KN.out.bq.lt; omega
      · have := KN.out.et.lt _ e9; omega)
    have hol : (Try.prog.info? 47).map (·.size) = some o.cells.length := by rw [ov_len]; exact infoOp
    clear hb1 KN KB
    go_upto_region 8 with (first
      | (refine loadOp o ?lw _ rfl (ad.add (j * 18)) ?lx HCl.out ?_; rotate_left 2)
      | (refine storeT o.cells hol (ovc_one o) ?sw _ _ rfl wr.heap.size 0 ?sx ?sy Ov.nil.cells hz (by rw [ov_len, ov_len]; exact (by decide : 0 + 18 ≤ 18)) ?_; rotate_left 3; change wpList _ _ _ _ _ (freshO wr o); generalize freshO wr o = w1 at *))
    try (case lw => rfl)
    try (case lx => rfl)
    try (case sw => rfl)
    try (case sx => rfl)
    try (case sy => rfl)
    clear hz HCl
    generalize wr.heap.size = NO at *
    have HTd := hide (told_any HN1.out.et)
    go_wp2_with fail
    refine HTd.out.mono ?_
    rintro x2 w2 ⟨cs, rfl, hT, hb2⟩
    have hb3 := hb2.trans ((freshT_below w2 cs).mono hb2.size)
    have P1 := hide ((hb3.block NO (Array.getElem?_eq_some_iff.1 A1.out).1).trans A1.out)
    have P2 := hide (freshT_tb w2 hT.len).out
    have HN3 := hide (HN1.out.below hb3)
    have KB3 := hide (KB1.out.trans (hb3.mono KB1.out.size))
    have HF1 : Hid (¬ wi B F NO ∧ ¬ wi B F w2.heap.size) := hide ⟨HNF.out, fun e9 => by
      have hs := hb2.size
      rcases e9 with e9 | e9
      · have := HN1.out.bq.lt; omega
      · have := HN1.out.et.lt _ e9; omega⟩
    have HT := hide hT
    have hi : (Try.prog.info? 52).map (·.size) = some cs.length := by rw [hT.len]; exact infoTold
    have hle : 0 + cs.length ≤ zT.length := by rw [zT_tc.len, hT.len]; omega
    clear hb2 hb3 hT A1 HN1 KB1 HNF HTd
    go_upto_region 9 with (first
      | (refine allocTold rfl rfl ?_)
      | (refine storeT cs hi HT.out.one rfl _ _ rfl w2.heap.size 0 rfl rfl zT (heap_alloc_new w2 _) hle ?_; change wpList _ _ _ _ _ (freshT w2 cs); generalize freshT w2 cs = w3 at *))
    generalize w2.heap.size = MW at *
    clear hle
    have k0 : w3.cell? ⟨NO, 0, none⟩ = some (.int .i64 o.kd) := by rw [cell_of_row _ _ _ _ _ _ P1.out]; rfl
    have k2 : w3.cell? ⟨NO, 2, none⟩ = some (.int .i64 o.e) := by rw [cell_of_row _ _ _ _ _ _ P1.out]; rfl
    have HOc := hide (show ∀ (i : Nat) (y : Value), o.cells[i]? = some y → w3.cell? ((⟨NO, 0, none⟩ : Addr).add i) = some y from fun i y hy => by rw [add_nat, cell_of_row _ _ _ _ _ _ P1.out]; simpa using hy)
    have HCc := hide (show ∀ (i : Nat) (y : Value), cs[i]? = some y → w3.cell? ((⟨MW, 0, none⟩ : Addr).add i) = some y from fun i y hy => by rw [add_nat, cell_of_row _ _ _ _ _ _ P2.out]; simpa using hy)
    have HCo := hide (fun hk => comes_any HN3.out o hk cs HT.out)
    by_cases hk : o.kd = 2
    · have HCo := hide (HCo.out (.inl hk))
      have k0' := k0
      rw [hk] at k0'
      clear k0
      go_upto_region 10 with fail
      clear k0' k2
      go_wp2_with (first
        | (refine loadT Try.underlying47 rfl o.cells hol rfl _ rfl ⟨NO, 0, none⟩ rfl HOc.out ?_)
        | (refine loadT Try.underlying52 rfl cs hi rfl _ rfl ⟨MW, 0, none⟩ rfl HCc.out ?_))
      refine HCo.out.mono ?_
      rintro x4 w4 ⟨rfl, F2, hN4, hX⟩
      obtain ⟨hm, hf⟩ := hX
      have KF4 : Hid (∀ b, F2 b → w.heap.size ≤ b) := hide (fun b hb => by
        rcases hf b (.inr hb) with (e9 | e9) | e9
        · rw [e9]; exact HBl.out
        · exact KF.out b e9
        · exact Nat.le_trans KB3.out.size e9)
      have KB4 : Hid (Below w.heap.size w w4) := hide ⟨hm.os.trans KB3.out.os, hm.tape.trans KB3.out.tape, hm.output.trans KB3.out.output, Nat.le_trans KB3.out.size hm.size, fun b hb => (hm.block b (Nat.lt_of_lt_of_le hb KB3.out.size) (fun e9 => by
        rcases e9 with e9 | e9
        · have := HBl.out; omega
        · have := KF.out b e9; omega)).trans (KB3.out.block b hb)⟩
      have HN4 := hide hN4
      clear hm hf hN4 HCo KB3 HOc HCc P1 P2 hk
      go_wp2_with fail
      go_roundw
      case rel =>
        first
          | exact ⟨j + 1, by omega, by go_num, _, _, F2, HN4, KF4, KB4⟩
          | ((repeat apply Exists.intro); refine ⟨?_, rfl⟩; exact ⟨j + 1, by omega, by go_num, _, _, F2, HN4, KF4, KB4⟩)
      case measure => simp [intOf]; omega
    by_cases hk3 : o.kd = 3
    · have HCo := hide (HCo.out (.inr hk3))
      have hk := hk3
      clear hk3
      have k0' := k0
      rw [hk] at k0'
      clear k0
      go_upto_region 10 with fail
      clear k0' k2
      go_wp2_with (first
        | (refine loadT Try.underlying47 rfl o.cells hol rfl _ rfl ⟨NO, 0, none⟩ rfl HOc.out ?_)
        | (refine loadT Try.underlying52 rfl cs hi rfl _ rfl ⟨MW, 0, none⟩ rfl HCc.out ?_))
      refine HCo.out.mono ?_
      rintro x4 w4 ⟨rfl, F2, hN4, hX⟩
      obtain ⟨hm, hf⟩ := hX
      have KF4 : Hid (∀ b, F2 b → w.heap.size ≤ b) := hide (fun b hb => by
        rcases hf b (.inr hb) with (e9 | e9) | e9
        · rw [e9]; exact HBl.out
        · exact KF.out b e9
        · exact Nat.le_trans KB3.out.size e9)
      have KB4 : Hid (Below w.heap.size w w4) := hide ⟨hm.os.trans KB3.out.os, hm.tape.trans KB3.out.tape, hm.output.trans KB3.out.output, Nat.le_trans KB3.out.size hm.size, fun b hb => (hm.block b (Nat.lt_of_lt_of_le hb KB3.out.size) (fun e9 => by
        rcases e9 with e9 | e9
        · have := HBl.out; omega
        · have := KF.out b e9; omega)).trans (KB3.out.block b hb)⟩
      have HN4 := hide hN4
      clear hm hf hN4 HCo KB3 HOc HCc P1 P2 hk
      go_wp2_with fail
      go_roundw
      case rel =>
        first
          | exact ⟨j + 1, by omega, by go_num, _, _, F2, HN4, KF4, KB4⟩
          | ((repeat apply Exists.intro); refine ⟨?_, rfl⟩; exact ⟨j + 1, by omega, by go_num, _, _, F2, HN4, KF4, KB4⟩)
      case measure => simp [intOf]; omega
    have n2 := hk
    have n3 := hk3
    clear hk hk3
    have HNo : Hid (Calls Try.prog 16 #[.pointer (some ⟨B, 0, none⟩), .pointer (some ⟨T, 0, none⟩), .agg o.cells.toArray] w3 fun x w' => x = .returned (.bool true) ∧ Nx w3 F T B (nS o.kd o.e o.n o.m o.q o.g o.pc o.on rs last) (nL o.kd o.e o.n o.q rs last) w') := hide (noted_ex HN3.out o.kd o.t o.e o.n o.m o.q o.g o.pc o.on)
    have hor : look (nS o.kd o.e o.n o.m o.q o.g o.pc o.on rs last) o.e = none ∨ ∃ r2, look (nS o.kd o.e o.n o.m o.q o.g o.pc o.on rs last) o.e = some r2 := by
      cases look (nS o.kd o.e o.n o.m o.q o.g o.pc o.on rs last) o.e with
      | none => exact .inl rfl
      | some r => exact .inr ⟨r, rfl⟩
    rcases hor with hl2 | ⟨r2, hl2⟩
    · have HL2 := hide hl2
      clear hl2
      have q2 : (o.kd == 2) = false := by simp [n2]
      have q3 : (o.kd == 3) = false := by simp [n3]
      go_upto_region 12 with fail
      clear k0 k2 q2 q3
      go_wp2_with (refine loadT Try.underlying47 rfl o.cells hol rfl _ rfl ⟨NO, 0, none⟩ rfl HOc.out ?_)
      refine HNo.out.mono ?_
      rintro x4 w4 ⟨rfl, F2, hN4, hX⟩
      have Q14 := hide ((hX.mod.block NO (Array.getElem?_eq_some_iff.1 P1.out).1 (HF1.out.1)).trans P1.out)
      have Q24 := hide ((hX.mod.block MW (Array.getElem?_eq_some_iff.1 P2.out).1 (HF1.out.2)).trans P2.out)
      obtain ⟨hm, hf⟩ := hX
      have KF4 : Hid (∀ b, F2 b → w.heap.size ≤ b) := hide (fun b hb => by
        rcases hf b (.inr hb) with (e9 | e9) | e9
        · rw [e9]; exact HBl.out
        · exact KF.out b e9
        · exact Nat.le_trans KB3.out.size e9)
      have KB4 : Hid (Below w.heap.size w w4) := hide ⟨hm.os.trans KB3.out.os, hm.tape.trans KB3.out.tape, hm.output.trans KB3.out.output, Nat.le_trans KB3.out.size hm.size, fun b hb => (hm.block b (Nat.lt_of_lt_of_le hb KB3.out.size) (fun e9 => by
        rcases e9 with e9 | e9
        · have := HBl.out; omega
        · have := KF.out b e9; omega)).trans (KB3.out.block b hb)⟩
      have HN4 := hide hN4
      have HIv := hide HN3.out.iv
      clear hm hf hN4 HNo HCo KB3 HOc HCc P1 P2 HF1 HN3 KF
      go_upto_region 13 with fail
      obtain ⟨w5, hdw5⟩ : ∃ v, v = w4.drew := ⟨_, rfl⟩
      have hbw5 : Below w4.heap.size w4 w5 := by rw [hdw5]; exact ⟨rfl, rfl, rfl, Nat.le_refl _, fun _ _ => rfl⟩
      have HN5 := hide (HN4.out.below hbw5)
      have KB5 := hide (KB4.out.trans (hbw5.mono KB4.out.size))
      have Q15 := hide ((hbw5.block NO (Array.getElem?_eq_some_iff.1 Q14.out).1).trans Q14.out)
      have Q25 := hide ((hbw5.block MW (Array.getElem?_eq_some_iff.1 Q24.out).1).trans Q24.out)
      clear hbw5 HN4 KB4 Q14 Q24
      have e2 : w5.cell? ⟨NO, 2, none⟩ = some (.int .i64 o.e) := by rw [cell_of_row _ _ _ _ _ _ Q15.out]; rfl
      have HS : Hid (w5.cell? ⟨NO, 2, none⟩ = some (.int .i64 o.e) ∧ w5.heap[MW]? = some (.cells cs.toArray 52 (0, 0))) := hide ⟨e2, Q25.out⟩
      clear e2
      refine wp_region_held_drew (S := fun W => W.cell? ⟨NO, 2, none⟩ = some (.int .i64 o.e) ∧ W.heap[MW]? = some (.cells cs.toArray 52 (0, 0))) (by kernel_rfl) (by rw [← hdw5]; exact HS.out) (fun _ => ?_)
      rw [← hdw5]
      clear hdw5
      refine hd_take 0 (o := ⟨some 48, _, _, _, _, _⟩) (.bool true) (by kernel_rfl) (by kernel_rfl) (by kernel_rfl) rfl (by rfl) (fun W hSw => by go_simp) (fun _ _ _ h => h) HS.out ?_
      try simp only [Act.put, List.setIfInBounds_toArray, List.set_cons_zero, List.set_cons_succ]
      refine hd_take 1 (o := ⟨some 49, _, _, _, _, _⟩) (.bool false) (by kernel_rfl) (by kernel_rfl) (by kernel_rfl) rfl (by rfl) (fun W hSw => by go_simp) (fun _ _ _ h => h) HS.out ?_
      try simp only [Act.put, List.setIfInBounds_toArray, List.set_cons_zero, List.set_cons_succ]
      refine hd_take 2 (o := ⟨some 50, _, _, _, _, _⟩) (.bool false) (by kernel_rfl) (by kernel_rfl) (by kernel_rfl) rfl (by rfl) (fun W hSw => by go_simp) (fun _ _ _ h => h) HS.out ?_
      try simp only [Act.put, List.setIfInBounds_toArray, List.set_cons_zero, List.set_cons_succ]
      refine hd_take 3 (o := ⟨some 51, _, _, _, _, _⟩) (.agg cs.toArray) (by kernel_rfl) (by kernel_rfl) (by kernel_rfl) rfl (by rfl) (fun W hSw => by obtain ⟨s1, s2⟩ := hSw; exact run_loadT Try.underlying52 rfl cs hi _ rfl ⟨MW, 0, none⟩ rfl (Tb.cell ⟨s2⟩)) (fun _ _ _ h => h) HS.out ?_
      try simp only [Act.put, List.setIfInBounds_toArray, List.set_cons_zero, List.set_cons_succ]
      refine hd_take 4 (o := ⟨some 52, _, _, _, _, _⟩) (.pointer (some ⟨T, 0, none⟩)) (by kernel_rfl) (by kernel_rfl) (by kernel_rfl) rfl (by rfl) (fun W hSw => by go_simp) (fun _ _ _ h => h) HS.out ?_
      try simp only [Act.put, List.setIfInBounds_toArray, List.set_cons_zero, List.set_cons_succ]
      refine hd_take 6 (o := ⟨some 54, _, _, _, _, _⟩) (.pointer (some ⟨NO, 2, none⟩)) (by kernel_rfl) (by kernel_rfl) (by kernel_rfl) rfl (by rfl) (fun W hSw => by go_simp) (fun _ _ _ h => h) HS.out ?_
      try simp only [Act.put, List.setIfInBounds_toArray, List.set_cons_zero, List.set_cons_succ]
      refine hd_take 7 (o := ⟨some 55, _, _, _, _, _⟩) (.int .i64 o.e) (by kernel_rfl) (by kernel_rfl) (by kernel_rfl) rfl (by rfl) (fun W hSw => by obtain ⟨s1, s2⟩ := hSw; go_simp) (fun _ _ _ h => h) HS.out ?_
      try simp only [Act.put, List.setIfInBounds_toArray, List.set_cons_zero, List.set_cons_succ]
      refine hd_take 8 (o := ⟨some 56, _, _, _, _, _⟩) (.pointer (some ⟨NO, 2, none⟩)) (by kernel_rfl) (by kernel_rfl) (by kernel_rfl) rfl (by rfl) (fun W hSw => by go_simp) (fun _ _ _ h => h) HS.out ?_
      try simp only [Act.put, List.setIfInBounds_toArray, List.set_cons_zero, List.set_cons_succ]
      refine hd_take 9 (o := ⟨some 57, _, _, _, _, _⟩) (.int .i64 o.e) (by kernel_rfl) (by kernel_rfl) (by kernel_rfl) rfl (by rfl) (fun W hSw => by obtain ⟨s1, s2⟩ := hSw; go_simp) (fun _ _ _ h => h) HS.out ?_
      try simp only [Act.put, List.setIfInBounds_toArray, List.set_cons_zero, List.set_cons_succ]
      have HTe := hide (told_any HN5.out.et)
      refine hd_call 5 (o := ⟨some 53, _, _, _, _, _⟩) (by kernel_rfl) rfl (by rfl) (fun K hK => ?_)
      go_simp
      go_wp2_with (go_at_call 17; refine HTe.out.mono ?_; rintro e1 w6 ⟨cs2, rfl, hT2, hb6⟩)
      have HN6 := hide (HN5.out.below hb6)
      have KB6 := hide (KB5.out.trans (hb6.mono KB5.out.size))
      have Q16 := hide ((hb6.block NO (Array.getElem?_eq_some_iff.1 Q15.out).1).trans Q15.out)
      have Q26 := hide ((hb6.block MW (Array.getElem?_eq_some_iff.1 Q25.out).1).trans Q25.out)
      have HT2 := hide hT2
      have e2 : w6.cell? ⟨NO, 2, none⟩ = some (.int .i64 o.e) := by rw [cell_of_row _ _ _ _ _ _ Q16.out]; rfl
      have HS6 : Hid (w6.cell? ⟨NO, 2, none⟩ = some (.int .i64 o.e) ∧ w6.heap[MW]? = some (.cells cs.toArray 52 (0, 0))) := hide ⟨e2, Q26.out⟩
      clear e2 hb6 hT2 HN5 KB5 Q15 Q25 HTe HS
      refine hK _ _ HS6.out ?_
      clear hK K
      try simp only [Act.put, List.setIfInBounds_toArray, List.set_cons_zero, List.set_cons_succ]
      have HOn := hide (only_any w6 cs cs2 (tf rs) (tf (nS o.kd o.e o.n o.m o.q o.g o.pc o.on rs last)) (tg rs) (tg (nS o.kd o.e o.n o.m o.q o.g o.pc o.on rs last)) o.e HT.out HT2.out (fun i _ he => (nS_others n2 n3 he).1) (fun i _ he => (nS_others n2 n3 he).2))
      refine hd_call 10 (o := ⟨some 58, _, _, _, _, _⟩) (by kernel_rfl) rfl (by rfl) (fun K hK => ?_)
      go_simp
      go_wp2_with (go_at_call 29; refine HOn.out.mono ?_; rintro e1 w7 ⟨rfl, hb7⟩)
      have HN7 := hide (HN6.out.below hb7)
      have KB7 := hide (KB6.out.trans (hb7.mono KB6.out.size))
      have Q17 := hide ((hb7.block NO (Array.getElem?_eq_some_iff.1 Q16.out).1).trans Q16.out)
      have Q27 := hide ((hb7.block MW (Array.getElem?_eq_some_iff.1 Q26.out).1).trans Q26.out)
      have e2 : w7.cell? ⟨NO, 2, none⟩ = some (.int .i64 o.e) := by rw [cell_of_row _ _ _ _ _ _ Q17.out]; rfl
      have HS7 : Hid (w7.cell? ⟨NO, 2, none⟩ = some (.int .i64 o.e) ∧ w7.heap[MW]? = some (.cells cs.toArray 52 (0, 0))) := hide ⟨e2, Q27.out⟩
      clear e2 hb7 HT2 HN6 KB6 Q16 Q26 HOn HS6
      refine hK _ _ HS7.out ?_
      clear hK K
      try simp only [Act.put, List.setIfInBounds_toArray, List.set_cons_zero, List.set_cons_succ]
      refine hd_take 11 (o := ⟨some 59, _, _, _, _, _⟩) (.bool false) (by kernel_rfl) (by kernel_rfl) (by kernel_rfl) rfl (by rfl) (fun W hSw => by go_simp) (fun _ _ _ h => h) HS7.out ?_
      try simp only [Act.put, List.setIfInBounds_toArray, List.set_cons_zero, List.set_cons_succ]
      refine hd_take 12 (o := ⟨some 60, _, _, _, _, _⟩) (.bool false) (by kernel_rfl) (by kernel_rfl) (by kernel_rfl) rfl (by rfl) (fun W hSw => by go_simp) (fun _ _ _ h => h) HS7.out ?_
      try simp only [Act.put, List.setIfInBounds_toArray, List.set_cons_zero, List.set_cons_succ]
      refine wpAnyH_done (by kernel_rfl) ?_ _
      clear HS7
      have hl2 := HL2.out
      clear HL2
      have hl : look rs o.e = none := by
        cases hq : look rs o.e with
        | none => rfl
        | some r =>
          obtain ⟨k, hek, hr⟩ := look_some hq
          obtain ⟨r', h9, _⟩ := nS_at (q := o.q) (g := o.g) (pc := o.pc) (on := o.on) (n := o.n) (m := o.m) (last := last) n2 n3 hr
          rw [hek] at hl2
          rw [h9, look_at' (set_self (look_len hr))] at hl2
          cases hl2
      have hrs := nS_no (q := o.q) (g := o.g) (pc := o.pc) (on := o.on) (n := o.n) (m := o.m) (last := last) n2 n3 hl
      have HI := hide (infoNone_any _ _ _ _ _ HN7.out.et o.e hl2)
      rw [hrs] at HN7
      clear hl hl2 hrs n2 n3
      have e2 : w7.cell? ⟨NO, 2, none⟩ = some (.int .i64 o.e) := by rw [cell_of_row _ _ _ _ _ _ Q17.out]; rfl
      go_wp2_with fail
      refine HI.out.mono ?_
      rintro x8 w8 ⟨rfl, hb8⟩
      have HN8 := hide (HN7.out.below hb8)
      have KB8 := hide (KB7.out.trans (hb8.mono KB7.out.size))
      have Q18 := hide ((hb8.block NO (Array.getElem?_eq_some_iff.1 Q17.out).1).trans Q17.out)
      have Q28 := hide ((hb8.block MW (Array.getElem?_eq_some_iff.1 Q27.out).1).trans Q27.out)
      clear e2 hb8 HN7 KB7 Q17 Q27 HI
      have hz : Eb (w8.alloc (.cells Er.nil.head.toArray 41)) w8.heap.size Er.nil := Eb.new _ _
      have hb9 := freshE_below w8 Er.nil
      have HN9 := hide (HN8.out.below hb9)
      have KB9 := hide (KB8.out.trans (hb9.mono KB8.out.size))
      have Q19 := hide ((hb9.block NO (Array.getElem?_eq_some_iff.1 Q18.out).1).trans Q18.out)
      have Q29 := hide ((hb9.block MW (Array.getElem?_eq_some_iff.1 Q28.out).1).trans Q28.out)
      clear hb9 HN8 KB8 Q18 Q28
      go_upto_region 17 with (refine storeE Er.nil ?nw2 _ _ rfl w8.heap.size Er.nil ?nx2 ?ny2 ?nz2 ?_; rotate_left 4; change wpList _ _ _ _ _ (freshE w8 Er.nil); generalize freshE w8 Er.nil = w9 at *)
      try (case nw2 => rfl)
      try (case nx2 => rfl)
      try (case ny2 => rfl)
      try (case nz2 => exact hz)
      clear hz
      generalize w8.heap.size = X at *
      obtain ⟨wa, hdwa⟩ : ∃ v, v = w9.drew := ⟨_, rfl⟩
      have hbwa : Below w9.heap.size w9 wa := by rw [hdwa]; exact ⟨rfl, rfl, rfl, Nat.le_refl _, fun _ _ => rfl⟩
      have HNa := hide (HN9.out.below hbwa)
      have KBa := hide (KB9.out.trans (hbwa.mono KB9.out.size))
      have Q1a := hide ((hbwa.block NO (Array.getElem?_eq_some_iff.1 Q19.out).1).trans Q19.out)
      have Q2a := hide ((hbwa.block MW (Array.getElem?_eq_some_iff.1 Q29.out).1).trans Q29.out)
      clear hbwa HN9 KB9 Q19 Q29
      have e2 : wa.cell? ⟨NO, 2, none⟩ = some (.int .i64 o.e) := by rw [cell_of_row _ _ _ _ _ _ Q1a.out]; rfl
      have HS : Hid (wa.cell? ⟨NO, 2, none⟩ = some (.int .i64 o.e) ∧ wa.heap[MW]? = some (.cells cs.toArray 52 (0, 0))) := hide ⟨e2, Q2a.out⟩
      clear e2
      refine wp_region_held_drew (S := fun W => W.cell? ⟨NO, 2, none⟩ = some (.int .i64 o.e) ∧ W.heap[MW]? = some (.cells cs.toArray 52 (0, 0))) (by kernel_rfl) (by rw [← hdwa]; exact HS.out) (fun _ => ?_)
      rw [← hdwa]
      clear hdwa
      refine hd_take 0 (o := ⟨some 70, _, _, _, _, _⟩) (.pointer (some ⟨T, 0, none⟩)) (by kernel_rfl) (by kernel_rfl) (by kernel_rfl) rfl (by rfl) (fun W hSw => by go_simp) (fun _ _ _ h => h) HS.out ?_
      try simp only [Act.put, List.setIfInBounds_toArray, List.set_cons_zero, List.set_cons_succ]
      refine hd_take 2 (o := ⟨some 72, _, _, _, _, _⟩) (.agg cs.toArray) (by kernel_rfl) (by kernel_rfl) (by kernel_rfl) rfl (by rfl) (fun W hSw => by obtain ⟨s1, s2⟩ := hSw; exact run_loadT Try.underlying52 rfl cs hi _ rfl ⟨MW, 0, none⟩ rfl (Tb.cell ⟨s2⟩)) (fun _ _ _ h => h) HS.out ?_
      try simp only [Act.put, List.setIfInBounds_toArray, List.set_cons_zero, List.set_cons_succ]
      have HTe := hide (told_any HNa.out.et)
      refine hd_call 1 (o := ⟨some 71, _, _, _, _, _⟩) (by kernel_rfl) rfl (by rfl) (fun K hK => ?_)
      go_simp
      go_wp2_with (go_at_call 17; refine HTe.out.mono ?_; rintro e1 wb ⟨cs3, rfl, hT3, hbb⟩)
      have HNb := hide (HNa.out.below hbb)
      have KBb := hide (KBa.out.trans (hbb.mono KBa.out.size))
      have Q1b := hide ((hbb.block NO (Array.getElem?_eq_some_iff.1 Q1a.out).1).trans Q1a.out)
      have Q2b := hide ((hbb.block MW (Array.getElem?_eq_some_iff.1 Q2a.out).1).trans Q2a.out)
      obtain rfl : cs3 = cs := hT3.ext HT.out (fun _ _ => rfl) (fun _ _ => rfl)
      have e2 : wb.cell? ⟨NO, 2, none⟩ = some (.int .i64 o.e) := by rw [cell_of_row _ _ _ _ _ _ Q1b.out]; rfl
      have HSb : Hid (wb.cell? ⟨NO, 2, none⟩ = some (.int .i64 o.e) ∧ wb.heap[MW]? = some (.cells cs3.toArray 52 (0, 0))) := hide ⟨e2, Q2b.out⟩
      clear e2 hbb hT3 HNa KBa Q1a Q2a HTe HS
      refine hK _ _ HSb.out ?_
      clear hK K
      try simp only [Act.put, List.setIfInBounds_toArray, List.set_cons_zero, List.set_cons_succ]
      refine hd_take 3 (o := ⟨some 73, _, _, _, _, _⟩) (.bool false) (by kernel_rfl) (by kernel_rfl) (by kernel_rfl) rfl (by rfl) (fun W hSw => by exact run_neqT cs3.toArray (HT.out.se 9994) (by kernel_rfl) _ _ rfl rfl rfl) (fun _ _ _ h => h) HSb.out ?_
      try simp only [Act.put, List.setIfInBounds_toArray, List.set_cons_zero, List.set_cons_succ]
      refine wpAnyH_done (by kernel_rfl) ?_ _
      clear HSb
      go_wp2_with fail
      go_roundw
      case rel =>
        first
          | exact ⟨j + 1, by omega, by go_num, _, _, F2, HNb, KF4, KBb⟩
          | ((repeat apply Exists.intro); refine ⟨?_, rfl⟩; exact ⟨j + 1, by omega, by go_num, _, _, F2, HNb, KF4, KBb⟩)
      case measure => simp [intOf]; omega
    · have HL2 := hide hl2
      clear hl2
      have q2 : (o.kd == 2) = false := by simp [n2]
      have q3 : (o.kd == 3) = false := by simp [n3]
      go_upto_region 12 with fail
      clear k0 k2 q2 q3
      go_wp2_with (refine loadT Try.underlying47 rfl o.cells hol rfl _ rfl ⟨NO, 0, none⟩ rfl HOc.out ?_)
      refine HNo.out.mono ?_
      rintro x4 w4 ⟨rfl, F2, hN4, hX⟩
      have Q14 := hide ((hX.mod.block NO (Array.getElem?_eq_some_iff.1 P1.out).1 (HF1.out.1)).trans P1.out)
      have Q24 := hide ((hX.mod.block MW (Array.getElem?_eq_some_iff.1 P2.out).1 (HF1.out.2)).trans P2.out)
      obtain ⟨hm, hf⟩ := hX
      have KF4 : Hid (∀ b, F2 b → w.heap.size ≤ b) := hide (fun b hb => by
        rcases hf b (.inr hb) with (e9 | e9) | e9
        · rw [e9]; exact HBl.out
        · exact KF.out b e9
        · exact Nat.le_trans KB3.out.size e9)
      have KB4 : Hid (Below w.heap.size w w4) := hide ⟨hm.os.trans KB3.out.os, hm.tape.trans KB3.out.tape, hm.output.trans KB3.out.output, Nat.le_trans KB3.out.size hm.size, fun b hb => (hm.block b (Nat.lt_of_lt_of_le hb KB3.out.size) (fun e9 => by
        rcases e9 with e9 | e9
        · have := HBl.out; omega
        · have := KF.out b e9; omega)).trans (KB3.out.block b hb)⟩
      have HN4 := hide hN4
      have HIv := hide HN3.out.iv
      clear hm hf hN4 HNo HCo KB3 HOc HCc P1 P2 HF1 HN3 KF
      go_upto_region 13 with fail
      obtain ⟨w5, hdw5⟩ : ∃ v, v = w4.drew := ⟨_, rfl⟩
      have hbw5 : Below w4.heap.size w4 w5 := by rw [hdw5]; exact ⟨rfl, rfl, rfl, Nat.le_refl _, fun _ _ => rfl⟩
      have HN5 := hide (HN4.out.below hbw5)
      have KB5 := hide (KB4.out.trans (hbw5.mono KB4.out.size))
      have Q15 := hide ((hbw5.block NO (Array.getElem?_eq_some_iff.1 Q14.out).1).trans Q14.out)
      have Q25 := hide ((hbw5.block MW (Array.getElem?_eq_some_iff.1 Q24.out).1).trans Q24.out)
      clear hbw5 HN4 KB4 Q14 Q24
      have e2 : w5.cell? ⟨NO, 2, none⟩ = some (.int .i64 o.e) := by rw [cell_of_row _ _ _ _ _ _ Q15.out]; rfl
      have HS : Hid (w5.cell? ⟨NO, 2, none⟩ = some (.int .i64 o.e) ∧ w5.heap[MW]? = some (.cells cs.toArray 52 (0, 0))) := hide ⟨e2, Q25.out⟩
      clear e2
      refine wp_region_held_drew (S := fun W => W.cell? ⟨NO, 2, none⟩ = some (.int .i64 o.e) ∧ W.heap[MW]? = some (.cells cs.toArray 52 (0, 0))) (by kernel_rfl) (by rw [← hdw5]; exact HS.out) (fun _ => ?_)
      rw [← hdw5]
      clear hdw5
      refine hd_take 0 (o := ⟨some 48, _, _, _, _, _⟩) (.bool true) (by kernel_rfl) (by kernel_rfl) (by kernel_rfl) rfl (by rfl) (fun W hSw => by go_simp) (fun _ _ _ h => h) HS.out ?_
      try simp only [Act.put, List.setIfInBounds_toArray, List.set_cons_zero, List.set_cons_succ]
      refine hd_take 1 (o := ⟨some 49, _, _, _, _, _⟩) (.bool false) (by kernel_rfl) (by kernel_rfl) (by kernel_rfl) rfl (by rfl) (fun W hSw => by go_simp) (fun _ _ _ h => h) HS.out ?_
      try simp only [Act.put, List.setIfInBounds_toArray, List.set_cons_zero, List.set_cons_succ]
      refine hd_take 2 (o := ⟨some 50, _, _, _, _, _⟩) (.bool false) (by kernel_rfl) (by kernel_rfl) (by kernel_rfl) rfl (by rfl) (fun W hSw => by go_simp) (fun _ _ _ h => h) HS.out ?_
      try simp only [Act.put, List.setIfInBounds_toArray, List.set_cons_zero, List.set_cons_succ]
      refine hd_take 3 (o := ⟨some 51, _, _, _, _, _⟩) (.agg cs.toArray) (by kernel_rfl) (by kernel_rfl) (by kernel_rfl) rfl (by rfl) (fun W hSw => by obtain ⟨s1, s2⟩ := hSw; exact run_loadT Try.underlying52 rfl cs hi _ rfl ⟨MW, 0, none⟩ rfl (Tb.cell ⟨s2⟩)) (fun _ _ _ h => h) HS.out ?_
      try simp only [Act.put, List.setIfInBounds_toArray, List.set_cons_zero, List.set_cons_succ]
      refine hd_take 4 (o := ⟨some 52, _, _, _, _, _⟩) (.pointer (some ⟨T, 0, none⟩)) (by kernel_rfl) (by kernel_rfl) (by kernel_rfl) rfl (by rfl) (fun W hSw => by go_simp) (fun _ _ _ h => h) HS.out ?_
      try simp only [Act.put, List.setIfInBounds_toArray, List.set_cons_zero, List.set_cons_succ]
      refine hd_take 6 (o := ⟨some 54, _, _, _, _, _⟩) (.pointer (some ⟨NO, 2, none⟩)) (by kernel_rfl) (by kernel_rfl) (by kernel_rfl) rfl (by rfl) (fun W hSw => by go_simp) (fun _ _ _ h => h) HS.out ?_
      try simp only [Act.put, List.setIfInBounds_toArray, List.set_cons_zero, List.set_cons_succ]
      refine hd_take 7 (o := ⟨some 55, _, _, _, _, _⟩) (.int .i64 o.e) (by kernel_rfl) (by kernel_rfl) (by kernel_rfl) rfl (by rfl) (fun W hSw => by obtain ⟨s1, s2⟩ := hSw; go_simp) (fun _ _ _ h => h) HS.out ?_
      try simp only [Act.put, List.setIfInBounds_toArray, List.set_cons_zero, List.set_cons_succ]
      refine hd_take 8 (o := ⟨some 56, _, _, _, _, _⟩) (.pointer (some ⟨NO, 2, none⟩)) (by kernel_rfl) (by kernel_rfl) (by kernel_rfl) rfl (by rfl) (fun W hSw => by go_simp) (fun _ _ _ h => h) HS.out ?_
      try simp only [Act.put, List.setIfInBounds_toArray, List.set_cons_zero, List.set_cons_succ]
      refine hd_take 9 (o := ⟨some 57, _, _, _, _, _⟩) (.int .i64 o.e) (by kernel_rfl) (by kernel_rfl) (by kernel_rfl) rfl (by rfl) (fun W hSw => by obtain ⟨s1, s2⟩ := hSw; go_simp) (fun _ _ _ h => h) HS.out ?_
      try simp only [Act.put, List.setIfInBounds_toArray, List.set_cons_zero, List.set_cons_succ]
      have HTe := hide (told_any HN5.out.et)
      refine hd_call 5 (o := ⟨some 53, _, _, _, _, _⟩) (by kernel_rfl) rfl (by rfl) (fun K hK => ?_)
      go_simp
      go_wp2_with (go_at_call 17; refine HTe.out.mono ?_; rintro e1 w6 ⟨cs2, rfl, hT2, hb6⟩)
      have HN6 := hide (HN5.out.below hb6)
      have KB6 := hide (KB5.out.trans (hb6.mono KB5.out.size))
      have Q16 := hide ((hb6.block NO (Array.getElem?_eq_some_iff.1 Q15.out).1).trans Q15.out)
      have Q26 := hide ((hb6.block MW (Array.getElem?_eq_some_iff.1 Q25.out).1).trans Q25.out)
      have HT2 := hide hT2
      have e2 : w6.cell? ⟨NO, 2, none⟩ = some (.int .i64 o.e) := by rw [cell_of_row _ _ _ _ _ _ Q16.out]; rfl
      have HS6 : Hid (w6.cell? ⟨NO, 2, none⟩ = some (.int .i64 o.e) ∧ w6.heap[MW]? = some (.cells cs.toArray 52 (0, 0))) := hide ⟨e2, Q26.out⟩
      clear e2 hb6 hT2 HN5 KB5 Q15 Q25 HTe HS
      refine hK _ _ HS6.out ?_
      clear hK K
      try simp only [Act.put, List.setIfInBounds_toArray, List.set_cons_zero, List.set_cons_succ]
      have HOn := hide (only_any w6 cs cs2 (tf rs) (tf (nS o.kd o.e o.n o.m o.q o.g o.pc o.on rs last)) (tg rs) (tg (nS o.kd o.e o.n o.m o.q o.g o.pc o.on rs last)) o.e HT.out HT2.out (fun i _ he => (nS_others n2 n3 he).1) (fun i _ he => (nS_others n2 n3 he).2))
      refine hd_call 10 (o := ⟨some 58, _, _, _, _, _⟩) (by kernel_rfl) rfl (by rfl) (fun K hK => ?_)
      go_simp
      go_wp2_with (go_at_call 29; refine HOn.out.mono ?_; rintro e1 w7 ⟨rfl, hb7⟩)
      have HN7 := hide (HN6.out.below hb7)
      have KB7 := hide (KB6.out.trans (hb7.mono KB6.out.size))
      have Q17 := hide ((hb7.block NO (Array.getElem?_eq_some_iff.1 Q16.out).1).trans Q16.out)
      have Q27 := hide ((hb7.block MW (Array.getElem?_eq_some_iff.1 Q26.out).1).trans Q26.out)
      have e2 : w7.cell? ⟨NO, 2, none⟩ = some (.int .i64 o.e) := by rw [cell_of_row _ _ _ _ _ _ Q17.out]; rfl
      have HS7 : Hid (w7.cell? ⟨NO, 2, none⟩ = some (.int .i64 o.e) ∧ w7.heap[MW]? = some (.cells cs.toArray 52 (0, 0))) := hide ⟨e2, Q27.out⟩
      clear e2 hb7 HT2 HN6 KB6 Q16 Q26 HOn HS6
      refine hK _ _ HS7.out ?_
      clear hK K
      try simp only [Act.put, List.setIfInBounds_toArray, List.set_cons_zero, List.set_cons_succ]
      refine hd_take 11 (o := ⟨some 59, _, _, _, _, _⟩) (.bool false) (by kernel_rfl) (by kernel_rfl) (by kernel_rfl) rfl (by rfl) (fun W hSw => by go_simp) (fun _ _ _ h => h) HS7.out ?_
      try simp only [Act.put, List.setIfInBounds_toArray, List.set_cons_zero, List.set_cons_succ]
      refine hd_take 12 (o := ⟨some 60, _, _, _, _, _⟩) (.bool false) (by kernel_rfl) (by kernel_rfl) (by kernel_rfl) rfl (by rfl) (fun W hSw => by go_simp) (fun _ _ _ h => h) HS7.out ?_
      try simp only [Act.put, List.setIfInBounds_toArray, List.set_cons_zero, List.set_cons_succ]
      refine wpAnyH_done (by kernel_rfl) ?_ _
      clear HS7
      have hl2 := HL2.out
      clear HL2
      obtain ⟨k, hek, hr2⟩ := look_some hl2
      have hk16 : k < 16 := by have h9 := look_len hr2; rw [HN7.out.iv.tr.len] at h9; exact h9
      have hl : ∃ r1, rs[k]? = some (some r1) := by
        cases hq : look rs o.e with
        | none =>
          rw [nS_no (q := o.q) (g := o.g) (pc := o.pc) (on := o.on) (n := o.n) (m := o.m) (last := last) n2 n3 hq, hq] at hl2
          cases hl2
        | some r =>
          obtain ⟨k', hek', hr⟩ := look_some hq
          have : k = k' := by omega
          exact ⟨r, by rw [this]; exact hr⟩
      obtain ⟨r1, hr1⟩ := hl
      have HSet : Hid ((sx o.kd o.n o.m o.g o.pc o.on r1.told r2.told).head = r2.told.head) := hide (by
        obtain ⟨r', h9, h8⟩ := nS_at (q := o.q) (g := o.g) (pc := o.pc) (on := o.on) (n := o.n) (m := o.m) (last := last) n2 n3 hr1
        rw [hek, h9, set_self (look_len hr1)] at hr2
        cases hr2
        exact h8)
      have hI := info_both HN7.out.et k
      rw [tf_self hr2, tg_self hr2] at hI
      have HI := hide hI
      have HTk := hide (tf_self hr1)
      clear hI hr1 hr2 hl2 n2 n3
      have e2 : w7.cell? ⟨NO, 2, none⟩ = some (.int .i64 (k : Int)) := by rw [cell_of_row _ _ _ _ _ _ Q17.out, ← hek]; rfl
      have HEk := hide hek
      clear hek
      go_wp2_with fail
      refine HI.out.mono ?_
      rintro x8 w8 ⟨rfl, hb8⟩
      have HN8 := hide (HN7.out.below hb8)
      have KB8 := hide (KB7.out.trans (hb8.mono KB7.out.size))
      have Q18 := hide ((hb8.block NO (Array.getElem?_eq_some_iff.1 Q17.out).1).trans Q17.out)
      have Q28 := hide ((hb8.block MW (Array.getElem?_eq_some_iff.1 Q27.out).1).trans Q27.out)
      clear e2 hb8 HN7 KB7 Q17 Q27 HI
      have hz : Eb (w8.alloc (.cells Er.nil.head.toArray 41)) w8.heap.size Er.nil := Eb.new _ _
      have hb9 := freshE_below w8 r2.told
      have HX := hide (freshE_eb w8 r2.told)
      have HN9 := hide (HN8.out.below hb9)
      have KB9 := hide (KB8.out.trans (hb9.mono KB8.out.size))
      have Q19 := hide ((hb9.block NO (Array.getElem?_eq_some_iff.1 Q18.out).1).trans Q18.out)
      have Q29 := hide ((hb9.block MW (Array.getElem?_eq_some_iff.1 Q28.out).1).trans Q28.out)
      clear hb9 HN8 KB8 Q18 Q28
      go_upto_region 19 with (refine storeE r2.told ?nw5 _ _ rfl w8.heap.size Er.nil ?nx5 ?ny5 ?nz5 ?_; rotate_left 4; change wpList _ _ _ _ _ (freshE w8 r2.told); generalize freshE w8 r2.told = w9 at *)
      try (case nw5 => rfl)
      try (case nx5 => rfl)
      try (case ny5 => rfl)
      try (case nz5 => exact hz)
      clear hz
      generalize w8.heap.size = X at *
      have e2 : w9.cell? ⟨NO, 2, none⟩ = some (.int .i64 (k : Int)) := by rw [cell_of_row _ _ _ _ _ _ Q19.out, ← HEk.out]; rfl
      have hc1 := (tc_env Q29.out HT.out hk16).1
      rw [HTk.out] at hc1
      have HC1 := hide hc1
      clear hc1
      have hk3 : (k : Int) < 16 := by omega
      have hz : Eb (w9.alloc (.cells Er.nil.head.toArray 41)) w9.heap.size Er.nil := Eb.new _ _
      have hba := freshE_below w9 r1.told
      have HY := hide (freshE_eb w9 r1.told)
      have HXa := hide (HX.out.keep (hba.block X HX.out.lt))
      have HNa := hide (HN9.out.below hba)
      have KBa := hide (KB9.out.trans (hba.mono KB9.out.size))
      have Q1a := hide ((hba.block NO (Array.getElem?_eq_some_iff.1 Q19.out).1).trans Q19.out)
      have Q2a := hide ((hba.block MW (Array.getElem?_eq_some_iff.1 Q29.out).1).trans Q29.out)
      clear hba HX
      go_upto_region 20 with (first
        | (refine loadT Try.underlying41 rfl r1.told.head (by rw [head_len]; exact infoE) rfl _ rfl ⟨MW, k * 21, none⟩ rfl HC1.out ?_)
        | (refine storeE r1.told ?nw3 _ _ rfl w9.heap.size Er.nil ?nx3 ?ny3 ?nz3 ?_; rotate_left 4; change wpList _ _ _ _ _ (freshE w9 r1.told); generalize freshE w9 r1.told = wa at *))
      try (case nw3 => rfl)
      try (case nx3 => rfl)
      try (case ny3 => rfl)
      try (case nz3 => exact hz)
      clear hz e2 HN9 KB9 Q19 Q29 HC1 hk3
      generalize w9.heap.size = Y at *
      have HOa := hide (show ∀ (i : Nat) (y : Value), o.cells[i]? = some y → wa.cell? ((⟨NO, 0, none⟩ : Addr).add i) = some y from fun i y hy => by rw [add_nat, cell_of_row _ _ _ _ _ _ Q1a.out]; simpa using hy)
      have HSt : Hid (Calls Try.prog 30 #[.agg o.cells.toArray, .agg r1.told.head.toArray, .agg r2.told.head.toArray] wa fun r w' => r = .returned (.bool true) ∧ Below wa.heap.size wa w') := hide (set_any wa o.kd o.t o.e o.n o.m o.q o.g o.pc o.on r1.told r2.told HSet.out)
      generalize r1.told = t1 at *
      generalize r2.told = t2 at *
      go_wp2_with (first
        | (refine loadT Try.underlying47 rfl o.cells hol rfl _ rfl ⟨NO, 0, none⟩ rfl HOa.out ?_)
        | (refine loadT Try.underlying41 rfl t1.head (by rw [head_len]; exact infoE) rfl _ rfl ⟨Y, 0, none⟩ rfl HY.out.hcell ?_)
        | (refine loadT Try.underlying41 rfl t2.head (by rw [head_len]; exact infoE) rfl _ rfl ⟨X, 0, none⟩ rfl HXa.out.hcell ?_))
      refine HSt.out.mono ?_
      rintro xb wb ⟨rfl, hbb⟩
      have HNb := hide (HNa.out.below hbb)
      have KBb := hide (KBa.out.trans (hbb.mono KBa.out.size))
      clear hbb HNa KBa
      go_wp2_with fail
      go_roundw
      case rel =>
        first
          | exact ⟨j + 1, by omega, by go_num, _, _, F2, HNb, KF4, KBb⟩
          | ((repeat apply Exists.intro); refine ⟨?_, rfl⟩; exact ⟨j + 1, by omega, by go_num, _, _, F2, HNb, KF4, KBb⟩)
      case measure => simp [intOf]; omega
  · obtain rfl : j = len := by omega
    have hd : decide ((j : Int) < (j : Int)) = false := by simp
    clear KN KF
    go_wp2
    go_ret
    exact ⟨by simp, KB.out⟩
end Go.Proofs.Ytoddadohmnaolaa
