import Derived.Deep.CutBlock
import Derived.Test.YtoddadohmnaolaaMF
import Derived.Test.YtoddadohmnaolaaMH
namespace Go.Proofs.Ytoddadohmnaolaa
open Go.ChangeShapes Go.WideShapes Go.ChangeAt Go.RowKit Go.Deep Go.Shelf Go.Great

theorem below_mf {F : Nat → Prop} {w0 w1 w2 : World} (h : Below w0.heap.size w0 w1) (hF : ∀ b, F b → w0.heap.size ≤ b) (hm : Mod F w1 w2) : Below w0.heap.size w0 w2 :=
  ⟨hm.os.trans h.os, hm.tape.trans h.tape, hm.output.trans h.output, Nat.le_trans h.size hm.size, fun b hb => (hm.block b (Nat.lt_of_lt_of_le hb h.size) (fun hf => by have := hF b hf; omega)).trans (h.block b hb)⟩
theorem nL_le {kd e n : Int} {q : Qt} {rs : List (Option Er)} {last M : Int} (h : last ≤ M) (hn : kd = 2 → n ≤ M) : nL kd e n q rs last ≤ M := by
  unfold nL
  split
  · rename_i hk
    unfold crL
    split
    · exact hn hk
    · exact h
  · exact h
theorem nL_ge {kd e n : Int} {q : Qt} {rs : List (Option Er)} {last : Int} : last ≤ nL kd e n q rs last := by
  unfold nL
  split
  · unfold crL
    split
    · rename_i h9
      obtain ⟨_, _, _, _, _, h8, _⟩ := crE_zero2 h9
      omega
    · exact Int.le_refl _
  · exact Int.le_refl _
theorem cr_again {rs : List (Option Er)} {last l3 e s s3 : Int} {q : Qt} (h : crE rs last e s q = 0) (h1 : l3 < s3) (h2 : s3 ≤ 4611686018427387903) : crE rs l3 e s3 q = 0 ∧ crN rs l3 e s3 q = ((ff rs : Nat) : Int) := by
  obtain ⟨k, r, rfl, hr, hg, _, _, hle, hf⟩ := crE_zero2 h
  have h9 : crE rs l3 (k : Int) s3 q = 0 := by
    unfold crE
    rw [look_at hr]
    simp only []
    rw [if_pos ⟨hg, h1, h2⟩, if_pos ⟨hle, hf⟩]
  exact ⟨h9, by unfold crN; rw [if_pos h9]⟩
theorem wrap_id {z : Int} (h1 : -9223372036854775808 ≤ z) (h2 : z ≤ 9223372036854775807) : IntKind.i64.wrap z = z := by
  simp only [IntKind.wrap, IntKind.signed, IntKind.bits]
  simp
  omega
set_option maxRecDepth 100000 in
set_option maxHeartbeats 12800000 in
theorem room_walk (a : Option Addr) (len cap : Nat) (O : Nat → Ov) (e : Int) (q r : Qt) (w : World) (hl : len ≤ maxLen) (hZ : IsOps w a len O) :
    Calls Try.prog 4 #[.slice a len cap, .int .i64 e, q.val, r.val] w fun x w' => x = .returned (.bool true) ∧ Below w.heap.size w w' := by
  have hb0 := ((Below.refl w.heap.size w).alloc (Nat.le_refl _) (.cells #[.int .i64 q.f, .int .i64 q.e, .int .i64 q.x] 39)).alloc (by simp) (.cells #[.int .i64 r.f, .int .i64 r.e, .int .i64 r.x] 39)
  have hq1 : ((w.alloc (.cells #[.int .i64 q.f, .int .i64 q.e, .int .i64 q.x] 39)).alloc (.cells #[.int .i64 r.f, .int .i64 r.e, .int .i64 r.x] 39)).heap[w.heap.size]? = some (.cells #[.int .i64 q.f, .int .i64 q.e, .int .i64 q.x] 39 (0, 0)) := by
    rw [Below.heap_alloc _ _ _ (by simp)]; exact heap_alloc_new w _
  have hq2 := heap_alloc_new (w.alloc (.cells #[.int .i64 q.f, .int .i64 q.e, .int .i64 q.x] 39)) (.cells #[.int .i64 r.f, .int .i64 r.e, .int .i64 r.x] 39)
  rw [World.size_alloc] at hq2
  have HQ0 := hide hq1
  have HR0 := hide hq2
  have HZ := hide (hZ.below hb0)
  have HB0 := hide hb0
  unfold maxLen at hl
  unfold Qt.val
  clear hZ hb0 hq1 hq2
  go_enter Try.func4, Try.ntmps4
  go_upto_region 1 with fail
  generalize (w.alloc (.cells #[.int .i64 q.f, .int .i64 q.e, .int .i64 q.x] 39)).alloc (.cells #[.int .i64 r.f, .int .i64 r.e, .int .i64 r.x] 39) = w0 at *
  have HF := hide (first_ns w0)
  go_wp2_with fail
  refine HF.out.mono ?_
  rintro x w1 ⟨T, B, rfl, hB, F, hN, hF, hb⟩
  have HN := hide hN
  have HFl := hide hF
  have HB := hide hb
  have HBl := hide hB
  clear hN hF hb hB HF
  go_upto_region 5 with fail
  go_loopw [11] (fun x wr => ∃ j : Nat, j ≤ len ∧ x = .int .i64 (j : Int) ∧ ∃ rs last F, Hid (Ns wr F T B rs last) ∧ Hid (∀ b, F b → w0.heap.size ≤ b) ∧ Hid (Below w0.heap.size w0 wr) ∧ Hid (last ≤ 4611686018427387898 ∧ 0 ≤ last)) (fun x _ => len - (intOf x).toNat)
  case atStart => exact ⟨0, by omega, rfl, rs3, 3, F, HN, HFl, HB, ⟨by decide, by decide⟩⟩
  case round =>
  clear HN HFl HB
  obtain ⟨j, hj, rfl, rs, last, F, KN, KF, KB, KL⟩ := hrel
  by_cases hlt : j < len
  · have hd : decide ((j : Int) < (len : Int)) = true := by simp; omega
    have hj3 : (j : Int) < (len : Int) := by omega
    obtain ⟨ad, rfl, hcl⟩ := HZ.out.below KB.out j hlt
    have HCl := hide hcl
    have c3 : wr.cell? ⟨(ad.add (j * 18)).block, (ad.add (j * 18)).off + 3, none⟩ = some (.int .i64 (O j).n) := by have h9 := hcl 3 _ rfl; simpa [Addr.add] using h9
    have c0 : wr.cell? (ad.add (j * 18)) = some (.int .i64 (O j).kd) := by have h9 := hcl 0 _ rfl; simpa [Addr.add] using h9
    have HNo : Hid (Calls Try.prog 16 #[.pointer (some ⟨B, 0, none⟩), .pointer (some ⟨T, 0, none⟩), .agg (O j).cells.toArray] wr fun x w' => x = .returned (.bool true) ∧ Nx wr F T B (nS (O j).kd (O j).e (O j).n (O j).m (O j).q (O j).g (O j).pc (O j).on rs last) (nL (O j).kd (O j).e (O j).n (O j).q rs last) w') := hide (noted_ex KN.out (O j).kd (O j).t (O j).e (O j).n (O j).m (O j).q (O j).g (O j).pc (O j).on)
    clear hcl
    generalize hoj : O j = o at *
    clear hoj
    by_cases hn : o.n < 4611686018427387899
    · have hnd : decide (o.n < 4611686018427387899) = true := by simp; omega
      go_wp2_with (refine loadOp o ?lw1 _ rfl (ad.add (j * 18)) ?lx1 HCl.out ?_; rotate_left 2)
      try (case lw1 => rfl)
      try (case lx1 => rfl)
      refine HNo.out.mono ?_
      rintro x2 w2 ⟨rfl, F', hN2, hX⟩
      obtain ⟨hm, hf⟩ := hX
      have HN2 := hide hN2
      have KF2 : Hid (∀ b, F' b → w0.heap.size ≤ b) := hide (fun b hb => by
        rcases hf b (.inr hb) with (e9 | e9) | e9
        · rw [e9]; exact HBl.out
        · exact KF.out b e9
        · exact Nat.le_trans KB.out.size e9)
      have KB2 : Hid (Below w0.heap.size w0 w2) := hide ⟨hm.os.trans KB.out.os, hm.tape.trans KB.out.tape, hm.output.trans KB.out.output, Nat.le_trans KB.out.size hm.size, fun b hb => (hm.block b (Nat.lt_of_lt_of_le hb KB.out.size) (fun e9 => by
        rcases e9 with e9 | e9
        · have := HBl.out; omega
        · have := KF.out b e9; omega)).trans (KB.out.block b hb)⟩
      have KL2 : Hid (nL o.kd o.e o.n o.q rs last ≤ 4611686018427387898 ∧ 0 ≤ nL o.kd o.e o.n o.q rs last) := hide ⟨nL_le KL.out.1 (fun _ => by omega), Int.le_trans KL.out.2 nL_ge⟩
      generalize nS o.kd o.e o.n o.m o.q o.g o.pc o.on rs last = rs' at *
      generalize nL o.kd o.e o.n o.q rs last = last' at *
      clear hN2 hm hf HNo HCl KN KF KB c0 c3
      go_wp2
      go_roundw
      case rel =>
        first
          | exact ⟨j + 1, by omega, by go_num, rs', last', F', HN2, KF2, KB2, KL2⟩
          | ((repeat apply Exists.intro); refine ⟨?_, rfl⟩; exact ⟨j + 1, by omega, by go_num, rs', last', F', HN2, KF2, KB2, KL2⟩)
      case measure => simp [intOf]; omega
    · have hnd : decide (o.n < 4611686018427387899) = false := by simp; omega
      by_cases hk : o.kd = 2
      · have hkb : (o.kd != 2) = false := by simp [hk]
        clear HNo HCl
        have HK := hide hk
        clear hk
        go_wp2
        go_roundw
        case rel =>
          first
            | exact ⟨j + 1, by omega, by go_num, rs, last, F, KN, KF, KB, KL⟩
            | ((repeat apply Exists.intro); refine ⟨?_, rfl⟩; exact ⟨j + 1, by omega, by go_num, rs, last, F, KN, KF, KB, KL⟩)
        case measure => simp [intOf]; omega
      · have hkb : (o.kd != 2) = true := by simp [hk]
        go_wp2_with (refine loadOp o ?lw2 _ rfl (ad.add (j * 18)) ?lx2 HCl.out ?_; rotate_left 2)
        try (case lw2 => rfl)
        try (case lx2 => rfl)
        refine HNo.out.mono ?_
        rintro x2 w2 ⟨rfl, F', hN2, hX⟩
        obtain ⟨hm, hf⟩ := hX
        have HN2 := hide hN2
        have KF2 : Hid (∀ b, F' b → w0.heap.size ≤ b) := hide (fun b hb => by
          rcases hf b (.inr hb) with (e9 | e9) | e9
          · rw [e9]; exact HBl.out
          · exact KF.out b e9
          · exact Nat.le_trans KB.out.size e9)
        have KB2 : Hid (Below w0.heap.size w0 w2) := hide ⟨hm.os.trans KB.out.os, hm.tape.trans KB.out.tape, hm.output.trans KB.out.output, Nat.le_trans KB.out.size hm.size, fun b hb => (hm.block b (Nat.lt_of_lt_of_le hb KB.out.size) (fun e9 => by
          rcases e9 with e9 | e9
          · have := HBl.out; omega
          · have := KF.out b e9; omega)).trans (KB.out.block b hb)⟩
        have KL2 : Hid (nL o.kd o.e o.n o.q rs last ≤ 4611686018427387898 ∧ 0 ≤ nL o.kd o.e o.n o.q rs last) := hide ⟨nL_le KL.out.1 (fun h9 => absurd h9 hk), Int.le_trans KL.out.2 nL_ge⟩
        generalize nS o.kd o.e o.n o.m o.q o.g o.pc o.on rs last = rs' at *
        generalize nL o.kd o.e o.n o.q rs last = last' at *
        clear hN2 hm hf HNo HCl KN KF KB c0 c3
        go_wp2
        go_roundw
        case rel =>
          first
            | exact ⟨j + 1, by omega, by go_num, rs', last', F', HN2, KF2, KB2, KL2⟩
            | ((repeat apply Exists.intro); refine ⟨?_, rfl⟩; exact ⟨j + 1, by omega, by go_num, rs', last', F', HN2, KF2, KB2, KL2⟩)
        case measure => simp [intOf]; omega
  · obtain rfl : j = len := by omega
    have hd : decide ((j : Int) < (j : Int)) = false := by simp
    have hN0 : w.heap.size + 1 < w0.heap.size := (Array.getElem?_eq_some_iff.1 HR0.out).1
    have HQ := hide ((KB.out.block _ (by omega)).trans HQ0.out)
    have HR := hide ((KB.out.block _ hN0).trans HR0.out)
    have HB8 : Hid (∀ W, Below w0.heap.size w0 W → Below w.heap.size w W) := hide (fun W h9 => HB0.out.trans (h9.mono HB0.out.size))
    clear HZ HQ0 HR0
    generalize hN1 : w.heap.size = N at *
    have HNw := hide hN1
    clear hN1
    have HTd := hide (told_any KN.out.et)
    go_wp2_with fail
    refine HTd.out.mono ?_
    rintro x2 w2 ⟨cs, rfl, hT, hb2⟩
    have HT := hide hT
    have hcl := hT.len
    have hi : (Try.prog.info? 52).map (·.size) = some cs.length := by rw [hT.len]; exact infoTold
    have hb3 := hb2.trans ((freshT_below w2 cs).mono hb2.size)
    have HN3 := hide (KN.out.below hb3)
    have HQ3 := hide ((hb3.block N (Array.getElem?_eq_some_iff.1 HQ.out).1).trans HQ.out)
    have HR3 := hide ((hb3.block (N + 1) (Array.getElem?_eq_some_iff.1 HR.out).1).trans HR.out)
    have HB3 := hide (KB.out.trans (hb3.mono KB.out.size))
    have HTb := hide (freshT_tb w2 hT.len)
    have HMF : Hid (¬ F w2.heap.size) := hide (fun h9 => by have := (KN.out.below hb2).et.lt _ h9; omega)
    have hle : 0 + cs.length ≤ zT.length := by rw [zT_tc.len, hcl]; omega
    clear hT hb2 hb3 HTd KN HQ HR KB
    go_upto_region 10 with (first
      | (refine allocTold rfl rfl ?_)
      | (refine storeT cs hi HT.out.one rfl _ _ rfl w2.heap.size 0 rfl rfl zT (heap_alloc_new w2 _) hle ?_; change wpList _ _ _ _ _ (freshT w2 cs); generalize freshT w2 cs = w3 at *))
    generalize w2.heap.size = M at *
    obtain ⟨w4, hw4⟩ : ∃ w4, w4 = w3.drew := ⟨_, rfl⟩
    have hb4 : Below w3.heap.size w3 w4 := by rw [hw4]; exact ⟨rfl, rfl, rfl, Nat.le_refl _, fun _ _ => rfl⟩
    have HN4 := hide (HN3.out.below hb4)
    have HQ4 := hide ((hb4.block N (Array.getElem?_eq_some_iff.1 HQ3.out).1).trans HQ3.out)
    have HR4 := hide ((hb4.block (N + 1) (Array.getElem?_eq_some_iff.1 HR3.out).1).trans HR3.out)
    have HB4 := hide (HB3.out.trans (hb4.mono HB3.out.size))
    have HM4 := hide (HTb.out.keep (hb4.block M HTb.out.lt))
    have HSt : Hid (∀ W, Bq W B rs last → W.heap[N]? = some (.cells #[.int .i64 q.f, .int .i64 q.e, .int .i64 q.x] 39 (0, 0)) → W.cell? ⟨B, 64, none⟩ = some (.int .i64 last) ∧ (W.cell? ⟨N, 0, none⟩ = some (.int .i64 q.f) ∧ W.cell? ⟨N, 1, none⟩ = some (.int .i64 q.e) ∧ W.cell? ⟨N, 2, none⟩ = some (.int .i64 q.x))) := hide (fun W h1 h2 => by
      obtain ⟨c0, c1, c2, _, _, _⟩ := blk3 h2
      exact ⟨h1.lastc.1, c0, c1, c2⟩)
    have HS4 := hide (HSt.out w4 HN4.out.bq HQ4.out)
    clear hb4 HN3 HQ3 HR3 HB3 HTb
    have HCr := hide (create_any HN4.out.et HN4.out.iv e (IntKind.i64.wrap (last + 1)) q)
    unfold Qt.val at HCr
    refine wp_region_held_drew (S := fun W => W.cell? ⟨B, 64, none⟩ = some (.int .i64 last) ∧ (W.cell? ⟨N, 0, none⟩ = some (.int .i64 q.f) ∧ W.cell? ⟨N, 1, none⟩ = some (.int .i64 q.e) ∧ W.cell? ⟨N, 2, none⟩ = some (.int .i64 q.x))) (by kernel_rfl) (by rw [← hw4]; exact HS4.out) (fun _ => ?_)
    rw [← hw4]
    clear hw4
    refine hd_take 0 (o := ⟨some 60, _, _, _, _, _⟩) (.pointer (some ⟨T, 0, none⟩)) (by kernel_rfl) (by kernel_rfl) (by kernel_rfl) rfl (by rfl) (fun W hSw => by go_simp) (fun _ _ _ h => h) HS4.out ?_
    try simp only [Act.put, List.setIfInBounds_toArray, List.set_cons_zero, List.set_cons_succ]
    refine hd_take 1 (o := ⟨some 61, _, _, _, _, _⟩) (.int .i64 e) (by kernel_rfl) (by kernel_rfl) (by kernel_rfl) rfl (by rfl) (fun W hSw => by go_simp) (fun _ _ _ h => h) HS4.out ?_
    try simp only [Act.put, List.setIfInBounds_toArray, List.set_cons_zero, List.set_cons_succ]
    refine hd_take 2 (o := ⟨some 62, _, _, _, _, _⟩) (.pointer (some ⟨B, 0, none⟩)) (by kernel_rfl) (by kernel_rfl) (by kernel_rfl) rfl (by rfl) (fun W hSw => by go_simp) (fun _ _ _ h => h) HS4.out ?_
    try simp only [Act.put, List.setIfInBounds_toArray, List.set_cons_zero, List.set_cons_succ]
    refine hd_take 3 (o := ⟨some 63, _, _, _, _, _⟩) (.pointer (some ⟨B, 0, none⟩)) (by kernel_rfl) (by kernel_rfl) (by kernel_rfl) rfl (by rfl) (fun W hSw => by go_simp) (fun _ _ _ h => h) HS4.out ?_
    try simp only [Act.put, List.setIfInBounds_toArray, List.set_cons_zero, List.set_cons_succ]
    refine hd_take 4 (o := ⟨some 64, _, _, _, _, _⟩) (.pointer (some ⟨B, 64, none⟩)) (by kernel_rfl) (by kernel_rfl) (by kernel_rfl) rfl (by rfl) (fun W hSw => by go_simp) (fun _ _ _ h => h) HS4.out ?_
    try simp only [Act.put, List.setIfInBounds_toArray, List.set_cons_zero, List.set_cons_succ]
    refine hd_take 5 (o := ⟨some 65, _, _, _, _, _⟩) (.int .i64 last) (by kernel_rfl) (by kernel_rfl) (by kernel_rfl) rfl (by rfl) (fun W hSw => by obtain ⟨s0, s1, s2, s3⟩ := hSw; go_simp) (fun _ _ _ h => h) HS4.out ?_
    try simp only [Act.put, List.setIfInBounds_toArray, List.set_cons_zero, List.set_cons_succ]
    refine hd_take 6 (o := ⟨some 66, _, _, _, _, _⟩) (.int .i64 (IntKind.i64.wrap (last + 1))) (by kernel_rfl) (by kernel_rfl) (by kernel_rfl) rfl (by rfl) (fun W hSw => by go_simp) (fun _ _ _ h => h) HS4.out ?_
    try simp only [Act.put, List.setIfInBounds_toArray, List.set_cons_zero, List.set_cons_succ]
    refine hd_take 7 (o := ⟨some 67, _, _, _, _, _⟩) (.agg #[.int .i64 q.f, .int .i64 q.e, .int .i64 q.x]) (by kernel_rfl) (by kernel_rfl) (by kernel_rfl) rfl (by rfl) (fun W hSw => by obtain ⟨s0, s1, s2, s3⟩ := hSw; go_simp) (fun _ _ _ h => h) HS4.out ?_
    try simp only [Act.put, List.setIfInBounds_toArray, List.set_cons_zero, List.set_cons_succ]
    refine hd_call 8 (o := ⟨some 68, _, _, _, _, _⟩) (by kernel_rfl) rfl (by rfl) (fun K hK => ?_)
    go_simp
    go_wp2_with (go_at_call 18; refine HCr.out.mono ?_; rintro e1 w5 ⟨rfl, F', hE5, hm5, hf5⟩)
    have HF5 : Hid (∀ b, F' b → w0.heap.size ≤ b) := hide (fun b hb => by
      rcases hf5 b hb with h9 | h9
      · exact KF.out b h9
      · exact Nat.le_trans HB4.out.size h9)
    have HMF5 : Hid (¬ F' M) := hide (fun hb => by
      rcases hf5 M hb with h9 | h9
      · exact HMF.out h9
      · have := HM4.out.lt; omega)
    have HBF5 : Hid (¬ F' B) := hide (fun hb => by
      rcases hf5 B hb with h9 | h9
      · exact HN4.out.ne h9
      · have := HN4.out.bq.lt; omega)
    have HQ5 := hide ((hm5.block N (Array.getElem?_eq_some_iff.1 HQ4.out).1 (fun h9 => by have := KF.out N h9; omega)).trans HQ4.out)
    have HR5 := hide ((hm5.block (N + 1) (Array.getElem?_eq_some_iff.1 HR4.out).1 (fun h9 => by have := KF.out (N + 1) h9; omega)).trans HR4.out)
    have HM5 := hide (HM4.out.keep (hm5.block M HM4.out.lt HMF.out))
    have HBq5 := hide (HN4.out.bq.keep (hm5.block B HN4.out.bq.lt HN4.out.ne))
    have HB5 := hide (below_mf HB4.out KF.out hm5)
    have HE5 := hide hE5
    have HIv := hide HN4.out.iv
    have HS5 := hide (HSt.out w5 HBq5.out HQ5.out)
    clear hE5 hm5 hf5 HN4 HQ4 HR4 HB4 HM4 HS4 HCr
    refine hK _ _ HS5.out ?_
    clear hK K
    try simp only [Act.put, List.setIfInBounds_toArray, List.set_cons_zero, List.set_cons_succ]
    rw [wrap_id (by have := KL.out.2; omega) (by have := KL.out.1; omega)] at HE5 ⊢
    generalize hce : crE rs last e (last + 1) q = ce at *
    generalize hcn : crN rs last e (last + 1) q = cn at *
    refine hd_take 9 (o := ⟨some 59, _, _, _, _, _⟩) (.tuple #[.int .i64 cn, .int .i64 ce]) (by kernel_rfl) (by kernel_rfl) (by kernel_rfl) rfl (by rfl) (fun W hSw => by go_simp) (fun _ _ _ h => h) HS5.out ?_
    try simp only [Act.put, List.setIfInBounds_toArray, List.set_cons_zero, List.set_cons_succ]
    refine hd_take 10 (o := ⟨some 69, _, _, _, _, _⟩) (.int .i64 cn) (by kernel_rfl) (by kernel_rfl) (by kernel_rfl) rfl (by rfl) (fun W hSw => by go_simp) (fun _ _ _ h => h) HS5.out ?_
    try simp only [Act.put, List.setIfInBounds_toArray, List.set_cons_zero, List.set_cons_succ]
    refine hd_take 11 (o := ⟨some 70, _, _, _, _, _⟩) (.int .i64 ce) (by kernel_rfl) (by kernel_rfl) (by kernel_rfl) rfl (by rfl) (fun W hSw => by go_simp) (fun _ _ _ h => h) HS5.out ?_
    try simp only [Act.put, List.setIfInBounds_toArray, List.set_cons_zero, List.set_cons_succ]
    refine hd_take 12 (o := ⟨some 13, _, _, _, _, _⟩) (.int .i64 cn) (by kernel_rfl) (by kernel_rfl) (by kernel_rfl) rfl (by rfl) (fun W hSw => by go_simp) (fun _ _ _ h => h) HS5.out ?_
    try simp only [Act.put, List.setIfInBounds_toArray, List.set_cons_zero, List.set_cons_succ]
    refine hd_take 13 (o := ⟨some 14, _, _, _, _, _⟩) (.int .i64 ce) (by kernel_rfl) (by kernel_rfl) (by kernel_rfl) rfl (by rfl) (fun W hSw => by go_simp) (fun _ _ _ h => h) HS5.out ?_
    try simp only [Act.put, List.setIfInBounds_toArray, List.set_cons_zero, List.set_cons_succ]
    refine wpAnyH_done (by kernel_rfl) ?_ _
    clear HS5 HSt
    go_upto_region 11 with fail
    by_cases hz : ce = 0
    · have hzb : (ce != 0) = false := by simp [hz]
      have hzc := hce
      rw [hz] at hzc
      have hcn2 : cn = ((ff rs : Nat) : Int) := by rw [← hcn]; unfold crN; rw [if_pos hzc]
      have hcl2 : crL rs last e (last + 1) q = last + 1 := by unfold crL; rw [if_pos hzc]
      have hI1 := HIv.out.crS e (last + 1) q
      rw [hcl2] at HE5 hI1
      obtain ⟨k, rp, he, hrp, hg, hls, hsm, hle2, hff⟩ := crE_zero2 hzc
      have hcs1 := crS_at hzc he hrp
      have hnf := ff_none HIv.out.tr hff
      have hn1 : (crS rs last e (last + 1) q)[ff rs]? = some (some (Er.new (last + 1) e q)) := by
        rw [hcs1, List.getElem?_set_ne (fun e9 => by rw [← e9, hrp] at hnf; cases hnf), List.getElem?_set_self (List.getElem?_eq_some_iff.1 hnf).1]
      have HZc := hide hzc
      have HI1 := hide hI1
      have Hn1 := hide hn1
      have Hcn := hide hcn2
      subst hz
      rw [hcn2]
      clear hzc hcn2 hcl2 hI1 hg hls hsm hle2 hff hcs1 hnf hn1 hce hcn hrp he
      generalize hrs1 : crS rs last e (last + 1) q = rs1 at *
      have HRs1 := hide hrs1
      clear hrs1
      generalize hnn : ff rs = n at *
      have HNn := hide hnn
      clear hnn
      have HI := hide (info_any _ F' T rs1 (last + 1) HE5.out n (Er.new (last + 1) e q) Hn1.out)
      go_wp2_with fail
      refine HI.out.mono ?_
      rintro x1 u1 ⟨rfl, hb1⟩
      obtain ⟨t, ht⟩ : ∃ t : Er, t = (Er.new (last + 1) e q).told := ⟨_, rfl⟩
      rw [← ht]
      have HTt := hide ht
      have hz2 : Eb (u1.alloc (.cells Er.nil.head.toArray 41)) u1.heap.size Er.nil := Eb.new _ _
      have HEb := hide (freshE_eb u1 t)
      have hb2 := hb1.trans ((freshE_below u1 t).mono hb1.size)
      have HE6 := hide (HE5.out.below hb2)
      have HQ6 := hide ((hb2.block N (Array.getElem?_eq_some_iff.1 HQ5.out).1).trans HQ5.out)
      have HR6 := hide ((hb2.block (N + 1) (Array.getElem?_eq_some_iff.1 HR5.out).1).trans HR5.out)
      have HM6 := hide (HM5.out.keep (hb2.block M HM5.out.lt))
      have HBq6 := hide (HBq5.out.keep (hb2.block B HBq5.out.lt))
      have HB6 := hide (HB5.out.trans (hb2.mono HB5.out.size))
      clear hb1 hb2 HI ht HE5 HQ5 HR5 HM5 HBq5 HB5
      go_upto_region 14 with (refine storeE t ?nw _ _ rfl u1.heap.size Er.nil ?nx ?ny ?nz ?_; rotate_left 4; change wpList _ _ _ _ _ (freshE u1 t); generalize freshE u1 t = u2 at *)
      try (case nw => rfl)
      try (case nx => rfl)
      try (case ny => rfl)
      try (case nz => exact hz2)
      clear hz2
      generalize u1.heap.size = M2 at *
      have g : ∀ (j : Nat) (v : Value), (Er.new (last + 1) e q).told.head[j]? = some v → u2.cell? ⟨M2, j, none⟩ = some v := fun j v hv => HEb.out.get (by rw [HTt.out]; exact hv)
      have g0 := g 0 _ rfl
      have g1 := g 1 _ rfl
      have g2 := g 2 _ rfl
      have g3 := g 3 _ rfl
      have g4 := g 4 _ rfl
      have g5 := g 5 _ rfl
      have g6 : u2.cell? ⟨M2, 6, none⟩ = some (.int .u32 0) := g 6 _ rfl
      have g7 : u2.cell? ⟨M2, 7, none⟩ = some (.int .u32 0) := g 7 _ rfl
      have g8 : u2.cell? ⟨M2, 8, none⟩ = some (.int .u32 0) := g 8 _ rfl
      have g9 : u2.cell? ⟨M2, 9, none⟩ = some (.int .u32 0) := g 9 _ rfl
      have g10 : u2.cell? ⟨M2, 10, none⟩ = some (.int .u32 0) := g 10 _ rfl
      have g11 : u2.cell? ⟨M2, 11, none⟩ = some (.int .u32 0) := g 11 _ rfl
      have g12 : u2.cell? ⟨M2, 12, none⟩ = some (.int .u32 0) := g 12 _ rfl
      have g13 : u2.cell? ⟨M2, 13, none⟩ = some (.int .u32 0) := g 13 _ rfl
      have g14 : u2.cell? ⟨M2, 14, none⟩ = some (.int .u32 0) := g 14 _ rfl
      have g15 := g 15 _ rfl
      have g16 := g 16 _ rfl
      have g17 := g 17 _ rfl
      have g18 := g 18 _ rfl
      have g19 := g 19 _ rfl
      have g20 := g 20 _ rfl
      simp only [Er.told, Er.new] at g0 g1 g2 g3 g4 g5 g15 g16 g17 g18 g19 g20
      obtain ⟨c0, c1, c2, _, _, _⟩ := blk3 HQ6.out
      obtain ⟨l64, _⟩ := HBq6.out.lastc
      obtain ⟨hlh, hll⟩ := KL.out
      have hw1 : IntKind.i64.wrap (last + 1) = last + 1 := wrap_id (by omega) (by omega)
      clear g
      refine wp_region_quiet_lit (by kernel_rfl) (by kernel_rfl) ?_
      repeat (go_big_quiet_step (fail))
      go_big_quiet_want
      refine ⟨.bool false, fun W _ => by unfold Oper.quietAt; rw [run_neqT #[.int .u32 0, .int .u32 0, .int .u32 0, .int .u32 0, .int .u32 0, .int .u32 0, .int .u32 0, .int .u32 0, .int .u32 0] (se_regs 9997 (fun _ => 0) 0) (by kernel_rfl) _ _ rfl rfl rfl]; exact ⟨rfl, rfl⟩, ?_⟩
      go_big_quiet_on
      simp only [Act.put, List.setIfInBounds_toArray, List.set_cons_zero, List.set_cons_succ]
      repeat (go_big_quiet_step (fail))
      refine wpQuiet_nil ?_
      intro _ hw'
      obtain ⟨nq, hw''⟩ := hw'
      subst hw''
      have bN : Below u2.heap.size u2 (u2.drewN nq) := ⟨rfl, rfl, rfl, Nat.le_refl _, fun _ _ => rfl⟩
      have HE7 := hide (HE6.out.below bN)
      have HQ7 := hide ((bN.block N (Array.getElem?_eq_some_iff.1 HQ6.out).1).trans HQ6.out)
      have HR7 := hide ((bN.block (N + 1) (Array.getElem?_eq_some_iff.1 HR6.out).1).trans HR6.out)
      have HM7 := hide (HM6.out.keep (bN.block M HM6.out.lt))
      have HBq7 := hide (HBq6.out.keep (bN.block B HBq6.out.lt))
      have HB7 := hide (HB6.out.trans (bN.mono HB6.out.size))
      clear bN g0 g1 g2 g3 g4 g5 g6 g7 g8 g9 g10 g11 g12 g13 g14 g15 g16 g17 g18 g19 g20 c0 c1 c2 l64 hw1 HEb HTt HE6 HQ6 HR6 HM6 HBq6 HB6 hlh hll
      generalize u2.drewN nq = u3 at *
      go_upto_region 16 with fail
      obtain ⟨w4', hw4⟩ : ∃ w4', w4' = u3.drew := ⟨_, rfl⟩
      have hb4 : Below u3.heap.size u3 w4' := by rw [hw4]; exact ⟨rfl, rfl, rfl, Nat.le_refl _, fun _ _ => rfl⟩
      have HE8 := hide (HE7.out.below hb4)
      have HQ8 := hide ((hb4.block N (Array.getElem?_eq_some_iff.1 HQ7.out).1).trans HQ7.out)
      have HR8 := hide ((hb4.block (N + 1) (Array.getElem?_eq_some_iff.1 HR7.out).1).trans HR7.out)
      have HM8 := hide (HM7.out.keep (hb4.block M HM7.out.lt))
      have HBq8 := hide (HBq7.out.keep (hb4.block B HBq7.out.lt))
      have HB8' := hide (HB7.out.trans (hb4.mono HB7.out.size))
      have HSt : Hid (∀ W, Bq W B rs last → W.heap[N + 1]? = some (.cells #[.int .i64 r.f, .int .i64 r.e, .int .i64 r.x] 39 (0, 0)) → W.cell? ⟨B, 64, none⟩ = some (.int .i64 last) ∧ (W.cell? ⟨N + 1, 0, none⟩ = some (.int .i64 r.f) ∧ W.cell? ⟨N + 1, 1, none⟩ = some (.int .i64 r.e) ∧ W.cell? ⟨N + 1, 2, none⟩ = some (.int .i64 r.x))) := hide (fun W h1 h2 => by
        obtain ⟨c0, c1, c2, _, _, _⟩ := blk3 h2
        exact ⟨h1.lastc.1, c0, c1, c2⟩)
      have HS4 := hide (HSt.out w4' HBq8.out HR8.out)
      clear hb4 HE7 HQ7 HR7 HM7 HBq7 HB7
      have HCr := hide (create_any HE8.out HI1.out (n : Int) (IntKind.i64.wrap (last + 2)) r)
      unfold Qt.val at HCr
      refine wp_region_held_drew (S := fun W => W.cell? ⟨B, 64, none⟩ = some (.int .i64 last) ∧ (W.cell? ⟨N + 1, 0, none⟩ = some (.int .i64 r.f) ∧ W.cell? ⟨N + 1, 1, none⟩ = some (.int .i64 r.e) ∧ W.cell? ⟨N + 1, 2, none⟩ = some (.int .i64 r.x))) (by kernel_rfl) (by rw [← hw4]; exact HS4.out) (fun _ => ?_)
      rw [← hw4]
      clear hw4
      refine hd_take 0 (o := ⟨some 143, _, _, _, _, _⟩) (.pointer (some ⟨T, 0, none⟩)) (by kernel_rfl) (by kernel_rfl) (by kernel_rfl) rfl (by rfl) (fun W hSw => by go_simp) (fun _ _ _ h => h) HS4.out ?_
      try simp only [Act.put, List.setIfInBounds_toArray, List.set_cons_zero, List.set_cons_succ]
      refine hd_take 1 (o := ⟨some 144, _, _, _, _, _⟩) (.int .i64 (n : Int)) (by kernel_rfl) (by kernel_rfl) (by kernel_rfl) rfl (by rfl) (fun W hSw => by go_simp) (fun _ _ _ h => h) HS4.out ?_
      try simp only [Act.put, List.setIfInBounds_toArray, List.set_cons_zero, List.set_cons_succ]
      refine hd_take 2 (o := ⟨some 145, _, _, _, _, _⟩) (.pointer (some ⟨B, 0, none⟩)) (by kernel_rfl) (by kernel_rfl) (by kernel_rfl) rfl (by rfl) (fun W hSw => by go_simp) (fun _ _ _ h => h) HS4.out ?_
      try simp only [Act.put, List.setIfInBounds_toArray, List.set_cons_zero, List.set_cons_succ]
      refine hd_take 3 (o := ⟨some 146, _, _, _, _, _⟩) (.pointer (some ⟨B, 0, none⟩)) (by kernel_rfl) (by kernel_rfl) (by kernel_rfl) rfl (by rfl) (fun W hSw => by go_simp) (fun _ _ _ h => h) HS4.out ?_
      try simp only [Act.put, List.setIfInBounds_toArray, List.set_cons_zero, List.set_cons_succ]
      refine hd_take 4 (o := ⟨some 147, _, _, _, _, _⟩) (.pointer (some ⟨B, 64, none⟩)) (by kernel_rfl) (by kernel_rfl) (by kernel_rfl) rfl (by rfl) (fun W hSw => by go_simp) (fun _ _ _ h => h) HS4.out ?_
      try simp only [Act.put, List.setIfInBounds_toArray, List.set_cons_zero, List.set_cons_succ]
      refine hd_take 5 (o := ⟨some 148, _, _, _, _, _⟩) (.int .i64 last) (by kernel_rfl) (by kernel_rfl) (by kernel_rfl) rfl (by rfl) (fun W hSw => by obtain ⟨s0, s1, s2, s3⟩ := hSw; go_simp) (fun _ _ _ h => h) HS4.out ?_
      try simp only [Act.put, List.setIfInBounds_toArray, List.set_cons_zero, List.set_cons_succ]
      refine hd_take 6 (o := ⟨some 149, _, _, _, _, _⟩) (.int .i64 (IntKind.i64.wrap (last + 2))) (by kernel_rfl) (by kernel_rfl) (by kernel_rfl) rfl (by rfl) (fun W hSw => by go_simp) (fun _ _ _ h => h) HS4.out ?_
      try simp only [Act.put, List.setIfInBounds_toArray, List.set_cons_zero, List.set_cons_succ]
      refine hd_take 7 (o := ⟨some 150, _, _, _, _, _⟩) (.agg #[.int .i64 r.f, .int .i64 r.e, .int .i64 r.x]) (by kernel_rfl) (by kernel_rfl) (by kernel_rfl) rfl (by rfl) (fun W hSw => by obtain ⟨s0, s1, s2, s3⟩ := hSw; go_simp) (fun _ _ _ h => h) HS4.out ?_
      try simp only [Act.put, List.setIfInBounds_toArray, List.set_cons_zero, List.set_cons_succ]
      refine hd_call 8 (o := ⟨some 151, _, _, _, _, _⟩) (by kernel_rfl) rfl (by rfl) (fun K hK => ?_)
      go_simp
      go_wp2_with (go_at_call 18; refine HCr.out.mono ?_; rintro e1 w9 ⟨rfl, F2, hE9, hm9, hf9⟩)
      have HF9 : Hid (∀ b, F2 b → w0.heap.size ≤ b) := hide (fun b hb => by
        rcases hf9 b hb with h9 | h9
        · exact HF5.out b h9
        · exact Nat.le_trans HB8'.out.size h9)
      have HMF9 : Hid (¬ F2 M) := hide (fun hb => by
        rcases hf9 M hb with h9 | h9
        · exact HMF5.out h9
        · have := HM8.out.lt; omega)
      have HBF9 : Hid (¬ F2 B) := hide (fun hb => by
        rcases hf9 B hb with h9 | h9
        · exact HBF5.out h9
        · have := HBq8.out.lt; omega)
      have HQ9 := hide ((hm9.block N (Array.getElem?_eq_some_iff.1 HQ8.out).1 (fun h9 => by have := HF5.out N h9; omega)).trans HQ8.out)
      have HR9 := hide ((hm9.block (N + 1) (Array.getElem?_eq_some_iff.1 HR8.out).1 (fun h9 => by have := HF5.out (N + 1) h9; omega)).trans HR8.out)
      have HM9 := hide (HM8.out.keep (hm9.block M HM8.out.lt HMF5.out))
      have HBq9 := hide (HBq8.out.keep (hm9.block B HBq8.out.lt HBF5.out))
      have HB9 := hide (below_mf HB8'.out HF5.out hm9)
      have HE9 := hide hE9
      have HI2 := hide (HI1.out.crS (n : Int) (IntKind.i64.wrap (last + 2)) r)
      have HS9 := hide (HSt.out w9 HBq9.out HR9.out)
      clear hE9 hm9 hf9 HE8 HQ8 HR8 HM8 HBq8 HB8' HS4 HCr
      refine hK _ _ HS9.out ?_
      clear hK K
      try simp only [Act.put, List.setIfInBounds_toArray, List.set_cons_zero, List.set_cons_succ]
      rw [wrap_id (by have := KL.out.2; omega) (by have := KL.out.1; omega)] at HE9 HI2 ⊢
      generalize hce2 : crE rs1 (last + 1) (n : Int) (last + 2) r = ce2 at *
      generalize hcn2 : crN rs1 (last + 1) (n : Int) (last + 2) r = cn2 at *
      refine hd_take 9 (o := ⟨some 142, _, _, _, _, _⟩) (.tuple #[.int .i64 cn2, .int .i64 ce2]) (by kernel_rfl) (by kernel_rfl) (by kernel_rfl) rfl (by rfl) (fun W hSw => by go_simp) (fun _ _ _ h => h) HS9.out ?_
      try simp only [Act.put, List.setIfInBounds_toArray, List.set_cons_zero, List.set_cons_succ]
      refine hd_take 10 (o := ⟨some 152, _, _, _, _, _⟩) (.int .i64 cn2) (by kernel_rfl) (by kernel_rfl) (by kernel_rfl) rfl (by rfl) (fun W hSw => by go_simp) (fun _ _ _ h => h) HS9.out ?_
      try simp only [Act.put, List.setIfInBounds_toArray, List.set_cons_zero, List.set_cons_succ]
      refine hd_take 11 (o := ⟨some 153, _, _, _, _, _⟩) (.int .i64 ce2) (by kernel_rfl) (by kernel_rfl) (by kernel_rfl) rfl (by rfl) (fun W hSw => by go_simp) (fun _ _ _ h => h) HS9.out ?_
      try simp only [Act.put, List.setIfInBounds_toArray, List.set_cons_zero, List.set_cons_succ]
      refine hd_take 12 (o := ⟨some 17, _, _, _, _, _⟩) (.int .i64 cn2) (by kernel_rfl) (by kernel_rfl) (by kernel_rfl) rfl (by rfl) (fun W hSw => by go_simp) (fun _ _ _ h => h) HS9.out ?_
      try simp only [Act.put, List.setIfInBounds_toArray, List.set_cons_zero, List.set_cons_succ]
      refine hd_take 13 (o := ⟨some 18, _, _, _, _, _⟩) (.int .i64 ce2) (by kernel_rfl) (by kernel_rfl) (by kernel_rfl) rfl (by rfl) (fun W hSw => by go_simp) (fun _ _ _ h => h) HS9.out ?_
      try simp only [Act.put, List.setIfInBounds_toArray, List.set_cons_zero, List.set_cons_succ]
      refine wpAnyH_done (by kernel_rfl) ?_ _
      clear HS9 HSt HR9
      go_upto_region 17 with fail
      have hl3 : crL rs1 (last + 1) (n : Int) (last + 2) r ≤ last + 2 := by unfold crL; split <;> omega
      have HL3 := hide hl3
      clear hl3
      by_cases hz2 : ce2 = 0
      · have hzb2 : (ce2 == 0) = true := by simp [hz2]
        obtain ⟨d1, d2, d3⟩ := cr_cr_ds HIv.out (e := e) (s := last + 1) (s2 := last + 2) (q := q) (q2 := r) HZc.out (by rw [HRs1.out, HNn.out]; rw [hz2] at hce2; exact hce2)
        rw [HRs1.out, HNn.out] at d1 d2 d3
        have hcm : cn2 = ((ff rs1 : Nat) : Int) := by rw [← hcn2]; unfold crN; rw [hce2, if_pos hz2]
        subst hcm
        generalize ff rs1 = m at *
        have hD := destroy_any HE9.out HI2.out (n : Int)
        rw [d1, d2, d3] at hD
        have hI3 := HI2.out.dsS (n : Int)
        rw [d3] at hI3
        have HD := hide hD
        have HI3 := hide hI3
        clear hD hI3 d1 d2 d3 hce2 hcn2 HE9 HI2 HI1
        generalize crL rs1 (last + 1) (n : Int) (last + 2) r = l3 at *
        go_wp2_with fail
        refine HD.out.mono ?_
        rintro x3 wa ⟨v, rfl, hEa, hv, hma⟩
        have HEa := hide hEa
        have HQa := hide ((hma.block N (Array.getElem?_eq_some_iff.1 HQ9.out).1 (fun h9 => by have := HF9.out N h9; omega)).trans HQ9.out)
        have HMa := hide (HM9.out.keep (hma.block M HM9.out.lt HMF9.out))
        have HBqa := hide (HBq9.out.keep (hma.block B HBq9.out.lt HBF9.out))
        have HBa := hide (below_mf HB9.out HF9.out hma)
        obtain ⟨gl, vc, rfl⟩ : ∃ gl vc, v = .slice (some ⟨gl, 0, none⟩) 2 vc := by
          obtain ⟨_, ⟨_, h0⟩ | ⟨g, cp, cur, h0, _⟩⟩ := hv
          · cases h0
          · exact ⟨g, cp, h0⟩
        have HLs : Hid (wa.cell? ⟨gl, 0, none⟩ = some (.int .i64 (n : Int)) ∧ wa.cell? ⟨gl, 1, none⟩ = some (.int .i64 (m : Int))) := hide (by
          have h9 := World.ownsRow.cells hv rfl
          exact ⟨by have := h9 0 _ rfl; rwa [add_nat] at this, by have := h9 1 _ rfl; rwa [add_nat] at this⟩)
        clear hEa hv hma HD HQ9 HM9 HBq9 HB9
        go_upto_region 21 with fail
        obtain ⟨wb, hwb⟩ : ∃ wb, wb = wa.drew := ⟨_, rfl⟩
        have hbb : Below wa.heap.size wa wb := by rw [hwb]; exact ⟨rfl, rfl, rfl, Nat.le_refl _, fun _ _ => rfl⟩
        have HEb := hide (HEa.out.below hbb)
        have HQb := hide ((hbb.block N (Array.getElem?_eq_some_iff.1 HQa.out).1).trans HQa.out)
        have HMb := hide (HMa.out.keep (hbb.block M HMa.out.lt))
        have HBqb := hide (HBqa.out.keep (hbb.block B HBqa.out.lt))
        have HBb := hide (HBa.out.trans (hbb.mono HBa.out.size))
        have HSl : Hid (∀ W, Below wa.heap.size wa W → (W.heap[M]? = some (.cells cs.toArray 52 (0, 0))) ∧ W.cell? ⟨gl, 0, none⟩ = some (.int .i64 (n : Int)) ∧ W.cell? ⟨gl, 1, none⟩ = some (.int .i64 (m : Int))) := hide (fun W h9 => ⟨(h9.block M HMa.out.lt).trans HMa.out.out, by rw [h9.cell (World.block_lt_of_cell? _ _ HLs.out.1)]; exact HLs.out.1, by rw [h9.cell (World.block_lt_of_cell? _ _ HLs.out.2)]; exact HLs.out.2⟩)
        have HSb := hide (HSl.out wb hbb)
        have Hbb := hide hbb
        have HTd := hide (told_any HEb.out)
        clear hbb HEa HQa HBqa HBa HLs
        refine wp_region_held_drew (S := fun W => (W.heap[M]? = some (.cells cs.toArray 52 (0, 0))) ∧ W.cell? ⟨gl, 0, none⟩ = some (.int .i64 (n : Int)) ∧ W.cell? ⟨gl, 1, none⟩ = some (.int .i64 (m : Int))) (by kernel_rfl) (by rw [← hwb]; exact HSb.out) (fun _ => ?_)
        rw [← hwb]
        clear hwb
        refine hd_take 0 (o := ⟨some 162, _, _, _, _, _⟩) (.int .i64 0) (by kernel_rfl) (by kernel_rfl) (by kernel_rfl) rfl (by rfl) (fun W hSw => by go_simp) (fun _ _ _ h => h) HSb.out ?_
        try simp only [Act.put, List.setIfInBounds_toArray, List.set_cons_zero, List.set_cons_succ]
        refine hd_take 1 (o := ⟨some 163, _, _, _, _, _⟩) (.bool false) (by kernel_rfl) (by kernel_rfl) (by kernel_rfl) rfl (by rfl) (fun W hSw => by go_simp) (fun _ _ _ h => h) HSb.out ?_
        try simp only [Act.put, List.setIfInBounds_toArray, List.set_cons_zero, List.set_cons_succ]
        refine hd_take 2 (o := ⟨some 164, _, _, _, _, _⟩) (.bool false) (by kernel_rfl) (by kernel_rfl) (by kernel_rfl) rfl (by rfl) (fun W hSw => by go_simp) (fun _ _ _ h => h) HSb.out ?_
        try simp only [Act.put, List.setIfInBounds_toArray, List.set_cons_zero, List.set_cons_succ]
        refine hd_take 3 (o := ⟨some 165, _, _, _, _, _⟩) (.slice (some ⟨gl, 0, none⟩) 2 vc) (by kernel_rfl) (by kernel_rfl) (by kernel_rfl) rfl (by rfl) (fun W hSw => by go_simp) (fun _ _ _ h => h) HSb.out ?_
        try simp only [Act.put, List.setIfInBounds_toArray, List.set_cons_zero, List.set_cons_succ]
        refine hd_take 4 (o := ⟨some 166, _, _, _, _, _⟩) (.int .i64 2) (by kernel_rfl) (by kernel_rfl) (by kernel_rfl) rfl (by rfl) (fun W hSw => by go_simp) (fun _ _ _ h => h) HSb.out ?_
        try simp only [Act.put, List.setIfInBounds_toArray, List.set_cons_zero, List.set_cons_succ]
        refine hd_take 5 (o := ⟨some 167, _, _, _, _, _⟩) (.int .i64 2) (by kernel_rfl) (by kernel_rfl) (by kernel_rfl) rfl (by rfl) (fun W hSw => by go_simp) (fun _ _ _ h => h) HSb.out ?_
        try simp only [Act.put, List.setIfInBounds_toArray, List.set_cons_zero, List.set_cons_succ]
        refine hd_take 6 (o := ⟨some 168, _, _, _, _, _⟩) (.bool false) (by kernel_rfl) (by kernel_rfl) (by kernel_rfl) rfl (by rfl) (fun W hSw => by go_simp) (fun _ _ _ h => h) HSb.out ?_
        try simp only [Act.put, List.setIfInBounds_toArray, List.set_cons_zero, List.set_cons_succ]
        refine hd_take 7 (o := ⟨some 169, _, _, _, _, _⟩) (.bool false) (by kernel_rfl) (by kernel_rfl) (by kernel_rfl) rfl (by rfl) (fun W hSw => by go_simp) (fun _ _ _ h => h) HSb.out ?_
        try simp only [Act.put, List.setIfInBounds_toArray, List.set_cons_zero, List.set_cons_succ]
        refine hd_take 8 (o := ⟨some 170, _, _, _, _, _⟩) (.bool false) (by kernel_rfl) (by kernel_rfl) (by kernel_rfl) rfl (by rfl) (fun W hSw => by go_simp) (fun _ _ _ h => h) HSb.out ?_
        try simp only [Act.put, List.setIfInBounds_toArray, List.set_cons_zero, List.set_cons_succ]
        refine hd_take 9 (o := ⟨some 171, _, _, _, _, _⟩) (.slice (some ⟨gl, 0, none⟩) 2 vc) (by kernel_rfl) (by kernel_rfl) (by kernel_rfl) rfl (by rfl) (fun W hSw => by go_simp) (fun _ _ _ h => h) HSb.out ?_
        try simp only [Act.put, List.setIfInBounds_toArray, List.set_cons_zero, List.set_cons_succ]
        refine hd_take 10 (o := ⟨some 172, _, _, _, _, _⟩) (.pointer (some ⟨gl, 0, none⟩)) (by kernel_rfl) (by kernel_rfl) (by kernel_rfl) rfl (by rfl) (fun W hSw => by go_simp) (fun _ _ _ h => h) HSb.out ?_
        try simp only [Act.put, List.setIfInBounds_toArray, List.set_cons_zero, List.set_cons_succ]
        refine hd_take 11 (o := ⟨some 173, _, _, _, _, _⟩) (.int .i64 (n : Int)) (by kernel_rfl) (by kernel_rfl) (by kernel_rfl) rfl (by rfl) (fun W hSw => by obtain ⟨t0, t1, t2⟩ := hSw; go_simp) (fun _ _ _ h => h) HSb.out ?_
        try simp only [Act.put, List.setIfInBounds_toArray, List.set_cons_zero, List.set_cons_succ]
        refine hd_take 12 (o := ⟨some 174, _, _, _, _, _⟩) (.int .i64 (n : Int)) (by kernel_rfl) (by kernel_rfl) (by kernel_rfl) rfl (by rfl) (fun W hSw => by go_simp) (fun _ _ _ h => h) HSb.out ?_
        try simp only [Act.put, List.setIfInBounds_toArray, List.set_cons_zero, List.set_cons_succ]
        refine hd_take 13 (o := ⟨some 175, _, _, _, _, _⟩) (.bool false) (by kernel_rfl) (by kernel_rfl) (by kernel_rfl) rfl (by rfl) (fun W hSw => by go_simp) (fun _ _ _ h => h) HSb.out ?_
        try simp only [Act.put, List.setIfInBounds_toArray, List.set_cons_zero, List.set_cons_succ]
        refine hd_take 14 (o := ⟨some 176, _, _, _, _, _⟩) (.bool false) (by kernel_rfl) (by kernel_rfl) (by kernel_rfl) rfl (by rfl) (fun W hSw => by go_simp) (fun _ _ _ h => h) HSb.out ?_
        try simp only [Act.put, List.setIfInBounds_toArray, List.set_cons_zero, List.set_cons_succ]
        refine hd_take 15 (o := ⟨some 177, _, _, _, _, _⟩) (.bool false) (by kernel_rfl) (by kernel_rfl) (by kernel_rfl) rfl (by rfl) (fun W hSw => by go_simp) (fun _ _ _ h => h) HSb.out ?_
        try simp only [Act.put, List.setIfInBounds_toArray, List.set_cons_zero, List.set_cons_succ]
        refine hd_take 16 (o := ⟨some 178, _, _, _, _, _⟩) (.int .i64 2) (by kernel_rfl) (by kernel_rfl) (by kernel_rfl) rfl (by rfl) (fun W hSw => by go_simp) (fun _ _ _ h => h) HSb.out ?_
        try simp only [Act.put, List.setIfInBounds_toArray, List.set_cons_zero, List.set_cons_succ]
        refine hd_take 17 (o := ⟨some 179, _, _, _, _, _⟩) (.bool true) (by kernel_rfl) (by kernel_rfl) (by kernel_rfl) rfl (by rfl) (fun W hSw => by go_simp) (fun _ _ _ h => h) HSb.out ?_
        try simp only [Act.put, List.setIfInBounds_toArray, List.set_cons_zero, List.set_cons_succ]
        refine hd_take 18 (o := ⟨some 180, _, _, _, _, _⟩) (.bool true) (by kernel_rfl) (by kernel_rfl) (by kernel_rfl) rfl (by rfl) (fun W hSw => by go_simp) (fun _ _ _ h => h) HSb.out ?_
        try simp only [Act.put, List.setIfInBounds_toArray, List.set_cons_zero, List.set_cons_succ]
        refine hd_take 19 (o := ⟨some 181, _, _, _, _, _⟩) (.slice (some ⟨gl, 0, none⟩) 2 vc) (by kernel_rfl) (by kernel_rfl) (by kernel_rfl) rfl (by rfl) (fun W hSw => by go_simp) (fun _ _ _ h => h) HSb.out ?_
        try simp only [Act.put, List.setIfInBounds_toArray, List.set_cons_zero, List.set_cons_succ]
        refine hd_take 20 (o := ⟨some 182, _, _, _, _, _⟩) (.pointer (some ⟨gl, 1, none⟩)) (by kernel_rfl) (by kernel_rfl) (by kernel_rfl) rfl (by rfl) (fun W hSw => by go_simp) (fun _ _ _ h => h) HSb.out ?_
        try simp only [Act.put, List.setIfInBounds_toArray, List.set_cons_zero, List.set_cons_succ]
        refine hd_take 21 (o := ⟨some 183, _, _, _, _, _⟩) (.int .i64 (m : Int)) (by kernel_rfl) (by kernel_rfl) (by kernel_rfl) rfl (by rfl) (fun W hSw => by obtain ⟨t0, t1, t2⟩ := hSw; go_simp) (fun _ _ _ h => h) HSb.out ?_
        try simp only [Act.put, List.setIfInBounds_toArray, List.set_cons_zero, List.set_cons_succ]
        refine hd_take 22 (o := ⟨some 184, _, _, _, _, _⟩) (.int .i64 (m : Int)) (by kernel_rfl) (by kernel_rfl) (by kernel_rfl) rfl (by rfl) (fun W hSw => by go_simp) (fun _ _ _ h => h) HSb.out ?_
        try simp only [Act.put, List.setIfInBounds_toArray, List.set_cons_zero, List.set_cons_succ]
        refine hd_take 23 (o := ⟨some 185, _, _, _, _, _⟩) (.bool false) (by kernel_rfl) (by kernel_rfl) (by kernel_rfl) rfl (by rfl) (fun W hSw => by go_simp) (fun _ _ _ h => h) HSb.out ?_
        try simp only [Act.put, List.setIfInBounds_toArray, List.set_cons_zero, List.set_cons_succ]
        refine hd_take 24 (o := ⟨some 186, _, _, _, _, _⟩) (.bool false) (by kernel_rfl) (by kernel_rfl) (by kernel_rfl) rfl (by rfl) (fun W hSw => by go_simp) (fun _ _ _ h => h) HSb.out ?_
        try simp only [Act.put, List.setIfInBounds_toArray, List.set_cons_zero, List.set_cons_succ]
        refine hd_take 25 (o := ⟨some 187, _, _, _, _, _⟩) (.bool false) (by kernel_rfl) (by kernel_rfl) (by kernel_rfl) rfl (by rfl) (fun W hSw => by go_simp) (fun _ _ _ h => h) HSb.out ?_
        try simp only [Act.put, List.setIfInBounds_toArray, List.set_cons_zero, List.set_cons_succ]
        refine hd_take 26 (o := ⟨some 188, _, _, _, _, _⟩) (.bool false) (by kernel_rfl) (by kernel_rfl) (by kernel_rfl) rfl (by rfl) (fun W hSw => by go_simp) (fun _ _ _ h => h) HSb.out ?_
        try simp only [Act.put, List.setIfInBounds_toArray, List.set_cons_zero, List.set_cons_succ]
        refine hd_take 27 (o := ⟨some 189, _, _, _, _, _⟩) (.pointer (some ⟨T, 0, none⟩)) (by kernel_rfl) (by kernel_rfl) (by kernel_rfl) rfl (by rfl) (fun W hSw => by go_simp) (fun _ _ _ h => h) HSb.out ?_
        try simp only [Act.put, List.setIfInBounds_toArray, List.set_cons_zero, List.set_cons_succ]
        refine hd_take 29 (o := ⟨some 191, _, _, _, _, _⟩) (.agg cs.toArray) (by kernel_rfl) (by kernel_rfl) (by kernel_rfl) rfl (by rfl) (fun W hSw => by exact run_loadT Try.underlying52 rfl cs hi _ rfl ⟨M, 0, none⟩ rfl (Tb.cell ⟨hSw.1⟩)) (fun _ _ _ h => h) HSb.out ?_
        try simp only [Act.put, List.setIfInBounds_toArray, List.set_cons_zero, List.set_cons_succ]
        refine hd_call 28 (o := ⟨some 190, _, _, _, _, _⟩) (by kernel_rfl) rfl (by rfl) (fun K hK => ?_)
        go_simp
        go_wp2_with (go_at_call 17; refine HTd.out.mono ?_; rintro e1 wc' ⟨cs2, rfl, hT2, hbc⟩)
        obtain rfl : cs2 = cs := hT2.ext HT.out (fun _ _ => rfl) (fun _ _ => rfl)
        have HEc := hide (HEb.out.below hbc)
        have HQc := hide ((hbc.block N (Array.getElem?_eq_some_iff.1 HQb.out).1).trans HQb.out)
        have HBqc := hide (HBqb.out.keep (hbc.block B HBqb.out.lt))
        have HBc := hide (HBb.out.trans (hbc.mono HBb.out.size))
        have HSc := hide (HSl.out wc' (Hbb.out.trans (hbc.mono Hbb.out.size)))
        clear hT2 hbc HEb HQb HMb HBqb HBb HSb Hbb HTd HSl
        refine hK _ _ HSc.out ?_
        clear hK K
        try simp only [Act.put, List.setIfInBounds_toArray, List.set_cons_zero, List.set_cons_succ]
        refine hd_take 30 (o := ⟨some 192, _, _, _, _, _⟩) (.bool false) (by kernel_rfl) (by kernel_rfl) (by kernel_rfl) rfl (by rfl) (fun W hSw => by exact run_neqT cs2.toArray (HT.out.se 9994) (by kernel_rfl) _ _ rfl rfl rfl) (fun _ _ _ h => h) HSc.out ?_
        try simp only [Act.put, List.setIfInBounds_toArray, List.set_cons_zero, List.set_cons_succ]
        refine hd_take 31 (o := ⟨some 193, _, _, _, _, _⟩) (.bool false) (by kernel_rfl) (by kernel_rfl) (by kernel_rfl) rfl (by rfl) (fun W hSw => by go_simp) (fun _ _ _ h => h) HSc.out ?_
        try simp only [Act.put, List.setIfInBounds_toArray, List.set_cons_zero, List.set_cons_succ]
        refine wpAnyH_done (by kernel_rfl) ?_ _
        clear HSc HMa
        go_upto_region 23 with fail
        obtain ⟨wd, hwd⟩ : ∃ wd, wd = wc'.drew := ⟨_, rfl⟩
        have hbd : Below wc'.heap.size wc' wd := by rw [hwd]; exact ⟨rfl, rfl, rfl, Nat.le_refl _, fun _ _ => rfl⟩
        have HEd := hide (HEc.out.below hbd)
        have HQd := hide ((hbd.block N (Array.getElem?_eq_some_iff.1 HQc.out).1).trans HQc.out)
        have HBqd := hide (HBqc.out.keep (hbd.block B HBqc.out.lt))
        have HBd := hide (HBc.out.trans (hbd.mono HBc.out.size))
        have HSt : Hid (∀ W, Bq W B rs last → W.heap[N]? = some (.cells #[.int .i64 q.f, .int .i64 q.e, .int .i64 q.x] 39 (0, 0)) → W.cell? ⟨B, 64, none⟩ = some (.int .i64 last) ∧ (W.cell? ⟨N, 0, none⟩ = some (.int .i64 q.f) ∧ W.cell? ⟨N, 1, none⟩ = some (.int .i64 q.e) ∧ W.cell? ⟨N, 2, none⟩ = some (.int .i64 q.x))) := hide (fun W h1 h2 => by
          obtain ⟨c0, c1, c2, _, _, _⟩ := blk3 h2
          exact ⟨h1.lastc.1, c0, c1, c2⟩)
        have HSd := hide (HSt.out wd HBqd.out HQd.out)
        have hC3 := create_any HEd.out HI3.out e (IntKind.i64.wrap (last + 3)) q
        obtain ⟨a1, a2⟩ := cr_again HZc.out (show l3 < last + 3 by have := HL3.out; omega) (show last + 3 ≤ 4611686018427387903 by have := KL.out.1; omega)
        have hw3 : IntKind.i64.wrap (last + 3) = last + 3 := wrap_id (by have := KL.out.2; omega) (by have := KL.out.1; omega)
        rw [hw3, a1, a2, HNn.out, ← hw3] at hC3
        unfold Qt.val at hC3
        have HC3 := hide hC3
        clear hbd HEc HQc HBqc HBc hC3 a1 a2 hw3
        refine wp_region_held_drew (S := fun W => W.cell? ⟨B, 64, none⟩ = some (.int .i64 last) ∧ (W.cell? ⟨N, 0, none⟩ = some (.int .i64 q.f) ∧ W.cell? ⟨N, 1, none⟩ = some (.int .i64 q.e) ∧ W.cell? ⟨N, 2, none⟩ = some (.int .i64 q.x))) (by kernel_rfl) (by rw [← hwd]; exact HSd.out) (fun _ => ?_)
        rw [← hwd]
        clear hwd
        refine hd_take 0 (o := ⟨some 195, _, _, _, _, _⟩) (.pointer (some ⟨T, 0, none⟩)) (by kernel_rfl) (by kernel_rfl) (by kernel_rfl) rfl (by rfl) (fun W hSw => by go_simp) (fun _ _ _ h => h) HSd.out ?_
        try simp only [Act.put, List.setIfInBounds_toArray, List.set_cons_zero, List.set_cons_succ]
        refine hd_take 1 (o := ⟨some 196, _, _, _, _, _⟩) (.int .i64 e) (by kernel_rfl) (by kernel_rfl) (by kernel_rfl) rfl (by rfl) (fun W hSw => by go_simp) (fun _ _ _ h => h) HSd.out ?_
        try simp only [Act.put, List.setIfInBounds_toArray, List.set_cons_zero, List.set_cons_succ]
        refine hd_take 2 (o := ⟨some 197, _, _, _, _, _⟩) (.pointer (some ⟨B, 0, none⟩)) (by kernel_rfl) (by kernel_rfl) (by kernel_rfl) rfl (by rfl) (fun W hSw => by go_simp) (fun _ _ _ h => h) HSd.out ?_
        try simp only [Act.put, List.setIfInBounds_toArray, List.set_cons_zero, List.set_cons_succ]
        refine hd_take 3 (o := ⟨some 198, _, _, _, _, _⟩) (.pointer (some ⟨B, 0, none⟩)) (by kernel_rfl) (by kernel_rfl) (by kernel_rfl) rfl (by rfl) (fun W hSw => by go_simp) (fun _ _ _ h => h) HSd.out ?_
        try simp only [Act.put, List.setIfInBounds_toArray, List.set_cons_zero, List.set_cons_succ]
        refine hd_take 4 (o := ⟨some 199, _, _, _, _, _⟩) (.pointer (some ⟨B, 64, none⟩)) (by kernel_rfl) (by kernel_rfl) (by kernel_rfl) rfl (by rfl) (fun W hSw => by go_simp) (fun _ _ _ h => h) HSd.out ?_
        try simp only [Act.put, List.setIfInBounds_toArray, List.set_cons_zero, List.set_cons_succ]
        refine hd_take 5 (o := ⟨some 200, _, _, _, _, _⟩) (.int .i64 last) (by kernel_rfl) (by kernel_rfl) (by kernel_rfl) rfl (by rfl) (fun W hSw => by obtain ⟨s0, s1, s2, s3⟩ := hSw; go_simp) (fun _ _ _ h => h) HSd.out ?_
        try simp only [Act.put, List.setIfInBounds_toArray, List.set_cons_zero, List.set_cons_succ]
        refine hd_take 6 (o := ⟨some 201, _, _, _, _, _⟩) (.int .i64 (IntKind.i64.wrap (last + 3))) (by kernel_rfl) (by kernel_rfl) (by kernel_rfl) rfl (by rfl) (fun W hSw => by go_simp) (fun _ _ _ h => h) HSd.out ?_
        try simp only [Act.put, List.setIfInBounds_toArray, List.set_cons_zero, List.set_cons_succ]
        refine hd_take 7 (o := ⟨some 202, _, _, _, _, _⟩) (.agg #[.int .i64 q.f, .int .i64 q.e, .int .i64 q.x]) (by kernel_rfl) (by kernel_rfl) (by kernel_rfl) rfl (by rfl) (fun W hSw => by obtain ⟨s0, s1, s2, s3⟩ := hSw; go_simp) (fun _ _ _ h => h) HSd.out ?_
        try simp only [Act.put, List.setIfInBounds_toArray, List.set_cons_zero, List.set_cons_succ]
        refine hd_call 8 (o := ⟨some 203, _, _, _, _, _⟩) (by kernel_rfl) rfl (by rfl) (fun K hK => ?_)
        go_simp
        go_wp2_with (go_at_call 18; refine HC3.out.mono ?_; rintro e1 we ⟨rfl, F3, hEe, hme, hfe⟩)
        have HQe := hide ((hme.block N (Array.getElem?_eq_some_iff.1 HQd.out).1 (fun h9 => by have := HF9.out N h9; omega)).trans HQd.out)
        have HBqe := hide (HBqd.out.keep (hme.block B HBqd.out.lt HBF9.out))
        have HBe := hide (HB8.out _ (below_mf HBd.out HF9.out hme))
        have HSe := hide (HSt.out we HBqe.out HQe.out)
        clear hEe hme hfe HEd HQd HBqd HBd HSd HC3
        refine hK _ _ HSe.out ?_
        clear hK K
        try simp only [Act.put, List.setIfInBounds_toArray, List.set_cons_zero, List.set_cons_succ]
        refine hd_take 9 (o := ⟨some 194, _, _, _, _, _⟩) (.tuple #[.int .i64 (n : Int), .int .i64 0]) (by kernel_rfl) (by kernel_rfl) (by kernel_rfl) rfl (by rfl) (fun W hSw => by go_simp) (fun _ _ _ h => h) HSe.out ?_
        try simp only [Act.put, List.setIfInBounds_toArray, List.set_cons_zero, List.set_cons_succ]
        refine hd_take 10 (o := ⟨some 204, _, _, _, _, _⟩) (.int .i64 (n : Int)) (by kernel_rfl) (by kernel_rfl) (by kernel_rfl) rfl (by rfl) (fun W hSw => by go_simp) (fun _ _ _ h => h) HSe.out ?_
        try simp only [Act.put, List.setIfInBounds_toArray, List.set_cons_zero, List.set_cons_succ]
        refine hd_take 11 (o := ⟨some 205, _, _, _, _, _⟩) (.int .i64 0) (by kernel_rfl) (by kernel_rfl) (by kernel_rfl) rfl (by rfl) (fun W hSw => by go_simp) (fun _ _ _ h => h) HSe.out ?_
        try simp only [Act.put, List.setIfInBounds_toArray, List.set_cons_zero, List.set_cons_succ]
        refine hd_take 12 (o := ⟨some 22, _, _, _, _, _⟩) (.int .i64 (n : Int)) (by kernel_rfl) (by kernel_rfl) (by kernel_rfl) rfl (by rfl) (fun W hSw => by go_simp) (fun _ _ _ h => h) HSe.out ?_
        try simp only [Act.put, List.setIfInBounds_toArray, List.set_cons_zero, List.set_cons_succ]
        refine hd_take 13 (o := ⟨some 23, _, _, _, _, _⟩) (.int .i64 0) (by kernel_rfl) (by kernel_rfl) (by kernel_rfl) rfl (by rfl) (fun W hSw => by go_simp) (fun _ _ _ h => h) HSe.out ?_
        try simp only [Act.put, List.setIfInBounds_toArray, List.set_cons_zero, List.set_cons_succ]
        refine wpAnyH_done (by kernel_rfl) ?_ _
        clear HSe HSt HQe HBqe
        go_wp2
        go_ret
        exact ⟨by simp, by have h9 := HBe.out; rw [← HNw.out] at h9; exact h9⟩
      · have hzb2 : (ce2 == 0) = false := by simp [hz2]
        obtain ⟨q1, q2, q3⟩ := crE_not (rs := rs1) (last := last + 1) (e := (n : Int)) (s := last + 2) (q := r) (by rw [hce2]; exact hz2)
        obtain ⟨d1, d2, d3⟩ := cr_ds HIv.out (e := e) (s := last + 1) (q := q) HZc.out
        rw [HRs1.out, HNn.out] at d1 d2 d3
        rw [← q3] at d1 d2 d3
        clear q1 q2 q3
        have hD := destroy_any HE9.out HI2.out (n : Int)
        rw [d1, d2, d3] at hD
        have hI3 := HI2.out.dsS (n : Int)
        rw [d3] at hI3
        have HD := hide hD
        have HI3 := hide hI3
        clear hD hI3 d1 d2 d3 hce2 hcn2 HE9 HI2 HI1
        generalize crL rs1 (last + 1) (n : Int) (last + 2) r = l3 at *
        go_wp2_with fail
        refine HD.out.mono ?_
        rintro x3 wa ⟨v, rfl, hEa, hv, hma⟩
        have HEa := hide hEa
        have HQa := hide ((hma.block N (Array.getElem?_eq_some_iff.1 HQ9.out).1 (fun h9 => by have := HF9.out N h9; omega)).trans HQ9.out)
        have HMa := hide (HM9.out.keep (hma.block M HM9.out.lt HMF9.out))
        have HBqa := hide (HBq9.out.keep (hma.block B HBq9.out.lt HBF9.out))
        have HBa := hide (below_mf HB9.out HF9.out hma)
        obtain ⟨gl, vc, rfl⟩ : ∃ gl vc, v = .slice (some ⟨gl, 0, none⟩) 1 vc := by
          obtain ⟨_, ⟨_, h0⟩ | ⟨g, cp, cur, h0, _⟩⟩ := hv
          · cases h0
          · exact ⟨g, cp, h0⟩
        have HLs : Hid (wa.cell? ⟨gl, 0, none⟩ = some (.int .i64 (n : Int))) := hide (by
          have h9 := World.ownsRow.cells hv rfl
          have := h9 0 _ rfl; rwa [add_nat] at this)
        clear hEa hv hma HD HQ9 HM9 HBq9 HB9
        go_upto_region 21 with fail
        obtain ⟨wb, hwb⟩ : ∃ wb, wb = wa.drew := ⟨_, rfl⟩
        have hbb : Below wa.heap.size wa wb := by rw [hwb]; exact ⟨rfl, rfl, rfl, Nat.le_refl _, fun _ _ => rfl⟩
        have HEb := hide (HEa.out.below hbb)
        have HQb := hide ((hbb.block N (Array.getElem?_eq_some_iff.1 HQa.out).1).trans HQa.out)
        have HMb := hide (HMa.out.keep (hbb.block M HMa.out.lt))
        have HBqb := hide (HBqa.out.keep (hbb.block B HBqa.out.lt))
        have HBb := hide (HBa.out.trans (hbb.mono HBa.out.size))
        have HSl : Hid (∀ W, Below wa.heap.size wa W → (W.heap[M]? = some (.cells cs.toArray 52 (0, 0))) ∧ W.cell? ⟨gl, 0, none⟩ = some (.int .i64 (n : Int))) := hide (fun W h9 => ⟨(h9.block M HMa.out.lt).trans HMa.out.out, by rw [h9.cell (World.block_lt_of_cell? _ _ HLs.out)]; exact HLs.out⟩)
        have HSb := hide (HSl.out wb hbb)
        have Hbb := hide hbb
        have HTd := hide (told_any HEb.out)
        clear hbb HEa HQa HBqa HBa HLs
        refine wp_region_held_drew (S := fun W => (W.heap[M]? = some (.cells cs.toArray 52 (0, 0))) ∧ W.cell? ⟨gl, 0, none⟩ = some (.int .i64 (n : Int))) (by kernel_rfl) (by rw [← hwb]; exact HSb.out) (fun _ => ?_)
        rw [← hwb]
        clear hwb
        refine hd_take 0 (o := ⟨some 162, _, _, _, _, _⟩) (.int .i64 0) (by kernel_rfl) (by kernel_rfl) (by kernel_rfl) rfl (by rfl) (fun W hSw => by go_simp) (fun _ _ _ h => h) HSb.out ?_
        try simp only [Act.put, List.setIfInBounds_toArray, List.set_cons_zero, List.set_cons_succ]
        refine hd_take 1 (o := ⟨some 163, _, _, _, _, _⟩) (.bool false) (by kernel_rfl) (by kernel_rfl) (by kernel_rfl) rfl (by rfl) (fun W hSw => by go_simp) (fun _ _ _ h => h) HSb.out ?_
        try simp only [Act.put, List.setIfInBounds_toArray, List.set_cons_zero, List.set_cons_succ]
        refine hd_take 2 (o := ⟨some 164, _, _, _, _, _⟩) (.bool false) (by kernel_rfl) (by kernel_rfl) (by kernel_rfl) rfl (by rfl) (fun W hSw => by go_simp) (fun _ _ _ h => h) HSb.out ?_
        try simp only [Act.put, List.setIfInBounds_toArray, List.set_cons_zero, List.set_cons_succ]
        refine hd_take 3 (o := ⟨some 165, _, _, _, _, _⟩) (.slice (some ⟨gl, 0, none⟩) 1 vc) (by kernel_rfl) (by kernel_rfl) (by kernel_rfl) rfl (by rfl) (fun W hSw => by go_simp) (fun _ _ _ h => h) HSb.out ?_
        try simp only [Act.put, List.setIfInBounds_toArray, List.set_cons_zero, List.set_cons_succ]
        refine hd_take 4 (o := ⟨some 166, _, _, _, _, _⟩) (.int .i64 1) (by kernel_rfl) (by kernel_rfl) (by kernel_rfl) rfl (by rfl) (fun W hSw => by go_simp) (fun _ _ _ h => h) HSb.out ?_
        try simp only [Act.put, List.setIfInBounds_toArray, List.set_cons_zero, List.set_cons_succ]
        refine hd_take 5 (o := ⟨some 167, _, _, _, _, _⟩) (.int .i64 1) (by kernel_rfl) (by kernel_rfl) (by kernel_rfl) rfl (by rfl) (fun W hSw => by go_simp) (fun _ _ _ h => h) HSb.out ?_
        try simp only [Act.put, List.setIfInBounds_toArray, List.set_cons_zero, List.set_cons_succ]
        refine hd_take 6 (o := ⟨some 168, _, _, _, _, _⟩) (.bool false) (by kernel_rfl) (by kernel_rfl) (by kernel_rfl) rfl (by rfl) (fun W hSw => by go_simp) (fun _ _ _ h => h) HSb.out ?_
        try simp only [Act.put, List.setIfInBounds_toArray, List.set_cons_zero, List.set_cons_succ]
        refine hd_take 7 (o := ⟨some 169, _, _, _, _, _⟩) (.bool false) (by kernel_rfl) (by kernel_rfl) (by kernel_rfl) rfl (by rfl) (fun W hSw => by go_simp) (fun _ _ _ h => h) HSb.out ?_
        try simp only [Act.put, List.setIfInBounds_toArray, List.set_cons_zero, List.set_cons_succ]
        refine hd_take 8 (o := ⟨some 170, _, _, _, _, _⟩) (.bool false) (by kernel_rfl) (by kernel_rfl) (by kernel_rfl) rfl (by rfl) (fun W hSw => by go_simp) (fun _ _ _ h => h) HSb.out ?_
        try simp only [Act.put, List.setIfInBounds_toArray, List.set_cons_zero, List.set_cons_succ]
        refine hd_take 9 (o := ⟨some 171, _, _, _, _, _⟩) (.slice (some ⟨gl, 0, none⟩) 1 vc) (by kernel_rfl) (by kernel_rfl) (by kernel_rfl) rfl (by rfl) (fun W hSw => by go_simp) (fun _ _ _ h => h) HSb.out ?_
        try simp only [Act.put, List.setIfInBounds_toArray, List.set_cons_zero, List.set_cons_succ]
        refine hd_take 10 (o := ⟨some 172, _, _, _, _, _⟩) (.pointer (some ⟨gl, 0, none⟩)) (by kernel_rfl) (by kernel_rfl) (by kernel_rfl) rfl (by rfl) (fun W hSw => by go_simp) (fun _ _ _ h => h) HSb.out ?_
        try simp only [Act.put, List.setIfInBounds_toArray, List.set_cons_zero, List.set_cons_succ]
        refine hd_take 11 (o := ⟨some 173, _, _, _, _, _⟩) (.int .i64 (n : Int)) (by kernel_rfl) (by kernel_rfl) (by kernel_rfl) rfl (by rfl) (fun W hSw => by obtain ⟨t0, t1⟩ := hSw; go_simp) (fun _ _ _ h => h) HSb.out ?_
        try simp only [Act.put, List.setIfInBounds_toArray, List.set_cons_zero, List.set_cons_succ]
        refine hd_take 12 (o := ⟨some 174, _, _, _, _, _⟩) (.int .i64 (n : Int)) (by kernel_rfl) (by kernel_rfl) (by kernel_rfl) rfl (by rfl) (fun W hSw => by go_simp) (fun _ _ _ h => h) HSb.out ?_
        try simp only [Act.put, List.setIfInBounds_toArray, List.set_cons_zero, List.set_cons_succ]
        refine hd_take 13 (o := ⟨some 175, _, _, _, _, _⟩) (.bool false) (by kernel_rfl) (by kernel_rfl) (by kernel_rfl) rfl (by rfl) (fun W hSw => by go_simp) (fun _ _ _ h => h) HSb.out ?_
        try simp only [Act.put, List.setIfInBounds_toArray, List.set_cons_zero, List.set_cons_succ]
        refine hd_take 14 (o := ⟨some 176, _, _, _, _, _⟩) (.bool false) (by kernel_rfl) (by kernel_rfl) (by kernel_rfl) rfl (by rfl) (fun W hSw => by go_simp) (fun _ _ _ h => h) HSb.out ?_
        try simp only [Act.put, List.setIfInBounds_toArray, List.set_cons_zero, List.set_cons_succ]
        refine hd_take 15 (o := ⟨some 177, _, _, _, _, _⟩) (.bool false) (by kernel_rfl) (by kernel_rfl) (by kernel_rfl) rfl (by rfl) (fun W hSw => by go_simp) (fun _ _ _ h => h) HSb.out ?_
        try simp only [Act.put, List.setIfInBounds_toArray, List.set_cons_zero, List.set_cons_succ]
        refine hd_take 16 (o := ⟨some 178, _, _, _, _, _⟩) (.int .i64 1) (by kernel_rfl) (by kernel_rfl) (by kernel_rfl) rfl (by rfl) (fun W hSw => by go_simp) (fun _ _ _ h => h) HSb.out ?_
        try simp only [Act.put, List.setIfInBounds_toArray, List.set_cons_zero, List.set_cons_succ]
        refine hd_take 17 (o := ⟨some 179, _, _, _, _, _⟩) (.bool false) (by kernel_rfl) (by kernel_rfl) (by kernel_rfl) rfl (by rfl) (fun W hSw => by go_simp) (fun _ _ _ h => h) HSb.out ?_
        try simp only [Act.put, List.setIfInBounds_toArray, List.set_cons_zero, List.set_cons_succ]
        refine hd_take 18 (o := ⟨some 180, _, _, _, _, _⟩) (.bool false) (by kernel_rfl) (by kernel_rfl) (by kernel_rfl) rfl (by rfl) (fun W hSw => by go_simp) (fun _ _ _ h => h) HSb.out ?_
        try simp only [Act.put, List.setIfInBounds_toArray, List.set_cons_zero, List.set_cons_succ]
        refine hd_skip 19 (o := ⟨some 181, _, _, _, _, _⟩) (by kernel_rfl) (by kernel_rfl) (by kernel_rfl) rfl (by rfl) (fun _ _ _ h => h) HSb.out ?_
        try simp only [Act.put, List.setIfInBounds_toArray, List.set_cons_zero, List.set_cons_succ]
        refine hd_skip 20 (o := ⟨some 182, _, _, _, _, _⟩) (by kernel_rfl) (by kernel_rfl) (by kernel_rfl) rfl (by rfl) (fun _ _ _ h => h) HSb.out ?_
        try simp only [Act.put, List.setIfInBounds_toArray, List.set_cons_zero, List.set_cons_succ]
        refine hd_skip 21 (o := ⟨some 183, _, _, _, _, _⟩) (by kernel_rfl) (by kernel_rfl) (by kernel_rfl) rfl (by rfl) (fun _ _ _ h => h) HSb.out ?_
        try simp only [Act.put, List.setIfInBounds_toArray, List.set_cons_zero, List.set_cons_succ]
        refine hd_skip 22 (o := ⟨some 184, _, _, _, _, _⟩) (by kernel_rfl) (by kernel_rfl) (by kernel_rfl) rfl (by rfl) (fun _ _ _ h => h) HSb.out ?_
        try simp only [Act.put, List.setIfInBounds_toArray, List.set_cons_zero, List.set_cons_succ]
        refine hd_skip 23 (o := ⟨some 185, _, _, _, _, _⟩) (by kernel_rfl) (by kernel_rfl) (by kernel_rfl) rfl (by rfl) (fun _ _ _ h => h) HSb.out ?_
        try simp only [Act.put, List.setIfInBounds_toArray, List.set_cons_zero, List.set_cons_succ]
        refine hd_take 24 (o := ⟨some 186, _, _, _, _, _⟩) (.bool false) (by kernel_rfl) (by kernel_rfl) (by kernel_rfl) rfl (by rfl) (fun W hSw => by go_simp) (fun _ _ _ h => h) HSb.out ?_
        try simp only [Act.put, List.setIfInBounds_toArray, List.set_cons_zero, List.set_cons_succ]
        refine hd_take 25 (o := ⟨some 187, _, _, _, _, _⟩) (.bool false) (by kernel_rfl) (by kernel_rfl) (by kernel_rfl) rfl (by rfl) (fun W hSw => by go_simp) (fun _ _ _ h => h) HSb.out ?_
        try simp only [Act.put, List.setIfInBounds_toArray, List.set_cons_zero, List.set_cons_succ]
        refine hd_take 26 (o := ⟨some 188, _, _, _, _, _⟩) (.bool false) (by kernel_rfl) (by kernel_rfl) (by kernel_rfl) rfl (by rfl) (fun W hSw => by go_simp) (fun _ _ _ h => h) HSb.out ?_
        try simp only [Act.put, List.setIfInBounds_toArray, List.set_cons_zero, List.set_cons_succ]
        refine hd_take 27 (o := ⟨some 189, _, _, _, _, _⟩) (.pointer (some ⟨T, 0, none⟩)) (by kernel_rfl) (by kernel_rfl) (by kernel_rfl) rfl (by rfl) (fun W hSw => by go_simp) (fun _ _ _ h => h) HSb.out ?_
        try simp only [Act.put, List.setIfInBounds_toArray, List.set_cons_zero, List.set_cons_succ]
        refine hd_take 29 (o := ⟨some 191, _, _, _, _, _⟩) (.agg cs.toArray) (by kernel_rfl) (by kernel_rfl) (by kernel_rfl) rfl (by rfl) (fun W hSw => by exact run_loadT Try.underlying52 rfl cs hi _ rfl ⟨M, 0, none⟩ rfl (Tb.cell ⟨hSw.1⟩)) (fun _ _ _ h => h) HSb.out ?_
        try simp only [Act.put, List.setIfInBounds_toArray, List.set_cons_zero, List.set_cons_succ]
        refine hd_call 28 (o := ⟨some 190, _, _, _, _, _⟩) (by kernel_rfl) rfl (by rfl) (fun K hK => ?_)
        go_simp
        go_wp2_with (go_at_call 17; refine HTd.out.mono ?_; rintro e1 wc' ⟨cs2, rfl, hT2, hbc⟩)
        obtain rfl : cs2 = cs := hT2.ext HT.out (fun _ _ => rfl) (fun _ _ => rfl)
        have HEc := hide (HEb.out.below hbc)
        have HQc := hide ((hbc.block N (Array.getElem?_eq_some_iff.1 HQb.out).1).trans HQb.out)
        have HBqc := hide (HBqb.out.keep (hbc.block B HBqb.out.lt))
        have HBc := hide (HBb.out.trans (hbc.mono HBb.out.size))
        have HSc := hide (HSl.out wc' (Hbb.out.trans (hbc.mono Hbb.out.size)))
        clear hT2 hbc HEb HQb HMb HBqb HBb HSb Hbb HTd HSl
        refine hK _ _ HSc.out ?_
        clear hK K
        try simp only [Act.put, List.setIfInBounds_toArray, List.set_cons_zero, List.set_cons_succ]
        refine hd_take 30 (o := ⟨some 192, _, _, _, _, _⟩) (.bool false) (by kernel_rfl) (by kernel_rfl) (by kernel_rfl) rfl (by rfl) (fun W hSw => by exact run_neqT cs2.toArray (HT.out.se 9994) (by kernel_rfl) _ _ rfl rfl rfl) (fun _ _ _ h => h) HSc.out ?_
        try simp only [Act.put, List.setIfInBounds_toArray, List.set_cons_zero, List.set_cons_succ]
        refine hd_take 31 (o := ⟨some 193, _, _, _, _, _⟩) (.bool false) (by kernel_rfl) (by kernel_rfl) (by kernel_rfl) rfl (by rfl) (fun W hSw => by go_simp) (fun _ _ _ h => h) HSc.out ?_
        try simp only [Act.put, List.setIfInBounds_toArray, List.set_cons_zero, List.set_cons_succ]
        refine wpAnyH_done (by kernel_rfl) ?_ _
        clear HSc HMa
        go_upto_region 23 with fail
        obtain ⟨wd, hwd⟩ : ∃ wd, wd = wc'.drew := ⟨_, rfl⟩
        have hbd : Below wc'.heap.size wc' wd := by rw [hwd]; exact ⟨rfl, rfl, rfl, Nat.le_refl _, fun _ _ => rfl⟩
        have HEd := hide (HEc.out.below hbd)
        have HQd := hide ((hbd.block N (Array.getElem?_eq_some_iff.1 HQc.out).1).trans HQc.out)
        have HBqd := hide (HBqc.out.keep (hbd.block B HBqc.out.lt))
        have HBd := hide (HBc.out.trans (hbd.mono HBc.out.size))
        have HSt : Hid (∀ W, Bq W B rs last → W.heap[N]? = some (.cells #[.int .i64 q.f, .int .i64 q.e, .int .i64 q.x] 39 (0, 0)) → W.cell? ⟨B, 64, none⟩ = some (.int .i64 last) ∧ (W.cell? ⟨N, 0, none⟩ = some (.int .i64 q.f) ∧ W.cell? ⟨N, 1, none⟩ = some (.int .i64 q.e) ∧ W.cell? ⟨N, 2, none⟩ = some (.int .i64 q.x))) := hide (fun W h1 h2 => by
          obtain ⟨c0, c1, c2, _, _, _⟩ := blk3 h2
          exact ⟨h1.lastc.1, c0, c1, c2⟩)
        have HSd := hide (HSt.out wd HBqd.out HQd.out)
        have hC3 := create_any HEd.out HI3.out e (IntKind.i64.wrap (last + 3)) q
        obtain ⟨a1, a2⟩ := cr_again HZc.out (show l3 < last + 3 by have := HL3.out; omega) (show last + 3 ≤ 4611686018427387903 by have := KL.out.1; omega)
        have hw3 : IntKind.i64.wrap (last + 3) = last + 3 := wrap_id (by have := KL.out.2; omega) (by have := KL.out.1; omega)
        rw [hw3, a1, a2, HNn.out, ← hw3] at hC3
        unfold Qt.val at hC3
        have HC3 := hide hC3
        clear hbd HEc HQc HBqc HBc hC3 a1 a2 hw3
        refine wp_region_held_drew (S := fun W => W.cell? ⟨B, 64, none⟩ = some (.int .i64 last) ∧ (W.cell? ⟨N, 0, none⟩ = some (.int .i64 q.f) ∧ W.cell? ⟨N, 1, none⟩ = some (.int .i64 q.e) ∧ W.cell? ⟨N, 2, none⟩ = some (.int .i64 q.x))) (by kernel_rfl) (by rw [← hwd]; exact HSd.out) (fun _ => ?_)
        rw [← hwd]
        clear hwd
        refine hd_take 0 (o := ⟨some 195, _, _, _, _, _⟩) (.pointer (some ⟨T, 0, none⟩)) (by kernel_rfl) (by kernel_rfl) (by kernel_rfl) rfl (by rfl) (fun W hSw => by go_simp) (fun _ _ _ h => h) HSd.out ?_
        try simp only [Act.put, List.setIfInBounds_toArray, List.set_cons_zero, List.set_cons_succ]
        refine hd_take 1 (o := ⟨some 196, _, _, _, _, _⟩) (.int .i64 e) (by kernel_rfl) (by kernel_rfl) (by kernel_rfl) rfl (by rfl) (fun W hSw => by go_simp) (fun _ _ _ h => h) HSd.out ?_
        try simp only [Act.put, List.setIfInBounds_toArray, List.set_cons_zero, List.set_cons_succ]
        refine hd_take 2 (o := ⟨some 197, _, _, _, _, _⟩) (.pointer (some ⟨B, 0, none⟩)) (by kernel_rfl) (by kernel_rfl) (by kernel_rfl) rfl (by rfl) (fun W hSw => by go_simp) (fun _ _ _ h => h) HSd.out ?_
        try simp only [Act.put, List.setIfInBounds_toArray, List.set_cons_zero, List.set_cons_succ]
        refine hd_take 3 (o := ⟨some 198, _, _, _, _, _⟩) (.pointer (some ⟨B, 0, none⟩)) (by kernel_rfl) (by kernel_rfl) (by kernel_rfl) rfl (by rfl) (fun W hSw => by go_simp) (fun _ _ _ h => h) HSd.out ?_
        try simp only [Act.put, List.setIfInBounds_toArray, List.set_cons_zero, List.set_cons_succ]
        refine hd_take 4 (o := ⟨some 199, _, _, _, _, _⟩) (.pointer (some ⟨B, 64, none⟩)) (by kernel_rfl) (by kernel_rfl) (by kernel_rfl) rfl (by rfl) (fun W hSw => by go_simp) (fun _ _ _ h => h) HSd.out ?_
        try simp only [Act.put, List.setIfInBounds_toArray, List.set_cons_zero, List.set_cons_succ]
        refine hd_take 5 (o := ⟨some 200, _, _, _, _, _⟩) (.int .i64 last) (by kernel_rfl) (by kernel_rfl) (by kernel_rfl) rfl (by rfl) (fun W hSw => by obtain ⟨s0, s1, s2, s3⟩ := hSw; go_simp) (fun _ _ _ h => h) HSd.out ?_
        try simp only [Act.put, List.setIfInBounds_toArray, List.set_cons_zero, List.set_cons_succ]
        refine hd_take 6 (o := ⟨some 201, _, _, _, _, _⟩) (.int .i64 (IntKind.i64.wrap (last + 3))) (by kernel_rfl) (by kernel_rfl) (by kernel_rfl) rfl (by rfl) (fun W hSw => by go_simp) (fun _ _ _ h => h) HSd.out ?_
        try simp only [Act.put, List.setIfInBounds_toArray, List.set_cons_zero, List.set_cons_succ]
        refine hd_take 7 (o := ⟨some 202, _, _, _, _, _⟩) (.agg #[.int .i64 q.f, .int .i64 q.e, .int .i64 q.x]) (by kernel_rfl) (by kernel_rfl) (by kernel_rfl) rfl (by rfl) (fun W hSw => by obtain ⟨s0, s1, s2, s3⟩ := hSw; go_simp) (fun _ _ _ h => h) HSd.out ?_
        try simp only [Act.put, List.setIfInBounds_toArray, List.set_cons_zero, List.set_cons_succ]
        refine hd_call 8 (o := ⟨some 203, _, _, _, _, _⟩) (by kernel_rfl) rfl (by rfl) (fun K hK => ?_)
        go_simp
        go_wp2_with (go_at_call 18; refine HC3.out.mono ?_; rintro e1 we ⟨rfl, F3, hEe, hme, hfe⟩)
        have HQe := hide ((hme.block N (Array.getElem?_eq_some_iff.1 HQd.out).1 (fun h9 => by have := HF9.out N h9; omega)).trans HQd.out)
        have HBqe := hide (HBqd.out.keep (hme.block B HBqd.out.lt HBF9.out))
        have HBe := hide (HB8.out _ (below_mf HBd.out HF9.out hme))
        have HSe := hide (HSt.out we HBqe.out HQe.out)
        clear hEe hme hfe HEd HQd HBqd HBd HSd HC3
        refine hK _ _ HSe.out ?_
        clear hK K
        try simp only [Act.put, List.setIfInBounds_toArray, List.set_cons_zero, List.set_cons_succ]
        refine hd_take 9 (o := ⟨some 194, _, _, _, _, _⟩) (.tuple #[.int .i64 (n : Int), .int .i64 0]) (by kernel_rfl) (by kernel_rfl) (by kernel_rfl) rfl (by rfl) (fun W hSw => by go_simp) (fun _ _ _ h => h) HSe.out ?_
        try simp only [Act.put, List.setIfInBounds_toArray, List.set_cons_zero, List.set_cons_succ]
        refine hd_take 10 (o := ⟨some 204, _, _, _, _, _⟩) (.int .i64 (n : Int)) (by kernel_rfl) (by kernel_rfl) (by kernel_rfl) rfl (by rfl) (fun W hSw => by go_simp) (fun _ _ _ h => h) HSe.out ?_
        try simp only [Act.put, List.setIfInBounds_toArray, List.set_cons_zero, List.set_cons_succ]
        refine hd_take 11 (o := ⟨some 205, _, _, _, _, _⟩) (.int .i64 0) (by kernel_rfl) (by kernel_rfl) (by kernel_rfl) rfl (by rfl) (fun W hSw => by go_simp) (fun _ _ _ h => h) HSe.out ?_
        try simp only [Act.put, List.setIfInBounds_toArray, List.set_cons_zero, List.set_cons_succ]
        refine hd_take 12 (o := ⟨some 22, _, _, _, _, _⟩) (.int .i64 (n : Int)) (by kernel_rfl) (by kernel_rfl) (by kernel_rfl) rfl (by rfl) (fun W hSw => by go_simp) (fun _ _ _ h => h) HSe.out ?_
        try simp only [Act.put, List.setIfInBounds_toArray, List.set_cons_zero, List.set_cons_succ]
        refine hd_take 13 (o := ⟨some 23, _, _, _, _, _⟩) (.int .i64 0) (by kernel_rfl) (by kernel_rfl) (by kernel_rfl) rfl (by rfl) (fun W hSw => by go_simp) (fun _ _ _ h => h) HSe.out ?_
        try simp only [Act.put, List.setIfInBounds_toArray, List.set_cons_zero, List.set_cons_succ]
        refine wpAnyH_done (by kernel_rfl) ?_ _
        clear HSe HSt HQe HBqe
        go_wp2
        go_ret
        exact ⟨by simp, by have h9 := HBe.out; rw [← HNw.out] at h9; exact h9⟩
    · have hzb : (ce != 0) = true := by simp [hz]
      obtain ⟨q1, q2, q3⟩ := crE_not (rs := rs) (last := last) (e := e) (s := last + 1) (q := q) (by rw [hce]; exact hz)
      rw [q2, q3] at HE5
      obtain rfl : cn = -1 := by rw [← hcn]; exact q1
      clear q1 q2 q3 hce hcn HIv HQ5 HR5 HBq5
      go_upto_region 12 with fail
      obtain ⟨w6, hw6⟩ : ∃ w6, w6 = w5.drew := ⟨_, rfl⟩
      have hb6 : Below w5.heap.size w5 w6 := by rw [hw6]; exact ⟨rfl, rfl, rfl, Nat.le_refl _, fun _ _ => rfl⟩
      have HE6 := hide (HE5.out.below hb6)
      have HM6 := hide (HM5.out.keep (hb6.block M HM5.out.lt)).out
      have HB6 := hide (HB5.out.trans (hb6.mono HB5.out.size))
      clear hb6 HE5 HM5 HB5
      have HTd := hide (told_any HE6.out)
      refine wp_region_held_drew (S := fun W => W.heap[M]? = some (.cells cs.toArray 52 (0, 0))) (by kernel_rfl) (by rw [← hw6]; exact HM6.out) (fun _ => ?_)
      rw [← hw6]
      clear hw6
      refine hd_take 0 (o := ⟨some 73, _, _, _, _, _⟩) (.pointer (some ⟨T, 0, none⟩)) (by kernel_rfl) (by kernel_rfl) (by kernel_rfl) rfl (by rfl) (fun W hSw => by go_simp) (fun _ _ _ h => h) HM6.out ?_
      try simp only [Act.put, List.setIfInBounds_toArray, List.set_cons_zero, List.set_cons_succ]
      refine hd_take 2 (o := ⟨some 75, _, _, _, _, _⟩) (.agg cs.toArray) (by kernel_rfl) (by kernel_rfl) (by kernel_rfl) rfl (by rfl) (fun W hSw => by exact run_loadT Try.underlying52 rfl cs hi _ rfl ⟨M, 0, none⟩ rfl (Tb.cell ⟨hSw⟩)) (fun _ _ _ h => h) HM6.out ?_
      try simp only [Act.put, List.setIfInBounds_toArray, List.set_cons_zero, List.set_cons_succ]
      refine hd_call 1 (o := ⟨some 74, _, _, _, _, _⟩) (by kernel_rfl) rfl (by rfl) (fun K hK => ?_)
      go_simp
      go_wp2_with (go_at_call 17; refine HTd.out.mono ?_; rintro e1 w7 ⟨cs2, rfl, hT2, hb7⟩)
      obtain rfl : cs2 = cs := hT2.ext HT.out (fun _ _ => rfl) (fun _ _ => rfl)
      have HM7 := hide ((hb7.block M (Array.getElem?_eq_some_iff.1 HM6.out).1).trans HM6.out)
      have HB7 := hide (HB8.out _ (HB6.out.trans (hb7.mono HB6.out.size)))
      clear hT2 hb7 HM6 HB6 HTd
      refine hK _ _ HM7.out ?_
      clear hK K
      try simp only [Act.put, List.setIfInBounds_toArray, List.set_cons_zero, List.set_cons_succ]
      refine hd_take 3 (o := ⟨some 76, _, _, _, _, _⟩) (.bool true) (by kernel_rfl) (by kernel_rfl) (by kernel_rfl) rfl (by rfl) (fun W hSw => by exact run_eqlT cs2.toArray (HT.out.se 9994) (by kernel_rfl) _ _ rfl rfl rfl) (fun _ _ _ h => h) HM7.out ?_
      try simp only [Act.put, List.setIfInBounds_toArray, List.set_cons_zero, List.set_cons_succ]
      refine hd_take 4 (o := ⟨some 77, _, _, _, _, _⟩) (.bool true) (by kernel_rfl) (by kernel_rfl) (by kernel_rfl) rfl (by rfl) (fun W hSw => by go_simp) (fun _ _ _ h => h) HM7.out ?_
      try simp only [Act.put, List.setIfInBounds_toArray, List.set_cons_zero, List.set_cons_succ]
      refine hd_take 5 (o := ⟨some 78, _, _, _, _, _⟩) (.int .i64 (-1)) (by kernel_rfl) (by kernel_rfl) (by kernel_rfl) rfl (by rfl) (fun W hSw => by go_simp) (fun _ _ _ h => h) HM7.out ?_
      try simp only [Act.put, List.setIfInBounds_toArray, List.set_cons_zero, List.set_cons_succ]
      refine hd_take 6 (o := ⟨some 79, _, _, _, _, _⟩) (.bool true) (by kernel_rfl) (by kernel_rfl) (by kernel_rfl) rfl (by rfl) (fun W hSw => by go_simp) (fun _ _ _ h => h) HM7.out ?_
      try simp only [Act.put, List.setIfInBounds_toArray, List.set_cons_zero, List.set_cons_succ]
      refine hd_take 7 (o := ⟨some 80, _, _, _, _, _⟩) (.bool true) (by kernel_rfl) (by kernel_rfl) (by kernel_rfl) rfl (by rfl) (fun W hSw => by go_simp) (fun _ _ _ h => h) HM7.out ?_
      try simp only [Act.put, List.setIfInBounds_toArray, List.set_cons_zero, List.set_cons_succ]
      refine hd_take 8 (o := ⟨some 8, _, _, _, _, _⟩) (.bool true) (by kernel_rfl) (by kernel_rfl) (by kernel_rfl) rfl (by rfl) (fun W hSw => by go_simp) (fun _ _ _ h => h) HM7.out ?_
      try simp only [Act.put, List.setIfInBounds_toArray, List.set_cons_zero, List.set_cons_succ]
      refine wpAnyH_done (by kernel_rfl) ?_ _
      go_wp2
      go_ret
      exact ⟨rfl, by have h9 := HB7.out; rw [← HNw.out] at h9; exact h9⟩
end Go.Proofs.Ytoddadohmnaolaa
