import Derived.Deep.CutBlock
import Derived.Test.YtoddadohmnaolaaMF
import Derived.Test.YtoddadohmnaolaaMH
namespace Go.Proofs.Ytoddadohmnaolaa
open Go.ChangeShapes Go.WideShapes Go.ChangeAt Go.RowKit Go.Deep Go.Shelf

/-- may each part be? -/
def goodB (q : Qt) : Bool := decide ((0 ≤ q.f ∧ 0 ≤ q.e ∧ 0 ≤ q.x) ∧ q.f ≤ 4611686018427387903 ∧ q.e ≤ 4611686018427387903 ∧ q.x ≤ 4611686018427387903)
theorem pt_iff {n : Int} : pt n = n ↔ 0 ≤ n ∧ n ≤ 4611686018427387903 := by
  unfold pt; omega
theorem good_iff {q : Qt} : goodB q = true ↔ q.good := by
  unfold goodB Qt.good
  rw [pt_iff, pt_iff, pt_iff, decide_eq_true_eq]
  omega
theorem below_modF {F : Nat → Prop} {w0 w1 w2 : World} (h : Below w0.heap.size w0 w1) (hF : ∀ b, F b → w0.heap.size ≤ b) (hm : Mod F w1 w2) : Below w0.heap.size w0 w2 :=
  ⟨hm.os.trans h.os, hm.tape.trans h.tape, hm.output.trans h.output, Nat.le_trans h.size hm.size, fun b hb => (hm.block b (Nat.lt_of_lt_of_le hb h.size) (fun hf => by have := hF b hf; omega)).trans (h.block b hb)⟩
/-- does it fit into what is left? -/
def fitB (q : Qt) (l : Qt) : Bool := goodB q && decide (q.f ≤ l.f ∧ q.e ≤ l.e ∧ q.x ≤ l.x)
theorem live_full {rs : List (Option Er)} (h : rs.length = 16) : (lvL rs).length = 16 ↔ ¬ ff rs < 16 := by
  unfold lvL
  rw [List.length_map, prs_len]
  constructor
  · intro e hf
    have h1 := List.countP_eq_length.1 (by omega : rs.countP Option.isSome = rs.length)
    have h2 := List.mem_of_getElem? (ff_free (m := rs) (by omega))
    have := h1 none h2
    cases this
  · intro hf
    rw [← h]
    refine List.countP_eq_length.2 (fun a ha => ?_)
    obtain ⟨j, hj, rfl⟩ := List.getElem_of_mem ha
    obtain ⟨x, hx⟩ := ff_held (m := rs) (j := j) (by omega)
    rw [List.getElem?_eq_getElem hj] at hx
    rw [Option.some.inj hx]; rfl
theorem cr_one {rs : List (Option Er)} {last s : Int} {k : Nat} {r : Er} {q : Qt} (hr : rs[k]? = some (some r)) (h : ¬ (q.good ∧ last < s)) : crE rs last (k : Int) s q = 1 := by
  unfold crE
  rw [look_at hr]
  simp only []
  rw [if_neg (fun h9 => h ⟨h9.1, h9.2.1⟩)]
theorem cr_two {rs : List (Option Er)} {last s : Int} {k : Nat} {r : Er} {q : Qt} (hr : rs[k]? = some (some r)) (hg : q.good) (hl : last < s) (hs : s ≤ 4611686018427387903) (h : ¬ ((q.plus Qt.one).le r.le ∧ ff rs < 16)) : crE rs last (k : Int) s q = 2 := by
  unfold crE
  rw [look_at hr]
  simp only []
  rw [if_pos ⟨hg, hl, hs⟩, if_neg h]
theorem cr_zero {rs : List (Option Er)} {last s : Int} {k : Nat} {r : Er} {q : Qt} (hr : rs[k]? = some (some r)) (hg : q.good) (hl : last < s) (hs : s ≤ 4611686018427387903) (h : (q.plus Qt.one).le r.le ∧ ff rs < 16) : crE rs last (k : Int) s q = 0 := by
  unfold crE
  rw [look_at hr]
  simp only []
  rw [if_pos ⟨hg, hl, hs⟩, if_pos h]
theorem cr_keep {rs : List (Option Er)} {last e s : Int} {q : Qt} (h : crE rs last e s q ≠ 0) : crS rs last e s q = rs ∧ crL rs last e s q = last := by
  unfold crS crL
  rw [if_neg h]
  cases look rs e with
  | none => exact ⟨rfl, rfl⟩
  | some r => exact ⟨if_neg h, rfl⟩
theorem fit_iff {q l : Qt} : (q.plus Qt.one).le l ↔ q.f ≤ l.f ∧ q.e + 1 ≤ l.e ∧ q.x ≤ l.x := by
  unfold Qt.le Qt.plus Qt.one
  simp
theorem pays_none {rs : List (Option Er)} {e : Int} {q : Qt} (hl : look rs e = none) : payE rs e q = 90 ∧ payS rs e q = rs ∧ refE rs e q = 90 ∧ refS rs e q = rs := by
  unfold payE payS refE refS
  rw [hl]
  exact ⟨rfl, rfl, rfl, rfl⟩
set_option maxHeartbeats 1600000 in
theorem below_neg (w : World) (q : Qt) (hq : ¬ q.nn) : Calls Try.prog 23 #[q.val] w fun x w' => x = .returned (.bool true) ∧ Below w.heap.size w w' := by
  have hb := (Below.refl w.heap.size w).alloc (Nat.le_refl _) (.cells #[.int .i64 q.f, .int .i64 q.e, .int .i64 q.x] 39)
  have HB := hide hb
  unfold Qt.nn at hq
  unfold Qt.val
  by_cases h1 : q.f < 0
  · clear hb
    go_enter Try.func23, Try.ntmps23
    go_wp2
    go_ret
    exact ⟨by simp, HB.out⟩
  · by_cases h2 : q.e < 0
    · clear hb
      go_enter Try.func23, Try.ntmps23
      go_wp2
      go_ret
      exact ⟨by simp, HB.out⟩
    · have h3 : q.x < 0 := by omega
      clear hb
      go_enter Try.func23, Try.ntmps23
      go_wp2
      go_ret
      exact ⟨by simp, HB.out⟩
set_option maxRecDepth 100000 in
set_option maxHeartbeats 12800000 in
theorem pays_walk (a : Option Addr) (len cap : Nat) (O : Nat → Ov) (e : Int) (q : Qt) (w : World) (hl : len ≤ maxLen) (hZ : IsOps w a len O) :
    Calls Try.prog 7 #[.slice a len cap, .int .i64 e, q.val] w fun x w' => x = .returned (.bool true) ∧ Below w.heap.size w w' := by
  have hb0 := (Below.refl w.heap.size w).alloc (Nat.le_refl _) (.cells #[.int .i64 q.f, .int .i64 q.e, .int .i64 q.x] 39)
  have HQ0 := hide (heap_alloc_new w (.cells #[.int .i64 q.f, .int .i64 q.e, .int .i64 q.x] 39))
  have HZ := hide (hZ.below hb0)
  have HB0 := hide hb0
  unfold maxLen at hl
  unfold Qt.val
  clear hZ hb0
  go_enter Try.func7, Try.ntmps7
  go_upto_region 1 with fail
  generalize w.alloc (.cells #[.int .i64 q.f, .int .i64 q.e, .int .i64 q.x] 39) = w0 at *
  have HF := hide (first_ns w0)
  go_wp2_with fail
  refine HF.out.mono ?_
  rintro x w1 ⟨T, B, rfl, hB, F, hN, hF, hb⟩
  have HN := hide hN
  have HFl := hide hF
  have HB := hide hb
  have HBl := hide hB
  clear hN hF hb hB HF
  go_upto_region 5 with fail
  go_loopw [9] (fun x wr => ∃ j : Nat, j ≤ len ∧ x = .int .i64 (j : Int) ∧ ∃ rs last F, Hid (Ns wr F T B rs last) ∧ Hid (∀ b, F b → w0.heap.size ≤ b) ∧ Hid (Below w0.heap.size w0 wr)) (fun x _ => len - (intOf x).toNat)
  case atStart => exact ⟨0, by omega, rfl, rs3, 3, F, HN, HFl, HB⟩
  case round =>
  clear HN HFl HB
  obtain ⟨j, hj, rfl, rs, last, F, KN, KF, KB⟩ := hrel
  by_cases hlt : j < len
  · have hd : decide ((j : Int) < (len : Int)) = true := by simp; omega
    have hj3 : (j : Int) < (len : Int) := by omega
    obtain ⟨ad, rfl, hcl⟩ := HZ.out.below KB.out j hlt
    have HCl := hide hcl
    have HNo : Hid (Calls Try.prog 16 #[.pointer (some ⟨B, 0, none⟩), .pointer (some ⟨T, 0, none⟩), .agg (O j).cells.toArray] wr fun x w' => x = .returned (.bool true) ∧ Np wr F T B w') := hide (noted_any KN.out (O j).kd (O j).t (O j).e (O j).n (O j).m (O j).q (O j).g (O j).pc (O j).on)
    clear hcl
    generalize hoj : O j = o at *
    clear hoj
    go_wp2_with (refine loadOp o ?lw _ rfl (ad.add (j * 18)) ?lx HCl.out ?_; rotate_left 2)
    try (case lw => rfl)
    try (case lx => rfl)
    refine HNo.out.mono ?_
    rintro x2 w2 ⟨rfl, rs', last', F', hN2, hX⟩
    obtain ⟨hm, hf⟩ := hX
    have HN2 := hide hN2
    have KF2 : Hid (∀ b, F' b → w0.heap.size ≤ b) := hide (fun b hb => by
      rcases hf b (.inr hb) with (e9 | e9) | e9
      · rw [e9]; exact HBl.out
      · exact KF.out b e9
      · exact Nat.le_trans KB.out.size e9)
    have KB2 : Hid (Below w0.heap.size w0 w2) := hide ⟨hm.os.trans KB.out.os, hm.tape.trans KB.out.tape, hm.output.trans KB.out.output, Nat.le_trans KB.out.size hm.size, fun b hb => (hm.block b (Nat.lt_of_lt_of_le hb KB.out.size) (fun e9 => by
      rcases e9 with e9 | e9
      · have := HBl.out; omega
      · have := KF.out b e9; omega)).trans (KB.out.block b hb)⟩
    clear hN2 hm hf HNo HCl KN KF KB
    go_wp2
    go_roundw
    case rel =>
      first
        | exact ⟨j + 1, by omega, by go_num, rs', last', F', HN2, KF2, KB2⟩
        | ((repeat apply Exists.intro); refine ⟨?_, rfl⟩; exact ⟨j + 1, by omega, by go_num, rs', last', F', HN2, KF2, KB2⟩)
    case measure => simp [intOf]; omega
  · obtain rfl : j = len := by omega
    have hd : decide ((j : Int) < (j : Int)) = false := by simp
    have hN0 : w.heap.size < w0.heap.size := (Array.getElem?_eq_some_iff.1 HQ0.out).1
    have HQ := hide ((KB.out.block _ hN0).trans HQ0.out)
    have HB8 : Hid (∀ W, Below w0.heap.size w0 W → Below w.heap.size w W) := hide (fun W h9 => HB0.out.trans (h9.mono HB0.out.size))
    clear HZ HQ0
    generalize hNw : w.heap.size = N at *
    have HNw := hide hNw
    clear hNw
    cases hlk : look rs e with
    | none =>
      as_aux_lemma =>
        have HI := infoNone_any _ F T rs last KN.out.et e hlk
        obtain ⟨t, ht⟩ : ∃ t, t = Er.nil := ⟨_, rfl⟩
        rw [← ht] at HI
        have HI := hide HI
        clear ht
        go_wp2_with fail
        refine HI.out.mono ?_
        rintro x1 u1 ⟨rfl, hb1⟩
        have hz : Eb (u1.alloc (.cells Er.nil.head.toArray 41)) u1.heap.size Er.nil := Eb.new _ _
        have hb2 := hb1.trans ((freshE_below u1 t).mono hb1.size)
        have HN2 := hide (KN.out.below hb2)
        have HQ2 := hide ((hb2.block N (Array.getElem?_eq_some_iff.1 HQ.out).1).trans HQ.out)
        have HB2 := hide (KB.out.trans (hb2.mono KB.out.size))
        clear hb1 hb2 HI KN HQ KB
        go_upto_region 9 with (refine storeE t ?mw _ _ rfl u1.heap.size Er.nil ?mx ?my ?mz ?_; rotate_left 4; change wpList _ _ _ _ _ (freshE u1 t); generalize freshE u1 t = u2 at *)
        try (case mw => rfl)
        try (case mx => rfl)
        try (case my => rfl)
        try (case mz => exact hz)
        clear hz
        generalize u1.heap.size = M at *
        have HLi := hide (lives_no HN2.out.bq e hlk)
        go_wp2_with fail
        refine HLi.out.mono ?_
        rintro x4 w4 ⟨rfl, rfl⟩
        clear HLi
        go_upto_region 10 with fail
        obtain ⟨w6, hw6⟩ : ∃ w6, w6 = w4.drew := ⟨_, rfl⟩
        have hb6 : Below w4.heap.size w4 w6 := by rw [hw6]; exact ⟨rfl, rfl, rfl, Nat.le_refl _, fun _ _ => rfl⟩
        have HN6 := hide (HN2.out.below hb6)
        have HQ6 := hide ((hb6.block N (Array.getElem?_eq_some_iff.1 HQ2.out).1).trans HQ2.out)
        have HB6 := hide (HB2.out.trans (hb6.mono HB2.out.size))
        have HSt : Hid (∀ W, Bq W B rs last → W.heap[N]? = some (.cells #[.int .i64 q.f, .int .i64 q.e, .int .i64 q.x] 39 (0, 0)) → W.cell? ⟨B, 64, none⟩ = some (.int .i64 last) ∧ (W.cell? ⟨N, 0, none⟩ = some (.int .i64 q.f) ∧ W.cell? ⟨N, 1, none⟩ = some (.int .i64 q.e) ∧ W.cell? ⟨N, 2, none⟩ = some (.int .i64 q.x))) := hide (fun W h1 h2 => by
          obtain ⟨c0, c1, c2, _, _, _⟩ := blk3 h2
          exact ⟨h1.lastc.1, c0, c1, c2⟩)
        have HS6 := hide (HSt.out w6 HN6.out.bq HQ6.out)
        clear hb6 HN2 HQ2 HB2
        have HCr := hide (fun z => createNone_any w6 F T rs last HN6.out.et e hlk z q)
        unfold Qt.val at HCr
        refine wp_region_held_drew (S := fun W => W.cell? ⟨B, 64, none⟩ = some (.int .i64 last) ∧ (W.cell? ⟨N, 0, none⟩ = some (.int .i64 q.f) ∧ W.cell? ⟨N, 1, none⟩ = some (.int .i64 q.e) ∧ W.cell? ⟨N, 2, none⟩ = some (.int .i64 q.x))) (by kernel_rfl) (by rw [← hw6]; exact HS6.out) (fun _ => ?_)
        rw [← hw6]
        clear hw6
        refine hd_take 0 (o := ⟨some 54, _, _, _, _, _⟩) (.pointer (some ⟨T, 0, none⟩)) (by kernel_rfl) (by kernel_rfl) (by kernel_rfl) rfl (by rfl) (fun W hSw => by go_simp) (fun _ _ _ h => h) HS6.out ?_
        try simp only [Act.put, List.setIfInBounds_toArray, List.set_cons_zero, List.set_cons_succ]
        refine hd_take 1 (o := ⟨some 55, _, _, _, _, _⟩) (.int .i64 e) (by kernel_rfl) (by kernel_rfl) (by kernel_rfl) rfl (by rfl) (fun W hSw => by go_simp) (fun _ _ _ h => h) HS6.out ?_
        try simp only [Act.put, List.setIfInBounds_toArray, List.set_cons_zero, List.set_cons_succ]
        refine hd_take 2 (o := ⟨some 56, _, _, _, _, _⟩) (.pointer (some ⟨B, 0, none⟩)) (by kernel_rfl) (by kernel_rfl) (by kernel_rfl) rfl (by rfl) (fun W hSw => by go_simp) (fun _ _ _ h => h) HS6.out ?_
        try simp only [Act.put, List.setIfInBounds_toArray, List.set_cons_zero, List.set_cons_succ]
        refine hd_take 3 (o := ⟨some 57, _, _, _, _, _⟩) (.pointer (some ⟨B, 0, none⟩)) (by kernel_rfl) (by kernel_rfl) (by kernel_rfl) rfl (by rfl) (fun W hSw => by go_simp) (fun _ _ _ h => h) HS6.out ?_
        try simp only [Act.put, List.setIfInBounds_toArray, List.set_cons_zero, List.set_cons_succ]
        refine hd_take 4 (o := ⟨some 58, _, _, _, _, _⟩) (.pointer (some ⟨B, 64, none⟩)) (by kernel_rfl) (by kernel_rfl) (by kernel_rfl) rfl (by rfl) (fun W hSw => by go_simp) (fun _ _ _ h => h) HS6.out ?_
        try simp only [Act.put, List.setIfInBounds_toArray, List.set_cons_zero, List.set_cons_succ]
        refine hd_take 5 (o := ⟨some 59, _, _, _, _, _⟩) (.int .i64 last) (by kernel_rfl) (by kernel_rfl) (by kernel_rfl) rfl (by rfl) (fun W hSw => by obtain ⟨s0, s1, s2, s3⟩ := hSw; go_simp) (fun _ _ _ h => h) HS6.out ?_
        try simp only [Act.put, List.setIfInBounds_toArray, List.set_cons_zero, List.set_cons_succ]
        refine hd_take 6 (o := ⟨some 60, _, _, _, _, _⟩) (.int .i64 (IntKind.i64.wrap (last + 1))) (by kernel_rfl) (by kernel_rfl) (by kernel_rfl) rfl (by rfl) (fun W hSw => by go_simp) (fun _ _ _ h => h) HS6.out ?_
        try simp only [Act.put, List.setIfInBounds_toArray, List.set_cons_zero, List.set_cons_succ]
        refine hd_take 7 (o := ⟨some 61, _, _, _, _, _⟩) (.agg #[.int .i64 q.f, .int .i64 q.e, .int .i64 q.x]) (by kernel_rfl) (by kernel_rfl) (by kernel_rfl) rfl (by rfl) (fun W hSw => by obtain ⟨s0, s1, s2, s3⟩ := hSw; go_simp) (fun _ _ _ h => h) HS6.out ?_
        try simp only [Act.put, List.setIfInBounds_toArray, List.set_cons_zero, List.set_cons_succ]
        refine hd_call 8 (o := ⟨some 62, _, _, _, _, _⟩) (by kernel_rfl) rfl (by rfl) (fun K hK => ?_)
        go_simp
        go_wp2_with (go_at_call 18; refine (HCr.out _).mono ?_; rintro e1 w7 ⟨rfl, hb7⟩)
        have HN7 := hide (HN6.out.below hb7)
        have HQ7 := hide ((hb7.block N (Array.getElem?_eq_some_iff.1 HQ6.out).1).trans HQ6.out)
        have HB7 := hide (HB6.out.trans (hb7.mono HB6.out.size))
        have HS7 := hide (HSt.out w7 HN7.out.bq HQ7.out)
        clear hb7 HN6 HQ6 HB6 HS6 HCr
        refine hK _ _ HS7.out ?_
        clear hK K
        try simp only [Act.put, List.setIfInBounds_toArray, List.set_cons_zero, List.set_cons_succ]
        refine hd_take 9 (o := ⟨some 53, _, _, _, _, _⟩) (.tuple #[.int .i64 (-1), .int .i64 90]) (by kernel_rfl) (by kernel_rfl) (by kernel_rfl) rfl (by rfl) (fun W hSw => by go_simp) (fun _ _ _ h => h) HS7.out ?_
        try simp only [Act.put, List.setIfInBounds_toArray, List.set_cons_zero, List.set_cons_succ]
        refine hd_take 10 (o := ⟨some 63, _, _, _, _, _⟩) (.int .i64 (-1)) (by kernel_rfl) (by kernel_rfl) (by kernel_rfl) rfl (by rfl) (fun W hSw => by go_simp) (fun _ _ _ h => h) HS7.out ?_
        try simp only [Act.put, List.setIfInBounds_toArray, List.set_cons_zero, List.set_cons_succ]
        refine hd_take 11 (o := ⟨some 64, _, _, _, _, _⟩) (.int .i64 90) (by kernel_rfl) (by kernel_rfl) (by kernel_rfl) rfl (by rfl) (fun W hSw => by go_simp) (fun _ _ _ h => h) HS7.out ?_
        try simp only [Act.put, List.setIfInBounds_toArray, List.set_cons_zero, List.set_cons_succ]
        refine hd_take 12 (o := ⟨some 12, _, _, _, _, _⟩) (.int .i64 (-1)) (by kernel_rfl) (by kernel_rfl) (by kernel_rfl) rfl (by rfl) (fun W hSw => by go_simp) (fun _ _ _ h => h) HS7.out ?_
        try simp only [Act.put, List.setIfInBounds_toArray, List.set_cons_zero, List.set_cons_succ]
        refine hd_take 13 (o := ⟨some 13, _, _, _, _, _⟩) (.int .i64 90) (by kernel_rfl) (by kernel_rfl) (by kernel_rfl) rfl (by rfl) (fun W hSw => by go_simp) (fun _ _ _ h => h) HS7.out ?_
        try simp only [Act.put, List.setIfInBounds_toArray, List.set_cons_zero, List.set_cons_succ]
        refine wpAnyH_done (by kernel_rfl) ?_ _
        obtain ⟨c0, c1, c2, _, _, _⟩ := blk3 HQ7.out
        obtain ⟨p1, p2, p3, p4⟩ := pays_none (q := q) hlk
        have hP := pay_any HN7.out.et e q (fun r h9 => by rw [hlk] at h9; cases h9)
        rw [p1, p2] at hP
        unfold Qt.val at hP
        have HP := hide hP
        clear HS7 HSt hP
        go_wp2_with fail
        refine HP.out.mono ?_
        rintro e1 w8 ⟨rfl, hE8, hm8⟩
        have HQ8 := hide ((hm8.block N (Array.getElem?_eq_some_iff.1 HQ7.out).1 (fun h9 => by have := KF.out N h9; omega)).trans HQ7.out)
        have HB9 := hide (below_modF HB7.out KF.out hm8)
        obtain ⟨d0, d1, d2, _, _, _⟩ := blk3 HQ8.out
        have hP := refund_any hE8 e q (fun r h9 => by rw [hlk] at h9; cases h9)
        rw [p3, p4] at hP
        unfold Qt.val at hP
        have HR := hide hP
        clear hE8 hm8 hP HP c0 c1 c2 HQ7 HB7 HN7
        go_wp2_with fail
        refine HR.out.mono ?_
        rintro e1 w9 ⟨rfl, hE9, hm9⟩
        have HBa := hide (HB8.out _ (below_modF HB9.out KF.out hm9))
        clear hE9 hm9 HR d0 d1 d2 HQ8 HB9
        go_wp2
        go_ret
        exact ⟨by simp, by have h9 := HBa.out; rw [← HNw.out] at h9; exact h9⟩
    | some r =>
      obtain ⟨k, rfl, hr⟩ := look_some hlk
      have HI := hide (info_any _ F T rs last KN.out.et k r hr)
      have HR := hide hr
      clear hlk
      go_wp2_with fail
      refine HI.out.mono ?_
      rintro x1 u1 ⟨rfl, hb1⟩
      have hz : Eb (u1.alloc (.cells Er.nil.head.toArray 41)) u1.heap.size Er.nil := Eb.new _ _
      have HEb := hide (freshE_eb u1 r.told)
      have hb2 := hb1.trans ((freshE_below u1 r.told).mono hb1.size)
      have HN2 := hide (KN.out.below hb2)
      have HQ2 := hide ((hb2.block N (Array.getElem?_eq_some_iff.1 HQ.out).1).trans HQ.out)
      have HB2 := hide (KB.out.trans (hb2.mono KB.out.size))
      have HMF : Hid (¬ F u1.heap.size) := hide (fun h9 => by have := (KN.out.below hb1).et.lt _ h9; omega)
      clear hb1 hb2 HI KN HQ KB
      go_upto_region 9 with (refine storeE r.told ?nw _ _ rfl u1.heap.size Er.nil ?nx ?ny ?nz ?_; rotate_left 4; change wpList _ _ _ _ _ (freshE u1 r.told); generalize freshE u1 r.told = u2 at *)
      try (case nw => rfl)
      try (case nx => rfl)
      try (case ny => rfl)
      try (case nz => exact hz)
      clear hz
      generalize u1.heap.size = M at *
      have hkl := lv_lt HN2.out.iv.tr ⟨r, HR.out⟩
      have hL2 := lives_any HN2.out.bq k hkl
      rw [show lvb rs k = true by unfold lvb; rw [core_at HR.out]; rfl] at hL2
      have HLi := hide hL2
      clear hL2 hr
      go_wp2_with fail
      refine HLi.out.mono ?_
      rintro x4 w4 ⟨rfl, rfl⟩
      clear HLi
      go_upto_region 12 with fail
      go_cut [14] (fun v wx => v = .bool (goodB q) ∧ Hid (Below w4.heap.size w4 wx))
      case first =>
        as_aux_lemma =>
          obtain ⟨c0, c1, c2, _, _, _⟩ := blk3 HQ2.out
          have HK : Hid (∀ W, Below w4.heap.size w4 W → W.cell? ⟨N, 0, none⟩ = some (.int .i64 q.f) ∧ W.cell? ⟨N, 1, none⟩ = some (.int .i64 q.e) ∧ W.cell? ⟨N, 2, none⟩ = some (.int .i64 q.x)) := hide (fun W h9 => by
            obtain ⟨c0, c1, c2, _, _, _⟩ := blk3 ((h9.block N (Array.getElem?_eq_some_iff.1 HQ2.out).1).trans HQ2.out)
            exact ⟨c0, c1, c2⟩)
          by_cases hn : q.nn
          · have HBl := hide (fun W => below_nn W q hn)
            unfold Qt.val at HBl
            go_wp2_with fail
            refine (HBl.out _).mono ?_
            rintro x3 w5 ⟨rfl, hb5⟩
            obtain ⟨d0, d1, d2⟩ := HK.out w5 hb5
            have HB5 := hide hb5
            obtain ⟨n1, n2, n3⟩ := hn
            clear hb5 HK HBl c0 c1 c2
            by_cases h1 : q.f ≤ 4611686018427387903
            · by_cases h2 : q.e ≤ 4611686018427387903
              · by_cases h3 : q.x ≤ 4611686018427387903
                · have hg := hide (show goodB q = true by unfold goodB; simp only [decide_eq_true_eq]; omega)
                  go_wp2
                  go_meet
                  case rel => exact ⟨by first | (rw [hg.out]; done) | (rw [hg.out]; simp; omega), HB5⟩
                · have hg := hide (show goodB q = false by unfold goodB; simp only [decide_eq_false_iff_not]; omega)
                  go_wp2
                  go_meet
                  case rel => exact ⟨by first | (rw [hg.out]; done) | (rw [hg.out]; simp; omega), HB5⟩
              · have hg := hide (show goodB q = false by unfold goodB; simp only [decide_eq_false_iff_not]; omega)
                go_wp2
                go_meet
                case rel => exact ⟨by first | (rw [hg.out]; done) | (rw [hg.out]; simp; omega), HB5⟩
            · have hg := hide (show goodB q = false by unfold goodB; simp only [decide_eq_false_iff_not]; omega)
              go_wp2
              go_meet
              case rel => exact ⟨by first | (rw [hg.out]; done) | (rw [hg.out]; simp; omega), HB5⟩
          · have HBl := hide (fun W => below_neg W q hn)
            have hg := hide (show goodB q = false by unfold Qt.nn at hn; unfold goodB; simp only [decide_eq_false_iff_not]; omega)
            unfold Qt.val at HBl
            clear hn
            go_wp2_with fail
            refine (HBl.out _).mono ?_
            rintro x3 w5 ⟨rfl, hb5⟩
            have HB5 := hide hb5
            clear hb5 HK HBl c0 c1 c2
            go_wp2
            go_meet
            case rel => exact ⟨by first | (rw [hg.out]; done) | (rw [hg.out]; simp; omega), HB5⟩
      case rest =>
      obtain ⟨rfl, hb5⟩ := hcut
      have hb5 := hb5.out
      have HN3 := hide (HN2.out.below hb5)
      have HQ3 := hide ((hb5.block N (Array.getElem?_eq_some_iff.1 HQ2.out).1).trans HQ2.out)
      have HB3 := hide (HB2.out.trans (hb5.mono HB2.out.size))
      have HE3 := hide (HEb.out.keep (hb5.block M HEb.out.lt))
      clear hb5 HN2 HQ2 HB2 HEb
      have HGi := hide (good_iff (q := q))
      have HFi := hide (show fitB q r.le = (goodB q && decide (q.f ≤ r.le.f ∧ q.e ≤ r.le.e ∧ q.x ≤ r.le.x)) from rfl)
      obtain ⟨w5, hw5⟩ : ∃ w5, w5 = wc := ⟨wc, rfl⟩
      subst hw5
      generalize hgb : goodB q = gb at *
      generalize hfb : fitB q r.le = fb at *
      clear hgb hfb
      go_upto_region 13 with fail
      go_cut [15] (fun v wx => v = .bool fb ∧ Hid (Below w5.heap.size w5 wx))
      case first =>
        as_aux_lemma =>
          cases gb
          · have hfb := HFi.out
            rw [Bool.false_and] at hfb
            have HF0 := hide hfb
            clear hfb
            go_wp2
            go_meet
            case rel => exact ⟨by rw [HF0.out], Below.refl _ _⟩
          · have hqg := HGi.out.1 rfl
            obtain ⟨g1, g2, g3⟩ := good_bounds hqg
            have hfb := HFi.out
            rw [Bool.true_and] at hfb
            have HF0 := hide hfb
            obtain ⟨c0, c1, c2, _, _, _⟩ := blk3 HQ3.out
            have m18 : w5.cell? ⟨M, 18, none⟩ = some (.int .i64 r.le.f) := HE3.out.get (j := 18) rfl
            have m19 : w5.cell? ⟨M, 19, none⟩ = some (.int .i64 r.le.e) := HE3.out.get (j := 19) rfl
            have m20 : w5.cell? ⟨M, 20, none⟩ = some (.int .i64 r.le.x) := HE3.out.get (j := 20) rfl
            have HAd := hide (fun W => addNeg_any W r.le q (HN3.out.iv.oks HR.out).1 (by unfold Qt.ok; omega))
            unfold Qt.val at HAd
            clear hfb hqg g1 g2 g3
            by_cases hn : (r.le.less q).nn
            · have HBl := hide (fun W => below_nn W (r.le.less q) hn)
              unfold Qt.val at HBl
              have HF1 := hide (show fb = true by rw [HF0.out]; unfold Qt.nn Qt.less at hn; simp only [decide_eq_true_eq]; simp only at hn; omega)
              clear hn HF0
              generalize r.le.less q = s at *
              go_wp2_with fail
              refine (HAd.out _).mono ?_
              rintro x3 w6 ⟨rfl, hb6⟩
              have HB6 := hide hb6
              clear hb6 HAd c0 c1 c2 m18 m19 m20
              go_wp2_with fail
              refine (HBl.out _).mono ?_
              rintro x3 w7 ⟨rfl, hb7⟩
              have HB7 := hide (HB6.out.trans (hb7.mono HB6.out.size))
              clear hb7 HBl
              go_wp2
              go_meet
              case rel => exact ⟨by rw [HF1.out], HB7⟩
            · have HBl := hide (fun W => below_neg W (r.le.less q) hn)
              unfold Qt.val at HBl
              have HF1 := hide (show fb = false by rw [HF0.out]; unfold Qt.nn Qt.less at hn; simp only [decide_eq_false_iff_not]; simp only at hn; omega)
              clear hn HF0
              generalize r.le.less q = s at *
              go_wp2_with fail
              refine (HAd.out _).mono ?_
              rintro x3 w6 ⟨rfl, hb6⟩
              have HB6 := hide hb6
              clear hb6 HAd c0 c1 c2 m18 m19 m20
              go_wp2_with fail
              refine (HBl.out _).mono ?_
              rintro x3 w7 ⟨rfl, hb7⟩
              have HB7 := hide (HB6.out.trans (hb7.mono HB6.out.size))
              clear hb7 HBl
              go_wp2
              go_meet
              case rel => exact ⟨by rw [HF1.out], HB7⟩
      case rest =>
      obtain ⟨rfl, hb5⟩ := hcut
      have hb5 := hb5.out
      have HN4 := hide (HN3.out.below hb5)
      have HQ4 := hide ((hb5.block N (Array.getElem?_eq_some_iff.1 HQ3.out).1).trans HQ3.out)
      have HB4 := hide (HB3.out.trans (hb5.mono HB3.out.size))
      have HE4 := hide (HE3.out.keep (hb5.block M HE3.out.lt))
      clear hb5 HN3 HQ3 HB3 HE3
      obtain ⟨w6, hw6⟩ : ∃ w6, w6 = wc := ⟨wc, rfl⟩
      subst hw6
      have HLv := hide (live_any HN4.out.et)
      have HFu := hide (live_full HN4.out.iv.tr.len)
      go_wp2_with fail
      refine HLv.out.mono ?_
      rintro x3 w7 ⟨v, rfl, hv, hb7⟩
      obtain ⟨va, vc, rfl⟩ := own_shape hv
      have HN5 := hide (HN4.out.below hb7)
      have HQ5 := hide ((hb7.block N (Array.getElem?_eq_some_iff.1 HQ4.out).1).trans HQ4.out)
      have HB5 := hide (HB4.out.trans (hb7.mono HB4.out.size))
      have HE5 := hide (HE4.out.keep (hb7.block M HE4.out.lt))
      clear hb7 hv HLv HN4 HQ4 HB4 HE4
      generalize (lvL rs).length = nl at *
      obtain ⟨c0, c1, c2, _, _, _⟩ := blk3 HQ5.out
      have HCr := hide (create_any HN5.out.et HN5.out.iv (k : Int) 4611686018427387903 q)
      unfold Qt.val at HCr
      go_wp2_with fail
      refine HCr.out.mono ?_
      rintro x3 w8 ⟨rfl, F', hE8, hm8, hf8⟩
      have HF8 : Hid (∀ b, F' b → w0.heap.size ≤ b) := hide (fun b hb => by
        rcases hf8 b hb with h9 | h9
        · exact KF.out b h9
        · exact Nat.le_trans HB5.out.size h9)
      have HM8 : Hid (¬ F' M) := hide (fun hb => by
        rcases hf8 M hb with h9 | h9
        · exact HMF.out h9
        · have := HE5.out.lt; omega)
      have HQ8 := hide ((hm8.block N (Array.getElem?_eq_some_iff.1 HQ5.out).1 (fun h9 => by have := KF.out N h9; omega)).trans HQ5.out)
      have HEb8 := hide (HE5.out.keep (hm8.block M HE5.out.lt HMF.out))
      have HBq8 := hide (HN5.out.bq.keep (hm8.block B HN5.out.bq.lt HN5.out.ne))
      have HB9 := hide (below_modF HB5.out KF.out hm8)
      have HE8 := hide hE8
      have HI8 := hide (HN5.out.iv.crS (k : Int) 4611686018427387903 q)
      have HIv := hide HN5.out.iv
      clear hE8 hm8 hf8 c0 c1 c2 HCr HN5 HQ5 HB5 HE5
      generalize hce : crE rs last (k : Int) 4611686018427387903 q = ce at *
      generalize hcn : crN rs last (k : Int) 4611686018427387903 q = cn at *
      go_upto_block 2 with fail
      obtain ⟨l64, _⟩ := HBq8.out.lastc
      obtain ⟨c0, c1, c2, _, _, _⟩ := blk3 HQ8.out
      have m19 : w8.cell? ⟨M, 19, none⟩ = some (.int .i64 r.le.e) := HEb8.out.get (j := 19) rfl
      go_cut [] (fun wx => ∃ F2 last2, Hid (Et wx F2 T rs last2) ∧ Hid (Iv rs last2) ∧ Hid (∀ b, F2 b → w0.heap.size ≤ b) ∧ Hid (¬ F2 M) ∧ Hid (wx.heap[N]? = some (.cells #[.int .i64 q.f, .int .i64 q.e, .int .i64 q.x] 39 (0, 0))) ∧ Hid (Eb wx M r.told) ∧ Hid (Below w0.heap.size w0 wx))
      case first =>
        as_aux_lemma =>
          by_cases hg1 : last ≥ 4611686018427387903
          · have hg2 : decide (last ≥ 4611686018427387903) = true := by simp; omega
            obtain rfl : ce = 1 := by rw [← hce]; exact cr_one HR.out (fun h9 => by omega)
            obtain ⟨e1, e2⟩ := cr_keep (rs := rs) (last := last) (e := (k : Int)) (s := 4611686018427387903) (q := q) (by rw [hce]; decide)
            have HE9 := HE8
            rw [e1, e2] at HE9
            clear HE8 HI8 hce hcn e1 e2 HGi HFi
            go_wp2
            go_meet
            case rel => exact ⟨F', last, HE9, HIv, HF8, HM8, HQ8, HEb8, HB9⟩
          · have hg2 : decide (last ≥ 4611686018427387903) = false := by simp; omega
            cases gb
            · have hng : ¬ q.good := fun h9 => by have := HGi.out.2 h9; cases this
              obtain rfl : ce = 1 := by rw [← hce]; exact cr_one HR.out (fun h9 => hng h9.1)
              obtain ⟨e1, e2⟩ := cr_keep (rs := rs) (last := last) (e := (k : Int)) (s := 4611686018427387903) (q := q) (by rw [hce]; decide)
              have HE9 := HE8
              rw [e1, e2] at HE9
              clear HE8 HI8 hce hcn e1 e2 HGi HFi
              go_wp2
              go_meet
              case rel => exact ⟨F', last, HE9, HIv, HF8, HM8, HQ8, HEb8, HB9⟩
            · have hqg := HGi.out.1 rfl
              cases fb
              · have hff : ¬ ((q.plus Qt.one).le r.le ∧ ff rs < 16) := fun h9 => by
                  have h8 := fit_iff.1 h9.1
                  have h7 := HFi.out
                  rw [Bool.true_and] at h7
                  have h6 := of_decide_eq_false h7.symm
                  omega
                obtain rfl : ce = 2 := by rw [← hce]; exact cr_two HR.out hqg (by omega) (Int.le_refl _) hff
                obtain ⟨e1, e2⟩ := cr_keep (rs := rs) (last := last) (e := (k : Int)) (s := 4611686018427387903) (q := q) (by rw [hce]; decide)
                have HE9 := HE8
                rw [e1, e2] at HE9
                clear HE8 HI8 hce hcn e1 e2 HGi HFi
                go_wp2
                go_meet
                case rel => exact ⟨F', last, HE9, HIv, HF8, HM8, HQ8, HEb8, HB9⟩
              · have hfit : q.f ≤ r.le.f ∧ q.e ≤ r.le.e ∧ q.x ≤ r.le.x := by
                  have h7 := HFi.out
                  rw [Bool.true_and] at h7
                  exact of_decide_eq_true h7.symm
                by_cases hqe : q.e = r.le.e
                · have hqb : (q.e == r.le.e) = true := by simp [hqe]
                  have hff : ¬ ((q.plus Qt.one).le r.le ∧ ff rs < 16) := fun h9 => by
                    have h8 := fit_iff.1 h9.1
                    omega
                  have HQE := hide hqe
                  clear hqe
                  obtain rfl : ce = 2 := by rw [← hce]; exact cr_two HR.out hqg (by omega) (Int.le_refl _) hff
                  obtain ⟨e1, e2⟩ := cr_keep (rs := rs) (last := last) (e := (k : Int)) (s := 4611686018427387903) (q := q) (by rw [hce]; decide)
                  have HE9 := HE8
                  rw [e1, e2] at HE9
                  clear HE8 HI8 hce hcn e1 e2 HGi HFi
                  go_wp2
                  go_meet
                  case rel => exact ⟨F', last, HE9, HIv, HF8, HM8, HQ8, HEb8, HB9⟩
                · have hqb : (q.e == r.le.e) = false := by simp [hqe]
                  by_cases hnl : nl = 16
                  · have hff : ¬ ((q.plus Qt.one).le r.le ∧ ff rs < 16) := fun h9 => HFu.out.1 hnl h9.2
                    have hnb : ((nl : Int) == 16) = true := by rw [hnl]; rfl
                    have HNL := hide hnl
                    clear hnl
                    obtain rfl : ce = 2 := by rw [← hce]; exact cr_two HR.out hqg (by omega) (Int.le_refl _) hff
                    obtain ⟨e1, e2⟩ := cr_keep (rs := rs) (last := last) (e := (k : Int)) (s := 4611686018427387903) (q := q) (by rw [hce]; decide)
                    have HE9 := HE8
                    rw [e1, e2] at HE9
                    clear HE8 HI8 hce hcn e1 e2 HGi HFi
                    go_wp2
                    go_meet
                    case rel => exact ⟨F', last, HE9, HIv, HF8, HM8, HQ8, HEb8, HB9⟩
                  · have hnb : ((nl : Int) == 16) = false := by simp; omega
                    have hnl' : ¬ (nl : Int) = 16 := by omega
                    have hf16 : ff rs < 16 := Classical.byContradiction (fun h9 => hnl (HFu.out.2 h9))
                    obtain rfl : ce = 0 := by rw [← hce]; exact cr_zero HR.out hqg (by omega) (Int.le_refl _) ⟨fit_iff.2 (by omega), hf16⟩
                    obtain rfl : cn = ((ff rs : Nat) : Int) := by rw [← hcn]; unfold crN; rw [if_pos hce]
                    obtain ⟨d1, d2, d3⟩ := cr_ds HIv.out hce
                    have hD := destroy_any HE8.out HI8.out ((ff rs : Nat) : Int)
                    rw [d1, d3] at hD
                    have HD := hide hD
                    have hIv2 : Iv rs (crL rs last (k : Int) 4611686018427387903 q) := by have := HI8.out.dsS ((ff rs : Nat) : Int); rw [d3] at this; exact this
                    have HIv2 := hide hIv2
                    clear hD hIv2 d1 d2 d3 HE8 HI8 hce hcn HGi HFi hf16
                    generalize ((ff rs : Nat) : Int) = fi at *
                    generalize crL rs last (k : Int) 4611686018427387903 q = l2 at *
                    go_wp2_with fail
                    refine HD.out.mono ?_
                    rintro x3 w9 ⟨v9, rfl, hE9, hv9, hm9⟩
                    have G1 := hide hE9
                    have G2 := hide ((hm9.block N (Array.getElem?_eq_some_iff.1 HQ8.out).1 (fun h9 => by have := HF8.out N h9; omega)).trans HQ8.out)
                    have G3 := hide (HEb8.out.keep (hm9.block M HEb8.out.lt HM8.out))
                    have G4 := hide (below_modF HB9.out HF8.out hm9)
                    obtain ⟨va9, vc9, rfl⟩ := own_shape hv9
                    clear hE9 hv9 hm9 HD
                    go_wp2
                    go_meet
                    case rel => exact ⟨F', l2, G1, HIv2, HF8, HM8, G2, G3, G4⟩
      case rest =>
      obtain ⟨F2, last2, HE9, HI9, HF9, HM9, HQ9, HX9, HB9'⟩ := hcut
      obtain ⟨w9, hw9⟩ : ∃ w9, w9 = wc := ⟨wc, rfl⟩
      subst hw9
      clear c0 c1 c2 l64 m19 HF8 HM8 HQ8 HEb8 HBq8 HB9 HE8 HI8 HIv HFu hce hcn
      obtain ⟨c0, c1, c2, _, _, _⟩ := blk3 HQ9.out
      have hPy := pay_any HE9.out (k : Int) q (fun r' h9 => by rw [look_at HR.out] at h9; cases h9; exact ⟨(HI9.out.oks HR.out).1, (HI9.out.oks HR.out).2.1⟩)
      unfold Qt.val at hPy
      cases gb
      · have hng : ¬ q.good := fun h9 => by have := HGi.out.2 h9; cases this
        have hfb : fb = false := by have h7 := HFi.out; rw [Bool.false_and] at h7; exact h7
        subst hfb
        · skip
          as_aux_lemma =>
            have e1 : payE rs (k : Int) q = 1 := by unfold payE; rw [look_at HR.out]; simp only []; rw [if_neg hng]
            have e2 : payS rs (k : Int) q = rs := by unfold payS; rw [look_at HR.out]; simp only []; rw [if_neg hng]
            rw [e1, e2] at hPy
            have HPy := hide hPy
            clear hPy e1 e2
            go_wp2_with fail
            refine HPy.out.mono ?_
            rintro x3 wa ⟨rfl, hEa, hma⟩
            have HXa := hide (HX9.out.keep (hma.block M HX9.out.lt HM9.out))
            have HBa := hide (below_modF HB9'.out HF9.out hma)
            have HI := hide (info_any _ F2 T rs last2 hEa k r HR.out)
            clear hEa hma HPy c0 c1 c2 HE9 HQ9 HX9 HB9'
            go_wp2_with fail
            refine HI.out.mono ?_
            rintro x1 ub ⟨rfl, hb1⟩
            have hz : Eb (ub.alloc (.cells Er.nil.head.toArray 41)) ub.heap.size Er.nil := Eb.new _ _
            have HY := hide (freshE_eb ub r.told)
            have hb2 := hb1.trans ((freshE_below ub r.told).mono hb1.size)
            have HXb := hide (HXa.out.keep (hb2.block M HXa.out.lt))
            have HBb := hide (HB8.out _ (HBa.out.trans (hb2.mono HBa.out.size)))
            clear hb1 hb2 HI HXa HBa
            go_upto_region 27 with (refine storeE r.told ?nw2 _ _ rfl ub.heap.size Er.nil ?nx2 ?ny2 ?nz2 ?_; rotate_left 4; change wpList _ _ _ _ _ (freshE ub r.told); generalize freshE ub r.told = uc at *)
            try (case nw2 => rfl)
            try (case nx2 => rfl)
            try (case ny2 => rfl)
            try (case nz2 => exact hz)
            clear hz
            generalize ub.heap.size = M2 at *
            generalize r.told = t at *
            go_wp2_with (first
              | (refine loadT Try.underlying41 rfl t.head (by rw [head_len]; exact infoE) rfl _ rfl ⟨M2, 0, none⟩ rfl HY.out.hcell ?_)
              | (refine loadT Try.underlying41 rfl t.head (by rw [head_len]; exact infoE) rfl _ rfl ⟨M, 0, none⟩ rfl HXb.out.hcell ?_)
              | (refine eqlT t.head.toArray (se_env 9996 t) (by kernel_rfl) rfl _ _ rfl rfl rfl ?_))
            go_ret
            exact ⟨rfl, by have h9 := HBb.out; rw [← HNw.out] at h9; exact h9⟩
      · have hqg := HGi.out.1 rfl
        cases fb
        · have hfit : ¬ q.le r.le := fun h9 => by
            have h7 := HFi.out
            rw [Bool.true_and] at h7
            have h6 := of_decide_eq_false h7.symm
            unfold Qt.le at h9
            omega
          as_aux_lemma =>
            have e1 : payE rs (k : Int) q = 2 := by unfold payE; rw [look_at HR.out]; simp only []; rw [if_pos hqg, if_neg hfit]
            have e2 : payS rs (k : Int) q = rs := by unfold payS; rw [look_at HR.out]; simp only []; rw [if_pos hqg, if_neg hfit]
            rw [e1, e2] at hPy
            have HPy := hide hPy
            clear hPy e1 e2
            go_wp2_with fail
            refine HPy.out.mono ?_
            rintro x3 wa ⟨rfl, hEa, hma⟩
            have HXa := hide (HX9.out.keep (hma.block M HX9.out.lt HM9.out))
            have HBa := hide (below_modF HB9'.out HF9.out hma)
            have HI := hide (info_any _ F2 T rs last2 hEa k r HR.out)
            clear hEa hma HPy c0 c1 c2 HE9 HQ9 HX9 HB9'
            go_wp2_with fail
            refine HI.out.mono ?_
            rintro x1 ub ⟨rfl, hb1⟩
            have hz : Eb (ub.alloc (.cells Er.nil.head.toArray 41)) ub.heap.size Er.nil := Eb.new _ _
            have HY := hide (freshE_eb ub r.told)
            have hb2 := hb1.trans ((freshE_below ub r.told).mono hb1.size)
            have HXb := hide (HXa.out.keep (hb2.block M HXa.out.lt))
            have HBb := hide (HB8.out _ (HBa.out.trans (hb2.mono HBa.out.size)))
            clear hb1 hb2 HI HXa HBa
            go_upto_region 27 with (refine storeE r.told ?nw3 _ _ rfl ub.heap.size Er.nil ?nx3 ?ny3 ?nz3 ?_; rotate_left 4; change wpList _ _ _ _ _ (freshE ub r.told); generalize freshE ub r.told = uc at *)
            try (case nw3 => rfl)
            try (case nx3 => rfl)
            try (case ny3 => rfl)
            try (case nz3 => exact hz)
            clear hz
            generalize ub.heap.size = M2 at *
            generalize r.told = t at *
            go_wp2_with (first
              | (refine loadT Try.underlying41 rfl t.head (by rw [head_len]; exact infoE) rfl _ rfl ⟨M2, 0, none⟩ rfl HY.out.hcell ?_)
              | (refine loadT Try.underlying41 rfl t.head (by rw [head_len]; exact infoE) rfl _ rfl ⟨M, 0, none⟩ rfl HXb.out.hcell ?_)
              | (refine eqlT t.head.toArray (se_env 9996 t) (by kernel_rfl) rfl _ _ rfl rfl rfl ?_))
            go_ret
            exact ⟨rfl, by have h9 := HBb.out; rw [← HNw.out] at h9; exact h9⟩
        · have hfit : q.le r.le := by
            have h7 := HFi.out
            rw [Bool.true_and] at h7
            exact of_decide_eq_true h7.symm
          obtain ⟨r2, hr2⟩ : ∃ r2 : Er, r2 = { r with pd := r.pd.plus q, le := r.le.less q } := ⟨_, rfl⟩
          have e1 : payE rs (k : Int) q = 0 := by unfold payE; rw [look_at HR.out]; simp only []; rw [if_pos hqg, if_pos hfit]
          have e2 : payS rs (k : Int) q = rs.set k (some r2) := by unfold payS; rw [look_at HR.out]; simp only []; rw [if_pos hqg, if_pos hfit, hr2, Int.toNat_natCast]
          have hIp := HI9.out.pay (k : Int) q
          rw [e1, e2] at hPy
          rw [e2] at hIp
          have hk2 : (rs.set k (some r2))[k]? = some (some r2) := by rw [List.getElem?_set_self (List.getElem?_eq_some_iff.1 HR.out).1]
          have HPy := hide hPy
          have HK2 := hide hk2
          have HR2 := hide hr2
          have HIp := hide hIp
          have HFit := hide (And.intro hqg hfit)
          clear hPy e1 e2 hIp hk2 hr2 hqg hfit HGi HFi
          go_wp2_with fail
          refine HPy.out.mono ?_
          rintro x3 wa ⟨rfl, hEa, hma⟩
          have HXa := hide (HX9.out.keep (hma.block M HX9.out.lt HM9.out))
          have HQa := hide ((hma.block N (Array.getElem?_eq_some_iff.1 HQ9.out).1 (fun h9 => by have := HF9.out N h9; omega)).trans HQ9.out)
          have HBa := hide (below_modF HB9'.out HF9.out hma)
          have HI := hide (info_any _ F2 T _ last2 hEa k r2 HK2.out)
          have HEa := hide hEa
          clear hEa hma HPy c0 c1 c2 HE9 HQ9 HX9 HB9'
          go_wp2_with fail
          refine HI.out.mono ?_
          rintro x1 ub ⟨rfl, hb1⟩
          have hz : Eb (ub.alloc (.cells Er.nil.head.toArray 41)) ub.heap.size Er.nil := Eb.new _ _
          have HY := hide (freshE_eb ub r2.told)
          have hb2 := hb1.trans ((freshE_below ub r2.told).mono hb1.size)
          have HXb := hide (HXa.out.keep (hb2.block M HXa.out.lt))
          have HQb := hide ((hb2.block N (Array.getElem?_eq_some_iff.1 HQa.out).1).trans HQa.out)
          have HEb := hide (HEa.out.below hb2)
          have HBb := hide (HBa.out.trans (hb2.mono HBa.out.size))
          have HM2 : Hid (¬ F2 ub.heap.size) := hide (fun h9 => by have := (HEa.out.below hb1).lt _ h9; omega)
          clear hb1 hb2 HI HXa HBa HQa HEa
          go_upto_region 27 with (refine storeE r2.told ?nw4 _ _ rfl ub.heap.size Er.nil ?nx4 ?ny4 ?nz4 ?_; rotate_left 4; change wpList _ _ _ _ _ (freshE ub r2.told); generalize freshE ub r2.told = uc at *)
          try (case nw4 => rfl)
          try (case nx4 => rfl)
          try (case ny4 => rfl)
          try (case nz4 => exact hz)
          clear hz
          generalize ub.heap.size = M2 at *
          have hle2 : r2.le = r.le.less q := by rw [HR2.out]
          obtain ⟨s, hs⟩ : ∃ s, s = r.le.less q := ⟨_, rfl⟩
          have HAd := hide (fun W => addNeg_any W r.le q (HI9.out.oks HR.out).1 (by obtain ⟨g1, g2, g3⟩ := good_bounds HFit.out.1; unfold Qt.ok; omega))
          have hRf := fun W (h9 : Et W F2 T (rs.set k (some r2)) last2) => refund_any h9 (k : Int) q (fun r' h8 => by rw [look_at HK2.out] at h8; cases h8; exact ⟨(HIp.out.oks HK2.out).1, (HIp.out.oks HK2.out).2.1⟩)
          have e3 : refE (rs.set k (some r2)) (k : Int) q = 0 := by
            unfold refE
            rw [look_at HK2.out]
            simp only []
            rw [if_pos ⟨HFit.out.1, by
              have h9 := (HI9.out.q k r HR.out).pd
              unfold Qt.nn at h9
              rw [HR2.out]
              unfold Qt.le Qt.plus
              simp only
              omega⟩]
          simp only [e3] at hRf
          have HRf := hide hRf
          unfold Qt.val at HAd HRf
          rw [← hs] at hle2
          simp only [← hs] at HAd
          obtain ⟨l, hll⟩ : ∃ l, l = r.le := ⟨_, rfl⟩
          have HSt : Hid (∀ W, Eb W M2 r2.told → Eb W M r.told → W.heap[N]? = some (.cells #[.int .i64 q.f, .int .i64 q.e, .int .i64 q.x] 39 (0, 0)) → (W.cell? ⟨M2, 18, none⟩ = some (.int .i64 s.f) ∧ W.cell? ⟨M2, 19, none⟩ = some (.int .i64 s.e) ∧ W.cell? ⟨M2, 20, none⟩ = some (.int .i64 s.x)) ∧ (W.cell? ⟨M, 18, none⟩ = some (.int .i64 l.f) ∧ W.cell? ⟨M, 19, none⟩ = some (.int .i64 l.e) ∧ W.cell? ⟨M, 20, none⟩ = some (.int .i64 l.x)) ∧ W.cell? ⟨N, 0, none⟩ = some (.int .i64 q.f) ∧ W.cell? ⟨N, 1, none⟩ = some (.int .i64 q.e) ∧ W.cell? ⟨N, 2, none⟩ = some (.int .i64 q.x)) := hide (fun W h1 h2 h3 => by
            obtain ⟨c0, c1, c2, _, _, _⟩ := blk3 h3
            have q1 := h1.get (j := 18) rfl
            have q2 := h1.get (j := 19) rfl
            have q3 := h1.get (j := 20) rfl
            simp only [Er.told, hle2] at q1 q2 q3
            exact ⟨⟨q1, q2, q3⟩, ⟨by rw [hll]; exact h2.get (j := 18) rfl, by rw [hll]; exact h2.get (j := 19) rfl, by rw [hll]; exact h2.get (j := 20) rfl⟩, c0, c1, c2⟩)
          rw [← hll] at HAd
          clear hs hle2 hRf e3 hll
          go_upto_region 31 with fail
          obtain ⟨w6', hw6⟩ : ∃ w6', w6' = uc.drew := ⟨_, rfl⟩
          have hb6 : Below uc.heap.size uc w6' := by rw [hw6]; exact ⟨rfl, rfl, rfl, Nat.le_refl _, fun _ _ => rfl⟩
          have HX6 := hide (HXb.out.keep (hb6.block M HXb.out.lt))
          have HY6 := hide (HY.out.keep (hb6.block M2 HY.out.lt))
          have HQ6 := hide ((hb6.block N (Array.getElem?_eq_some_iff.1 HQb.out).1).trans HQb.out)
          have HE6 := hide (HEb.out.below hb6)
          have HB6 := hide (HBb.out.trans (hb6.mono HBb.out.size))
          have HS6 := hide (HSt.out w6' HY6.out HX6.out HQ6.out)
          clear hb6 HXb HY HQb HEb HBb
          refine wp_region_held_drew (S := fun W => (W.cell? ⟨M2, 18, none⟩ = some (.int .i64 s.f) ∧ W.cell? ⟨M2, 19, none⟩ = some (.int .i64 s.e) ∧ W.cell? ⟨M2, 20, none⟩ = some (.int .i64 s.x)) ∧ (W.cell? ⟨M, 18, none⟩ = some (.int .i64 l.f) ∧ W.cell? ⟨M, 19, none⟩ = some (.int .i64 l.e) ∧ W.cell? ⟨M, 20, none⟩ = some (.int .i64 l.x)) ∧ W.cell? ⟨N, 0, none⟩ = some (.int .i64 q.f) ∧ W.cell? ⟨N, 1, none⟩ = some (.int .i64 q.e) ∧ W.cell? ⟨N, 2, none⟩ = some (.int .i64 q.x)) (by kernel_rfl) (by rw [← hw6]; exact HS6.out) (fun _ => ?_)
          rw [← hw6]
          clear hw6
          refine hd_take 0 (o := ⟨some 197, _, _, _, _, _⟩) (.int .i64 0) (by kernel_rfl) (by kernel_rfl) (by kernel_rfl) rfl (by rfl) (fun W hSw => by go_simp) (fun _ _ _ h => h) HS6.out ?_
          try simp only [Act.put, List.setIfInBounds_toArray, List.set_cons_zero, List.set_cons_succ]
          refine hd_take 1 (o := ⟨some 198, _, _, _, _, _⟩) (.bool true) (by kernel_rfl) (by kernel_rfl) (by kernel_rfl) rfl (by rfl) (fun W hSw => by go_simp) (fun _ _ _ h => h) HS6.out ?_
          try simp only [Act.put, List.setIfInBounds_toArray, List.set_cons_zero, List.set_cons_succ]
          refine hd_take 2 (o := ⟨some 199, _, _, _, _, _⟩) (.bool true) (by kernel_rfl) (by kernel_rfl) (by kernel_rfl) rfl (by rfl) (fun W hSw => by go_simp) (fun _ _ _ h => h) HS6.out ?_
          try simp only [Act.put, List.setIfInBounds_toArray, List.set_cons_zero, List.set_cons_succ]
          refine hd_take 3 (o := ⟨some 200, _, _, _, _, _⟩) (.pointer (some ⟨M2, 18, none⟩)) (by kernel_rfl) (by kernel_rfl) (by kernel_rfl) rfl (by rfl) (fun W hSw => by go_simp) (fun _ _ _ h => h) HS6.out ?_
          try simp only [Act.put, List.setIfInBounds_toArray, List.set_cons_zero, List.set_cons_succ]
          refine hd_take 4 (o := ⟨some 201, _, _, _, _, _⟩) (.agg #[.int .i64 s.f, .int .i64 s.e, .int .i64 s.x]) (by kernel_rfl) (by kernel_rfl) (by kernel_rfl) rfl (by rfl) (fun W hSw => by obtain ⟨⟨s0, s1, s2⟩, ⟨s3, s4, s5⟩, s6, s7, s8⟩ := hSw; go_simp) (fun _ _ _ h => h) HS6.out ?_
          try simp only [Act.put, List.setIfInBounds_toArray, List.set_cons_zero, List.set_cons_succ]
          refine hd_take 5 (o := ⟨some 202, _, _, _, _, _⟩) (.pointer (some ⟨M, 18, none⟩)) (by kernel_rfl) (by kernel_rfl) (by kernel_rfl) rfl (by rfl) (fun W hSw => by go_simp) (fun _ _ _ h => h) HS6.out ?_
          try simp only [Act.put, List.setIfInBounds_toArray, List.set_cons_zero, List.set_cons_succ]
          refine hd_take 6 (o := ⟨some 203, _, _, _, _, _⟩) (.agg #[.int .i64 l.f, .int .i64 l.e, .int .i64 l.x]) (by kernel_rfl) (by kernel_rfl) (by kernel_rfl) rfl (by rfl) (fun W hSw => by obtain ⟨⟨s0, s1, s2⟩, ⟨s3, s4, s5⟩, s6, s7, s8⟩ := hSw; go_simp) (fun _ _ _ h => h) HS6.out ?_
          try simp only [Act.put, List.setIfInBounds_toArray, List.set_cons_zero, List.set_cons_succ]
          refine hd_take 7 (o := ⟨some 204, _, _, _, _, _⟩) (.agg #[.int .i64 q.f, .int .i64 q.e, .int .i64 q.x]) (by kernel_rfl) (by kernel_rfl) (by kernel_rfl) rfl (by rfl) (fun W hSw => by obtain ⟨⟨s0, s1, s2⟩, ⟨s3, s4, s5⟩, s6, s7, s8⟩ := hSw; go_simp) (fun _ _ _ h => h) HS6.out ?_
          try simp only [Act.put, List.setIfInBounds_toArray, List.set_cons_zero, List.set_cons_succ]
          refine hd_call 8 (o := ⟨some 205, _, _, _, _, _⟩) (by kernel_rfl) rfl (by rfl) (fun K hK => ?_)
          go_simp
          go_wp2_with (go_at_call 22; refine (HAd.out _).mono ?_; rintro e1 w7 ⟨rfl, hb7⟩)
          have HX7 := hide (HX6.out.keep (hb7.block M HX6.out.lt))
          have HY7 := hide (HY6.out.keep (hb7.block M2 HY6.out.lt))
          have HQ7 := hide ((hb7.block N (Array.getElem?_eq_some_iff.1 HQ6.out).1).trans HQ6.out)
          have HE7 := hide (HE6.out.below hb7)
          have HB7 := hide (HB6.out.trans (hb7.mono HB6.out.size))
          have HS7 := hide (HSt.out w7 HY7.out HX7.out HQ7.out)
          clear hb7 HX6 HY6 HQ6 HE6 HB6 HS6 HAd
          refine hK _ _ HS7.out ?_
          clear hK K
          try simp only [Act.put, List.setIfInBounds_toArray, List.set_cons_zero, List.set_cons_succ]
          refine hd_take 9 (o := ⟨some 206, _, _, _, _, _⟩) (.bool true) (by kernel_rfl) (by kernel_rfl) (by kernel_rfl) rfl (by rfl) (fun W hSw => by go_simp) (fun _ _ _ h => h) HS7.out ?_
          try simp only [Act.put, List.setIfInBounds_toArray, List.set_cons_zero, List.set_cons_succ]
          refine hd_take 10 (o := ⟨some 207, _, _, _, _, _⟩) (.bool true) (by kernel_rfl) (by kernel_rfl) (by kernel_rfl) rfl (by rfl) (fun W hSw => by go_simp) (fun _ _ _ h => h) HS7.out ?_
          try simp only [Act.put, List.setIfInBounds_toArray, List.set_cons_zero, List.set_cons_succ]
          refine hd_take 11 (o := ⟨some 208, _, _, _, _, _⟩) (.bool true) (by kernel_rfl) (by kernel_rfl) (by kernel_rfl) rfl (by rfl) (fun W hSw => by go_simp) (fun _ _ _ h => h) HS7.out ?_
          try simp only [Act.put, List.setIfInBounds_toArray, List.set_cons_zero, List.set_cons_succ]
          refine hd_take 12 (o := ⟨some 209, _, _, _, _, _⟩) (.pointer (some ⟨T, 0, none⟩)) (by kernel_rfl) (by kernel_rfl) (by kernel_rfl) rfl (by rfl) (fun W hSw => by go_simp) (fun _ _ _ h => h) HS7.out ?_
          try simp only [Act.put, List.setIfInBounds_toArray, List.set_cons_zero, List.set_cons_succ]
          refine hd_take 13 (o := ⟨some 210, _, _, _, _, _⟩) (.int .i64 (k : Int)) (by kernel_rfl) (by kernel_rfl) (by kernel_rfl) rfl (by rfl) (fun W hSw => by go_simp) (fun _ _ _ h => h) HS7.out ?_
          try simp only [Act.put, List.setIfInBounds_toArray, List.set_cons_zero, List.set_cons_succ]
          refine hd_take 14 (o := ⟨some 211, _, _, _, _, _⟩) (.agg #[.int .i64 q.f, .int .i64 q.e, .int .i64 q.x]) (by kernel_rfl) (by kernel_rfl) (by kernel_rfl) rfl (by rfl) (fun W hSw => by obtain ⟨⟨s0, s1, s2⟩, ⟨s3, s4, s5⟩, s6, s7, s8⟩ := hSw; go_simp) (fun _ _ _ h => h) HS7.out ?_
          try simp only [Act.put, List.setIfInBounds_toArray, List.set_cons_zero, List.set_cons_succ]
          refine hd_call 15 (o := ⟨some 212, _, _, _, _, _⟩) (by kernel_rfl) rfl (by rfl) (fun K hK => ?_)
          go_simp
          go_wp2_with (go_at_call 26; refine (HRf.out _ HE7.out).mono ?_; rintro e1 w8' ⟨rfl, hE8, hm8⟩)
          have HX8 := hide (HX7.out.keep (hm8.block M HX7.out.lt HM9.out))
          have HY8 := hide (HY7.out.keep (hm8.block M2 HY7.out.lt HM2.out))
          have HQ8 := hide ((hm8.block N (Array.getElem?_eq_some_iff.1 HQ7.out).1 (fun h9 => by have := HF9.out N h9; omega)).trans HQ7.out)
          have HBc := hide (HB8.out _ (below_modF HB7.out HF9.out hm8))
          have HS8 := hide (HSt.out w8' HY8.out HX8.out HQ8.out)
          clear hE8 hm8 HX7 HY7 HQ7 HE7 HB7 HS7 HRf
          refine hK _ _ HS8.out ?_
          clear hK K
          try simp only [Act.put, List.setIfInBounds_toArray, List.set_cons_zero, List.set_cons_succ]
          refine hd_take 16 (o := ⟨some 213, _, _, _, _, _⟩) (.bool true) (by kernel_rfl) (by kernel_rfl) (by kernel_rfl) rfl (by rfl) (fun W hSw => by go_simp) (fun _ _ _ h => h) HS8.out ?_
          try simp only [Act.put, List.setIfInBounds_toArray, List.set_cons_zero, List.set_cons_succ]
          refine hd_take 17 (o := ⟨some 214, _, _, _, _, _⟩) (.bool true) (by kernel_rfl) (by kernel_rfl) (by kernel_rfl) rfl (by rfl) (fun W hSw => by go_simp) (fun _ _ _ h => h) HS8.out ?_
          try simp only [Act.put, List.setIfInBounds_toArray, List.set_cons_zero, List.set_cons_succ]
          refine hd_take 18 (o := ⟨some 6, _, _, _, _, _⟩) (.bool true) (by kernel_rfl) (by kernel_rfl) (by kernel_rfl) rfl (by rfl) (fun W hSw => by go_simp) (fun _ _ _ h => h) HS8.out ?_
          try simp only [Act.put, List.setIfInBounds_toArray, List.set_cons_zero, List.set_cons_succ]
          refine wpAnyH_done (by kernel_rfl) ?_ _
          clear HS8 HSt HX8 HY8 HQ8
          go_wp2
          go_ret
          exact ⟨rfl, by have h9 := HBc.out; rw [← HNw.out] at h9; exact h9⟩
end Go.Proofs.Ytoddadohmnaolaa
