import Derived.Test.YtoddadohmnaolaaFN
import Derived.Laws.StructEq
namespace Go.Proofs.Ytoddadohmnaolaa
open Go.RowKit Go.Shelf

theorem set1e {w : World} {b : Nat} {x0 x1 x2 : Value} {t : TypeId} (h : w.heap[b]? = some (.cells #[x0, x1, x2] t (0, 0))) (y : Value) : (w.setCell ⟨b, 1, none⟩ y).heap[b]? = some (.cells #[x0, y, x2] t (0, 0)) := heap_setCell_same _ b 1 _ _ y h
section
variable {w : World} {F : Nat → Prop} {T B : Nat} {rs : List (Option Er)} {last : Int}
set_option maxRecDepth 100000 in
set_option maxHeartbeats 6400000 in
theorem adds_any (h : Ns w F T B rs last) (k : Nat) (r : Er) (hr : rs[k]? = some (some r)) : Calls Try.prog 24 #[.pointer (some ⟨B, 0, none⟩), .pointer (some ⟨T, 0, none⟩), .int .i64 (k : Int)] w fun x w' => x = .returned (.bool true) ∧ Below w.heap.size w w' := by
  have hk := lv_lt h.iv.tr ⟨r, hr⟩
  have hk3 : (k : Int) < 16 := by omega
  have HI := hide (info_any w F T rs last h.et k r hr)
  have HN := hide h
  have HN0 := hide h
  have hLb := kids_len h.iv.tr (k : Int)
  have HOk := hide (fun j => acc_ok h.iv hr j)
  have HEnd := hide (acc_end h.iv hr)
  have HR := hide hr
  have HQk := hide (h.iv.q k r hr)
  clear h hr
  go_enter Try.func24, Try.ntmps24
  go_wp2_with fail
  refine HI.out.mono ?_
  rintro x1 w1 ⟨rfl, hb1⟩
  have hz : Eb (w1.alloc (.cells Er.nil.head.toArray 41)) w1.heap.size Er.nil := Eb.new _ _
  have HEb := hide (freshE_eb w1 r.told)
  have HB2 : Hid (Below w.heap.size w (freshE w1 r.told)) := hide ((hb1.trans ((freshE_below w1 r.told).mono hb1.size)))
  clear hb1 HI
  go_upto_region 2 with (refine storeE r.told ?nw _ _ rfl w1.heap.size Er.nil ?nx ?ny ?nz ?_; rotate_left 4; change wpList _ _ _ _ _ (freshE w1 r.told); generalize freshE w1 r.told = w2 at *)
  try (case nw => rfl)
  try (case nx => rfl)
  try (case ny => rfl)
  case nz => exact hz
  clear hz
  generalize w1.heap.size = M at *
  have HN2 := hide (HN.out.below HB2.out)
  have HCh := hide (childrenT_any HN2.out.et HN2.out.iv.tr.dis k ⟨r, HR.out⟩)
  clear HN
  go_wp2_with fail
  refine HCh.out.mono ?_
  rintro x2 w3 ⟨v, rfl, hv, hb3⟩
  have HE3 := hide (HEb.out.keep (hb3.block M HEb.out.lt))
  have HN3 := hide (HN2.out.below hb3)
  have HB3 := hide (HB2.out.trans (hb3.mono HB2.out.size))
  have HV3 := hide (own_low hv (Nat.zero_le _))
  obtain ⟨va, vc, rfl⟩ := own_shape hv
  have g18 : w3.cell? ⟨M, 18, none⟩ = some (.int .i64 r.le.f) := HE3.out.get (j := 18) rfl
  have g19 : w3.cell? ⟨M, 19, none⟩ = some (.int .i64 r.le.e) := HE3.out.get (j := 19) rfl
  have g20 : w3.cell? ⟨M, 20, none⟩ = some (.int .i64 r.le.x) := HE3.out.get (j := 20) rfl
  have HBl := hide (fun W => below_nn W r.le HQk.out.le)
  have HBp := hide (fun W => below_nn W r.pd HQk.out.pd)
  unfold Qt.val at HBl HBp
  clear hv hb3 HEb HN2 HB2 HCh
  generalize hLk : (kids rs (k : Int)).length = L at *
  go_wp2_with fail
  refine (HBl.out _).mono ?_
  rintro x3 w4 ⟨rfl, hb4⟩
  have HE4 := hide (HE3.out.keep (hb4.block M HE3.out.lt))
  have HN4 := hide (HN3.out.below hb4)
  have HB4 := hide (HB3.out.trans (hb4.mono HB3.out.size))
  have HV4 := hide (own_below HV3.out hb4)
  obtain ⟨p0, p1, p2⟩ := HN4.out.bq.paidc HR.out hk
  clear hb4 g18 g19 g20 HE3 HN3 HB3 HV3
  go_wp2_with fail
  refine (HBp.out _).mono ?_
  rintro x4 w5 ⟨rfl, hb5⟩
  have HE5 := hide (HE4.out.keep (hb5.block M HE4.out.lt))
  have HN5 := hide (HN4.out.below hb5)
  have HB5 := hide (HB4.out.trans (hb5.mono HB4.out.size))
  have HV5 := hide (own_below HV4.out hb5)
  clear hb5 p0 p1 p2 HE4 HN4 HB4 HV4 HBl HBp
  go_upto_region 5 with fail
  obtain ⟨w6, hw6⟩ : ∃ w6, w6 = w5.drew := ⟨_, rfl⟩
  have hb6 : Below w5.heap.size w5 w6 := by rw [hw6]; exact ⟨rfl, rfl, rfl, Nat.le_refl _, fun _ _ => rfl⟩
  have HE6 := hide (HE5.out.keep (hb6.block M HE5.out.lt))
  have HN6 := hide (HN5.out.below hb6)
  have HB6 := hide (HB5.out.trans (hb6.mono HB5.out.size))
  have HV6 := hide (own_below HV5.out hb6)
  clear hb6 HE5 HN5 HB5 HV5
  have HSt : Hid (∀ W, Eb W M r.told → Bq W B rs last → (W.cell? ⟨M, 18, none⟩ = some (.int .i64 r.le.f) ∧ W.cell? ⟨M, 19, none⟩ = some (.int .i64 r.le.e) ∧ W.cell? ⟨M, 20, none⟩ = some (.int .i64 r.le.x)) ∧ (W.cell? ⟨B, 16 + k * 3, none⟩ = some (.int .i64 r.pd.f) ∧ W.cell? ⟨B, 16 + k * 3 + 1, none⟩ = some (.int .i64 r.pd.e) ∧ W.cell? ⟨B, 16 + k * 3 + 2, none⟩ = some (.int .i64 r.pd.x))) := hide (fun W h1 h2 => ⟨⟨h1.get (j := 18) rfl, h1.get (j := 19) rfl, h1.get (j := 20) rfl⟩, h2.paidc HR.out hk⟩)
  have HS6 := hide (HSt.out w6 HE6.out HN6.out.bq)
  have HAdd := hide (fun W => addOne_any W r.le r.pd (HN6.out.iv.oks HR.out).1 (HN6.out.iv.oks HR.out).2.1)
  unfold Qt.val at HAdd
  refine wp_region_held_drew (S := fun W => (W.cell? ⟨M, 18, none⟩ = some (.int .i64 r.le.f) ∧ W.cell? ⟨M, 19, none⟩ = some (.int .i64 r.le.e) ∧ W.cell? ⟨M, 20, none⟩ = some (.int .i64 r.le.x)) ∧ (W.cell? ⟨B, 16 + k * 3, none⟩ = some (.int .i64 r.pd.f) ∧ W.cell? ⟨B, 16 + k * 3 + 1, none⟩ = some (.int .i64 r.pd.e) ∧ W.cell? ⟨B, 16 + k * 3 + 2, none⟩ = some (.int .i64 r.pd.x))) (by kernel_rfl) (by rw [← hw6]; exact HS6.out) (fun _ => ?_)
  rw [← hw6]
  clear hw6
  refine hd_take 0 (o := ⟨some 47, _, _, _, _, _⟩) (.pointer (some ⟨M, 18, none⟩)) (by kernel_rfl) (by kernel_rfl) (by kernel_rfl) rfl (by rfl) (fun W hSw => by go_simp) (fun _ _ _ h => h) HS6.out ?_
  try simp only [Act.put, List.setIfInBounds_toArray, List.set_cons_zero, List.set_cons_succ]
  refine hd_take 1 (o := ⟨some 48, _, _, _, _, _⟩) (.agg #[.int .i64 r.le.f, .int .i64 r.le.e, .int .i64 r.le.x]) (by kernel_rfl) (by kernel_rfl) (by kernel_rfl) rfl (by rfl) (fun W hSw => by obtain ⟨⟨q0, q1, q2⟩, q3, q4, q5⟩ := hSw; go_simp) (fun _ _ _ h => h) HS6.out ?_
  try simp only [Act.put, List.setIfInBounds_toArray, List.set_cons_zero, List.set_cons_succ]
  refine hd_take 2 (o := ⟨some 49, _, _, _, _, _⟩) (.pointer (some ⟨B, 0, none⟩)) (by kernel_rfl) (by kernel_rfl) (by kernel_rfl) rfl (by rfl) (fun W hSw => by go_simp) (fun _ _ _ h => h) HS6.out ?_
  try simp only [Act.put, List.setIfInBounds_toArray, List.set_cons_zero, List.set_cons_succ]
  refine hd_take 3 (o := ⟨some 50, _, _, _, _, _⟩) (.int .i64 (k : Int)) (by kernel_rfl) (by kernel_rfl) (by kernel_rfl) rfl (by rfl) (fun W hSw => by go_simp) (fun _ _ _ h => h) HS6.out ?_
  try simp only [Act.put, List.setIfInBounds_toArray, List.set_cons_zero, List.set_cons_succ]
  refine hd_take 4 (o := ⟨some 51, _, _, _, _, _⟩) (.pointer (some ⟨B, 0, none⟩)) (by kernel_rfl) (by kernel_rfl) (by kernel_rfl) rfl (by rfl) (fun W hSw => by go_simp) (fun _ _ _ h => h) HS6.out ?_
  try simp only [Act.put, List.setIfInBounds_toArray, List.set_cons_zero, List.set_cons_succ]
  refine hd_take 5 (o := ⟨some 52, _, _, _, _, _⟩) (.pointer (some ⟨B, 16, none⟩)) (by kernel_rfl) (by kernel_rfl) (by kernel_rfl) rfl (by rfl) (fun W hSw => by go_simp) (fun _ _ _ h => h) HS6.out ?_
  try simp only [Act.put, List.setIfInBounds_toArray, List.set_cons_zero, List.set_cons_succ]
  refine hd_take 6 (o := ⟨some 53, _, _, _, _, _⟩) (.pointer (some ⟨B, 16 + k * 3, none⟩)) (by kernel_rfl) (by kernel_rfl) (by kernel_rfl) rfl (by rfl) (fun W hSw => by go_simp) (fun _ _ _ h => h) HS6.out ?_
  try simp only [Act.put, List.setIfInBounds_toArray, List.set_cons_zero, List.set_cons_succ]
  refine hd_take 7 (o := ⟨some 54, _, _, _, _, _⟩) (.agg #[.int .i64 r.pd.f, .int .i64 r.pd.e, .int .i64 r.pd.x]) (by kernel_rfl) (by kernel_rfl) (by kernel_rfl) rfl (by rfl) (fun W hSw => by obtain ⟨⟨q0, q1, q2⟩, q3, q4, q5⟩ := hSw; go_simp) (fun _ _ _ h => h) HS6.out ?_
  try simp only [Act.put, List.setIfInBounds_toArray, List.set_cons_zero, List.set_cons_succ]
  refine hd_two 8 9 (o1 := ⟨some 55, _, _, _, _, _⟩) (o2 := ⟨some 11, _, _, _, _, _⟩) (by kernel_rfl) rfl rfl (by rfl) (by rfl) (fun K hK => ?_) (fun K hK => ?_)
  · go_simp
    go_wp2_with (go_at_call 22; refine (HAdd.out _).mono ?_; rintro e1 w7 ⟨rfl, hb7⟩)
    have HE7 := hide (HE6.out.keep (hb7.block M HE6.out.lt))
    have HN7 := hide (HN6.out.below hb7)
    have HB7 := hide (HB6.out.trans (hb7.mono HB6.out.size))
    have HV7 := hide (own_below HV6.out hb7)
    have HS7 := hide (HSt.out w7 HE7.out HN7.out.bq)
    clear hb7
    clear HE6 HN6 HB6 HV6 HS6
    refine hK _ _ HS7.out ?_
    clear hK K
    try simp only [Act.put, List.setIfInBounds_toArray, List.set_cons_zero, List.set_cons_succ]
    refine hd_call 9 (o := ⟨some 11, _, _, _, _, _⟩) (by kernel_rfl) rfl (by rfl) (fun K hK => ?_)
    have hb8 := (Below.refl w7.heap.size w7).alloc (Nat.le_refl _) (.cells #[.int .i64 0, .int .i64 0, .int .i64 0] 39)
    have a8 := heap_alloc_new w7 (.cells #[.int .i64 0, .int .i64 0, .int .i64 0] 39)
    have HE8 := hide (HE7.out.keep (hb8.block M HE7.out.lt))
    have HN8 := hide (HN7.out.below hb8)
    have HP : Hid (w.heap.size ≤ w7.heap.size) := hide HB7.out.size
    have HB8 := hide (HB7.out.trans (hb8.mono HB7.out.size))
    have HKg : Hid (∀ b, (Value.slice va L vc).ownBlock = some b → b ≠ w7.heap.size) := hide (fun b e9 => by have := (World.ownsRow.lt HV7.out b e9).2; omega)
    have HMP : Hid (M ≠ w7.heap.size) := hide (fun e9 => by have := HE7.out.lt; omega)
    have HV8 := hide (own_below HV7.out hb8)
    have HS8 := hide (HSt.out _ HE8.out HN8.out.bq)
    go_simp
    refine hK _ _ HS8.out ?_
    clear hK K
    generalize w7.alloc (.cells #[.int .i64 0, .int .i64 0, .int .i64 0] 39) = w8 at *
    obtain ⟨P, hP⟩ : ∃ P, w7.heap.size = P := ⟨_, rfl⟩
    rw [hP] at a8 HP HKg HMP ⊢
    have HC8 := hide a8
    clear hP hb8 a8
    try simp only [Act.put, List.setIfInBounds_toArray, List.set_cons_zero, List.set_cons_succ]
    clear HE7 HN7 HB7 HV7 HS7
    refine hd_call 10 (o := ⟨none, _, _, _, _, _⟩) (by kernel_rfl) rfl (by rfl) (fun K hK => ?_)
    have HB9 : Hid (Below w.heap.size w (((w8.setCell ⟨P, 0, none⟩ (.int .i64 (r.le.plus r.pd).f)).setCell ⟨P, 1, none⟩ (.int .i64 (r.le.plus r.pd).e)).setCell ⟨P, 2, none⟩ (.int .i64 (r.le.plus r.pd).x))) := hide (((HB8.out.setCell (p := ⟨P, 0, none⟩) HP.out _).setCell (p := ⟨P, 1, none⟩) HP.out _).setCell (p := ⟨P, 2, none⟩) HP.out _)
    have HE9 : Hid (Eb (((w8.setCell ⟨P, 0, none⟩ (.int .i64 (r.le.plus r.pd).f)).setCell ⟨P, 1, none⟩ (.int .i64 (r.le.plus r.pd).e)).setCell ⟨P, 2, none⟩ (.int .i64 (r.le.plus r.pd).x)) M r.told) := hide (HE8.out.keep (by rw [heap_setCell_other _ _ _ _ HMP.out, heap_setCell_other _ _ _ _ HMP.out, heap_setCell_other _ _ _ _ HMP.out]))
    have HN9 := hide (HN0.out.below HB9.out)
    have HS9 := hide (HSt.out (((w8.setCell ⟨P, 0, none⟩ (.int .i64 (r.le.plus r.pd).f)).setCell ⟨P, 1, none⟩ (.int .i64 (r.le.plus r.pd).e)).setCell ⟨P, 2, none⟩ (.int .i64 (r.le.plus r.pd).x)) HE9.out HN9.out.bq)
    have HC9 : Hid ((((w8.setCell ⟨P, 0, none⟩ (.int .i64 (r.le.plus r.pd).f)).setCell ⟨P, 1, none⟩ (.int .i64 (r.le.plus r.pd).e)).setCell ⟨P, 2, none⟩ (.int .i64 (r.le.plus r.pd).x)).heap[P]? = some (.cells #[.int .i64 (acc rs k r 0).f, .int .i64 (acc rs k r 0).e, .int .i64 (acc rs k r 0).x] 39 (0, 0))) := by rw [acc_zero]; exact hide (set3 HC8.out _ _ _)
    have HRow : Hid (∀ j c : Nat, (kids rs (k : Int))[j]? = some c → ∃ kg, va = some ⟨kg, 0, none⟩ ∧ kg ≠ P ∧ kg < (((w8.setCell ⟨P, 0, none⟩ (.int .i64 (r.le.plus r.pd).f)).setCell ⟨P, 1, none⟩ (.int .i64 (r.le.plus r.pd).e)).setCell ⟨P, 2, none⟩ (.int .i64 (r.le.plus r.pd).x)).heap.size ∧ (((w8.setCell ⟨P, 0, none⟩ (.int .i64 (r.le.plus r.pd).f)).setCell ⟨P, 1, none⟩ (.int .i64 (r.le.plus r.pd).e)).setCell ⟨P, 2, none⟩ (.int .i64 (r.le.plus r.pd).x)).cell? ⟨kg, j, none⟩ = some (.int .i64 (c : Int))) := hide (fun j c hc => by
      have h9 := HV8.out
      obtain ⟨_, ⟨h0, _⟩ | ⟨g, cp, cur, h0, _⟩⟩ := HV8.out
      · injection h0 with _ h8 _
        have := (List.getElem?_eq_some_iff.1 hc).1
        omega
      · cases h0
        have hg := HKg.out g rfl
        have h7 := World.ownsRow.cells h9 rfl j (.int .i64 (c : Int)) (by simp [numN, hc])
        rw [add0] at h7
        have h6 : (((w8.setCell ⟨P, 0, none⟩ (.int .i64 (r.le.plus r.pd).f)).setCell ⟨P, 1, none⟩ (.int .i64 (r.le.plus r.pd).e)).setCell ⟨P, 2, none⟩ (.int .i64 (r.le.plus r.pd).x)).cell? ⟨g, j, none⟩ = some (.int .i64 (c : Int)) := by
          rw [World.cell?_of_block (heap_setCell_other _ _ _ _ hg), World.cell?_of_block (heap_setCell_other _ _ _ _ hg), World.cell?_of_block (heap_setCell_other _ _ _ _ hg)]
          exact h7
        exact ⟨g, rfl, hg, World.block_lt_of_cell? _ _ h6, h6⟩)
    obtain ⟨c0, c1, c2, f0, f1, f2⟩ := blk3 HC8.out
    go_simp
    refine hK _ _ HS9.out ?_
    clear hK K
    refine wpAnyH_done (by kernel_rfl) ?_ _
    clear c0 c1 c2 f0 f1 f2 HC8 HE8 HN8 HB8 HV8 HS8 HS9 HN9 HSt HAdd HKg
    generalize (((w8.setCell ⟨P, 0, none⟩ (.int .i64 (r.le.plus r.pd).f)).setCell ⟨P, 1, none⟩ (.int .i64 (r.le.plus r.pd).e)).setCell ⟨P, 2, none⟩ (.int .i64 (r.le.plus r.pd).x)) = w9 at *
    have HW : Hid (∀ W, At w9 P W → Below w.heap.size w W) := hide (fun W h9 => ⟨h9.os.trans HB9.out.os, h9.tape.trans HB9.out.tape, h9.output.trans HB9.out.output, Nat.le_trans HB9.out.size h9.size, fun b hb => (h9.block b (Nat.lt_of_lt_of_le hb HB9.out.size) (by have := HP.out; omega)).trans (HB9.out.block b hb)⟩)
    clear HB9
    go_upto_region 7 with fail
    go_loopw [12] (fun x wr => ∃ j : Nat, j ≤ L ∧ x = .int .i64 (j : Int) ∧ Hid (wr.heap[P]? = some (.cells #[.int .i64 (acc rs k r j).f, .int .i64 (acc rs k r j).e, .int .i64 (acc rs k r j).x] 39 (0, 0))) ∧ Hid (At w9 P wr)) (fun x _ => L - (intOf x).toNat)
    case atStart => exact ⟨0, by omega, rfl, HC9, At.refl _ _⟩
    case round =>
    clear HC9
    obtain ⟨j, hj, rfl, KP, KA⟩ := hrel
    by_cases hlt : j < L
    · have hd : decide ((j : Int) < (L : Int)) = true := by simp; omega
      have hj3 : (j : Int) < (L : Int) := by omega
      obtain ⟨c, hc⟩ : ∃ c, (kids rs (k : Int))[j]? = some c := ⟨_, List.getElem?_eq_getElem (by omega)⟩
      obtain ⟨kg, rfl, hgP, hgl, hgc⟩ := HRow.out j c hc
      obtain ⟨rc, hrc, hpa⟩ := kids_at (List.mem_of_getElem? hc)
      have HNr := hide (HN0.out.below (HW.out wr KA.out))
      have HIr := hide (info_any wr F T rs last HNr.out.et c rc hrc)
      have cj : wr.cell? ⟨kg, j, none⟩ = some (.int .i64 (c : Int)) := by
        rw [World.cell?_of_block (KA.out.block kg hgl hgP)]; exact hgc
      have hs1 := HOk.out j
      have hs2 := (HNr.out.iv.oks hrc).2.2
      have hst := acc_step (r := r) hc hrc
      obtain ⟨s1, hs1e⟩ : ∃ s, s = acc rs k r j := ⟨_, rfl⟩
      obtain ⟨s2, hs2e⟩ : ∃ s, s = s1.plus rc.qu := ⟨_, rfl⟩
      rw [← hs1e] at KP hst hs1
      rw [← hs2e] at hst
      have HQ12 := hide (And.intro hs1 hs2)
      have HS2e := hide hs2e
      have hb0 : -9223372036854775808 ≤ s2.e + 1 ∧ s2.e + 1 ≤ 9223372036854775807 := by
        obtain ⟨_, ⟨q1, q2⟩, _⟩ := hs1
        obtain ⟨_, ⟨q3, q4⟩, _⟩ := hs2
        rw [hs2e]
        simp only [Qt.plus]
        omega
      obtain ⟨hbl, hbu⟩ := hb0
      have HSt2 : Hid (acc rs k r (j + 1) = ⟨s2.f, s2.e + 1, s2.x⟩) := hide (by rw [hst]; simp [Qt.plus, Qt.one])
      have HPa := hide hpa
      clear hs1 hs2 hst hs1e hs2e hc hrc hgc HNr hpa HRow
      go_wp2_with fail
      refine HIr.out.mono ?_
      rintro x1 u1 ⟨rfl, hb1⟩
      have hz : Eb (u1.alloc (.cells Er.nil.head.toArray 41)) u1.heap.size Er.nil := Eb.new _ _
      have HY := hide (freshE_eb u1 rc.told)
      have hb2 := hb1.trans ((freshE_below u1 rc.told).mono hb1.size)
      have HB2 := hide hb2
      clear hb1 hb2 HIr cj
      go_upto_region 10 with (refine storeE rc.told ?mw1 _ _ rfl u1.heap.size Er.nil ?mx1 ?my1 ?mz1 ?_; rotate_left 4; change wpList _ _ _ _ _ (freshE u1 rc.told); generalize freshE u1 rc.told = u2 at *)
      try (case mw1 => rfl)
      try (case mx1 => rfl)
      try (case my1 => rfl)
      try (case mz1 => exact hz)
      clear hz
      generalize u1.heap.size = Y at *
      have KP2 := hide ((HB2.out.block P (Array.getElem?_eq_some_iff.1 KP.out).1).trans KP.out)
      have KA2 := hide (KA.out.below HB2.out)
      clear HB2 KP KA
      have y1 : u2.cell? ⟨Y, 1, none⟩ = some (.int .i64 (k : Int)) := by rw [← HPa.out]; exact HY.out.get (j := 1) rfl
      have y15 : u2.cell? ⟨Y, 15, none⟩ = some (.int .i64 rc.qu.f) := HY.out.get (j := 15) rfl
      have y16 : u2.cell? ⟨Y, 16, none⟩ = some (.int .i64 rc.qu.e) := HY.out.get (j := 16) rfl
      have y17 : u2.cell? ⟨Y, 17, none⟩ = some (.int .i64 rc.qu.x) := HY.out.get (j := 17) rfl
      obtain ⟨c0, c1, c2, f0, f1, f2⟩ := blk3 KP2.out
      have HAd := hide (fun W => addOne_any W s1 rc.qu HQ12.out.1 HQ12.out.2)
      unfold Qt.val at HAd
      simp only [← HS2e.out] at HAd
      clear HQ12 HS2e
      go_wp2_with fail
      refine (HAd.out _).mono ?_
      rintro x2 u3 ⟨rfl, hb3⟩
      have KP3 := hide ((hb3.block P (Array.getElem?_eq_some_iff.1 KP2.out).1).trans KP2.out)
      have KA3 := hide (KA2.out.below hb3)
      clear hb3 c0 c1 c2 f0 f1 f2 y1 y15 y16 y17 HY KP2 KA2 HAd
      obtain ⟨c0, c1, c2, f0, f1, f2⟩ := blk3 KP3.out
      have KP4 := hide (set3 KP3.out (.int .i64 s2.f) (.int .i64 s2.e) (.int .i64 s2.x))
      have KA4 := hide (((KA3.out.set 0 (.int .i64 s2.f)).set 1 (.int .i64 s2.e)).set 2 (.int .i64 s2.x))
      go_upto_region 13 with fail
      clear c0 c1 c2 f0 f1 f2 KP3 KA3
      generalize (((u3.setCell ⟨P, 0, none⟩ (.int .i64 s2.f)).setCell ⟨P, 1, none⟩ (.int .i64 s2.e)).setCell ⟨P, 2, none⟩ (.int .i64 s2.x)) = u4 at *
      obtain ⟨c0, c1, c2, f0, f1, f2⟩ := blk3 KP4.out
      have K1 : Hid ((u4.setCell ⟨P, 1, none⟩ (.int .i64 (s2.e + 1))).heap[P]? = some (.cells #[.int .i64 (acc rs k r (j + 1)).f, .int .i64 (acc rs k r (j + 1)).e, .int .i64 (acc rs k r (j + 1)).x] 39 (0, 0))) := by
        rw [HSt2.out]; exact hide (set1e KP4.out _)
      have K2 := hide (KA4.out.set 1 (.int .i64 (s2.e + 1)))
      go_wp2
      go_roundw
      case rel =>
        first
          | exact ⟨j + 1, by omega, by go_num, K1, K2⟩
          | ((repeat apply Exists.intro); refine ⟨?_, rfl⟩; exact ⟨j + 1, by omega, by go_num, K1, K2⟩)
      case measure => simp [intOf]; omega
    · obtain rfl : j = L := by omega
      have hd : decide ((j : Int) < (j : Int)) = false := by simp
      have HF := hide (HW.out wr KA.out)
      have HEr := hide (HE9.out.keep (KA.out.block M HE9.out.lt HMP.out))
      have KQ := KP.out
      rw [HEnd.out] at KQ
      obtain ⟨c0, c1, c2, f0, f1, f2⟩ := blk3 KQ
      have m15 : wr.cell? ⟨M, 15, none⟩ = some (.int .i64 r.qu.f) := HEr.out.get (j := 15) rfl
      have m16 : wr.cell? ⟨M, 16, none⟩ = some (.int .i64 r.qu.e) := HEr.out.get (j := 16) rfl
      have m17 : wr.cell? ⟨M, 17, none⟩ = some (.int .i64 r.qu.x) := HEr.out.get (j := 17) rfl
      clear KP KA KQ HEr HW HRow HE9 HOk HEnd hLk
      go_wp2
      go_ret
      exact ⟨by simp, HF.out⟩
  · have hb7 := (Below.refl w6.heap.size w6).alloc (Nat.le_refl _) (.cells #[.int .i64 0, .int .i64 0, .int .i64 0] 39)
    have a7 := heap_alloc_new w6 (.cells #[.int .i64 0, .int .i64 0, .int .i64 0] 39)
    have HE7 := hide (HE6.out.keep (hb7.block M HE6.out.lt))
    have HN7 := hide (HN6.out.below hb7)
    have HP : Hid (w.heap.size ≤ w6.heap.size) := hide HB6.out.size
    have HB7 := hide (HB6.out.trans (hb7.mono HB6.out.size))
    have HKg : Hid (∀ b, (Value.slice va L vc).ownBlock = some b → b ≠ w6.heap.size) := hide (fun b e9 => by have := (World.ownsRow.lt HV6.out b e9).2; omega)
    have HMP : Hid (M ≠ w6.heap.size) := hide (fun e9 => by have := HE6.out.lt; omega)
    have HV7 := hide (own_below HV6.out hb7)
    have HS7 := hide (HSt.out _ HE7.out HN7.out.bq)
    go_simp
    refine hK _ _ HS7.out ?_
    clear hK K
    generalize w6.alloc (.cells #[.int .i64 0, .int .i64 0, .int .i64 0] 39) = w7 at *
    obtain ⟨P, hP⟩ : ∃ P, w6.heap.size = P := ⟨_, rfl⟩
    rw [hP] at a7 HP HKg HMP ⊢
    have HC7 := hide a7
    clear hP hb7 a7
    try simp only [Act.put, List.setIfInBounds_toArray, List.set_cons_zero, List.set_cons_succ]
    clear HE6 HN6 HB6 HV6 HS6
    refine hd_call 8 (o := ⟨some 55, _, _, _, _, _⟩) (by kernel_rfl) rfl (by rfl) (fun K hK => ?_)
    go_simp
    go_wp2_with (go_at_call 22; refine (HAdd.out _).mono ?_; rintro e1 w8 ⟨rfl, hb8⟩)
    have HE8 := hide (HE7.out.keep (hb8.block M HE7.out.lt))
    have HN8 := hide (HN7.out.below hb8)
    have HB8 := hide (HB7.out.trans (hb8.mono HB7.out.size))
    have HV8 := hide (own_below HV7.out hb8)
    have HS8 := hide (HSt.out w8 HE8.out HN8.out.bq)
    have HC8 := hide ((hb8.block P (Array.getElem?_eq_some_iff.1 HC7.out).1).trans HC7.out)
    clear hb8 HC7
    clear HE7 HN7 HB7 HV7 HS7
    refine hK _ _ HS8.out ?_
    clear hK K
    try simp only [Act.put, List.setIfInBounds_toArray, List.set_cons_zero, List.set_cons_succ]
    refine hd_call 10 (o := ⟨none, _, _, _, _, _⟩) (by kernel_rfl) rfl (by rfl) (fun K hK => ?_)
    have HB9 : Hid (Below w.heap.size w (((w8.setCell ⟨P, 0, none⟩ (.int .i64 (r.le.plus r.pd).f)).setCell ⟨P, 1, none⟩ (.int .i64 (r.le.plus r.pd).e)).setCell ⟨P, 2, none⟩ (.int .i64 (r.le.plus r.pd).x))) := hide (((HB8.out.setCell (p := ⟨P, 0, none⟩) HP.out _).setCell (p := ⟨P, 1, none⟩) HP.out _).setCell (p := ⟨P, 2, none⟩) HP.out _)
    have HE9 : Hid (Eb (((w8.setCell ⟨P, 0, none⟩ (.int .i64 (r.le.plus r.pd).f)).setCell ⟨P, 1, none⟩ (.int .i64 (r.le.plus r.pd).e)).setCell ⟨P, 2, none⟩ (.int .i64 (r.le.plus r.pd).x)) M r.told) := hide (HE8.out.keep (by rw [heap_setCell_other _ _ _ _ HMP.out, heap_setCell_other _ _ _ _ HMP.out, heap_setCell_other _ _ _ _ HMP.out]))
    have HN9 := hide (HN0.out.below HB9.out)
    have HS9 := hide (HSt.out (((w8.setCell ⟨P, 0, none⟩ (.int .i64 (r.le.plus r.pd).f)).setCell ⟨P, 1, none⟩ (.int .i64 (r.le.plus r.pd).e)).setCell ⟨P, 2, none⟩ (.int .i64 (r.le.plus r.pd).x)) HE9.out HN9.out.bq)
    have HC9 : Hid ((((w8.setCell ⟨P, 0, none⟩ (.int .i64 (r.le.plus r.pd).f)).setCell ⟨P, 1, none⟩ (.int .i64 (r.le.plus r.pd).e)).setCell ⟨P, 2, none⟩ (.int .i64 (r.le.plus r.pd).x)).heap[P]? = some (.cells #[.int .i64 (acc rs k r 0).f, .int .i64 (acc rs k r 0).e, .int .i64 (acc rs k r 0).x] 39 (0, 0))) := by rw [acc_zero]; exact hide (set3 HC8.out _ _ _)
    have HRow : Hid (∀ j c : Nat, (kids rs (k : Int))[j]? = some c → ∃ kg, va = some ⟨kg, 0, none⟩ ∧ kg ≠ P ∧ kg < (((w8.setCell ⟨P, 0, none⟩ (.int .i64 (r.le.plus r.pd).f)).setCell ⟨P, 1, none⟩ (.int .i64 (r.le.plus r.pd).e)).setCell ⟨P, 2, none⟩ (.int .i64 (r.le.plus r.pd).x)).heap.size ∧ (((w8.setCell ⟨P, 0, none⟩ (.int .i64 (r.le.plus r.pd).f)).setCell ⟨P, 1, none⟩ (.int .i64 (r.le.plus r.pd).e)).setCell ⟨P, 2, none⟩ (.int .i64 (r.le.plus r.pd).x)).cell? ⟨kg, j, none⟩ = some (.int .i64 (c : Int))) := hide (fun j c hc => by
      have h9 := HV8.out
      obtain ⟨_, ⟨h0, _⟩ | ⟨g, cp, cur, h0, _⟩⟩ := HV8.out
      · injection h0 with _ h8 _
        have := (List.getElem?_eq_some_iff.1 hc).1
        omega
      · cases h0
        have hg := HKg.out g rfl
        have h7 := World.ownsRow.cells h9 rfl j (.int .i64 (c : Int)) (by simp [numN, hc])
        rw [add0] at h7
        have h6 : (((w8.setCell ⟨P, 0, none⟩ (.int .i64 (r.le.plus r.pd).f)).setCell ⟨P, 1, none⟩ (.int .i64 (r.le.plus r.pd).e)).setCell ⟨P, 2, none⟩ (.int .i64 (r.le.plus r.pd).x)).cell? ⟨g, j, none⟩ = some (.int .i64 (c : Int)) := by
          rw [World.cell?_of_block (heap_setCell_other _ _ _ _ hg), World.cell?_of_block (heap_setCell_other _ _ _ _ hg), World.cell?_of_block (heap_setCell_other _ _ _ _ hg)]
          exact h7
        exact ⟨g, rfl, hg, World.block_lt_of_cell? _ _ h6, h6⟩)
    obtain ⟨c0, c1, c2, f0, f1, f2⟩ := blk3 HC8.out
    go_simp
    refine hK _ _ HS9.out ?_
    clear hK K
    refine wpAnyH_done (by kernel_rfl) ?_ _
    clear c0 c1 c2 f0 f1 f2 HC8 HE8 HN8 HB8 HV8 HS8 HS9 HN9 HSt HAdd HKg
    generalize (((w8.setCell ⟨P, 0, none⟩ (.int .i64 (r.le.plus r.pd).f)).setCell ⟨P, 1, none⟩ (.int .i64 (r.le.plus r.pd).e)).setCell ⟨P, 2, none⟩ (.int .i64 (r.le.plus r.pd).x)) = w9 at *
    have HW : Hid (∀ W, At w9 P W → Below w.heap.size w W) := hide (fun W h9 => ⟨h9.os.trans HB9.out.os, h9.tape.trans HB9.out.tape, h9.output.trans HB9.out.output, Nat.le_trans HB9.out.size h9.size, fun b hb => (h9.block b (Nat.lt_of_lt_of_le hb HB9.out.size) (by have := HP.out; omega)).trans (HB9.out.block b hb)⟩)
    clear HB9
    go_upto_region 7 with fail
    go_loopw [12] (fun x wr => ∃ j : Nat, j ≤ L ∧ x = .int .i64 (j : Int) ∧ Hid (wr.heap[P]? = some (.cells #[.int .i64 (acc rs k r j).f, .int .i64 (acc rs k r j).e, .int .i64 (acc rs k r j).x] 39 (0, 0))) ∧ Hid (At w9 P wr)) (fun x _ => L - (intOf x).toNat)
    case atStart => exact ⟨0, by omega, rfl, HC9, At.refl _ _⟩
    case round =>
    clear HC9
    obtain ⟨j, hj, rfl, KP, KA⟩ := hrel
    by_cases hlt : j < L
    · have hd : decide ((j : Int) < (L : Int)) = true := by simp; omega
      have hj3 : (j : Int) < (L : Int) := by omega
      obtain ⟨c, hc⟩ : ∃ c, (kids rs (k : Int))[j]? = some c := ⟨_, List.getElem?_eq_getElem (by omega)⟩
      obtain ⟨kg, rfl, hgP, hgl, hgc⟩ := HRow.out j c hc
      obtain ⟨rc, hrc, hpa⟩ := kids_at (List.mem_of_getElem? hc)
      have HNr := hide (HN0.out.below (HW.out wr KA.out))
      have HIr := hide (info_any wr F T rs last HNr.out.et c rc hrc)
      have cj : wr.cell? ⟨kg, j, none⟩ = some (.int .i64 (c : Int)) := by
        rw [World.cell?_of_block (KA.out.block kg hgl hgP)]; exact hgc
      have hs1 := HOk.out j
      have hs2 := (HNr.out.iv.oks hrc).2.2
      have hst := acc_step (r := r) hc hrc
      obtain ⟨s1, hs1e⟩ : ∃ s, s = acc rs k r j := ⟨_, rfl⟩
      obtain ⟨s2, hs2e⟩ : ∃ s, s = s1.plus rc.qu := ⟨_, rfl⟩
      rw [← hs1e] at KP hst hs1
      rw [← hs2e] at hst
      have HQ12 := hide (And.intro hs1 hs2)
      have HS2e := hide hs2e
      have hb0 : -9223372036854775808 ≤ s2.e + 1 ∧ s2.e + 1 ≤ 9223372036854775807 := by
        obtain ⟨_, ⟨q1, q2⟩, _⟩ := hs1
        obtain ⟨_, ⟨q3, q4⟩, _⟩ := hs2
        rw [hs2e]
        simp only [Qt.plus]
        omega
      obtain ⟨hbl, hbu⟩ := hb0
      have HSt2 : Hid (acc rs k r (j + 1) = ⟨s2.f, s2.e + 1, s2.x⟩) := hide (by rw [hst]; simp [Qt.plus, Qt.one])
      have HPa := hide hpa
      clear hs1 hs2 hst hs1e hs2e hc hrc hgc HNr hpa HRow
      go_wp2_with fail
      refine HIr.out.mono ?_
      rintro x1 u1 ⟨rfl, hb1⟩
      have hz : Eb (u1.alloc (.cells Er.nil.head.toArray 41)) u1.heap.size Er.nil := Eb.new _ _
      have HY := hide (freshE_eb u1 rc.told)
      have hb2 := hb1.trans ((freshE_below u1 rc.told).mono hb1.size)
      have HB2 := hide hb2
      clear hb1 hb2 HIr cj
      go_upto_region 10 with (refine storeE rc.told ?mw2 _ _ rfl u1.heap.size Er.nil ?mx2 ?my2 ?mz2 ?_; rotate_left 4; change wpList _ _ _ _ _ (freshE u1 rc.told); generalize freshE u1 rc.told = u2 at *)
      try (case mw2 => rfl)
      try (case mx2 => rfl)
      try (case my2 => rfl)
      try (case mz2 => exact hz)
      clear hz
      generalize u1.heap.size = Y at *
      have KP2 := hide ((HB2.out.block P (Array.getElem?_eq_some_iff.1 KP.out).1).trans KP.out)
      have KA2 := hide (KA.out.below HB2.out)
      clear HB2 KP KA
      have y1 : u2.cell? ⟨Y, 1, none⟩ = some (.int .i64 (k : Int)) := by rw [← HPa.out]; exact HY.out.get (j := 1) rfl
      have y15 : u2.cell? ⟨Y, 15, none⟩ = some (.int .i64 rc.qu.f) := HY.out.get (j := 15) rfl
      have y16 : u2.cell? ⟨Y, 16, none⟩ = some (.int .i64 rc.qu.e) := HY.out.get (j := 16) rfl
      have y17 : u2.cell? ⟨Y, 17, none⟩ = some (.int .i64 rc.qu.x) := HY.out.get (j := 17) rfl
      obtain ⟨c0, c1, c2, f0, f1, f2⟩ := blk3 KP2.out
      have HAd := hide (fun W => addOne_any W s1 rc.qu HQ12.out.1 HQ12.out.2)
      unfold Qt.val at HAd
      simp only [← HS2e.out] at HAd
      clear HQ12 HS2e
      go_wp2_with fail
      refine (HAd.out _).mono ?_
      rintro x2 u3 ⟨rfl, hb3⟩
      have KP3 := hide ((hb3.block P (Array.getElem?_eq_some_iff.1 KP2.out).1).trans KP2.out)
      have KA3 := hide (KA2.out.below hb3)
      clear hb3 c0 c1 c2 f0 f1 f2 y1 y15 y16 y17 HY KP2 KA2 HAd
      obtain ⟨c0, c1, c2, f0, f1, f2⟩ := blk3 KP3.out
      have KP4 := hide (set3 KP3.out (.int .i64 s2.f) (.int .i64 s2.e) (.int .i64 s2.x))
      have KA4 := hide (((KA3.out.set 0 (.int .i64 s2.f)).set 1 (.int .i64 s2.e)).set 2 (.int .i64 s2.x))
      go_upto_region 13 with fail
      clear c0 c1 c2 f0 f1 f2 KP3 KA3
      generalize (((u3.setCell ⟨P, 0, none⟩ (.int .i64 s2.f)).setCell ⟨P, 1, none⟩ (.int .i64 s2.e)).setCell ⟨P, 2, none⟩ (.int .i64 s2.x)) = u4 at *
      obtain ⟨c0, c1, c2, f0, f1, f2⟩ := blk3 KP4.out
      have K1 : Hid ((u4.setCell ⟨P, 1, none⟩ (.int .i64 (s2.e + 1))).heap[P]? = some (.cells #[.int .i64 (acc rs k r (j + 1)).f, .int .i64 (acc rs k r (j + 1)).e, .int .i64 (acc rs k r (j + 1)).x] 39 (0, 0))) := by
        rw [HSt2.out]; exact hide (set1e KP4.out _)
      have K2 := hide (KA4.out.set 1 (.int .i64 (s2.e + 1)))
      go_wp2
      go_roundw
      case rel =>
        first
          | exact ⟨j + 1, by omega, by go_num, K1, K2⟩
          | ((repeat apply Exists.intro); refine ⟨?_, rfl⟩; exact ⟨j + 1, by omega, by go_num, K1, K2⟩)
      case measure => simp [intOf]; omega
    · obtain rfl : j = L := by omega
      have hd : decide ((j : Int) < (j : Int)) = false := by simp
      have HF := hide (HW.out wr KA.out)
      have HEr := hide (HE9.out.keep (KA.out.block M HE9.out.lt HMP.out))
      have KQ := KP.out
      rw [HEnd.out] at KQ
      obtain ⟨c0, c1, c2, f0, f1, f2⟩ := blk3 KQ
      have m15 : wr.cell? ⟨M, 15, none⟩ = some (.int .i64 r.qu.f) := HEr.out.get (j := 15) rfl
      have m16 : wr.cell? ⟨M, 16, none⟩ = some (.int .i64 r.qu.e) := HEr.out.get (j := 16) rfl
      have m17 : wr.cell? ⟨M, 17, none⟩ = some (.int .i64 r.qu.x) := HEr.out.get (j := 17) rfl
      clear KP KA KQ HEr HW HRow HE9 HOk HEnd hLk
      go_wp2
      go_ret
      exact ⟨by simp, HF.out⟩
end
end Go.Proofs.Ytoddadohmnaolaa
