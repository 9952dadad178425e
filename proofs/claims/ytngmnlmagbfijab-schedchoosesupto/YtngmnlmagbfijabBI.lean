import Derived.Test.YtngmnlmagbfijabBH
namespace Go.Proofs.Ytngmnlmagbfijab
open Go.RowKit
/-- the weights when so many were gone through -/
def admF (f : Int → Option Int) (R : List Int) : Int → Option Int := fun k => if k ∈ R then some ((f k).getD 1) else f k
theorem admF_snoc1 (f : Int → Option Int) (R : List Int) (k : Int) (hk : k ∉ R) (h : (admF f R k).isSome = false) : (fun c => if c = k then some 1 else admF f R c) = admF f (R ++ [k]) := by
  funext c
  unfold admF at h ⊢
  rw [if_neg hk] at h
  by_cases hc : c = k
  · subst hc
    simp at h
    simp [h]
  · by_cases hR : c ∈ R <;> simp [hc, hR]
theorem admF_snoc2 (f : Int → Option Int) (R : List Int) (k : Int) (hk : k ∉ R) (h : (admF f R k).isSome = true) : admF f R = admF f (R ++ [k]) := by
  funext c
  unfold admF at h ⊢
  rw [if_neg hk] at h
  by_cases hc : c = k
  · subst hc
    obtain ⟨u, hu⟩ := Option.isSome_iff_exists.1 h
    simp [hk, hu]
  · by_cases hR : c ∈ R <;> simp [hc, hR]
theorem admF_eq (s : Pl) (R : List Int) : admF s.wt R = admW s R := rfl
theorem mayF_ok {zs : List Int} (h : mayF (srt zs) = 0) : srt zs ≠ [] ∧ (srt zs).Nodup ∧ ∀ k ∈ srt zs, 1 ≤ k := by
  unfold mayF at h
  by_cases h1 : srt zs = []
  · rw [if_pos h1] at h; omega
  rw [if_neg h1] at h
  by_cases h2 : (srt zs).headD 0 < 1
  · rw [if_pos h2] at h; omega
  rw [if_neg h2] at h
  by_cases h3 : (srt zs).Nodup
  · refine ⟨h1, h3, fun k hk => ?_⟩
    have h4 := srt_le zs
    rw [← head_tail h1] at h4 hk
    rw [List.pairwise_cons] at h4
    rw [List.mem_cons] at hk
    rcases hk with rfl | hk
    · omega
    · have := h4.1 k hk; omega
  · rw [if_neg h3] at h; omega
theorem nextP_wt (s : Pl) (R : List Int) : (nextP s R).wt = admW s R := by
  unfold nextP
  split
  · rfl
  split
  · rfl
  · rfl
theorem next_fin {w w2 wr w5 : World} {X : Nat → Prop} {g m q n zl : Nat} {s : Pl} {R : List Int} {e : Ending} (hB : Below w.heap.size w w2) (hP : PlM w2 X g m q n s) (hD : Mod (fun b => b = m) w2 wr) (hM : Mp wr m (n + zl) (admW s R)) (hC : ChP wr.drew X g m q n s R e w5) (hR : R.length = zl) (h1 : 1 ≤ zl) (hRb : ∀ k ∈ R, 1 ≤ k ∧ k ≤ 9223372036854775807) :
    ∃ X', PlAt w5 X' g (n + zl) (nextP s R) ∧ Ext X w X' w5 := by
  obtain ⟨_, X', hx1, hx2, hx3, hx4, hx5⟩ := hC
  have hgm := hP.wts.ne hP.top
  have hne : R ≠ [] := fun e => by rw [e] at hR; simp at hR; omega
  rw [hR] at hx4
  refine ⟨X', ⟨m, q, ?_, ?_, hx4, hx1 g hP.xg, hx1 m hP.xm, hx1 q hP.xq, hx3, (hP.ok.next hRb hne).mono (by omega)⟩, ⟨?_, fun b hb => ?_⟩⟩
  · rw [nextP_kind]
    have h2 := hx5.block g (Nat.lt_of_lt_of_le (hP.lt g hP.xg) hD.size) (fun h => h.2.1 rfl)
    rw [h2]
    show wr.heap[g]? = _
    rw [hD.block g (hP.lt g hP.xg) hgm]
    exact hP.top
  · rw [nextP_wt]
    exact hM.keep (hx5.block m hM.lt (fun h => h.2.2 rfl))
  · exact ((Mod.of_below hB).trans (hD.mono (fun b hb => by subst hb; exact hP.xm))).trans ((Mod.refl X wr).drew.trans (hx5.mono (fun b hb => hb.1)))
  · rcases hx2 b hb with h | h
    · exact .inl h
    · right
      have h2 : wr.heap.size ≤ b := h
      have := hD.size
      have := hB.size
      omega
section
variable (w : World)
set_option maxRecDepth 100000 in
set_option maxHeartbeats 4000000 in
theorem Next_any (g n : Nat) (X S : Nat → Prop) (s : Pl) (hP : PlAt w X g n s) (v : Value) (zs : List Int) (hR : Rd S w v zs) (hS : ∀ b, S b → b < w.heap.size) (hl : zs.length ≤ 1048576) (hz : ∀ z ∈ zs, I64 z) (hn : n ≤ 2097152) :
    Calls Try.prog 9 #[.pointer (some ⟨g, 0, none⟩), v] w fun e w' =>
      (mayF (srt zs) ≠ 0 ∧ e = .returned (.tuple #[.int .i64 0, .int .i64 (mayF (srt zs))]) ∧ Below w.heap.size w w') ∨
      (mayF (srt zs) = 0 ∧ e = .returned (.tuple #[.int .i64 (pick s (srt zs)), .int .i64 0]) ∧ ∃ X', PlAt w' X' g (n + zs.length) (nextP s (srt zs)) ∧ Ext X w X' w') := by
  obtain ⟨m, q, hP⟩ := hP
  have hlen := srt_len zs
  have hle := srt_le zs
  have hok := @mayF_ok zs
  have hR2 := hR
  obtain ⟨ao, cap, rfl, hcap⟩ := hR.len
  have HR := hide (hR.keep (w' := w.alloc (.cells #[.slice ao zs.length cap] 31)) (fun b hb => Below.heap_alloc _ _ _ (hS b hb)))
  have HS := hide hS
  obtain ⟨zl, hzl⟩ : ∃ zl, zs.length = zl := ⟨_, rfl⟩
  have HLz := hide hzl
  have HI : Hid (∀ k ∈ srt zs, k ≤ 9223372036854775807) := hide (fun k hk => (hz k (srt_mem.1 hk)).2)
  obtain ⟨R, hRs⟩ : ∃ R, srt zs = R := ⟨_, rfl⟩
  have HRs := hide hRs
  rw [hzl] at hl hcap HR hlen ⊢
  rw [hRs] at hlen hle hok HI ⊢
  have HLR := hide hlen
  have HLe := hide hle
  have HP := hide hP
  obtain ⟨mf, hmf⟩ : ∃ mf, mayF R = mf := ⟨_, rfl⟩
  rw [hmf] at hok ⊢
  have HMf := hide hmf
  have HOk := hide hok
  clear hR hR2 hP hz hS hzl hlen hle hok hRs hmf
  go_enter Try.func9, Try.ntmps9
  go_wp2_with fail
  refine (callsIn_wide.1 (values_in ao zl cap 0 w)).mono ?_
  rintro e w1 ⟨rfl, rfl⟩
  go_wp2_with fail
  refine (callsIn_wide.1 (sortedV_in 5 (by omega) (w.alloc (.cells #[.slice ao zl cap] 31)) w.heap.size S _ zs (by rw [HLz.out]; exact hl) (heap_alloc_last _ _) HR.out (fun b hb => by have := HS.out b hb; simp; omega))).mono ?_
  rintro e w1 ⟨r, rfl, h1, h2⟩
  rw [HRs.out] at h1
  have HO := hide h1
  have HB : Hid (Below w.heap.size w w1) := hide (((Below.refl _ w).alloc (Nat.le_refl _) _).trans (h2.mono (by simp)))
  clear h1 h2 HR
  go_upto_region 2 with fail
  go_wp2_with fail
  refine (may_any w1 _ r R HO.out.rd HLe.out (by rw [HLR.out]; exact hl)).mono ?_
  rw [HMf.out]
  rintro e w2 ⟨rfl, rfl⟩
  by_cases hm : mf = 0
  · subst hm
    have HMo := hide (HOk.out rfl)
    obtain ⟨ar, cr, rfl⟩ := own_shape HO.out
    rw [HLR.out] at HO ⊢
    have hw1 := HB.out.size
    have HP2 := hide (HP.out.keep hw1 (fun b hb => HB.out.block b (HP.out.lt b hb)))
    have hgm := HP2.out.wts.ne HP2.out.top
    have hmlt := HP2.out.wts.lt
    have hmw := HP.out.wts.lt
    have HRd : Hid (Rd (fun b => w.heap.size < b ∧ b < w2.heap.size) w2 (.slice ar zl cr) R) := hide (HO.out.rd.mono (fun b hb => ⟨by have := hb.1; simp at this; omega, hb.2.1⟩))
    have HT : Hid (R.take zl = R) := hide (by rw [← HLR.out]; exact List.take_length)
    have HN : Hid (∀ k, k < zl → R.take k ++ [R.getD k 0] = R.take (k + 1) ∧ R.getD k 0 ∉ R.take k) := hide (by
      intro k hk
      have hk' : k < R.length := by rw [HLR.out]; exact hk
      have hg : R.getD k 0 = R[k] := by rw [List.getD_eq_getElem?_getD, List.getElem?_eq_getElem hk', Option.getD_some]
      rw [hg]
      refine ⟨by rw [List.take_succ_eq_append_getElem hk'], fun hmem => ?_⟩
      have h1 := HMo.out.2.1
      rw [← List.take_append_drop k R, List.drop_eq_getElem_cons hk', List.nodup_append] at h1
      exact h1.2.2 _ hmem _ (List.mem_cons_self ..) rfl)
    clear HO HOk HMf
    go_upto_region 5 with fail
    go_upto_region 6 with fail
    go_loopw [22] (fun i wr => ∃ k : Nat, k ≤ zl ∧ i = .int .i64 (k : Nat) ∧ Hid (Mp wr m (n + k) (admF s.wt (R.take k))) ∧ Hid (Mod (fun b => b = m) w2 wr)) (fun i _ => zl - (RowKit.intOf i).toNat)
    case atStart => exact ⟨0, by omega, rfl, hide (by have : admF s.wt (R.take 0) = s.wt := by funext c; simp [admF]
                                                      rw [this]; exact HP2.out.wts), hide (Mod.refl _ _)⟩
    case round =>
      obtain ⟨k, hk, rfl, HMk, HD⟩ := hrel
      have HTop : Hid (wr.heap[g]? = some (.cells #[.map (some m), .iface (wayT s.kind) (.pointer (some ⟨q, 0, none⟩))] 55 (0, 0))) := hide ((HD.out.block g (Array.getElem?_eq_some_iff.1 HP2.out.top).1 hgm).trans HP2.out.top)
      have c0 := cell_of_row _ _ 0 _ _ _ HTop.out
      have c1 := cell_of_row _ _ 1 _ _ _ HTop.out
      simp only [List.getElem?_toArray, List.getElem?_cons_zero, List.getElem?_cons_succ] at c0 c1
      have HRr := hide (HRd.out.keep (w' := wr) (fun b hb => HD.out.block b hb.2 (by have := hb.1; omega)))
      by_cases hlt : k < zl
      · obtain ⟨x, rfl, hSx, hc⟩ := HRr.out.some_of (by rw [HLR.out]; omega)
        have d0 := hc k (by rw [HLR.out]; omega)
        obtain ⟨hN2, hN1⟩ := HN.out k hlt
        have hki : (k : Int) < zl := by omega
        have hlk := HMk.out.look2 (R.getD k 0)
        clear hc hSx c1 HTop HRr
        cases hb : (admF s.wt (R.take k) (R.getD k 0)).isSome with
        | true =>
          rw [hb] at hlk
          have hsn := admF_snoc2 s.wt (R.take k) (R.getD k 0) hN1 hb
          rw [hN2] at hsn
          have HM2 := hide (HMk.out.mono (m := n + (k + 1)) (by omega))
          rw [hsn] at HM2
          clear hb hsn hN1 hN2 HMk
          generalize (admF s.wt (R.take k) (R.getD k 0)).getD 0 = u at *
          generalize R.getD k 0 = a at *
          go_wp2
          go_roundw
          case rel => exact ⟨k + 1, by omega, by go_num, HM2, HD⟩
          case measure => simp [RowKit.intOf]; omega
        | false =>
          rw [hb] at hlk
          have hsn := admF_snoc1 s.wt (R.take k) (R.getD k 0) hN1 hb
          rw [hN2] at hsn
          obtain ⟨es, ck, hput, hM2, _⟩ := HMk.out.put (R.getD k 0) 1
          rw [hsn] at hM2
          have HM2 := hide hM2
          have HD2 := hide (HD.out.putObj (r := m) (.inl rfl) (.map es ck))
          clear hb hsn hN1 hN2 HMk hM2 HD
          generalize (admF s.wt (R.take k) (R.getD k 0)).getD 0 = u at *
          generalize R.getD k 0 = a at *
          go_wp2_with fail
          generalize wr.putObj m (.map es ck) = w5 at *
          go_roundw
          case rel => exact ⟨k + 1, by omega, by go_num, HM2, HD2⟩
          case measure => simp [RowKit.intOf]; omega
      · obtain rfl : k = zl := by omega
        have HMw := HMk
        rw [HT.out, admF_eq] at HMw
        clear HMk
        have HWay := hide (HP2.out.way.keep (w' := wr.drew) (Nat.le_refl _) (HD.out.block q (HP2.out.lt q HP2.out.xq) (HP2.out.way.ne HP2.out.wts)) (fun b xb hbm => HD.out.block b (HP2.out.lt b xb) hbm))
        have HMd := hide (HMw.out.keep (w' := wr.drew) rfl)
        have HRd2 := hide (HRr.out.keep (w' := wr.drew) (fun _ _ => rfl))
        have HRb : Hid (∀ k ∈ R, 1 ≤ k ∧ k ≤ 9223372036854775807) := hide (fun k hk => ⟨HMo.out.2.2 k hk, HI.out k hk⟩)
        have hzp : 1 ≤ k := by rw [← HLR.out]; exact List.length_pos_iff.2 HMo.out.1
        have hlw := HP.out.lt
        have HSx : Hid (∀ b, (w.heap.size < b ∧ b < w2.heap.size) → ¬ X b ∧ b < wr.drew.heap.size) := hide (fun b hb => ⟨fun h => by have := hlw b h; omega, Nat.lt_of_lt_of_le hb.2 HD.out.size⟩)
        have HXlt : Hid (∀ b, X b → b < wr.drew.heap.size) := hide (fun b hb => Nat.lt_of_lt_of_le (HP2.out.lt b hb) HD.out.size)
        have hqg : q ≠ g := by
          rcases HP2.out.way with ⟨h1, h2⟩ | ⟨h1, pm, h2, _⟩ | ⟨h1, mo, h2, _⟩ <;> exact cells_ne h2 HP2.out.top (by decide)
        have hLl : R.length ≤ 1048576 := by rw [HLR.out]; exact hl
        rcases HP2.out.ok.kind with e | e | e
        · rw [wayT1 e] at c1
          go_upto_region 12 with fail
          go_region_with (refine (ch1 wr.drew X (fun b => w.heap.size < b ∧ b < w2.heap.size) g m q n (n + k) s HWay.out R _ HRd2.out HSx.out hLl HMo.out.1 HMd.out HP2.out.xq HXlt.out hqg e).mono ?_; rintro e2 w5 hC; have he2 := hC.1; have HC := hide hC; clear hC; subst he2)
          all_goals (first | (go_wp2; go_ret2) | go_ret2)
          all_goals exact ⟨rfl, next_fin HB.out HP2.out HD.out HMw.out HC.out HLR.out hzp HRb.out⟩
        · rw [wayT2 e] at c1
          go_upto_region 12 with fail
          go_region_with (refine (ch2 wr.drew X (fun b => w.heap.size < b ∧ b < w2.heap.size) g m q n (n + k) s HP2.out.ok HWay.out R _ HRd2.out HSx.out hLl HMo.out.1 HMo.out.2.1 HRb.out (by omega) HMd.out HP2.out.xq HXlt.out hqg ⟨_, _, _, HTop.out⟩ e).mono ?_; rintro e2 w5 hC; have he2 := hC.1; have HC := hide hC; clear hC; subst he2)
          all_goals (first | (go_wp2; go_ret2) | go_ret2)
          all_goals exact ⟨rfl, next_fin HB.out HP2.out HD.out HMw.out HC.out HLR.out hzp HRb.out⟩
        · rw [wayT3 e] at c1
          go_upto_region 12 with fail
          go_region_with (refine (ch3 wr.drew X (fun b => w.heap.size < b ∧ b < w2.heap.size) g m q n (n + k) s HP2.out.ok HWay.out R _ HRd2.out HSx.out hLl HMo.out.1 HRb.out (by omega) HMd.out HP2.out.xq HP2.out.xm HXlt.out hqg e).mono ?_; rintro e2 w5 hC; have he2 := hC.1; have HC := hide hC; clear hC; subst he2)
          all_goals (first | (go_wp2; go_ret2) | go_ret2)
          all_goals exact ⟨rfl, next_fin HB.out HP2.out HD.out HMw.out HC.out HLR.out hzp HRb.out⟩
  · have hm2 : (mf != 0) = true := by simpa using hm
    have HM := hide hm
    go_wp2
    go_ret2
    exact .inl ⟨HM.out, rfl, HB.out⟩
end
end Go.Proofs.Ytngmnlmagbfijab
