import Derived.Test.YtngmnlmagbfijabCF
namespace Go.Proofs.Ytngmnlmagbfijab
open Go.RowKit
/-- the first q rows changed -/
def mpd (f : Rw → Rw) (L : List Rw) (q : Nat) : List Rw := (L.take q).map f ++ L.drop q
theorem mpd_get (f : Rw → Rw) {L : List Rw} {q : Nat} {x : Rw} (h : L[q]? = some x) : (mpd f L q)[q]? = some x := by
  have hq := (List.getElem?_eq_some_iff.1 h).1
  unfold mpd
  rw [List.getElem?_append_right (by simp; omega), List.length_map, List.length_take, Nat.min_eq_left (by omega), Nat.sub_self, List.getElem?_drop]
  simpa using h
theorem mpd_succ (f : Rw → Rw) {L : List Rw} {q : Nat} {x : Rw} (h : L[q]? = some x) : mpd f L (q + 1) = (mpd f L q).set q (f x) := by
  obtain ⟨hq, hx⟩ := List.getElem?_eq_some_iff.1 h
  unfold mpd
  rw [List.set_append_right _ _ (by simp; omega), List.length_map, List.length_take, Nat.min_eq_left (by omega), Nat.sub_self, List.drop_eq_getElem_cons hq, List.set_cons_zero, List.take_succ_eq_append_getElem hq, hx]
  simp
theorem mpd_all (f : Rw → Rw) (L : List Rw) : mpd f L L.length = L.map f := by unfold mpd; simp
theorem mpd_len (f : Rw → Rw) (L : List Rw) (q : Nat) : (mpd f L q).length = L.length := by unfold mpd; simp; omega
section
variable (w : World)
set_option maxRecDepth 100000 in
set_option maxHeartbeats 16000000 in
theorem grown_any (g kd : Nat) (Y : Nat → Prop) (L : List Rw) (last : Int) (hP : RfAt w Y g kd L last) (hkd : kd = 1 ∨ kd = 2 ∨ kd = 3) (b : Nat) (x : Rw) (hx : L[b]? = some x) (hl : L.length ≤ 4194304) (hxw : 1 ≤ x.wt ∧ x.wt ≤ 8) (hps : ∀ r ∈ L, 0 ≤ r.ps ∧ r.ps ≤ 4611686018427387904) :
    Calls Try.prog 27 #[.pointer (some ⟨g, 0, none⟩), .int .i64 (b : Nat)] w fun e w' => e = .returned (.tuple #[]) ∧ RfAt w' Y g kd ((if kd = 3 then L.map (growR kd) else L).set b (bestD kd x)) (lastD kd last x) ∧ Mod Y w w' := by
  obtain ⟨v, hR⟩ := hP
  obtain ⟨m, hm⟩ : ∃ m, L.length = m := ⟨_, rfl⟩
  obtain ⟨a, c, rfl⟩ : ∃ a c, v = .slice a m c := by
    obtain ⟨a, c, h⟩ := hR.shape
    exact ⟨a, c, by rw [h, hm]⟩
  obtain ⟨r, rfl, hYr, hrg, d0, d1, d2, d3, hfz, _⟩ := hR.at hx
  obtain ⟨c0, c1, c2⟩ := hR.c
  have hbm : b < m := by rw [← hm]; exact (List.getElem?_eq_some_iff.1 hx).1
  have hbi : (b : Int) < m := by omega
  have HR := hide hR
  have HX := hide hx
  have HM := hide hm
  have HPs := hide hps
  have hxp := hps x (List.mem_of_getElem? hx)
  rw [hm] at hl
  have HRg := hide hrg
  clear hR hx hm hps
  obtain ⟨xs, xw, xp, xb⟩ := x
  dsimp only at d0 d1 d2 d3 hxw hxp
  have hst := stp_bd hxw.1 hxw.2
  have hdiv : (840 : Int).tdiv xw = stp xw := by unfold stp; rw [Int.tdiv_eq_ediv_of_nonneg (by omega)]
  have hw1 : IntKind.i64.wrap (stp xw) = stp xw := wi _ (by omega) (by omega)
  have hw2 : IntKind.i64.wrap (xp + stp xw) = xp + stp xw := wi _ (by omega) (by omega)
  go_enter Try.func27, Try.ntmps27
  rcases hkd with rfl | rfl | rfl
  · have hs := HR.out.setLast xs
    have HF : Hid (RfAt (w.setCell ⟨g, 2, none⟩ (.int .i64 xs)) Y g 1 (L.set b (bestD 1 ⟨xs, xw, xp, xb⟩)) (lastD 1 last ⟨xs, xw, xp, xb⟩) ∧ Mod Y w (w.setCell ⟨g, 2, none⟩ (.int .i64 xs))) := hide (by
      have e1 : L.set b (bestD 1 ⟨xs, xw, xp, xb⟩) = L := by
        show L.set b ⟨xs, xw, xp, xb⟩ = L
        have h9 := HX.out
        obtain ⟨h8, h7⟩ := List.getElem?_eq_some_iff.1 h9
        rw [← h7]; exact List.set_getElem_self _
      rw [e1]
      exact ⟨⟨_, hs.1⟩, hs.2.1⟩)
    have hf2 := hs.2.2
    clear hs
    go_wp2
    go_end0
    exact ⟨rfl, HF.out⟩
  · have hs := HR.out.setLast xp
    have hf2 := hs.2.2
    have HS := hide hs
    clear hs
    go_upto_region 5 with fail
    generalize w.setCell ⟨g, 2, none⟩ (.int .i64 xp) = w2 at *
    clear c0 c1 c2 d0 d1 d2 d3 hfz hf2
    obtain ⟨r', hr', _, _, d0, d1, d2, d3, hfz, _⟩ := HS.out.1.at HX.out
    cases hr'
    obtain ⟨c0, c1, c2⟩ := HS.out.1.c
    have hf2 := hfz (b * 4 + 2)
    dsimp only at d0 d1 d2 d3
    clear hfz
    have h9 := HS.out.1.store (j := b * 4 + 2) (u := .int .i64 (xp + stp xw)) (L' := L.set b ⟨xs, xw, xp + stp xw, xb⟩) HRg.out (rws_set2 _ b _ _ HX.out) (by simp)
    have HF : Hid (RfAt (w2.setCell ⟨r, b * 4 + 2, none⟩ (.int .i64 (xp + stp xw))).drew Y g 2 (L.set b (bestD 2 ⟨xs, xw, xp, xb⟩)) (lastD 2 last ⟨xs, xw, xp, xb⟩) ∧ Mod Y w (w2.setCell ⟨r, b * 4 + 2, none⟩ (.int .i64 (xp + stp xw))).drew) := hide ⟨⟨_, h9.1.below (drewN_below _ _ 1)⟩, (HS.out.2.1.trans h9.2).trans (Mod.of_below (drewN_below _ _ 1))⟩
    clear h9
    go_region
    go_wp2
    go_end0
    exact ⟨rfl, HF.out⟩
  · clear d0 d1 d2 d3 hfz
    go_upto_region 8 with fail
    clear c0 c1 c2
    go_loopw [4] (fun i wr => ∃ q : Nat, q ≤ m ∧ i = .int .i64 (q : Nat) ∧ Hid (RfM wr Y g (.slice (some ⟨r, 0, none⟩) m c) 3 (mpd (growR 3) L q) last) ∧ Hid (Mod Y w wr)) (fun i _ => m - (RowKit.intOf i).toNat)
    case atStart => exact ⟨0, by omega, rfl, HR, hide (Mod.refl _ _)⟩
    case round =>
      obtain ⟨q, hq, rfl, HRq, HMo⟩ := hrel
      obtain ⟨c0, c1, c2⟩ := HRq.out.c
      by_cases hlt : q < m
      · obtain ⟨y, hy⟩ : ∃ y, L[q]? = some y := ⟨L[q]'(by rw [HM.out]; exact hlt), List.getElem?_eq_getElem _⟩
        have hg := mpd_get (growR 3) hy
        obtain ⟨r', hr', _, _, d0, d1, d2, d3, hfz, _⟩ := HRq.out.at hg
        cases hr'
        have hyp := HPs.out y (List.mem_of_getElem? hy)
        have HS := hide (mpd_succ (growR 3) hy)
        have HG := hide hg
        obtain ⟨ys, yw, yp, yb⟩ := y
        dsimp only at d0 d1 d2 d3 hyp
        have hqi : (q : Int) < m := by omega
        have hf2 := hfz (q * 4 + 2)
        have hwp : IntKind.i64.wrap (yp + 1) = yp + 1 := wi _ (by omega) (by omega)
        clear hy hg hfz
        cases yb with
        | true =>
          have h9 := HRq.out.store (j := q * 4 + 2) (u := .int .i64 (yp + 1)) (L' := (mpd (growR 3) L q).set q ⟨ys, yw, yp + 1, true⟩) HRg.out (rws_set2 _ q _ _ HG.out) (by simp)
          have HF : Hid (RfM (wr.setCell ⟨r, q * 4 + 2, none⟩ (.int .i64 (yp + 1))) Y g (.slice (some ⟨r, 0, none⟩) m c) 3 (mpd (growR 3) L (q + 1)) last) := hide (by
            rw [HS.out]; exact h9.1)
          have HMo2 := hide (HMo.out.trans h9.2)
          clear h9
          go_wp2
          go_roundw
          case rel => exact ⟨q + 1, by omega, by go_num, HF, HMo2⟩
          case measure => simp [RowKit.intOf]; omega
        | false =>
          have HF : Hid (RfM wr Y g (.slice (some ⟨r, 0, none⟩) m c) 3 (mpd (growR 3) L (q + 1)) last) := hide (by
            rw [HS.out]
            have e9 : (mpd (growR 3) L q).set q (growR 3 ⟨ys, yw, yp, false⟩) = mpd (growR 3) L q := by
              obtain ⟨h8, h7⟩ := List.getElem?_eq_some_iff.1 HG.out
              show (mpd (growR 3) L q).set q ⟨ys, yw, yp, false⟩ = _
              rw [← h7]; exact List.set_getElem_self _
            rw [e9]; exact HRq.out)
          go_wp2
          go_roundw
          case rel => exact ⟨q + 1, by omega, by go_num, HF, HMo⟩
          case measure => simp [RowKit.intOf]; omega
      · obtain rfl : q = m := by omega
        have HAll : Hid (mpd (growR 3) L q = L.map (growR 3)) := hide (by rw [← HM.out]; exact mpd_all _ _)
        have hgb : (mpd (growR 3) L q)[b]? = some (growR 3 ⟨xs, xw, xp, xb⟩) := by rw [HAll.out, List.getElem?_map, HX.out]; rfl
        obtain ⟨r', hr', _, _, d0, d1, d2, d3, hfz, _⟩ := HRq.out.at hgb
        cases hr'
        have hf2 := hfz (b * 4 + 2)
        have h9 := HRq.out.store (j := b * 4 + 2) (u := .int .i64 0) (L' := (mpd (growR 3) L q).set b { growR 3 ⟨xs, xw, xp, xb⟩ with ps := 0 }) HRg.out (rws_set2 _ b _ _ hgb) (by simp)
        have HF : Hid (RfAt (wr.setCell ⟨r, b * 4 + 2, none⟩ (.int .i64 0)) Y g 3 ((L.map (growR 3)).set b (bestD 3 ⟨xs, xw, xp, xb⟩)) (lastD 3 last ⟨xs, xw, xp, xb⟩) ∧ Mod Y w (wr.setCell ⟨r, b * 4 + 2, none⟩ (.int .i64 0))) := hide ⟨⟨_, by rw [← HAll.out]; exact h9.1⟩, HMo.out.trans h9.2⟩
        clear h9 hgb hfz
        generalize (growR 3 ⟨xs, xw, xp, xb⟩).ps = gp at d2
        go_wp2
        go_end0
        exact ⟨rfl, HF.out⟩
end
end Go.Proofs.Ytngmnlmagbfijab
