import Derived.Test.YtiafodeabdhcoaaGreatDoorM06
namespace Go.Proofs.YtiafodeabdhcoaaGreatDoor
open Go.RowKit
def opdT (ts : List Tk) (n : Nat) (r : Rd) : Ex × Rd :=
  if sgT (r.see ts).text ≠ [] then
    (⟨4, 0, vr0, (r.see ts).text, some (pxF ts n 0 0 ex0 (r.take ts (r.see ts).text)).1, none, 1 + (pxF ts n 0 0 ex0 (r.take ts (r.see ts).text)).1.depth⟩, (pxF ts n 0 0 ex0 (r.take ts (r.see ts).text)).2)
  else if (r.see ts).kind = 3 then (⟨0, (r.see ts).val, vr0, [], none, none, 1⟩, r.step)
  else if (r.see ts).text = [97, 115, 107] then (⟨1, 0, vr0, [], none, none, 1⟩, r.step)
  else if (r.see ts).kind = 4 then nelT ts n r
  else if (r.see ts).text = [40] then ({ (pxF ts n 1 1 ex0 r.step).1 with depth := (pxF ts n 1 1 ex0 r.step).1.depth + 1 }, ((pxF ts n 1 1 ex0 r.step).2).take ts [41])
  else (ex0, r.refuse ts)
theorem px_zero (ts : List Tk) (n lv : Nat) (e : Ex) (r : Rd) : pxF ts (n + 1) 0 lv e r = opdT ts n r := by
  simp only [pxF, opdT, nelT]
theorem ex_depth {w : World} {e : Ex} {X : Nat → Prop} {p d : Nat} (h : ExAt w e X p) : ExAt (w.setCell ⟨p, 9, none⟩ (.int .i64 (d : Nat))) { e with depth := d } X p := by
  obtain ⟨k, v, vr, op, l, r, d0⟩ := e
  obtain ⟨h0, pl, pr, hb, hl, hr⟩ := ExAt.iff.1 h
  have hm : ∀ j, (X j ∧ j ≠ p) → j < w.heap.size → (X j ∧ j ≠ p) ∧ (w.setCell ⟨p, 9, none⟩ (.int .i64 (d : Nat))).heap[j]? = w.heap[j]? := fun j hj _ => ⟨hj, heap_setCell_other w ⟨p, 9, none⟩ j _ hj.2⟩
  exact ExAt.iff.2 ⟨h0, pl, pr, hb.set 9 _, hl.move hm, hr.move hm⟩
theorem ex_frz {w : World} {e : Ex} {X : Nat → Prop} {p : Nat} (h : ExAt w e X p) (j : Nat) : w.frozen? ⟨p, j, none⟩ = false := by
  obtain ⟨k, v, vr, op, l, r, d0⟩ := e
  obtain ⟨h0, pl, pr, hb, hl, hr⟩ := ExAt.iff.1 h
  exact hb.frz j
theorem Kp.setN {g N j : Nat} {a b : World} (h : Kp g a b) (hN : a.heap.size ≤ N) (v : Value) : Kp g a (b.setCell ⟨N, j, none⟩ v) :=
  ⟨h.os, h.tape, h.output, by rw [World.size_setCell]; exact h.size, fun k hk hn => by rw [heap_setCell_other b ⟨N, j, none⟩ k v (by show k ≠ N; omega)]; exact h.block k hk hn⟩
set_option maxRecDepth 100000 in
set_option maxHeartbeats 4000000 in
theorem operand_step (n : Nat) (hO : OpC n) (hE : ExC n) : OpC (n + 1) := by
  intro w g ts F r h hG hg9 hn hn6
  rw [px_zero]
  have HS := hide (see_any w g ts F r h)
  have HR := hide h
  have HG := hide hG
  have hgl := h.b.lt
  have hat := h.hat
  have hln := h.len
  have HM : Hid (2 ≤ (r.see ts).kind ∨ (r.see ts).text ≠ [] → r.at' + 1 < ts.length) := hide (fun e => (h.more e).1)
  have HNe : Hid ((r.see ts).kind = 4 → ∀ W, RdA W g ts F r → Lg W → Calls Tryz.prog 174 #[.pointer (some ⟨g, 0, none⟩)] W (PxPost W g ts F (nelT ts n r))) := hide (fun hk W hW hGW => nel_any W n hE g ts F r hk hW hGW hg9 (by omega) (by omega))
  have HTk : Hid (∀ W, (r.see ts).text ≠ [] → RdA W g ts F r → Calls Tryz.prog 79 #[.pointer (some ⟨g, 0, none⟩), .string ⟨(r.see ts).text.toArray⟩] W fun e w' => e = .returned (.tuple #[]) ∧ RdA w' g ts F (r.take ts (r.see ts).text) ∧ Kp g W w') := hide (fun W h1 h2 => take_any W g ts F r _ h1 h2)
  have HTs : Hid (r.take ts (r.see ts).text = r.step) := hide (by unfold Rd.take Rd.is; simp)
  have HIs : Hid (∀ s, r.is ts s = ((r.see ts).text == s)) := hide (fun s => rfl)
  have HV0 : Hid (opdT ts n r = (
  if sgT (r.see ts).text ≠ [] then
    (⟨4, 0, vr0, (r.see ts).text, some (pxF ts n 0 0 ex0 (r.take ts (r.see ts).text)).1, none, 1 + (pxF ts n 0 0 ex0 (r.take ts (r.see ts).text)).1.depth⟩, (pxF ts n 0 0 ex0 (r.take ts (r.see ts).text)).2)
  else if (r.see ts).kind = 3 then (⟨0, (r.see ts).val, vr0, [], none, none, 1⟩, r.step)
  else if (r.see ts).text = [97, 115, 107] then (⟨1, 0, vr0, [], none, none, 1⟩, r.step)
  else if (r.see ts).kind = 4 then nelT ts n r
  else if (r.see ts).text = [40] then ({ (pxF ts n 1 1 ex0 r.step).1 with depth := (pxF ts n 1 1 ex0 r.step).1.depth + 1 }, ((pxF ts n 1 1 ex0 r.step).2).take ts [41])
  else (ex0, r.refuse ts)
    )) := hide rfl
  clear h hG
  obtain ⟨t, ht⟩ : ∃ t, r.see ts = t := ⟨_, rfl⟩
  rw [ht] at HS HM HNe HTk HTs HIs HV0
  obtain ⟨tk, tx, tv, tl⟩ := t
  simp only [tkL] at HS HM HNe HTk HTs HIs HV0
  rw [HTs.out] at HV0 HTk
  clear ht HTs
  go_enter Tryz.func165, Tryz.ntmps165
  go_wp2_with fail
  refine HS.out.mono ?_
  rintro e w1 ⟨rfl, hb1⟩
  have HA1 := hide (HR.out.keep hb1)
  have hs1 := hb1.size
  have HB1 := hide hb1
  clear hb1 HS
  go_upto_region 2 with fail
  have HT2 : Hid (Blk (w1.alloc (.cells #[.int .i64 (tk : Nat), .string ⟨tx.toArray⟩, .int .u32 (tv : Nat), .int .i64 (tl : Nat)] 115)) w1.heap.size 115 (tkL ⟨tk, tx, tv, tl⟩)) := hide ⟨heap_alloc_new _ _⟩
  have HA2 := hide (HA1.out.keep (bel1 w1 (.cells #[.int .i64 (tk : Nat), .string ⟨tx.toArray⟩, .int .u32 (tv : Nat), .int .i64 (tl : Nat)] 115)))
  have HB2 := hide (HB1.out.alloc HB1.out.size (.cells #[.int .i64 (tk : Nat), .string ⟨tx.toArray⟩, .int .u32 (tv : Nat), .int .i64 (tl : Nat)] 115))
  have hN1 : g < w1.heap.size := HA1.out.b.lt
  have hN2 : w.heap.size ≤ w1.heap.size := HB1.out.size
  clear HA1 HB1
  generalize w1.alloc (.cells #[.int .i64 (tk : Nat), .string ⟨tx.toArray⟩, .int .u32 (tv : Nat), .int .i64 (tl : Nat)] 115) = W2 at *
  generalize w1.heap.size = N1 at *
  clear hs1
  have t0 := HT2.out.get (j := 0) rfl
  have t1 := HT2.out.get (j := 1) rfl
  have t2 := HT2.out.get (j := 2) rfl
  simp only at t0 t1 t2
  have HG2 := hide (HG.out.below HB2.out)
  have HI := hide (isSign_any W2 tx)
  clear HG
  go_wp2_with fail
  refine HI.out.mono ?_
  rintro e w3 ⟨rfl, hw3⟩
  have hw3s := hw3.symm
  clear hw3
  subst hw3s
  clear HI
  by_cases hsg : sgT tx = []
  · have hsd : decide (sgT tx ≠ []) = false := by simp [hsg]
    rw [hsd]
    replace HV0 := hide (HV0.out.trans (if_neg (by simp [hsg])))
    clear hsg hsd HTk
    by_cases hk3 : tk = 3
    · subst hk3
      have HV := hide (HV0.out.trans (if_pos rfl))
      have hm := HM.out (.inl (by decide))
      have c1 := HA2.out.b.get (j := 1) rfl
      have f1 := HA2.out.b.frz 1
      have HA3 : Hid (RdA (W2.setCell ⟨g, 1, none⟩ (.int .i64 ((r.at' : Int) + 1))) g ts F r.step) := hide (HA2.out.to (Kp.set (Kp.refl g W2) _) (HA2.out.b.set 1 _) rfl hm)
      have HK3 := hide (Kp.set (j := 1) (Kp.of (g := g) HB2.out) (.int .i64 ((r.at' : Int) + 1)))
      have HT3 := hide (HT2.out.keepK (Kp.set (j := 1) (Kp.refl g W2) (.int .i64 ((r.at' : Int) + 1))) (by omega))
      clear HV0 HNe HIs
      go_upto_region 8 with fail
      clear c1 f1 t0 t1 t2
      generalize W2.setCell ⟨g, 1, none⟩ (.int .i64 ((r.at' : Int) + 1)) = W3 at *
      have t2 := HT3.out.get (j := 2) rfl
      simp only at t2
      go_wp2
      go_ret
      have hb := bel1 W3 (.cells #[.int .i64 0, .int .u32 (tv : Nat), .string ⟨#[]⟩, .bool false, .int .i64 0, .int .i64 0, .string ⟨#[]⟩, .pointer none, .pointer none, .int .i64 1] 154)
      refine ⟨W3.heap.size, rfl, ?_, ?_, HK3.out.trans (Kp.of hb)⟩
      · rw [HV.out]
        exact ExAt.iff.2 ⟨HK3.out.size, _, _, ⟨heap_alloc_new _ _⟩, rfl, rfl⟩
      · rw [HV.out]; exact HA3.out.keep hb
    · have hk3b : ((tk : Int) == 3) = false := by simp; omega
      replace HV0 := hide (HV0.out.trans (if_neg hk3))
      have HP := hide (pass_any W2 g ts F r [97, 115, 107] (by decide) HA2.out)
      have HPe : Hid (r.pass ts [97, 115, 107] = if r.is ts [97, 115, 107] = true then r.step else r) := hide rfl
      rw [HPe.out, HIs.out] at HP
      clear hk3 HPe
      go_wp2_with fail
      refine HP.out.mono ?_
      rintro e w3 ⟨rfl, hA3, hk3⟩
      have HK3 := hide ((Kp.of (g := g) HB2.out).trans hk3)
      have HT3 := hide (HT2.out.keepK hk3 (by omega))
      have HG3 := hide (HG2.out.keepK hk3 hg9)
      clear hk3 HP HT2 HA2 HB2 HG2 t0 t1 t2
      by_cases hask : tx = [97, 115, 107]
      · have HV := hide (HV0.out.trans (if_pos hask))
        have hxb : (tx == [97, 115, 107]) = true := by simpa using hask
        rw [hxb] at hA3 ⊢
        simp only [if_true] at hA3
        have HA3 := hide hA3
        clear HV0 HNe hask hxb hA3
        go_wp2
        go_ret
        have hb := bel1 w3 (.cells #[.int .i64 1, .int .u32 0, .string ⟨#[]⟩, .bool false, .int .i64 0, .int .i64 0, .string ⟨#[]⟩, .pointer none, .pointer none, .int .i64 1] 154)
        refine ⟨w3.heap.size, rfl, ?_, ?_, HK3.out.trans (Kp.of hb)⟩
        · rw [HV.out]
          exact ExAt.iff.2 ⟨HK3.out.size, _, _, ⟨heap_alloc_new _ _⟩, rfl, rfl⟩
        · rw [HV.out]; exact HA3.out.keep hb
      · have hxb : (tx == [97, 115, 107]) = false := by simpa using hask
        replace HV0 := hide (HV0.out.trans (if_neg hask))
        rw [hxb] at hA3 ⊢
        simp only [if_false, Bool.false_eq_true] at hA3
        have HA3 := hide hA3
        have t0 := HT3.out.get (j := 0) rfl
        simp only at t0
        clear hask hxb hA3
        by_cases hk4 : tk = 4
        · have HV := hide (HV0.out.trans (if_pos hk4))
          have HN := hide (HNe.out hk4 w3 HA3.out HG3.out)
          have hk4b : ((tk : Int) == 4) = true := by simp; omega
          clear HV0 HNe hk4
          go_wp2_with fail
          refine HN.out.mono ?_
          rintro e w4 ⟨p, rfl, hX4, hA4, hk4⟩
          have HX4 := hide hX4
          have HA4 := hide hA4
          have HK4 := hide (HK3.out.trans hk4)
          clear hX4 hA4 hk4 HN
          go_wp2
          go_ret
          exact ⟨p, rfl, by rw [HV.out]; exact HX4.out.mono (fun j hj => Nat.le_trans HK3.out.size hj), by rw [HV.out]; exact HA4.out, HK4.out⟩
        · have hk4b : ((tk : Int) == 4) = false := by simp; omega
          replace HV0 := hide (HV0.out.trans (if_neg hk4))
          have HP := hide (pass_any w3 g ts F r [40] (by decide) HA3.out)
          have HPe : Hid (r.pass ts [40] = if r.is ts [40] = true then r.step else r) := hide rfl
          rw [HPe.out, HIs.out] at HP
          clear hk4 HPe HNe
          go_wp2_with fail
          refine HP.out.mono ?_
          rintro e w4 ⟨rfl, hA4, hk4⟩
          have HK4 := hide (HK3.out.trans hk4)
          have HG4 := hide (HG3.out.keepK hk4 hg9)
          clear hk4 HP HT3 HA3 HK3 HG3 t0
          by_cases hpar : tx = [40]
          · have HV := hide (HV0.out.trans (if_pos hpar))
            have hm := HM.out (.inr (by rw [hpar]; decide))
            have hxb : (tx == [40]) = true := by simpa using hpar
            rw [hxb] at hA4 ⊢
            simp only [if_true] at hA4
            have HE := hide (hE w4 g ts F r.step 1 1 rfl (by decide) hA4 HG4.out hg9 (by show 3 * (ts.length - (r.at' + 1)) + 2 ≤ n; omega) (by omega))
            have hdp := px_depth (ts := ts) n 1 1 ex0 r.step
            have hfv := (fr_px (ts := ts) n 1 1 ex0 r.step).vars
            have h00 : ex0.depth = 0 := rfl
            rw [h00] at hdp
            clear hA4 h00 HV0 hpar hxb
            generalize pxF ts n 1 1 ex0 r.step = q at *
            obtain ⟨ex, r5⟩ := q
            simp only at HE HV hdp hfv
            go_wp2_with fail
            refine HE.out.mono ?_
            rintro e w5 ⟨p, rfl, hX5, hA5, hk5⟩
            have HX5 := hide hX5
            have HK5 := hide (HK4.out.trans hk5)
            have HT := hide (take_any w5 g ts F r5 [41] (by decide) hA5)
            have hw4 := HK4.out.size
            clear hX5 hA5 hk5 HE HK4
            go_wp2_with fail
            refine HT.out.mono ?_
            rintro e w6 ⟨rfl, hA6, hk6⟩
            have HX6 := hide (HX5.out.keepK hk6 (fun j hj => by have : w4.heap.size ≤ j := hj; omega))
            have HK6 := hide (HK5.out.trans hk6)
            have HA6 := hide hA6
            obtain ⟨hp1, hp2, hp3⟩ := HX6.out.x
            have hp1' : w4.heap.size ≤ p := hp1
            have hp4 := ex_frz HX6.out 9
            have HX7 := hide (ex_depth (d := ex.depth + 1) HX6.out)
            have hcd : ((ex.depth + 1 : Nat) : Int) = (ex.depth : Int) + 1 := by omega
            rw [hcd] at HX7
            have hgw4 : g < w4.heap.size := by omega
            clear hA6 hk6 HX5 HK5 HT hp1
            go_wp2
            go_ret
            refine ⟨p, rfl, by rw [HV.out]; exact HX7.out.mono (fun j hj => Nat.le_trans hw4 hj), ?_, HK6.out.setN (by omega) _⟩
            rw [HV.out]
            exact HR.out.to (HK6.out.setN (by omega) _) (HA6.out.b.keep (heap_setCell_other w6 ⟨p, 9, none⟩ g _ (by show g ≠ p; omega))) ((fr_take r5 [41]).vars.trans hfv) HA6.out.hat
          · have hxb : (tx == [40]) = false := by simpa using hpar
            have HV := hide (HV0.out.trans (if_neg hpar))
            rw [hxb] at hA4 ⊢
            simp only [if_false, Bool.false_eq_true] at hA4
            have HRf := hide (refuse_any w4 g ts F r hA4)
            clear hA4 HV0 hpar hxb
            go_wp2_with fail
            refine HRf.out.mono ?_
            rintro e w5 ⟨rfl, hA5, hk5⟩
            have HK5 := hide (HK4.out.trans hk5)
            have HA5 := hide hA5
            clear hA5 hk5 HK4 HRf
            go_wp2
            go_ret
            have hb := bel1 w5 (.cells #[.int .i64 0, .int .u32 0, .string ⟨#[]⟩, .bool false, .int .i64 0, .int .i64 0, .string ⟨#[]⟩, .pointer none, .pointer none, .int .i64 0] 154)
            refine ⟨w5.heap.size, rfl, ?_, ?_, HK5.out.trans (Kp.of hb)⟩
            · rw [HV.out]
              exact ExAt.iff.2 ⟨HK5.out.size, _, _, ⟨heap_alloc_new _ _⟩, rfl, rfl⟩
            · rw [HV.out]; exact HA5.out.keep hb
  · have hsd : decide (sgT tx ≠ []) = true := by simpa using hsg
    rw [hsd]
    have hne : tx ≠ [] := fun e => hsg (by rw [e]; rfl)
    have HV := hide (HV0.out.trans (if_pos hsg))
    have hm := HM.out (.inr hne)
    have HTa := hide (HTk.out W2 hne HA2.out)
    clear hsd hsg HV0 HNe HIs
    go_wp2_with fail
    refine HTa.out.mono ?_
    rintro e w3 ⟨rfl, hA3, hk3⟩
    have HK3 := hide ((Kp.of (g := g) HB2.out).trans hk3)
    have HT3 := hide (HT2.out.keepK hk3 (by omega))
    have HOp := hide (hO w3 g ts F r.step hA3 (HG2.out.keepK hk3 hg9) hg9 (by show 3 * (ts.length - (r.at' + 1)) + 1 ≤ n; omega) (by omega))
    have hdp := px_depth (ts := ts) n 0 0 ex0 r.step
    have h00 : ex0.depth = 0 := rfl
    rw [h00] at hdp
    clear hA3 hk3 h00 HT2 HA2 HB2 HG2 HTk HTa t0 t1 t2
    generalize pxF ts n 0 0 ex0 r.step = q at *
    obtain ⟨ex, r4⟩ := q
    simp only at HOp HV hdp
    go_wp2_with fail
    refine HOp.out.mono ?_
    rintro e w4 ⟨p, rfl, hX4, hA4, hk4⟩
    have HE5 := hide hX4
    have HX5 := hide (HT3.out.keepK hk4 (by omega))
    have HK5 := hide (HK3.out.trans hk4)
    have HA5 := hide hA4
    have hw34 := HK3.out.size
    clear hX4 hA4 hk4 HOp HT3 HK3
    go_upto_region 5 with fail
    obtain ⟨w0, hwD⟩ : ∃ wD, wD = w4.drew := ⟨_, rfl⟩
    have HA6 : Hid (RdA w0 g ts F r4) := by rw [hwD]; exact hide (HA5.out.keep (Below.refl _ w4).drew)
    have HK6 : Hid (Kp g w w0) := by rw [hwD]; exact hide (HK5.out.drew)
    have HX6 : Hid (Blk w0 N1 115 (tkL ⟨tk, tx, tv, tl⟩)) := by rw [hwD]; exact hide (HX5.out.below (Below.refl _ w4).drew HX5.out.lt)
    have HE6 : Hid (ExAt w0 ex (New w3) p) := by rw [hwD]; exact hide (HE5.out.keepK (Kp.of (g := g) (Below.refl _ w4).drew) (fun j hj => by have : w3.heap.size ≤ j := hj; omega))
    have HS0 : Hid ((fun W => W.cell? ⟨N1, 1, none⟩ = some (.string ⟨tx.toArray⟩) ∧ W.cell? ⟨p, 9, none⟩ = some (.int .i64 (ex.depth : Nat))) w0) := hide ⟨HX6.out.get (j := 1) rfl, HE6.out.x.2.2⟩
    have hwd : IntKind.i64.wrap (1 + (ex.depth : Int)) = 1 + (ex.depth : Int) := by rw [IntKind.wrap_i64]; omega
    have HS1 : Hid ((fun W => W.cell? ⟨N1, 1, none⟩ = some (.string ⟨tx.toArray⟩) ∧ W.cell? ⟨p, 9, none⟩ = some (.int .i64 (ex.depth : Nat))) (w0.alloc (.cells #[.int .i64 4, .int .u32 0, .string ⟨#[]⟩, .bool false, .int .i64 0, .int .i64 0, .string ⟨tx.toArray⟩, .pointer (some ⟨p, 0, none⟩), .pointer none, .int .i64 (1 + (ex.depth : Int))] 154))) := hide ⟨by rw [(bel1 w0 _).cell (p := ⟨N1, 1, none⟩) HX6.out.lt]; exact HS0.out.1, by rw [(bel1 w0 _).cell (p := ⟨p, 9, none⟩) HE6.out.x.2.1]; exact HS0.out.2⟩
    refine wp_region_held_drew (S := fun W => W.cell? ⟨N1, 1, none⟩ = some (.string ⟨tx.toArray⟩) ∧ W.cell? ⟨p, 9, none⟩ = some (.int .i64 (ex.depth : Nat))) (by kernel_rfl) (by rw [← hwD]; exact HS0.out) (fun hHeld => ?_)
    rw [← hwD]
    clear hwD hHeld HA5 HE5 HX5 HK5
    refine hd_take 0 (o := ⟨some 18, _, _, _, _, _⟩) (.pointer (some ⟨N1, 1, none⟩)) (by kernel_rfl) (by kernel_rfl) (by kernel_rfl) rfl (by rfl) (fun W hSw => by go_simp) (fun _ _ _ h => h) HS0.out ?_
    simp only [Act.put, List.setIfInBounds_toArray, List.set_cons_zero, List.set_cons_succ]
    refine hd_take 1 (o := ⟨some 19, _, _, _, _, _⟩) (.string ⟨tx.toArray⟩) (by kernel_rfl) (by kernel_rfl) (by kernel_rfl) rfl (by rfl) (fun W hSw => by have k := hSw.1; go_simp) (fun _ _ _ h => h) HS0.out ?_
    simp only [Act.put, List.setIfInBounds_toArray, List.set_cons_zero, List.set_cons_succ]
    refine hd_take 2 (o := ⟨some 20, _, _, _, _, _⟩) (.pointer (some ⟨p, 0, none⟩)) (by kernel_rfl) (by kernel_rfl) (by kernel_rfl) rfl (by rfl) (fun W hSw => by go_simp) (fun _ _ _ h => h) HS0.out ?_
    simp only [Act.put, List.setIfInBounds_toArray, List.set_cons_zero, List.set_cons_succ]
    refine hd_take 3 (o := ⟨some 21, _, _, _, _, _⟩) (.pointer (some ⟨p, 0, none⟩)) (by kernel_rfl) (by kernel_rfl) (by kernel_rfl) rfl (by rfl) (fun W hSw => by go_simp) (fun _ _ _ h => h) HS0.out ?_
    simp only [Act.put, List.setIfInBounds_toArray, List.set_cons_zero, List.set_cons_succ]
    refine hd_take 4 (o := ⟨some 22, _, _, _, _, _⟩) (.pointer (some ⟨p, 0, none⟩)) (by kernel_rfl) (by kernel_rfl) (by kernel_rfl) rfl (by rfl) (fun W hSw => by go_simp) (fun _ _ _ h => h) HS0.out ?_
    simp only [Act.put, List.setIfInBounds_toArray, List.set_cons_zero, List.set_cons_succ]
    refine hd_take 5 (o := ⟨some 23, _, _, _, _, _⟩) (.pointer (some ⟨p, 9, none⟩)) (by kernel_rfl) (by kernel_rfl) (by kernel_rfl) rfl (by rfl) (fun W hSw => by go_simp) (fun _ _ _ h => h) HS0.out ?_
    simp only [Act.put, List.setIfInBounds_toArray, List.set_cons_zero, List.set_cons_succ]
    refine hd_take 6 (o := ⟨some 24, _, _, _, _, _⟩) (.int .i64 (ex.depth : Nat)) (by kernel_rfl) (by kernel_rfl) (by kernel_rfl) rfl (by rfl) (fun W hSw => by have k := hSw.2; go_simp) (fun _ _ _ h => h) HS0.out ?_
    simp only [Act.put, List.setIfInBounds_toArray, List.set_cons_zero, List.set_cons_succ]
    refine hd_take 7 (o := ⟨some 25, _, _, _, _, _⟩) (.int .i64 (1 + (ex.depth : Int))) (by kernel_rfl) (by kernel_rfl) (by kernel_rfl) rfl (by rfl) (fun W hSw => by go_simp) (fun _ _ _ h => h) HS0.out ?_
    simp only [Act.put, List.setIfInBounds_toArray, List.set_cons_zero, List.set_cons_succ]
    refine hd_take 8 (o := ⟨some 26, _, _, _, _, _⟩) (.agg #[.int .i64 4, .int .u32 0, .string ⟨#[]⟩, .bool false, .int .i64 0, .int .i64 0, .string ⟨tx.toArray⟩, .pointer (some ⟨p, 0, none⟩), .pointer none, .int .i64 (1 + (ex.depth : Int))]) (by kernel_rfl) (by kernel_rfl) (by kernel_rfl) rfl (by rfl) (fun W hSw => by go_simp) (fun _ _ _ h => h) HS0.out ?_
    simp only [Act.put, List.setIfInBounds_toArray, List.set_cons_zero, List.set_cons_succ]
    refine hd_call 9 (o := ⟨some 27, _, _, _, _, _⟩) (by kernel_rfl) rfl (by rfl) (fun K' hK => ?_)
    go_simp
    refine hK _ _ HS1.out ?_
    clear hK K'
    try simp only [Act.put, List.setIfInBounds_toArray, List.set_cons_zero, List.set_cons_succ]
    refine hd_take 10 (o := ⟨some 2, _, _, _, _, _⟩) (.pointer (some ⟨w0.heap.size, 0, none⟩)) (by kernel_rfl) (by kernel_rfl) (by kernel_rfl) rfl (by rfl) (fun W hSw => by go_simp) (fun _ _ _ h => h) HS1.out ?_
    simp only [Act.put, List.setIfInBounds_toArray, List.set_cons_zero, List.set_cons_succ]
    refine wpAnyH_done (by kernel_rfl) ?_ _
    go_wp2
    go_ret
    have hb := bel1 w0 (.cells #[.int .i64 4, .int .u32 0, .string ⟨#[]⟩, .bool false, .int .i64 0, .int .i64 0, .string ⟨tx.toArray⟩, .pointer (some ⟨p, 0, none⟩), .pointer none, .int .i64 (1 + (ex.depth : Int))] 154)
    refine ⟨w0.heap.size, rfl, ?_, ?_, HK6.out.trans (Kp.of hb)⟩
    · rw [HV.out]
      refine ExAt.iff.2 ⟨HK6.out.size, .pointer (some ⟨p, 0, none⟩), .pointer none, ⟨by rw [heap_alloc_new]; simp [exL, vr0]⟩, ⟨p, rfl, ExAt.move ex HE6.out fun j hj hs => ⟨⟨Nat.le_trans hw34 hj, by omega⟩, hb.block j hs⟩⟩, rfl⟩
    · rw [HV.out]; exact HA6.out.keep hb
end Go.Proofs.YtiafodeabdhcoaaGreatDoor

namespace Go.Proofs.YtiafodeabdhcoaaGreatDoor
open Go.RowKit
theorem px_one (ts : List Tk) (n lv : Nat) (e : Ex) (r : Rd) : pxF ts (n + 1) 1 lv e r = pxF ts n 2 lv (pxF ts n 0 0 ex0 r).1 (pxF ts n 0 0 ex0 r).2 := by simp only [pxF]
theorem px_two (ts : List Tk) (n lv : Nat) (e : Ex) (r : Rd) : pxF ts (n + 1) 2 lv e r = if lvT (r.see ts).text < lv then (e, r) else
    pxF ts n 2 lv ⟨5, 0, vr0, (r.see ts).text, some e, some (pxF ts n 1 (lvT (r.see ts).text + 1) ex0 (r.take ts (r.see ts).text)).1, max e.depth (1 + (pxF ts n 1 (lvT (r.see ts).text + 1) ex0 (r.take ts (r.see ts).text)).1.depth)⟩ (pxF ts n 1 (lvT (r.see ts).text + 1) ex0 (r.take ts (r.see ts).text)).2 := by simp only [pxF]
theorem lv_le (s : Tx) : lvT s ≤ 10 := by
  have h : ∀ o ∈ opsT, o.2.1 ≤ 10 := by decide
  unfold lvT
  cases hf : opsT.find? (fun o => o.1 == s) with
  | none => simp
  | some o => exact h o (List.mem_of_find?_eq_some hf)
/-- where a reader stands -/
def rdPos (w : World) (g : Nat) : Nat :=
  match w.cell? ⟨g, 1, none⟩ with
  | some (.int _ z) => z.toNat
  | _ => 0
theorem RdA.pos {w : World} {g : Nat} {ts : List Tk} {F : Fx} {r : Rd} (h : RdA w g ts F r) : rdPos w g = r.at' := by
  have := h.b.get (j := 1) rfl
  simp [rdPos, this]
set_option maxRecDepth 100000 in
set_option maxHeartbeats 4000000 in
theorem expr_step (n : Nat) (hO : OpC n) (hE : ∀ m, m ≤ n → ExC m) : ExC (n + 1) := by
  intro w g ts F r lv lz hlz hlv h hG hg9 hn hn6
  rw [px_one]
  have HOp := hide (hO w g ts F r h hG hg9 (by omega) (by omega))
  have hfr := fr_px (ts := ts) n 0 0 ex0 r
  have hdp := px_depth (ts := ts) n 0 0 ex0 r
  have h00 : ex0.depth = 0 := rfl
  rw [h00] at hdp
  have hgl := h.b.lt
  have HG := hide hG
  have HR := hide h
  clear h hG h00
  subst hlz
  generalize pxF ts n 0 0 ex0 r = q0 at *
  obtain ⟨e0, r0⟩ := q0
  simp only at hfr hdp HOp ⊢
  generalize hRR : pxF ts n 2 lv e0 r0 = RR at *
  have HRR := hide hRR
  clear hRR
  have hfa := hfr.at'
  have hfv := hfr.vars
  clear hfr
  go_enter Tryz.func145, Tryz.ntmps145
  go_upto_region 1 with fail
  go_step3
  go_wp2_with fail
  refine HOp.out.mono ?_
  rintro e w1 ⟨p1, rfl, hX1, hA1, hk1⟩
  have HX1 := hide hX1
  have HA1 := hide hA1
  have HK1 := hide hk1
  clear hX1 hA1 hk1 HOp
  go_upto_region 2 with fail
  go_step3
  go_upto_region 2 with fail
  go_loopw [5] (fun v wr => ∃ (m : Nat) (ex : Ex) (r1 : Rd) (p : Nat), v = .pointer (some ⟨p, 0, none⟩) ∧ pxF ts m 2 lv ex r1 = RR ∧ m ≤ n ∧ 3 * (ts.length - r1.at') + 1 ≤ m ∧ ex.depth ≤ 60000 ∧ r1.vars = r.vars ∧ ExAt wr ex (New w) p ∧ RdA wr g ts F r1 ∧ Kp g w wr) (fun _ wr => ts.length - rdPos wr g)
  case atStart => exact ⟨n, e0, r0, p1, rfl, HRR.out, Nat.le_refl _, by omega, by omega, hfv, HX1.out, HA1.out, HK1.out⟩
  case round =>
  obtain ⟨m, ex, r1, p, rfl, hrr, hm, hfu, hed, hv1, hX, hA, hK⟩ := hrel
  have HX := hide hX
  have HA := hide hA
  have HK := hide hK
  have HS := hide (see_any wr g ts F r1 hA)
  have HPo := hide hA.pos
  have HM : Hid ((r1.see ts).text ≠ [] → r1.at' + 1 < ts.length) := hide (fun e => (hA.more (.inr e)).1)
  have hatl := hA.hat
  have HTs : Hid (r1.take ts (r1.see ts).text = r1.step) := hide (by unfold Rd.take Rd.is; simp)
  obtain ⟨m', rfl⟩ : ∃ m', m = m' + 1 := ⟨m - 1, by omega⟩
  rw [px_two] at hrr
  rw [HTs.out] at hrr
  have HTk : Hid (∀ W, (r1.see ts).text ≠ [] → RdA W g ts F r1 → Calls Tryz.prog 79 #[.pointer (some ⟨g, 0, none⟩), .string ⟨(r1.see ts).text.toArray⟩] W fun e w' => e = .returned (.tuple #[]) ∧ RdA w' g ts F r1.step ∧ Kp g W w') := hide (fun W h1 h2 => by rw [← HTs.out]; exact take_any W g ts F r1 _ h1 h2)
  clear hX hA hK HX1 HA1 HK1 HRR HTs
  obtain ⟨t, ht⟩ : ∃ t, r1.see ts = t := ⟨_, rfl⟩
  rw [ht] at HS hrr HM HTk
  obtain ⟨sk, sx, sv, sl⟩ := t
  simp only [tkL] at HS hrr HM HTk
  clear ht
  have h1 := fld1 (.int .i64 (sk : Nat)) (.string ⟨sx.toArray⟩) (.int .u32 (sv : Nat)) (.int .i64 (sl : Nat))
  have hl10 := lv_le sx
  have HL0 : Hid (lvT sx ≠ 0 → sx ≠ []) := hide (fun h e => h (by rw [e]; rfl))
  have HRr := hide hrr
  clear hrr
  go_wp2_with fail
  refine HS.out.mono ?_
  rintro e w2 ⟨rfl, hb2⟩
  have HX2 := hide (HX.out.keepK (Kp.of (g := g) hb2) (fun j hj => by have : w.heap.size ≤ j := hj; omega))
  have HA2 := hide (HA.out.keep hb2)
  have HK2 := hide (HK.out.trans (Kp.of hb2))
  have HL := hide (level_any w2 sx (HG.out.keepK HK2.out hg9))
  clear hb2 HX HA HK HS
  go_wp2_with fail
  refine HL.out.mono ?_
  rintro e w3 ⟨rfl, hb3⟩
  have HX3 := hide (HX2.out.keepK (Kp.of (g := g) hb3) (fun j hj => by have : w.heap.size ≤ j := hj; omega))
  have HA3 := hide (HA2.out.keep hb3)
  have HK3 := hide (HK2.out.trans (Kp.of hb3))
  clear hb3 HX2 HA2 HK2 HL h1
  by_cases hlt : lvT sx < lv
  · have hli : (lvT sx : Int) < (lv : Int) := by omega
    have HV : Hid (RR = (ex, r1)) := hide (by rw [← HRr.out, if_pos hlt])
    clear HRr hlt HTk HL0 HM
    generalize lvT sx = L at *
    go_wp2
    (try rw [Exit.noGoto_ret])
    go_ret
    exact ⟨p, rfl, by rw [HV.out]; exact HX3.out, by rw [HV.out]; exact HA3.out, HK3.out⟩
  · have hli : ¬ (lvT sx : Int) < (lv : Int) := by omega
    have hne := HL0.out (by omega)
    have hm1 := HM.out hne
    have HRr2 := hide (HRr.out.symm.trans (if_neg hlt))
    have HT := hide (HTk.out w3 hne HA3.out)
    have HE := hide (fun W (hW : RdA W g ts F r1.step) (hGW : Lg W) (lz : Int) (hz : lz = ((lvT sx + 1 : Nat) : Int)) => hE m' (by omega) W g ts F r1.step (lvT sx + 1) lz hz (by omega) hW hGW hg9 (by show 3 * (ts.length - (r1.at' + 1)) + 2 ≤ m'; omega) (by omega))
    have hdx := px_depth (ts := ts) m' 1 (lvT sx + 1) ex0 r1.step
    have hfx := fr_px (ts := ts) m' 1 (lvT sx + 1) ex0 r1.step
    have h00 : ex0.depth = 0 := rfl
    rw [h00] at hdx
    clear HRr hlt HTk HL0 HM h00
    generalize pxF ts m' 1 (lvT sx + 1) ex0 r1.step = qx at *
    obtain ⟨xr, r4⟩ := qx
    have hfxa : r1.at' + 1 ≤ r4.at' := hfx.at'
    have hfxv : r4.vars = r.vars := hfx.vars.trans hv1
    simp only at HRr2 HE hdx
    clear hfx
    have HE2 := hide (fun W hW hGW => HE.out W hW hGW ((lvT sx : Int) + 1) (by omega))
    clear HE
    generalize lvT sx = L at *
    go_wp2_with fail
    refine HT.out.mono ?_
    rintro e w4 ⟨rfl, hA4, hk4⟩
    have HX4 := hide (HX3.out.keepK hk4 (fun j hj => by have : w.heap.size ≤ j := hj; omega))
    have HK4 := hide (HK3.out.trans hk4)
    have HE4 := hide (HE2.out w4 hA4 (HG.out.keepK HK4.out hg9))
    clear hA4 hk4 HX3 HA3 HK3 HT HE2
    go_wp2_with fail
    refine HE4.out.mono ?_
    rintro e w5 ⟨q, rfl, hX5, hA5, hk5⟩
    have HY5 := hide hX5
    have HX5 := hide (HX4.out.keepK hk5 (fun j hj => by have : w.heap.size ≤ j := hj; omega))
    have HA5 := hide hA5
    have HK5 := hide (HK4.out.trans hk5)
    have hw4 := HK4.out.size
    clear hX5 hA5 hk5 HX4 HK4 HE4
    go_upto_region 7 with fail
    obtain ⟨w0, hwD⟩ : ∃ wD, wD = w5.drew := ⟨_, rfl⟩
    have HA6 : Hid (RdA w0 g ts F r4) := by rw [hwD]; exact hide (HA5.out.keep (Below.refl _ w5).drew)
    have HK6 : Hid (Kp g w w0) := by rw [hwD]; exact hide (HK5.out.drew)
    have HX6 : Hid (ExAt w0 ex (New w) p) := by rw [hwD]; exact hide (HX5.out.keepK (Kp.of (g := g) (Below.refl _ w5).drew) (fun j hj => by have : w.heap.size ≤ j := hj; omega))
    have HY6 : Hid (ExAt w0 xr (New w4) q) := by rw [hwD]; exact hide (HY5.out.keepK (Kp.of (g := g) (Below.refl _ w5).drew) (fun j hj => by have : w4.heap.size ≤ j := hj; omega))
    have HS0 : Hid ((fun W => W.cell? ⟨p, 9, none⟩ = some (.int .i64 (ex.depth : Nat)) ∧ W.cell? ⟨q, 9, none⟩ = some (.int .i64 (xr.depth : Nat))) w0) := hide ⟨HX6.out.x.2.2, HY6.out.x.2.2⟩
    have hwd : IntKind.i64.wrap (1 + (xr.depth : Int)) = 1 + (xr.depth : Int) := by rw [IntKind.wrap_i64]; omega
    have HS1 : Hid ((fun W => W.cell? ⟨p, 9, none⟩ = some (.int .i64 (ex.depth : Nat)) ∧ W.cell? ⟨q, 9, none⟩ = some (.int .i64 (xr.depth : Nat))) (w0.alloc (.cells #[.int .i64 5, .int .u32 0, .string ⟨#[]⟩, .bool false, .int .i64 0, .int .i64 0, .string ⟨sx.toArray⟩, .pointer (some ⟨p, 0, none⟩), .pointer (some ⟨q, 0, none⟩), .int .i64 (max (ex.depth : Int) (1 + (xr.depth : Int)))] 154))) := hide ⟨by rw [(bel1 w0 _).cell (p := ⟨p, 9, none⟩) HX6.out.x.2.1]; exact HS0.out.1, by rw [(bel1 w0 _).cell (p := ⟨q, 9, none⟩) HY6.out.x.2.1]; exact HS0.out.2⟩
    refine wp_region_held_drew (S := fun W => W.cell? ⟨p, 9, none⟩ = some (.int .i64 (ex.depth : Nat)) ∧ W.cell? ⟨q, 9, none⟩ = some (.int .i64 (xr.depth : Nat))) (by kernel_rfl) (by rw [← hwD]; exact HS0.out) (fun hHeld => ?_)
    rw [← hwD]
    clear hwD hHeld HA5 HX5 HY5 HK5
    refine hd_take 0 (o := ⟨some 26, _, _, _, _, _⟩) (.string ⟨sx.toArray⟩) (by kernel_rfl) (by kernel_rfl) (by kernel_rfl) rfl (by rfl) (fun W hSw => by go_simp) (fun _ _ _ h => h) HS0.out ?_
    simp only [Act.put, List.setIfInBounds_toArray, List.set_cons_zero, List.set_cons_succ]
    refine hd_take 1 (o := ⟨some 27, _, _, _, _, _⟩) (.pointer (some ⟨p, 0, none⟩)) (by kernel_rfl) (by kernel_rfl) (by kernel_rfl) rfl (by rfl) (fun W hSw => by go_simp) (fun _ _ _ h => h) HS0.out ?_
    simp only [Act.put, List.setIfInBounds_toArray, List.set_cons_zero, List.set_cons_succ]
    refine hd_take 2 (o := ⟨some 28, _, _, _, _, _⟩) (.pointer (some ⟨q, 0, none⟩)) (by kernel_rfl) (by kernel_rfl) (by kernel_rfl) rfl (by rfl) (fun W hSw => by go_simp) (fun _ _ _ h => h) HS0.out ?_
    simp only [Act.put, List.setIfInBounds_toArray, List.set_cons_zero, List.set_cons_succ]
    refine hd_take 3 (o := ⟨some 29, _, _, _, _, _⟩) (.pointer (some ⟨p, 0, none⟩)) (by kernel_rfl) (by kernel_rfl) (by kernel_rfl) rfl (by rfl) (fun W hSw => by go_simp) (fun _ _ _ h => h) HS0.out ?_
    simp only [Act.put, List.setIfInBounds_toArray, List.set_cons_zero, List.set_cons_succ]
    refine hd_take 4 (o := ⟨some 30, _, _, _, _, _⟩) (.pointer (some ⟨p, 0, none⟩)) (by kernel_rfl) (by kernel_rfl) (by kernel_rfl) rfl (by rfl) (fun W hSw => by go_simp) (fun _ _ _ h => h) HS0.out ?_
    simp only [Act.put, List.setIfInBounds_toArray, List.set_cons_zero, List.set_cons_succ]
    refine hd_take 5 (o := ⟨some 31, _, _, _, _, _⟩) (.pointer (some ⟨p, 9, none⟩)) (by kernel_rfl) (by kernel_rfl) (by kernel_rfl) rfl (by rfl) (fun W hSw => by go_simp) (fun _ _ _ h => h) HS0.out ?_
    simp only [Act.put, List.setIfInBounds_toArray, List.set_cons_zero, List.set_cons_succ]
    refine hd_take 6 (o := ⟨some 32, _, _, _, _, _⟩) (.int .i64 (ex.depth : Nat)) (by kernel_rfl) (by kernel_rfl) (by kernel_rfl) rfl (by rfl) (fun W hSw => by have k := hSw.1; go_simp) (fun _ _ _ h => h) HS0.out ?_
    simp only [Act.put, List.setIfInBounds_toArray, List.set_cons_zero, List.set_cons_succ]
    refine hd_take 7 (o := ⟨some 33, _, _, _, _, _⟩) (.pointer (some ⟨q, 0, none⟩)) (by kernel_rfl) (by kernel_rfl) (by kernel_rfl) rfl (by rfl) (fun W hSw => by go_simp) (fun _ _ _ h => h) HS0.out ?_
    simp only [Act.put, List.setIfInBounds_toArray, List.set_cons_zero, List.set_cons_succ]
    refine hd_take 8 (o := ⟨some 34, _, _, _, _, _⟩) (.pointer (some ⟨q, 0, none⟩)) (by kernel_rfl) (by kernel_rfl) (by kernel_rfl) rfl (by rfl) (fun W hSw => by go_simp) (fun _ _ _ h => h) HS0.out ?_
    simp only [Act.put, List.setIfInBounds_toArray, List.set_cons_zero, List.set_cons_succ]
    refine hd_take 9 (o := ⟨some 35, _, _, _, _, _⟩) (.pointer (some ⟨q, 9, none⟩)) (by kernel_rfl) (by kernel_rfl) (by kernel_rfl) rfl (by rfl) (fun W hSw => by go_simp) (fun _ _ _ h => h) HS0.out ?_
    simp only [Act.put, List.setIfInBounds_toArray, List.set_cons_zero, List.set_cons_succ]
    refine hd_take 10 (o := ⟨some 36, _, _, _, _, _⟩) (.int .i64 (xr.depth : Nat)) (by kernel_rfl) (by kernel_rfl) (by kernel_rfl) rfl (by rfl) (fun W hSw => by have k := hSw.2; go_simp) (fun _ _ _ h => h) HS0.out ?_
    simp only [Act.put, List.setIfInBounds_toArray, List.set_cons_zero, List.set_cons_succ]
    refine hd_take 11 (o := ⟨some 37, _, _, _, _, _⟩) (.int .i64 (1 + (xr.depth : Int))) (by kernel_rfl) (by kernel_rfl) (by kernel_rfl) rfl (by rfl) (fun W hSw => by go_simp) (fun _ _ _ h => h) HS0.out ?_
    simp only [Act.put, List.setIfInBounds_toArray, List.set_cons_zero, List.set_cons_succ]
    refine hd_take 12 (o := ⟨some 38, _, _, _, _, _⟩) (.int .i64 (max (ex.depth : Int) (1 + (xr.depth : Int)))) (by kernel_rfl) (by kernel_rfl) (by kernel_rfl) rfl (by rfl) (fun W hSw => by go_simp) (fun _ _ _ h => h) HS0.out ?_
    simp only [Act.put, List.setIfInBounds_toArray, List.set_cons_zero, List.set_cons_succ]
    refine hd_take 13 (o := ⟨some 39, _, _, _, _, _⟩) (.agg #[.int .i64 5, .int .u32 0, .string ⟨#[]⟩, .bool false, .int .i64 0, .int .i64 0, .string ⟨sx.toArray⟩, .pointer (some ⟨p, 0, none⟩), .pointer (some ⟨q, 0, none⟩), .int .i64 (max (ex.depth : Int) (1 + (xr.depth : Int)))]) (by kernel_rfl) (by kernel_rfl) (by kernel_rfl) rfl (by rfl) (fun W hSw => by go_simp) (fun _ _ _ h => h) HS0.out ?_
    simp only [Act.put, List.setIfInBounds_toArray, List.set_cons_zero, List.set_cons_succ]
    refine hd_call 14 (o := ⟨some 40, _, _, _, _, _⟩) (by kernel_rfl) rfl (by rfl) (fun K' hK => ?_)
    go_simp
    refine hK _ _ HS1.out ?_
    clear hK K'
    try simp only [Act.put, List.setIfInBounds_toArray, List.set_cons_zero, List.set_cons_succ]
    refine hd_take 15 (o := ⟨some 5, _, _, _, _, _⟩) (.pointer (some ⟨w0.heap.size, 0, none⟩)) (by kernel_rfl) (by kernel_rfl) (by kernel_rfl) rfl (by rfl) (fun W hSw => by go_simp) (fun _ _ _ h => h) HS1.out ?_
    simp only [Act.put, List.setIfInBounds_toArray, List.set_cons_zero, List.set_cons_succ]
    refine wpAnyH_done (by kernel_rfl) ?_ _
    have hb := bel1 w0 (.cells #[.int .i64 5, .int .u32 0, .string ⟨#[]⟩, .bool false, .int .i64 0, .int .i64 0, .string ⟨sx.toArray⟩, .pointer (some ⟨p, 0, none⟩), .pointer (some ⟨q, 0, none⟩), .int .i64 (max (ex.depth : Int) (1 + (xr.depth : Int)))] 154)
    have HA7 := hide (HA6.out.keep hb)
    have HK7 := hide (HK6.out.trans (Kp.of hb))
    have HX7 : Hid (ExAt (w0.alloc (.cells #[.int .i64 5, .int .u32 0, .string ⟨#[]⟩, .bool false, .int .i64 0, .int .i64 0, .string ⟨sx.toArray⟩, .pointer (some ⟨p, 0, none⟩), .pointer (some ⟨q, 0, none⟩), .int .i64 (max (ex.depth : Int) (1 + (xr.depth : Int)))] 154)) ⟨5, 0, vr0, sx, some ex, some xr, max ex.depth (1 + xr.depth)⟩ (New w) w0.heap.size) := hide (ExAt.iff.2 ⟨HK6.out.size, .pointer (some ⟨p, 0, none⟩), .pointer (some ⟨q, 0, none⟩), ⟨by rw [heap_alloc_new]; simp [exL, vr0]; omega⟩, ⟨p, rfl, ExAt.move ex HX6.out fun j hj hs => ⟨⟨hj, by omega⟩, hb.block j hs⟩⟩, ⟨q, rfl, ExAt.move xr HY6.out fun j hj hs => ⟨⟨Nat.le_trans hw4 hj, by omega⟩, hb.block j hs⟩⟩⟩)
    clear hb HA6 HK6 HX6 HY6 HS0 HS1
    generalize w0.alloc (.cells #[.int .i64 5, .int .u32 0, .string ⟨#[]⟩, .bool false, .int .i64 0, .int .i64 0, .string ⟨sx.toArray⟩, .pointer (some ⟨p, 0, none⟩), .pointer (some ⟨q, 0, none⟩), .int .i64 (max (ex.depth : Int) (1 + (xr.depth : Int)))] 154) = W7 at *
    go_wp2
    refine ⟨⟨m', _, r4, _, rfl, HRr2.out.symm, by omega, by omega, ?_, hfxv, HX7.out, HA7.out, HK7.out⟩, ?_⟩
    · show max ex.depth (1 + xr.depth) ≤ 60000
      omega
    · rw [HA7.out.pos, HPo.out]
      omega
theorem px_all : ∀ n, OpC n ∧ ExC n := by
  intro n
  induction n using Nat.strongRecOn with
  | _ n ih =>
    cases n with
    | zero => exact ⟨fun w g ts F r h _ _ hn _ => by have := h.hat; omega, fun w g ts F r lv lz _ _ h _ _ hn _ => by omega⟩
    | succ n => exact ⟨operand_step n (ih n (Nat.lt_succ_self n)).1 (ih n (Nat.lt_succ_self n)).2, expr_step n (ih n (Nat.lt_succ_self n)).1 (fun m hm => (ih m (by omega)).2)⟩
end Go.Proofs.YtiafodeabdhcoaaGreatDoor

namespace Go.Proofs.YtiafodeabdhcoaaGreatDoor
open Go.RowKit
def stL (word : Tx) (v : Vr) (pi pv pb : Value) (oth : Nat) (pr : Value) : List Value := [.string ⟨word.toArray⟩, .string ⟨v.name.toArray⟩, .bool v.arr, .int .i64 (v.size : Nat), .int .i64 (v.at' : Nat), pi, pv, pb, .int .i64 (oth : Nat), pr]
/-- statements, one behind the other, are these rows of cells -/
def ChIs (w : World) : Sl → (Nat → Prop) → List (List Value) → Prop
  | ⟨word, v, idx, val, body, oth, rest, next⟩, X, L => ∃ cs M pi pv pb pr, L = cs :: M ∧ cs = stL word v pi pv pb oth pr ∧ PtE w idx X pi ∧ PtE w val X pv ∧
    (match body with
      | none => pb = .slice none 0 0
      | some b => ∃ a c N, pb = .slice (some a) (List.length N) c ∧ X a.block ∧ RwK w (some a) 10 id N ∧ ChIs w b X N) ∧
    (match rest with
      | none => pr = .slice none 0 0
      | some b => ∃ a c N, pr = .slice (some a) (List.length N) c ∧ X a.block ∧ RwK w (some a) 10 id N ∧ ChIs w b X N) ∧
    (match next with
      | none => M = []
      | some s => ChIs w s X M)
/-- a list of statements -/
def LsO (w : World) (o : Option Sl) (X : Nat → Prop) (v : Value) : Prop :=
  match o with
  | none => v = .slice none 0 0
  | some b => ∃ a c N, v = .slice (some a) (List.length N) c ∧ X a.block ∧ RwK w (some a) 10 id N ∧ ChIs w b X N
def ChO (w : World) (o : Option Sl) (X : Nat → Prop) (L : List (List Value)) : Prop :=
  match o with
  | none => L = []
  | some s => ChIs w s X L
/-- one statement -/
def StA (w : World) (s : Sl) (X : Nat → Prop) (cs : List Value) : Prop := ∃ pi pv pb pr, cs = stL s.word s.var pi pv pb s.oth pr ∧ PtE w s.idx X pi ∧ PtE w s.val X pv ∧ LsO w s.body X pb ∧ LsO w s.rest X pr
theorem ChIs.iff {w : World} {s : Sl} {X : Nat → Prop} {L : List (List Value)} : ChIs w s X L ↔ ∃ cs M, L = cs :: M ∧ StA w s X cs ∧ ChO w s.next X M := by
  obtain ⟨word, v, idx, val, body, oth, rest, next⟩ := s
  unfold ChIs StA LsO ChO
  constructor
  · rintro ⟨cs, M, pi, pv, pb, pr, h1, h2, h3, h4, h5, h6, h7⟩
    refine ⟨cs, M, h1, ⟨pi, pv, pb, pr, h2, h3, h4, ?_, ?_⟩, ?_⟩
    · cases body <;> exact h5
    · cases rest <;> exact h6
    · cases next <;> exact h7
  · rintro ⟨cs, M, h1, ⟨pi, pv, pb, pr, h2, h3, h4, h5, h6⟩, h7⟩
    refine ⟨cs, M, pi, pv, pb, pr, h1, h2, h3, h4, ?_, ?_, ?_⟩
    · cases body <;> exact h5
    · cases rest <;> exact h6
    · cases next <;> exact h7
theorem rw_move {w w' : World} {a : Addr} {N : List (List Value)} (h : RwK w (some a) 10 id N) (hm : a.block < w.heap.size → w'.heap[a.block]? = w.heap[a.block]?) : RwK w' (some a) 10 id N := fun i hi => by
  obtain ⟨b, h1, h2⟩ := h i hi
  cases h1
  refine ⟨a, rfl, fun j v hv => ?_⟩
  have h3 := h2 j v hv
  have hb := cell_blk h3
  rw [add_blk, add_blk] at hb
  rw [← h3]
  refine World.cell?_of_block ?_
  rw [add_blk, add_blk]
  exact hm hb
theorem ChIs.move {w w' : World} : ∀ (s : Sl) {X Y : Nat → Prop} {L : List (List Value)}, ChIs w s X L → (∀ j, X j → j < w.heap.size → Y j ∧ w'.heap[j]? = w.heap[j]?) → (∀ j, X j → Y j) → ChIs w' s Y L
  | ⟨word, v, idx, val, body, oth, rest, next⟩, X, Y, L, h, hm, hx => by
    unfold ChIs at h ⊢
    obtain ⟨cs, M, pi, pv, pb, pr, h1, h2, h3, h4, h5, h6, h7⟩ := h
    refine ⟨cs, M, pi, pv, pb, pr, h1, h2, h3.move hm, h4.move hm, ?_, ?_, ?_⟩
    · match body, h5 with
      | none, h5 => exact h5
      | some b, ⟨a, c, N, e1, e2, e3, e4⟩ => exact ⟨a, c, N, e1, hx _ e2, rw_move e3 (fun hl => (hm _ e2 hl).2), ChIs.move b e4 hm hx⟩
    · match rest, h6 with
      | none, h6 => exact h6
      | some b, ⟨a, c, N, e1, e2, e3, e4⟩ => exact ⟨a, c, N, e1, hx _ e2, rw_move e3 (fun hl => (hm _ e2 hl).2), ChIs.move b e4 hm hx⟩
    · match next, h7 with
      | none, h7 => exact h7
      | some s, h7 => exact ChIs.move s h7 hm hx
section
variable {w w' : World} {X Y : Nat → Prop}
theorem LsO.move {o : Option Sl} {v : Value} (h : LsO w o X v) (hm : ∀ j, X j → j < w.heap.size → Y j ∧ w'.heap[j]? = w.heap[j]?) (hx : ∀ j, X j → Y j) : LsO w' o Y v := by
  match o, h with
  | none, h => exact h
  | some b, ⟨a, c, N, e1, e2, e3, e4⟩ => exact ⟨a, c, N, e1, hx _ e2, rw_move e3 (fun hl => (hm _ e2 hl).2), e4.move b hm hx⟩
theorem StA.move {s : Sl} {cs : List Value} (h : StA w s X cs) (hm : ∀ j, X j → j < w.heap.size → Y j ∧ w'.heap[j]? = w.heap[j]?) (hx : ∀ j, X j → Y j) : StA w' s Y cs := by
  obtain ⟨pi, pv, pb, pr, h1, h2, h3, h4, h5⟩ := h
  exact ⟨pi, pv, pb, pr, h1, h2.move hm, h3.move hm, h4.move hm hx, h5.move hm hx⟩
theorem StA.keepK {s : Sl} {cs : List Value} {g : Nat} (h : StA w s X cs) (hk : Kp g w w') (hg : ∀ j, X j → j ≠ g) : StA w' s X cs := h.move (fun j hj hs => ⟨hj, hk.block j hs (hg j hj)⟩) fun _ h => h
theorem LsO.keepK {o : Option Sl} {v : Value} {g : Nat} (h : LsO w o X v) (hk : Kp g w w') (hg : ∀ j, X j → j ≠ g) : LsO w' o X v := h.move (fun j hj hs => ⟨hj, hk.block j hs (hg j hj)⟩) fun _ h => h
theorem PtE.keepK {o : Option Ex} {v : Value} {g : Nat} (h : PtE w o X v) (hk : Kp g w w') (hg : ∀ j, X j → j ≠ g) : PtE w' o X v := h.move (fun j hj hs => ⟨hj, hk.block j hs (hg j hj)⟩)
theorem LsO.mono {o : Option Sl} {v : Value} (h : LsO w o X v) (hx : ∀ j, X j → Y j) : LsO w o Y v := h.move (fun j hj _ => ⟨hx j hj, rfl⟩) hx
theorem StA.mono {s : Sl} {cs : List Value} (h : StA w s X cs) (hx : ∀ j, X j → Y j) : StA w s Y cs := h.move (fun j hj _ => ⟨hx j hj, rfl⟩) hx
theorem PtE.mono {o : Option Ex} {v : Value} (h : PtE w o X v) (hx : ∀ j, X j → Y j) : PtE w o Y v := h.move (fun j hj _ => ⟨hx j hj, rfl⟩)
theorem StA.len {s : Sl} {cs : List Value} (h : StA w s X cs) : cs.length = 10 := by
  obtain ⟨pi, pv, pb, pr, h1, _⟩ := h
  rw [h1]; rfl
end
/-- statements put ahead of others -/
def chn : List Sl → Option Sl → Option Sl
  | [], t => t
  | s :: r, t => some { s with next := chn r t }
theorem chn_snoc : ∀ (l : List Sl) (s : Sl) (t : Option Sl), chn (l ++ [s]) t = chn l (some { s with next := t })
  | [], s, t => rfl
  | x :: l, s, t => by
    show some { x with next := chn (l ++ [s]) t } = some { x with next := chn l (some { s with next := t }) }
    rw [chn_snoc l s t]
theorem chn_is {w : World} {X : Nat → Prop} : ∀ (l : List Sl) (L : List (List Value)), l.length = L.length → (∀ i (h : i < l.length) (h2 : i < L.length), StA w l[i] X L[i]) → ChO w (chn l none) X L
  | [], [], _, _ => rfl
  | [], _ :: _, h, _ => by simp at h
  | _ :: _, [], h, _ => by simp at h
  | s :: l, cs :: L, h, hs => by
    have h0 := hs 0 (by simp) (by simp)
    simp only [List.getElem_cons_zero] at h0
    have ih := chn_is l L (by simpa using h) (fun i h1 h2 => hs (i + 1) (by simpa using h1) (by simpa using h2))
    exact ChIs.iff.2 ⟨cs, L, rfl, h0, ih⟩
section
variable {ts : List Tk}
theorem fr_whole (r : Rd) : r.Fr (r.whole ts).2 := by
  unfold Rd.whole
  simp only
  split
  · exact (fr_px _ _ _ _ r).trans (fr_dep _ _)
  · exact fr_px _ _ _ _ r
theorem fr_assign (r : Rd) : r.Fr (r.assign ts).2 := by
  have h1 := fr_named (ts := ts) r
  unfold Rd.assign
  generalize r.named ts = v at *
  obtain ⟨v1, r1⟩ := v
  simp only at h1 ⊢
  split
  · have h2 := fr_whole (ts := ts) r1.step
    generalize Rd.whole ts r1.step = i at *
    obtain ⟨i1, r2⟩ := i
    have h5 := fr_whole (ts := ts) ((r2.take ts [93]).take ts [61])
    have h3 := (fr_take (ts := ts) r2 [93]).trans (fr_take (ts := ts) (r2.take ts [93]) [61])
    generalize Rd.whole ts ((r2.take ts [93]).take ts [61]) = e at *
    obtain ⟨e1, r3⟩ := e
    exact (((h1.trans (fr_step r1)).trans h2).trans (h3.trans h5)).trans (fr_take r3 [59])
  · have h5 := fr_whole (ts := ts) (r1.take ts [61])
    generalize Rd.whole ts (r1.take ts [61]) = e at *
    obtain ⟨e1, r3⟩ := e
    exact ((h1.trans (fr_take r1 [61])).trans h5).trans (fr_take r3 [59])
theorem fr_telling (r : Rd) (s : Tx) : r.Fr (r.telling ts s).2 := by
  have h5 := fr_whole (ts := ts) (r.take ts s)
  unfold Rd.telling
  generalize Rd.whole ts (r.take ts s) = e at *
  obtain ⟨e1, r3⟩ := e
  exact ((fr_take r s).trans h5).trans (fr_take r3 [59])
theorem fr_bare (r : Rd) (t : Tk) : r.Fr (r.bare ts t).2 := by
  unfold Rd.bare
  simp only
  split
  · exact ((fr_name r _).trans (fr_take _ _)).trans (fr_take _ _)
  · exact (fr_take _ _).trans (fr_take _ _)
theorem enter_fr (r : Rd) : (r.enter ts).vars = r.vars ∧ (r.enter ts).words = r.words ∧ (r.enter ts).blocks = r.blocks + 1 ∧ (r.enter ts).loops = r.loops ∧ (r.enter ts).dat = r.dat ∧ r.at' ≤ (r.enter ts).at' ∧ (r.enter ts).at' = (r.take ts [123]).at' := by
  have h := fr_take (ts := ts) r [123]
  have hd := fr_dep (r.take ts [123]) (r.see ts).line
  have ha : ((r.take ts [123]).ndep (r.see ts).line).at' = (r.take ts [123]).at' := by unfold Rd.ndep; split <;> rfl
  unfold Rd.enter
  simp only
  split
  · exact ⟨(h.trans hd).vars, (h.trans hd).words, congrArg (· + 1) (h.trans hd).blocks, (h.trans hd).loops, (h.trans hd).dat, (h.trans hd).at', ha⟩
  · exact ⟨h.vars, h.words, congrArg (· + 1) h.blocks, h.loops, h.dat, h.at', rfl⟩
theorem leave_fr {r r' : Rd} (h1 : r'.vars = r.vars) (h2 : r'.words = r.words) (h3 : r'.blocks = r.blocks + 1) (h4 : r'.loops = r.loops) (h5 : r'.dat = r.dat) (h6 : r.at' ≤ r'.at') : r.Fr (r'.leave ts) := by
  unfold Rd.leave
  have h := fr_take (ts := ts) { r' with blocks := r'.blocks - 1 } [125]
  exact ⟨h.vars.trans h1, h.words.trans h2, h.blocks.trans (by show r'.blocks - 1 = _; omega), h.loops.trans h4, h.dat.trans h5, Nat.le_trans h6 h.at'⟩
theorem fr_ps : ∀ (n t : Nat) (r : Rd), r.Fr (psF ts n t r).2
  | 0, _, r => by simp only [psF]; exact Rd.Fr.refl r
  | n + 1, 0, r => by
    simp only [psF]
    split
    · next s r1 he =>
      have h1 : r.Fr r1 := by
        split at he
        · have e2 := Option.some.inj he; have h2 := fr_ps n 2 r; rw [e2] at h2; exact h2
        · split at he
          · have e2 := Option.some.inj he; have h2 := fr_ps n 3 r; rw [e2] at h2; exact h2
          · split at he
            · cases he; exact fr_telling r _
            · split at he
              · cases he; exact fr_bare r _
              · split at he
                · cases he; exact fr_ps n 1 r
                · split at he
                  · cases he; exact fr_assign r
                  · cases he
      exact h1.trans (fr_ps n 0 r1)
    · exact Rd.Fr.refl r
  | n + 1, 1, r => by
    simp only [psF]
    obtain ⟨h1, h2, h3, h4, h5, h6, _⟩ := enter_fr (ts := ts) r
    have ih := fr_ps n 0 (r.enter ts)
    exact leave_fr (ih.vars.trans h1) (ih.words.trans h2) (ih.blocks.trans h3) (ih.loops.trans h4) (ih.dat.trans h5) (Nat.le_trans h6 ih.at')
  | n + 1, 2, r => by
    simp only [psF]
    have h1 := fr_whole (ts := ts) (r.take ts [105, 102])
    generalize Rd.whole ts (r.take ts [105, 102]) = e at *
    obtain ⟨e1, r1⟩ := e
    have h2 := fr_ps n 1 r1
    simp only at h1 ⊢
    generalize psF ts n 1 r1 = b at *
    obtain ⟨b1, r2⟩ := b
    have hb := ((fr_take (ts := ts) r [105, 102]).trans h1).trans h2
    simp only at hb ⊢
    split
    · split
      · exact (hb.trans (fr_step r2)).trans (fr_ps n 2 r2.step)
      · exact (hb.trans (fr_step r2)).trans (fr_ps n 1 r2.step)
    · exact hb
  | n + 1, t + 3, r => by
    simp only [psF]
    have h1 := fr_whole (ts := ts) (r.take ts [119, 104, 105, 108, 101])
    generalize Rd.whole ts (r.take ts [119, 104, 105, 108, 101]) = e at *
    obtain ⟨e1, r1⟩ := e
    have ha := (fr_take (ts := ts) r [119, 104, 105, 108, 101]).trans h1
    have hb := fr_ps n 1 { r1 with loops := r1.loops + 1 }
    simp only at ha ⊢
    generalize psF ts n 1 { r1 with loops := r1.loops + 1 } = b at *
    obtain ⟨b1, r2⟩ := b
    have hl := hb.loops
    have hl2 := ha.loops
    simp only at hl hl2
    exact ⟨hb.vars.trans ha.vars, hb.words.trans ha.words, hb.blocks.trans ha.blocks, by show r2.loops - 1 = _; omega, hb.dat.trans ha.dat, Nat.le_trans ha.at' hb.at'⟩
end
set_option maxRecDepth 100000 in
set_option maxHeartbeats 1000000 in
theorem whole_any (w : World) (g : Nat) (ts : List Tk) (F : Fx) (r : Rd) (h : RdA w g ts F r) (hG : Lg w) (hg9 : 9 ≤ g) : Calls Tryz.prog 113 #[.pointer (some ⟨g, 0, none⟩)] w (PxPost w g ts F (r.whole ts)) := by
  have HS := hide (see_any w g ts F r h)
  have hln := h.len
  have hgl := h.b.lt
  have HE := hide (fun W (hW : RdA W g ts F r) (hGW : Lg W) => (px_all (r.fuel ts)).2 W g ts F r 1 1 rfl (by decide) hW hGW hg9 (by unfold Rd.fuel; omega) (by unfold Rd.fuel; omega))
  have HV : Hid (r.whole ts = ((pxF ts (r.fuel ts) 1 1 ex0 r).1, if 16 < (pxF ts (r.fuel ts) 1 1 ex0 r).1.depth then (pxF ts (r.fuel ts) 1 1 ex0 r).2.ndep (r.see ts).line else (pxF ts (r.fuel ts) 1 1 ex0 r).2)) := hide rfl
  have HG := hide hG
  have HR := hide h
  clear h hG
  generalize r.whole ts = RW at *
  generalize pxF ts (r.fuel ts) 1 1 ex0 r = q at *
  obtain ⟨ex, r2⟩ := q
  generalize r.see ts = t at *
  obtain ⟨tk, tx, tv, tl⟩ := t
  simp only [tkL] at HS HE HV
  have h3 := fld3 (.int .i64 (tk : Nat)) (.string ⟨tx.toArray⟩) (.int .u32 (tv : Nat)) (.int .i64 (tl : Nat))
  go_enter Tryz.func113, Tryz.ntmps113
  go_wp2_with fail
  refine HS.out.mono ?_
  rintro e w1 ⟨rfl, hb1⟩
  have HE1 := hide (HE.out w1 (HR.out.keep hb1) (HG.out.below hb1))
  have HB1 := hide hb1
  clear hb1 HE HS
  go_wp2_with fail
  refine HE1.out.mono ?_
  rintro e w2 ⟨p, rfl, hX, hA, hk⟩
  have HX := hide hX
  have HA := hide hA
  have HK := hide ((Kp.of (g := g) HB1.out).trans hk)
  have hs1 := HB1.out.size
  obtain ⟨hp1, hp2, hp3⟩ := hX.x
  clear hX hA hk HE1 hp1
  by_cases hd : 16 < ex.depth
  · have hdi : (16 : Int) < (ex.depth : Int) := by omega
    rw [if_pos hd] at HV
    have HN := hide (note_any w2 g ts F r2 3 tl 3 rfl (by decide) HA.out)
    change Hid (Calls _ _ _ w2 fun e w' => e = .returned (.tuple #[]) ∧ RdA w' g ts F (r2.ndep tl) ∧ Kp g w2 w') at HN
    clear hd
    go_wp2_with fail
    refine HN.out.mono ?_
    rintro e w3 ⟨rfl, hA3, hk3⟩
    have HX3 := hide (HX.out.keepK hk3 (fun j hj => by have : w1.heap.size ≤ j := hj; omega))
    have HA3 := hide hA3
    have HK3 := hide (HK.out.trans hk3)
    clear hA3 hk3 HN HX HA HK hp3
    go_wp2
    go_ret
    exact ⟨p, rfl, by rw [HV.out]; exact HX3.out.mono (fun j hj => Nat.le_trans hs1 hj), by rw [HV.out]; exact HA3.out, HK3.out⟩
  · have hdi : ¬ (16 : Int) < (ex.depth : Int) := by omega
    rw [if_neg hd] at HV
    clear hd
    go_wp2
    go_ret
    exact ⟨p, rfl, by rw [HV.out]; exact HX.out.mono (fun j hj => Nat.le_trans hs1 hj), by rw [HV.out]; exact HA.out, HK.out⟩
end Go.Proofs.YtiafodeabdhcoaaGreatDoor

namespace Go.Proofs.YtiafodeabdhcoaaGreatDoor
open Go.RowKit
/-- one statement's code -/
def cs1 (s : Sl) (c : Cd) : Cd := c.stm s.word s.var s.idx s.val s.oth (csO s.body) (csO s.rest)
theorem csF_next (s : Sl) (c : Cd) : csF s c = csO s.next (cs1 s c) := slF_eq stmF s c
theorem le_cxO (o : Option Ex) (d : Nat) (c : Cd) : c.Le (cxO o d c) := by
  cases o with
  | none => exact Cd.Le.refl c
  | some e => exact le_cx e d c
theorem le_asn (c : Cd) (v : Vr) (i x : Option Ex) : c.Le (c.assign v i x) := by
  cases i with
  | none => exact (le_cxO _ _ _).trans (le_put _ _)
  | some i => exact ((((le_cx i 0 c).trans (le_guard _ _)).trans (le_put _ _)).trans (le_cxO _ _ _)).trans (le_put _ _)
theorem le_loop (c : Cd) (t : Tx) : c.Le { c with loop := t } := ⟨Nat.le_refl _, Nat.le_refl _, Nat.le_refl _⟩
theorem le_stm (c : Cd) (word : Tx) (v : Vr) (idx val : Option Ex) (oth : Nat) {fb fr : Cd → Cd} (hb : ∀ c : Cd, c.Le (fb c)) (hr : ∀ c : Cd, c.Le (fr c)) : c.Le (c.stm word v idx val oth fb fr) := by
  unfold Cd.stm
  split
  · exact le_asn _ _ _ _
  · split
    · refine Cd.Le.trans ?_ (le_lab _ _)
      refine Cd.Le.trans ?_ (hr _)
      refine Cd.Le.trans ?_ (le_lab _ _)
      have h1 := (((le_pair c).trans (le_cxO val 0 _)).trans (le_put _ [[106, 122, 32, 114, 52, 44, 32, 97] ++ c.name])).trans (hb _)
      split
      · exact h1.trans (le_put _ _)
      · exact h1
    · split
      · refine Cd.Le.trans ?_ (le_loop _ c.loop)
        refine Cd.Le.trans ?_ (le_lab _ _)
        refine Cd.Le.trans ?_ (le_put _ _)
        exact ((((((le_pair c).trans (le_loop _ c.name)).trans (le_lab _ _)).trans (le_cxO val 0 _)).trans (le_put _ [[106, 122, 32, 114, 52, 44, 32, 98] ++ c.name])).trans (hb _))
      · split
        · exact (le_cxO _ _ _).trans (le_put _ _)
        · split
          · exact (le_cxO _ _ _).trans (le_put _ _)
          · split
            · exact le_put _ _
            · split
              · exact le_put _ _
              · split
                · exact le_put _ _
                · split
                  · exact (le_put _ _).trans (hb _)
                  · exact Cd.Le.refl c
theorem le_cs : ∀ (s : Sl) (c : Cd), c.Le (csF s c)
  | ⟨word, v, idx, val, body, oth, rest, next⟩, c => by
    have hb : ∀ (c : Cd), c.Le (csO body c) := fun c => by
      match body with
      | none => exact Cd.Le.refl c
      | some e => exact le_cs e c
    have hr : ∀ (c : Cd), c.Le (csO rest c) := fun c => by
      match rest with
      | none => exact Cd.Le.refl c
      | some e => exact le_cs e c
    have hn : ∀ (c : Cd), c.Le (csO next c) := fun c => by
      match next with
      | none => exact Cd.Le.refl c
      | some e => exact le_cs e c
    rw [csF_next]
    exact (le_stm c word v idx val oth hb hr).trans (hn _)
theorem le_csO (o : Option Sl) (c : Cd) : c.Le (csO o c) := by
  cases o with
  | none => exact Cd.Le.refl c
  | some e => exact le_cs e c
theorem le_cs1 (s : Sl) (c : Cd) : c.Le (cs1 s c) := le_stm c _ _ _ _ _ (le_csO _) (le_csO _)
theorem lp_short (c : Cd) {fl fr : Cd → Cd} (hl : ∀ c : Cd, (fl c).loop = c.loop) (hr : ∀ c : Cd, (fr c).loop = c.loop) (j : Tx) (z : Nat) : (c.short fl fr j z).loop = c.loop := by
  unfold Cd.short
  show (fr _).loop = _
  rw [hr]
  show (fl _).loop = _
  rw [hl]
  rfl
theorem lp_oper (c : Cd) {fl fr : Cd → Cd} (hl : ∀ c : Cd, (fl c).loop = c.loop) (hr : ∀ c : Cd, (fr c).loop = c.loop) (d : Nat) (op : Tx) : (c.oper fl fr d op).loop = c.loop := by
  unfold Cd.oper
  show (fr _).loop = _
  rw [hr]
  show (fl _).loop = _
  rw [hl]
theorem lp_cx : ∀ (e : Ex) (d : Nat) (c : Cd), (cxF e d c).loop = c.loop
  | ⟨k, v, vr, op, l, r, dp⟩, d, c => by
    have hl : ∀ (d : Nat) (c : Cd), (match l with | none => c | some e => cxF e d c).loop = c.loop := fun d c => by
      match l with
      | none => rfl
      | some e => exact lp_cx e d c
    have hr : ∀ (d : Nat) (c : Cd), (match r with | none => c | some e => cxF e d c).loop = c.loop := fun d c => by
      match r with
      | none => rfl
      | some e => exact lp_cx e d c
    unfold cxF
    split
    · unfold Cd.num; split <;> rfl
    · split
      · rfl
      · split
        · rfl
        · split
          · exact hl d c
          · split
            · exact hl d c
            · split
              · exact lp_short c (hl d) (hr d) _ _
              · split
                · exact lp_short c (hl d) (hr d) _ _
                · exact lp_oper c (hl d) (hr (d + 1)) d op
theorem lp_cxO (o : Option Ex) (d : Nat) (c : Cd) : (cxO o d c).loop = c.loop := by
  cases o with
  | none => rfl
  | some e => exact lp_cx e d c
theorem lp_stm (c : Cd) (word : Tx) (v : Vr) (idx val : Option Ex) (oth : Nat) {fb fr : Cd → Cd} (hb : ∀ c : Cd, (fb c).loop = c.loop) (hr : ∀ c : Cd, (fr c).loop = c.loop) : (c.stm word v idx val oth fb fr).loop = c.loop := by
  unfold Cd.stm
  split
  · unfold Cd.assign
    split
    · exact lp_cxO _ _ _
    · next i =>
      show (cxO val 1 _).loop = _
      rw [lp_cxO]
      exact lp_cx i 0 c
  · split
    · show (fr _).loop = _
      rw [hr]
      have h2 : (fb ((cxO val 0 c.pair).put [[106, 122, 32, 114, 52, 44, 32, 97] ++ c.name])).loop = c.loop := by
        rw [hb]
        show (cxO val 0 c.pair).loop = _
        rw [lp_cxO]; rfl
      show (if oth ≠ 0 then _ else _ : Cd).loop = _
      split
      · exact h2
      · exact h2
    · split
      · rfl
      · split
        · exact lp_cxO _ _ _
        · split
          · exact lp_cxO _ _ _
          · split
            · rfl
            · split
              · rfl
              · split
                · rfl
                · split
                  · rw [hb]; rfl
                  · rfl
theorem lp_cs : ∀ (s : Sl) (c : Cd), (csF s c).loop = c.loop
  | ⟨word, v, idx, val, body, oth, rest, next⟩, c => by
    have hb : ∀ (c : Cd), (csO body c).loop = c.loop := fun c => by
      match body with
      | none => rfl
      | some e => exact lp_cs e c
    have hr : ∀ (c : Cd), (csO rest c).loop = c.loop := fun c => by
      match rest with
      | none => rfl
      | some e => exact lp_cs e c
    have hn : ∀ (c : Cd), (csO next c).loop = c.loop := fun c => by
      match next with
      | none => rfl
      | some e => exact lp_cs e c
    rw [csF_next]
    exact (hn _).trans (lp_stm c word v idx val oth hb hr)
theorem lp_csO (o : Option Sl) (c : Cd) : (csO o c).loop = c.loop := by
  cases o with
  | none => rfl
  | some e => exact lp_cs e c
theorem lp_cs1 (s : Sl) (c : Cd) : (cs1 s c).loop = c.loop := lp_stm c _ _ _ _ _ (lp_csO _) (lp_csO _)
/-- the innermost loop's number, as a text -/
def LpOk (c : Cd) : Prop := c.loop.length ≤ 21 ∧ (59 : UInt8) ∉ c.loop
def exO (o : Option Ex) : Nat := match o with | none => 0 | some e => exN e
/-- how many nodes statements have -/
def slN : Sl → Nat
  | ⟨_, _, idx, val, body, _, rest, next⟩ => 1 + exO idx + exO val + (match body with | none => 0 | some b => slN b) + (match rest with | none => 0 | some b => slN b) + (match next with | none => 0 | some b => slN b)
def slO (o : Option Sl) : Nat := match o with | none => 0 | some s => slN s
def exOK (o : Option Ex) : Prop := match o with | none => True | some e => exK e
/-- statements that the coder and the machine take -/
def slK : Sl → Prop
  | ⟨word, v, idx, val, body, _, rest, next⟩ => v.size ≤ 4294967295 ∧ v.at' ≤ 4294967295 ∧ (word = [61] → (idx = none → 384 ≤ v.at' ∧ v.at' < 480) ∧ (idx ≠ none → 384 ≤ v.at' ∧ v.at' + v.size ≤ 480)) ∧
    (word = [61] ∨ word = [105, 102] ∨ word = [119, 104, 105, 108, 101] ∨ word = [101, 109, 105, 116] ∨ word = [115, 116, 111, 112] → val ≠ none) ∧ exOK idx ∧ exOK val ∧
    (match body with | none => True | some b => slK b) ∧ (match rest with | none => True | some b => slK b) ∧ (match next with | none => True | some b => slK b)
def slOK (o : Option Sl) : Prop := match o with | none => True | some s => slK s
/-- the coder's contracts for statements -/
def CsC (o : Option Sl) : Prop := ∀ (w : World) (g : Nat) (c : Cd) (X : Nat → Prop) (v : Value), LsO w o X v → (∀ j, X j → j < g) → CdAt w g c → Lyb g w → (csO o c).Ok → LpOk c → slO o ≤ 1000000 →
  Calls Tryz.prog 33 #[.pointer (some ⟨g, 0, none⟩), v] w (CdPost g (csO o c) w)
def StC (s : Sl) : Prop := ∀ (w : World) (g : Nat) (c : Cd) (X : Nat → Prop) (cs : List Value), StA w s X cs → (∀ j, X j → j < g) → CdAt w g c → Lyb g w → (cs1 s c).Ok → LpOk c → slN s ≤ 1000000 →
  Calls Tryz.prog 58 #[.pointer (some ⟨g, 0, none⟩), .agg cs.toArray] w (CdPost g (cs1 s c) w)
end Go.Proofs.YtiafodeabdhcoaaGreatDoor
