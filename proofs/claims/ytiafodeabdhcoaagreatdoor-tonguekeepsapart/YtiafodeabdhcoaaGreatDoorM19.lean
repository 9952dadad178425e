import Derived.BigQuiet
import Derived.Test.YtiafodeabdhcoaaGreatDoorM09
import Derived.Test.YtiafodeabdhcoaaGreatDoorM18
namespace Go.Proofs.YtiafodeabdhcoaaGreatDoor
open Go.RowKit
/-- the machine's contract for a statement -/
def MdC (s : Sl) : Prop := ∀ (w : World) (g : Nat) (m : Mc) (d : Nat) (X : Nat → Prop) (cs : List Value), StA w s X cs → (∀ j, X j → j < g) → MAt w g m → Mok d m →
  Calls Tryz.prog 37 #[.pointer (some ⟨g, 0, none⟩), .agg cs.toArray] w (McPost g (.int .i64 ((ms1 s m).1 : Nat)) (ms1 s m).2 w)
theorem ms1_eq (s : Sl) (m : Mc) : ms1 s m = Mc.stm s.word s.var s.idx s.val (maO s.body) (maO s.rest) m := rfl
set_option maxHeartbeats 8000000 in
set_option maxRecDepth 100000 in
theorem mdo_step (s : Sl) (hva : s.word = [61] → (s.idx = none → 384 ≤ s.var.at' ∧ s.var.at' < 480) ∧ (s.idx ≠ none → 384 ≤ s.var.at' ∧ s.var.at' + s.var.size ≤ 480)) (hvn : s.word = [61] ∨ s.word = [105, 102] ∨ s.word = [119, 104, 105, 108, 101] ∨ s.word = [101, 109, 105, 116] ∨ s.word = [115, 116, 111, 112] → s.val ≠ none) (hi : ∀ e, s.idx = some e → MvE e ∧ exK e) (hv : ∀ e, s.val = some e → MvE e ∧ exK e) (hcb : MaC s.body) (hcr : MaC s.rest) (hbk : slOK s.body) : MdC s := by
  intro w0 g m d X cs hs hX h hk
  obtain ⟨pi, pv, pb, pr, rfl, h1, h2, h3, h4⟩ := hs
  have hpv := h2
  obtain ⟨a3, j3, c3, rfl⟩ := ls_one h3
  obtain ⟨a4, j4, c4, rfl⟩ := ls_one h4
  have hbx := By.of h.lt h1 h2 h3 h4 hX
  have HX := hide hX
  have HPv := hide hpv
  rw [ms1_eq]
  by_cases n0 : s.word = [123]
  · obtain ⟨R, hR⟩ : ∃ R, Mc.stm s.word s.var s.idx s.val (maO s.body) (maO s.rest) m = R := ⟨_, rfl⟩
    have HR : Hid (maO s.body m = R) := hide (by rw [← hR]; unfold Mc.stm; rw [if_pos n0])
    rw [hR]
    have HN := hide n0
    have HCb := hide hcb
    have HOk := hide hk
    clear hR n0 hk hcb hcr hva hvn hi hv hbk
    have HM1 := hide (h.below (w' := (w0.alloc (.cells (stL s.word s.var pi pv (.slice a3 j3 c3) s.oth (.slice a4 j4 c4)).toArray 92))) ((Below.refl _ _).alloc (Nat.le_refl _) _))
    have HBy := hide hbx
    clear h h1 h2 h3 h4 hX hbx hpv
    go_enter Tryz.func37, Tryz.ntmps37
    go_upto_region 1 with fail
    change Code.wp _ _ _ _ (w0.alloc (.cells (stL s.word s.var pi pv (.slice a3 j3 c3) s.oth (.slice a4 j4 c4)).toArray 92))
    generalize w0.alloc (.cells (stL s.word s.var pi pv (.slice a3 j3 c3) s.oth (.slice a4 j4 c4)).toArray 92) = w1 at *
    generalize w0.heap.size = q at *
    have HK1 := hide (Km.refl g w1)
    have b0 : w1.cell? ⟨q, 0, none⟩ = some (.string ⟨([123] : Tx).toArray⟩) := by rw [← HN.out]; exact HBy.out.b.get (j := 0) rfl
    have b7 := HBy.out.b.get (j := 7) rfl
    have HA := hide (HCb.out w1 g m d X _ HBy.out.d HBy.out.x HM1.out HOk.out)
    go_wp2_with fail
    refine HA.out.mono ?_
    rintro e w2 ⟨rfl, hm2, hk2⟩
    have HM2 := hide hm2
    have HK2 := hide (HBy.out.k.trans hk2)
    clear hm2 hk2 HA b0 b7
    go_wp2
    go_ret
    rw [← HR.out]
    exact ⟨rfl, HM2.out, HK2.out⟩
  · have e0 : (s.word == [123]) = false := by simpa using n0
    have HSp0 := hide (fun w1 (hm1 : MAt w1 g m) => spend_any w1 g m d hm1 hk)
    by_cases hs : m.spend.1 = false
    · obtain ⟨R, hR⟩ : ∃ R, Mc.stm s.word s.var s.idx s.val (maO s.body) (maO s.rest) m = R := ⟨_, rfl⟩
      have HR : Hid ((0, m.spend.2) = R) := hide (by rw [← hR]; unfold Mc.stm; rw [if_neg n0, if_pos hs])
      rw [hR]
      rw [hs] at HSp0
      clear hR n0 hs hk hcb hcr hva hvn hi hv hbk
      have HM1 := hide (h.below (w' := (w0.alloc (.cells (stL s.word s.var pi pv (.slice a3 j3 c3) s.oth (.slice a4 j4 c4)).toArray 92))) ((Below.refl _ _).alloc (Nat.le_refl _) _))
      have HBy := hide hbx
      clear h h1 h2 h3 h4 hX hbx hpv
      go_enter Tryz.func37, Tryz.ntmps37
      go_upto_region 1 with fail
      change Code.wp _ _ _ _ (w0.alloc (.cells (stL s.word s.var pi pv (.slice a3 j3 c3) s.oth (.slice a4 j4 c4)).toArray 92))
      generalize w0.alloc (.cells (stL s.word s.var pi pv (.slice a3 j3 c3) s.oth (.slice a4 j4 c4)).toArray 92) = w1 at *
      generalize w0.heap.size = q at *
      have HK1 := hide (Km.refl g w1)
      have b0 := HBy.out.b.get (j := 0) rfl
      go_wp2_with fail
      refine (HSp0.out w1 HM1.out).mono ?_
      rintro e w2 ⟨rfl, hm2, hk2⟩
      have HM2 := hide hm2
      have HK2 := hide (HBy.out.k.trans hk2)
      clear hm2 hk2 HSp0 b0
      go_wp2
      go_ret
      rw [← HR.out]
      exact ⟨rfl, HM2.out, HK2.out⟩
    · have hs' : m.spend.1 = true := by simpa using hs
      have hok1 := (mok_spend hk).1
      have hok2 := (mok_spend hk).2 hs'
      obtain ⟨R, hR⟩ : ∃ R, Mc.stm s.word s.var s.idx s.val (maO s.body) (maO s.rest) m = R := ⟨_, rfl⟩
      have hrr : R = _ := hR.symm
      unfold Mc.stm at hrr
      rw [if_neg n0, if_neg hs] at hrr
      rw [hR]
      rw [hs'] at HSp0
      obtain ⟨m2, hm2e⟩ : ∃ z, m.spend.2 = z := ⟨_, rfl⟩
      rw [hm2e] at HSp0 hok1 hok2 hrr
      have HO1 := hide hok1
      have HO2 := hide hok2
      clear hR n0 hs hs' hk hm2e hok1 hok2
      by_cases n1 : s.word = [61]
      · rw [if_pos n1] at hrr
        have HR := hide hrr
        have HN := hide n1
        obtain ⟨x, hvx⟩ := Option.ne_none_iff_exists'.1 (hvn (.inl n1))
        obtain ⟨hx, hxk⟩ := hv x hvx
        have HCl : Hid (∀ w2, StA w2 s X (stL s.word s.var pi pv (.slice a3 j3 c3) s.oth (.slice a4 j4 c4)) → MAt w2 g m2 → Calls Tryz.prog 60 #[.pointer (some ⟨g, 0, none⟩), .agg (stL s.word s.var pi pv (.slice a3 j3 c3) s.oth (.slice a4 j4 c4)).toArray] w2 (McPost g (.tuple #[]) R.2 w2)) := hide (fun w2 hst hm => by
          rw [hrr]
          have hat := hva n1
          cases hix : s.idx with
          | none =>
            have := masn_none w2 g m2 d X s _ hst HX.out hm HO1.out x hix hvx hx hxk (hat.1 hix)
            rw [hix] at this; exact this
          | some i =>
            have := masn_some w2 g m2 d X s _ hst HX.out hm HO1.out i x hix hvx (hi i hix).1 (hi i hix).2 hx hxk (hat.2 (by rw [hix]; simp))
            rw [hix] at this; exact this)
        clear hrr n1 hvx hx hxk hcb hcr hva hvn hi hv hbk 
        have HM1 := hide (h.below (w' := (w0.alloc (.cells (stL s.word s.var pi pv (.slice a3 j3 c3) s.oth (.slice a4 j4 c4)).toArray 92))) ((Below.refl _ _).alloc (Nat.le_refl _) _))
        have HBy := hide hbx
        clear h h1 h2 h3 h4 hX hbx hpv
        go_enter Tryz.func37, Tryz.ntmps37
        go_upto_region 1 with fail
        change Code.wp _ _ _ _ (w0.alloc (.cells (stL s.word s.var pi pv (.slice a3 j3 c3) s.oth (.slice a4 j4 c4)).toArray 92))
        generalize w0.alloc (.cells (stL s.word s.var pi pv (.slice a3 j3 c3) s.oth (.slice a4 j4 c4)).toArray 92) = w1 at *
        generalize w0.heap.size = q at *
        have HK1 := hide (Km.refl g w1)
        have b0 := (show w1.cell? ⟨q, 0, none⟩ = some (.string ⟨([61] : Tx).toArray⟩) by rw [← HN.out]; exact HBy.out.b.get (j := 0) rfl)
        go_wp2_with fail
        refine (HSp0.out w1 HM1.out).mono ?_
        rintro e w2 ⟨rfl, hm2, hk2⟩
        have HM2 := hide hm2
        have HK2 := hide hk2
        clear hm2 hk2 HSp0 b0 HM1 HK1
        have b0 := (show w2.cell? ⟨q, 0, none⟩ = some (.string ⟨([61] : Tx).toArray⟩) by rw [← HN.out]; exact (HBy.out.b.km HK2.out HBy.out.ng (by decide)).get (j := 0) rfl)
        have HSt := hide (HBy.out.sta.km HK2.out HBy.out.x)
        have HCc := hide (HBy.out.b.km HK2.out HBy.out.ng (by decide)).cells
        go_upto_region 7 with fail
        go_wp2_with (refine loadT Tryz.underlying92 rfl (stL s.word s.var pi pv (.slice a3 j3 c3) s.oth (.slice a4 j4 c4)) info_stc rfl _ rfl ⟨q, 0, none⟩ rfl HCc.out ?_)
        refine (HCl.out w2 HSt.out HM2.out).mono ?_
        rintro e w3 ⟨rfl, hm3, hk3⟩
        have HM3 := hide hm3
        have HK3 := hide (HBy.out.k.trans (HK2.out.trans hk3))
        clear hm3 hk3 HCl HM2 HK2 HCc HSt b0
        go_wp2
        go_ret
        have hr1 : R.1 = 0 := by rw [HR.out]
        rw [hr1]
        exact ⟨rfl, HM3.out, HK3.out⟩
      · have e1 : (s.word == [61]) = false := by simpa using n1
        by_cases n2 : s.word = [105, 102]
        · rw [if_neg n1, if_pos n2] at hrr
          have HR := hide hrr
          have HN := hide n2
          obtain ⟨x, hvx⟩ := Option.ne_none_iff_exists'.1 (hvn (.inr (.inl n2)))
          obtain ⟨hx, hxk⟩ := hv x hvx
          have HCl : Hid (∀ w2, StA w2 s X (stL s.word s.var pi pv (.slice a3 j3 c3) s.oth (.slice a4 j4 c4)) → MAt w2 g m2 → Calls Tryz.prog 61 #[.pointer (some ⟨g, 0, none⟩), .agg (stL s.word s.var pi pv (.slice a3 j3 c3) s.oth (.slice a4 j4 c4)).toArray] w2 (McPost g (.int .i64 (R.1 : Nat)) R.2 w2)) := hide (fun w2 hst hm => by
            rw [hrr]
            exact mcho_any w2 g m2 d X s _ hst HX.out hm HO1.out x hvx hx hxk hcb hcr)
          clear hrr n2 hvx hx hxk hcb hcr hva hvn hi hv hbk n1
          have HM1 := hide (h.below (w' := (w0.alloc (.cells (stL s.word s.var pi pv (.slice a3 j3 c3) s.oth (.slice a4 j4 c4)).toArray 92))) ((Below.refl _ _).alloc (Nat.le_refl _) _))
          have HBy := hide hbx
          clear h h1 h2 h3 h4 hX hbx hpv
          go_enter Tryz.func37, Tryz.ntmps37
          go_upto_region 1 with fail
          change Code.wp _ _ _ _ (w0.alloc (.cells (stL s.word s.var pi pv (.slice a3 j3 c3) s.oth (.slice a4 j4 c4)).toArray 92))
          generalize w0.alloc (.cells (stL s.word s.var pi pv (.slice a3 j3 c3) s.oth (.slice a4 j4 c4)).toArray 92) = w1 at *
          generalize w0.heap.size = q at *
          have HK1 := hide (Km.refl g w1)
          have b0 := (show w1.cell? ⟨q, 0, none⟩ = some (.string ⟨([105, 102] : Tx).toArray⟩) by rw [← HN.out]; exact HBy.out.b.get (j := 0) rfl)
          go_wp2_with fail
          refine (HSp0.out w1 HM1.out).mono ?_
          rintro e w2 ⟨rfl, hm2, hk2⟩
          have HM2 := hide hm2
          have HK2 := hide hk2
          clear hm2 hk2 HSp0 b0 HM1 HK1
          have b0 := (show w2.cell? ⟨q, 0, none⟩ = some (.string ⟨([105, 102] : Tx).toArray⟩) by rw [← HN.out]; exact (HBy.out.b.km HK2.out HBy.out.ng (by decide)).get (j := 0) rfl)
          have HSt := hide (HBy.out.sta.km HK2.out HBy.out.x)
          have HCc := hide (HBy.out.b.km HK2.out HBy.out.ng (by decide)).cells
          go_upto_region 9 with fail
          go_wp2_with (refine loadT Tryz.underlying92 rfl (stL s.word s.var pi pv (.slice a3 j3 c3) s.oth (.slice a4 j4 c4)) info_stc rfl _ rfl ⟨q, 0, none⟩ rfl HCc.out ?_)
          refine (HCl.out w2 HSt.out HM2.out).mono ?_
          rintro e w3 ⟨rfl, hm3, hk3⟩
          have HM3 := hide hm3
          have HK3 := hide (HBy.out.k.trans (HK2.out.trans hk3))
          clear hm3 hk3 HCl HM2 HK2 HCc HSt b0
          go_wp2
          go_ret
          exact ⟨rfl, HM3.out, HK3.out⟩
        · have e2 : (s.word == [105, 102]) = false := by simpa using n2
          by_cases n3 : s.word = [119, 104, 105, 108, 101]
          · rw [if_neg n1, if_neg n2, if_pos n3] at hrr
            have HR := hide hrr
            have HN := hide n3
            obtain ⟨x, hvx⟩ := Option.ne_none_iff_exists'.1 (hvn (.inr (.inr (.inl n3))))
            obtain ⟨hx, hxk⟩ := hv x hvx
            have HCl : Hid (∀ w2, StA w2 s X (stL s.word s.var pi pv (.slice a3 j3 c3) s.oth (.slice a4 j4 c4)) → MAt w2 g m2 → Calls Tryz.prog 62 #[.pointer (some ⟨g, 0, none⟩), .agg (stL s.word s.var pi pv (.slice a3 j3 c3) s.oth (.slice a4 j4 c4)).toArray] w2 (McPost g (.tuple #[]) R.2 w2)) := hide (fun w2 hst hm => by
              have e9 : R.2 = whF (mxO s.val) (maO s.body) (m2.fuel + 1) m2 := congrArg Prod.snd hrr
              rw [e9]
              exact mrep_any w2 g m2 d X s _ hst HX.out hm HO1.out x hvx hx hxk hcb hbk)
            clear hrr n3 hvx hx hxk hcb hcr hva hvn hi hv hbk n1 n2
            have HM1 := hide (h.below (w' := (w0.alloc (.cells (stL s.word s.var pi pv (.slice a3 j3 c3) s.oth (.slice a4 j4 c4)).toArray 92))) ((Below.refl _ _).alloc (Nat.le_refl _) _))
            have HBy := hide hbx
            clear h h1 h2 h3 h4 hX hbx hpv
            go_enter Tryz.func37, Tryz.ntmps37
            go_upto_region 1 with fail
            change Code.wp _ _ _ _ (w0.alloc (.cells (stL s.word s.var pi pv (.slice a3 j3 c3) s.oth (.slice a4 j4 c4)).toArray 92))
            generalize w0.alloc (.cells (stL s.word s.var pi pv (.slice a3 j3 c3) s.oth (.slice a4 j4 c4)).toArray 92) = w1 at *
            generalize w0.heap.size = q at *
            have HK1 := hide (Km.refl g w1)
            have b0 := (show w1.cell? ⟨q, 0, none⟩ = some (.string ⟨([119, 104, 105, 108, 101] : Tx).toArray⟩) by rw [← HN.out]; exact HBy.out.b.get (j := 0) rfl)
            go_wp2_with fail
            refine (HSp0.out w1 HM1.out).mono ?_
            rintro e w2 ⟨rfl, hm2, hk2⟩
            have HM2 := hide hm2
            have HK2 := hide hk2
            clear hm2 hk2 HSp0 b0 HM1 HK1
            have b0 := (show w2.cell? ⟨q, 0, none⟩ = some (.string ⟨([119, 104, 105, 108, 101] : Tx).toArray⟩) by rw [← HN.out]; exact (HBy.out.b.km HK2.out HBy.out.ng (by decide)).get (j := 0) rfl)
            have HSt := hide (HBy.out.sta.km HK2.out HBy.out.x)
            have HCc := hide (HBy.out.b.km HK2.out HBy.out.ng (by decide)).cells
            go_upto_region 11 with fail
            go_wp2_with (refine loadT Tryz.underlying92 rfl (stL s.word s.var pi pv (.slice a3 j3 c3) s.oth (.slice a4 j4 c4)) info_stc rfl _ rfl ⟨q, 0, none⟩ rfl HCc.out ?_)
            refine (HCl.out w2 HSt.out HM2.out).mono ?_
            rintro e w3 ⟨rfl, hm3, hk3⟩
            have HM3 := hide hm3
            have HK3 := hide (HBy.out.k.trans (HK2.out.trans hk3))
            clear hm3 hk3 HCl HM2 HK2 HCc HSt b0
            go_wp2
            go_ret
            have hr1 : R.1 = 0 := by rw [HR.out]
            rw [hr1]
            exact ⟨rfl, HM3.out, HK3.out⟩
          · have e3 : (s.word == [119, 104, 105, 108, 101]) = false := by simpa using n3
            by_cases n4 : s.word = [101, 109, 105, 116]
            · rw [if_neg n1, if_neg n2, if_neg n3, if_pos n4] at hrr
              have HR := hide hrr
              have HN := hide n4
              obtain ⟨x, hvx⟩ := Option.ne_none_iff_exists'.1 (hvn (.inr (.inr (.inr (.inl n4)))))
              obtain ⟨hx, hxk⟩ := hv x hvx
              obtain ⟨q1, rfl, hxe⟩ : ∃ q, pv = .pointer (some ⟨q, 0, none⟩) ∧ ExAt w0 x X q := by have := HPv.out; rw [hvx] at this; exact this
              have hev : mxO s.val m2 = mxF x m2 := by rw [hvx]; rfl
              rw [hev] at HR
              have HXe := hide hxe
              have HVx : Hid (∀ w2, Km g w0 w2 → MAt w2 g m2 → Calls Tryz.prog 63 #[.pointer (some ⟨g, 0, none⟩), .pointer (some ⟨q1, 0, none⟩)] w2 (McPost g (.int .u32 ((mxF x m2).1 : Nat)) (mxF x m2).2 w2)) := hide (fun w2 hk2 hm2 => hx w2 g m2 d q1 X (HXe.out.km hk2 HX.out) HX.out hm2 HO1.out)
              obtain ⟨o1, o2⟩ := mx_ok x hxk d m2 HO1.out
              have HO3 := hide o1
              clear hrr n4 hvx hx hxk hxe hev o1 hcb hcr hva hvn hi hv hbk HPv n1 n2 n3
              have HM1 := hide (h.below (w' := (w0.alloc (.cells (stL s.word s.var pi (.pointer (some ⟨q1, 0, none⟩)) (.slice a3 j3 c3) s.oth (.slice a4 j4 c4)).toArray 92))) ((Below.refl _ _).alloc (Nat.le_refl _) _))
              have HBy := hide hbx
              clear h h1 h2 h3 h4 hX hbx hpv
              go_enter Tryz.func37, Tryz.ntmps37
              go_upto_region 1 with fail
              change Code.wp _ _ _ _ (w0.alloc (.cells (stL s.word s.var pi (.pointer (some ⟨q1, 0, none⟩)) (.slice a3 j3 c3) s.oth (.slice a4 j4 c4)).toArray 92))
              generalize w0.alloc (.cells (stL s.word s.var pi (.pointer (some ⟨q1, 0, none⟩)) (.slice a3 j3 c3) s.oth (.slice a4 j4 c4)).toArray 92) = w1 at *
              generalize w0.heap.size = q at *
              have HK1 := hide (Km.refl g w1)
              have b0 := (show w1.cell? ⟨q, 0, none⟩ = some (.string ⟨([101, 109, 105, 116] : Tx).toArray⟩) by rw [← HN.out]; exact HBy.out.b.get (j := 0) rfl)
              go_wp2_with fail
              refine (HSp0.out w1 HM1.out).mono ?_
              rintro e w2 ⟨rfl, hm2, hk2⟩
              have HM2 := hide hm2
              have HK2 := hide hk2
              clear hm2 hk2 HSp0 b0 HM1 HK1
              have b0 := (show w2.cell? ⟨q, 0, none⟩ = some (.string ⟨([101, 109, 105, 116] : Tx).toArray⟩) by rw [← HN.out]; exact (HBy.out.b.km HK2.out HBy.out.ng (by decide)).get (j := 0) rfl)
              have b6 := (HBy.out.b.km HK2.out HBy.out.ng (by decide)).get (j := 6) rfl
              go_wp2_with fail
              refine (HVx.out w2 (HBy.out.k.trans HK2.out) HM2.out).mono ?_
              rintro e w3 ⟨rfl, hm3, hk3⟩
              have HT := hide (mtell_any w3 g (mxF x m2).2 14 (mxF x m2).1 hm3 HO3.out.wl HO3.out.outs)
              have HK3 := hide (HBy.out.k.trans (HK2.out.trans hk3))
              clear hm3 hk3 HVx HM2 HK2 b6 b0
              go_wp2_with fail
              refine HT.out.mono ?_
              rintro e w4 ⟨rfl, hm4, hk4⟩
              have HM4 := hide hm4
              have HK4 := hide (HK3.out.trans hk4)
              clear hm4 hk4 HT
              go_wp2
              go_ret
              rw [HR.out]
              exact ⟨rfl, HM4.out, HK4.out⟩
            · have e4 : (s.word == [101, 109, 105, 116]) = false := by simpa using n4
              by_cases n5 : s.word = [115, 116, 111, 112]
              · rw [if_neg n1, if_neg n2, if_neg n3, if_neg n4, if_pos n5] at hrr
                have HR := hide hrr
                have HN := hide n5
                obtain ⟨x, hvx⟩ := Option.ne_none_iff_exists'.1 (hvn (.inr (.inr (.inr (.inr n5)))))
                obtain ⟨hx, hxk⟩ := hv x hvx
                obtain ⟨q1, rfl, hxe⟩ : ∃ q, pv = .pointer (some ⟨q, 0, none⟩) ∧ ExAt w0 x X q := by have := HPv.out; rw [hvx] at this; exact this
                have hev : mxO s.val m2 = mxF x m2 := by rw [hvx]; rfl
                rw [hev] at HR
                have HXe := hide hxe
                have HVx : Hid (∀ w2, Km g w0 w2 → MAt w2 g m2 → Calls Tryz.prog 63 #[.pointer (some ⟨g, 0, none⟩), .pointer (some ⟨q1, 0, none⟩)] w2 (McPost g (.int .u32 ((mxF x m2).1 : Nat)) (mxF x m2).2 w2)) := hide (fun w2 hk2 hm2 => hx w2 g m2 d q1 X (HXe.out.km hk2 HX.out) HX.out hm2 HO1.out)
                obtain ⟨o1, o2⟩ := mx_ok x hxk d m2 HO1.out
                have HO3 := hide o1
                clear hrr n5 hvx hx hxk hxe hev o1 hcb hcr hva hvn hi hv hbk HPv n1 n2 n3 n4
                have HM1 := hide (h.below (w' := (w0.alloc (.cells (stL s.word s.var pi (.pointer (some ⟨q1, 0, none⟩)) (.slice a3 j3 c3) s.oth (.slice a4 j4 c4)).toArray 92))) ((Below.refl _ _).alloc (Nat.le_refl _) _))
                have HBy := hide hbx
                clear h h1 h2 h3 h4 hX hbx hpv
                go_enter Tryz.func37, Tryz.ntmps37
                go_upto_region 1 with fail
                change Code.wp _ _ _ _ (w0.alloc (.cells (stL s.word s.var pi (.pointer (some ⟨q1, 0, none⟩)) (.slice a3 j3 c3) s.oth (.slice a4 j4 c4)).toArray 92))
                generalize w0.alloc (.cells (stL s.word s.var pi (.pointer (some ⟨q1, 0, none⟩)) (.slice a3 j3 c3) s.oth (.slice a4 j4 c4)).toArray 92) = w1 at *
                generalize w0.heap.size = q at *
                have HK1 := hide (Km.refl g w1)
                have b0 := (show w1.cell? ⟨q, 0, none⟩ = some (.string ⟨([115, 116, 111, 112] : Tx).toArray⟩) by rw [← HN.out]; exact HBy.out.b.get (j := 0) rfl)
                go_wp2_with fail
                refine (HSp0.out w1 HM1.out).mono ?_
                rintro e w2 ⟨rfl, hm2, hk2⟩
                have HM2 := hide hm2
                have HK2 := hide hk2
                clear hm2 hk2 HSp0 b0 HM1 HK1
                have b0 := (show w2.cell? ⟨q, 0, none⟩ = some (.string ⟨([115, 116, 111, 112] : Tx).toArray⟩) by rw [← HN.out]; exact (HBy.out.b.km HK2.out HBy.out.ng (by decide)).get (j := 0) rfl)
                have b6 := (HBy.out.b.km HK2.out HBy.out.ng (by decide)).get (j := 6) rfl
                go_wp2_with fail
                refine (HVx.out w2 (HBy.out.k.trans HK2.out) HM2.out).mono ?_
                rintro e w3 ⟨rfl, hm3, hk3⟩
                have HT := hide (mstop_any w3 g (mxF x m2).2 d (mxF x m2).1 o2 hm3 HO3.out)
                have HK3 := hide (HBy.out.k.trans (HK2.out.trans hk3))
                clear hm3 hk3 HVx HM2 HK2 b6 b0
                go_wp2_with fail
                refine HT.out.mono ?_
                rintro e w4 ⟨rfl, hm4, hk4⟩
                have HM4 := hide hm4
                have HK4 := hide (HK3.out.trans hk4)
                clear hm4 hk4 HT
                go_wp2
                go_ret
                rw [HR.out]
                exact ⟨rfl, HM4.out, HK4.out⟩
              · have e5 : (s.word == [115, 116, 111, 112]) = false := by simpa using n5
                by_cases n6 : s.word = [121, 105, 101, 108, 100]
                · rw [if_neg n1, if_neg n2, if_neg n3, if_neg n4, if_neg n5, if_pos n6] at hrr
                  have HR := hide hrr
                  have HN := hide n6
                  clear hrr n6 hcb hcr hva hvn hi hv hbk n1 n2 n3 n4 n5
                  have HM1 := hide (h.below (w' := (w0.alloc (.cells (stL s.word s.var pi pv (.slice a3 j3 c3) s.oth (.slice a4 j4 c4)).toArray 92))) ((Below.refl _ _).alloc (Nat.le_refl _) _))
                  have HBy := hide hbx
                  clear h h1 h2 h3 h4 hX hbx hpv
                  go_enter Tryz.func37, Tryz.ntmps37
                  go_upto_region 1 with fail
                  change Code.wp _ _ _ _ (w0.alloc (.cells (stL s.word s.var pi pv (.slice a3 j3 c3) s.oth (.slice a4 j4 c4)).toArray 92))
                  generalize w0.alloc (.cells (stL s.word s.var pi pv (.slice a3 j3 c3) s.oth (.slice a4 j4 c4)).toArray 92) = w1 at *
                  generalize w0.heap.size = q at *
                  have HK1 := hide (Km.refl g w1)
                  have b0 := (show w1.cell? ⟨q, 0, none⟩ = some (.string ⟨([121, 105, 101, 108, 100] : Tx).toArray⟩) by rw [← HN.out]; exact HBy.out.b.get (j := 0) rfl)
                  go_wp2_with fail
                  refine (HSp0.out w1 HM1.out).mono ?_
                  rintro e w2 ⟨rfl, hm2, hk2⟩
                  have HM2 := hide hm2
                  have HK2 := hide hk2
                  clear hm2 hk2 HSp0 b0 HM1 HK1
                  have b0 := (show w2.cell? ⟨q, 0, none⟩ = some (.string ⟨([121, 105, 101, 108, 100] : Tx).toArray⟩) by rw [← HN.out]; exact (HBy.out.b.km HK2.out HBy.out.ng (by decide)).get (j := 0) rfl)
                  have HT := hide (mtell_any w2 g m2 0 0 HM2.out HO1.out.wl HO1.out.outs)
                  go_wp2_with fail
                  refine HT.out.mono ?_
                  rintro e w4 ⟨rfl, hm4, hk4⟩
                  have HM4 := hide hm4
                  have HK4 := hide (HBy.out.k.trans (HK2.out.trans hk4))
                  clear hm4 hk4 HT HM2 HK2 b0
                  go_wp2
                  go_ret
                  rw [HR.out]
                  exact ⟨rfl, HM4.out, HK4.out⟩
                · have e6 : (s.word == [121, 105, 101, 108, 100]) = false := by simpa using n6
                  by_cases n7 : s.word = [98, 114, 101, 97, 107]
                  · rw [if_neg n1, if_neg n2, if_neg n3, if_neg n4, if_neg n5, if_neg n6, if_pos n7] at hrr
                    have HR := hide hrr
                    have HN := hide n7
                    clear hrr n7 hcb hcr hva hvn hi hv hbk n1 n2 n3 n4 n5 n6
                    have HM1 := hide (h.below (w' := (w0.alloc (.cells (stL s.word s.var pi pv (.slice a3 j3 c3) s.oth (.slice a4 j4 c4)).toArray 92))) ((Below.refl _ _).alloc (Nat.le_refl _) _))
                    have HBy := hide hbx
                    clear h h1 h2 h3 h4 hX hbx hpv
                    go_enter Tryz.func37, Tryz.ntmps37
                    go_upto_region 1 with fail
                    change Code.wp _ _ _ _ (w0.alloc (.cells (stL s.word s.var pi pv (.slice a3 j3 c3) s.oth (.slice a4 j4 c4)).toArray 92))
                    generalize w0.alloc (.cells (stL s.word s.var pi pv (.slice a3 j3 c3) s.oth (.slice a4 j4 c4)).toArray 92) = w1 at *
                    generalize w0.heap.size = q at *
                    have HK1 := hide (Km.refl g w1)
                    have b0 := (show w1.cell? ⟨q, 0, none⟩ = some (.string ⟨([98, 114, 101, 97, 107] : Tx).toArray⟩) by rw [← HN.out]; exact HBy.out.b.get (j := 0) rfl)
                    go_wp2_with fail
                    refine (HSp0.out w1 HM1.out).mono ?_
                    rintro e w2 ⟨rfl, hm2, hk2⟩
                    have HM2 := hide hm2
                    have HK2 := hide hk2
                    clear hm2 hk2 HSp0 b0 HM1 HK1
                    have b0 := (show w2.cell? ⟨q, 0, none⟩ = some (.string ⟨([98, 114, 101, 97, 107] : Tx).toArray⟩) by rw [← HN.out]; exact (HBy.out.b.km HK2.out HBy.out.ng (by decide)).get (j := 0) rfl)
                    go_wp2
                    go_ret
                    rw [HR.out]
                    exact ⟨rfl, HM2.out, HBy.out.k.trans HK2.out⟩
                  · have e7 : (s.word == [98, 114, 101, 97, 107]) = false := by simpa using n7
                    by_cases n8 : s.word = [99, 111, 110, 116, 105, 110, 117, 101]
                    · rw [if_neg n1, if_neg n2, if_neg n3, if_neg n4, if_neg n5, if_neg n6, if_neg n7, if_pos n8] at hrr
                      have HR := hide hrr
                      have HN := hide n8
                      clear hrr n8 hcb hcr hva hvn hi hv hbk n1 n2 n3 n4 n5 n6 n7
                      have HM1 := hide (h.below (w' := (w0.alloc (.cells (stL s.word s.var pi pv (.slice a3 j3 c3) s.oth (.slice a4 j4 c4)).toArray 92))) ((Below.refl _ _).alloc (Nat.le_refl _) _))
                      have HBy := hide hbx
                      clear h h1 h2 h3 h4 hX hbx hpv
                      go_enter Tryz.func37, Tryz.ntmps37
                      go_upto_region 1 with fail
                      change Code.wp _ _ _ _ (w0.alloc (.cells (stL s.word s.var pi pv (.slice a3 j3 c3) s.oth (.slice a4 j4 c4)).toArray 92))
                      generalize w0.alloc (.cells (stL s.word s.var pi pv (.slice a3 j3 c3) s.oth (.slice a4 j4 c4)).toArray 92) = w1 at *
                      generalize w0.heap.size = q at *
                      have HK1 := hide (Km.refl g w1)
                      have b0 := (show w1.cell? ⟨q, 0, none⟩ = some (.string ⟨([99, 111, 110, 116, 105, 110, 117, 101] : Tx).toArray⟩) by rw [← HN.out]; exact HBy.out.b.get (j := 0) rfl)
                      go_wp2_with fail
                      refine (HSp0.out w1 HM1.out).mono ?_
                      rintro e w2 ⟨rfl, hm2, hk2⟩
                      have HM2 := hide hm2
                      have HK2 := hide hk2
                      clear hm2 hk2 HSp0 b0 HM1 HK1
                      have b0 := (show w2.cell? ⟨q, 0, none⟩ = some (.string ⟨([99, 111, 110, 116, 105, 110, 117, 101] : Tx).toArray⟩) by rw [← HN.out]; exact (HBy.out.b.km HK2.out HBy.out.ng (by decide)).get (j := 0) rfl)
                      go_wp2
                      go_ret
                      rw [HR.out]
                      exact ⟨rfl, HM2.out, HBy.out.k.trans HK2.out⟩
                    · have e8 : (s.word == [99, 111, 110, 116, 105, 110, 117, 101]) = false := by simpa using n8
                      rw [if_neg n1, if_neg n2, if_neg n3, if_neg n4, if_neg n5, if_neg n6, if_neg n7, if_neg n8] at hrr
                      have HR := hide hrr
                      clear hrr n1 n2 n3 n4 n5 n6 n7 n8 hcb hcr hva hvn hi hv hbk
                      have HM1 := hide (h.below (w' := (w0.alloc (.cells (stL s.word s.var pi pv (.slice a3 j3 c3) s.oth (.slice a4 j4 c4)).toArray 92))) ((Below.refl _ _).alloc (Nat.le_refl _) _))
                      have HBy := hide hbx
                      clear h h1 h2 h3 h4 hX hbx hpv
                      go_enter Tryz.func37, Tryz.ntmps37
                      go_upto_region 1 with fail
                      change Code.wp _ _ _ _ (w0.alloc (.cells (stL s.word s.var pi pv (.slice a3 j3 c3) s.oth (.slice a4 j4 c4)).toArray 92))
                      generalize w0.alloc (.cells (stL s.word s.var pi pv (.slice a3 j3 c3) s.oth (.slice a4 j4 c4)).toArray 92) = w1 at *
                      generalize w0.heap.size = q at *
                      have HK1 := hide (Km.refl g w1)
                      have b0 := HBy.out.b.get (j := 0) rfl
                      go_wp2_with fail
                      refine (HSp0.out w1 HM1.out).mono ?_
                      rintro e w2 ⟨rfl, hm2, hk2⟩
                      have HM2 := hide hm2
                      have HK2 := hide hk2
                      clear hm2 hk2 HSp0 b0 HM1 HK1
                      have b0 := (HBy.out.b.km HK2.out HBy.out.ng (by decide)).get (j := 0) rfl
                      go_wp2
                      go_ret
                      rw [HR.out]
                      exact ⟨rfl, HM2.out, HBy.out.k.trans HK2.out⟩
end Go.Proofs.YtiafodeabdhcoaaGreatDoor

namespace Go.Proofs.YtiafodeabdhcoaaGreatDoor
open Go.RowKit
theorem km_cell {w w' : World} {g : Nat} (hk : Km g w w') {p : Addr} (hp : p.block < g) : w'.cell? p = w.cell? p := World.cell?_of_block (hk.b.block _ hp)
theorem runL_at (l : List Sl) (k : Nat) (hk : k < l.length) (m : Mc) : runL (l.drop k) m = if (ms1 l[k] m).1 ≠ 0 then ms1 l[k] m else runL (l.drop (k + 1)) (ms1 l[k] m).2 := by
  rw [List.drop_eq_getElem_cons hk]
  rfl
set_option maxHeartbeats 8000000 in
set_option maxRecDepth 100000 in
theorem mall_step (b : Sl) (hb : ∀ s ∈ slL b, MdC s ∧ MsK (ms1 s)) (hlen : (slL b).length ≤ 1000000000) : MaC (some b) := by
  intro w0 g m d X v hL hX h hk
  obtain ⟨a, cc, N, rfl, hXa, hrw, hch⟩ := hL
  obtain ⟨hNl, hst⟩ := ch_at b N hch
  obtain ⟨R, hR⟩ : ∃ R, runL (slL b) m = R := ⟨_, rfl⟩
  rw [ma_run, hR]
  have hag := hX _ hXa
  have HM0 := hide h
  have HOk := hide hk
  have HR := hide hR
  have HS := hide hst
  have HRw := hide hrw
  have HX := hide hX
  have HB := hide hb
  obtain ⟨n, hn⟩ : ∃ n, N.length = n := ⟨_, rfl⟩
  have HN := hide hn
  have HN2 : Hid ((slL b).length = n) := hide (by rw [← hNl]; exact hn)
  have hnb : n ≤ 1000000000 := by have h2 := HN2.out; omega
  rw [hn]
  clear h hk hst hrw hX hb hch hNl hn hR hlen
  go_enter Tryz.func26, Tryz.ntmps26
  go_wp2_with fail
  go_loopw [10] (fun i wr => ∃ (k : Nat) (m' : Mc), k ≤ n ∧ i = .int .i64 (k : Nat) ∧ Hid (runL ((slL b).drop k) m' = R) ∧ Hid (MAt wr g m') ∧ Hid (Km g w0 wr) ∧ Hid (Mok d m')) (fun i _ => n - (RowKit.intOf i).toNat)
  case atStart => exact ⟨0, m, by omega, rfl, HR, HM0, hide (Km.refl _ _), HOk⟩
  case round =>
    obtain ⟨k, m', hk, rfl, hrun, HMk, HKk, HOm⟩ := hrel
    by_cases hlt : k < n
    · have hki : (k : Int) < n := by omega
      have hkN : k < N.length := by have := HN.out; omega
      have hkb : k < (slL b).length := by have := HN2.out; omega
      obtain ⟨a', ha', hcel⟩ := HRw.out k hkN
      cases ha'
      have hsta := HS.out k hkb hkN
      have hmem : (slL b)[k] ∈ slL b := List.getElem_mem hkb
      have hcel' : Hid (∀ (j : Nat) (x : Value), N[k][j]? = some x → wr.cell? ((a.add (k * 10)).add j) = some x) := hide (fun j x hx => by
        rw [km_cell HKk.out (by rw [add_blk, add_blk]; exact hag)]; exact hcel j x hx)
      have hru := hrun.out
      rw [runL_at _ k hkb] at hru
      obtain ⟨s, hs⟩ : ∃ s, (slL b)[k] = s := ⟨_, rfl⟩
      rw [hs] at hsta hmem hru
      obtain ⟨hd1, hd2⟩ := HB.out s hmem
      have ho2 := hd2 d m' HOm.out
      have HSt := hide hd1
      have HSa := hide (hsta.km HKk.out HX.out)
      obtain ⟨pi, pv, pb, pr, hcs, p1, p2, p3, p4⟩ := hsta
      obtain ⟨cs, hcse⟩ : ∃ cs, N[k] = cs := ⟨_, rfl⟩
      rw [hcse] at hcel' hcs HSa
      have hbw : Below wr.heap.size wr (putB (wr.alloc (.cells #[.string ⟨#[]⟩, .string ⟨#[]⟩, .bool false, .int .i64 0, .int .i64 0, .pointer none, .pointer none, .slice none 0 0, .int .i64 0, .slice none 0 0] 92)) wr.heap.size cs 92) := putB_below ((Below.refl _ _).alloc (Nat.le_refl _) _) (Nat.le_refl _) _ _
      have hkw := Km.bel (g := g) hbw (by have := HMk.out.lt; omega)
      have HM2 := hide (HMk.out.below hbw)
      have HK2 := hide (HKk.out.trans hkw)
      have HS2 := hide (HSa.out.km hkw HX.out)
      have HZ := hide (slZ_block wr)
      have HB2 := hide (HZ.out.put cs)
      have hcl : Hid ((Tryz.prog.info? 92).map (·.size) = some cs.length) := hide (by rw [hcs]; exact info_stc)
      have hone : cs.all (fun u => u.oneCell') = true := by
        obtain ⟨x1, x2, x3, rfl⟩ := ls_one p3
        obtain ⟨y1, y2, y3, rfl⟩ := ls_one p4
        obtain ⟨z1, rfl⟩ := pt_one p1
        obtain ⟨z2, rfl⟩ := pt_one p2
        rw [hcs]
        rfl
      have hlen : Hid (10 = cs.length) := hide (by rw [hcs]; rfl)
      obtain ⟨z, hz⟩ : ∃ z, ms1 s m' = z := ⟨_, rfl⟩
      have HD := hide (HSt.out _ g m' d X cs HS2.out HX.out HM2.out HOm.out)
      rw [hz] at hru ho2 HD
      obtain ⟨left, m2⟩ := z
      dsimp only at hru ho2 HD
      have HO2 := hide ho2
      clear hbw hkw hcs p1 p2 p3 p4 HMk HKk HSa hcse hmem hs hz hcel ho2 hd1 hd2 hrun HSt HM2 HS2 HOm
      go_upto_region 3 with fail
      go_wp2_with (first | (refine loadT Tryz.underlying92 rfl cs hcl.out rfl _ rfl (a.add (k * 10)) rfl hcel'.out ?_) | (refine storeB cs hcl.out hone rfl _ _ rfl wr.heap.size rfl rfl _ HZ.out hlen.out ?_) | (refine loadT Tryz.underlying92 rfl cs hcl.out rfl _ rfl ⟨wr.heap.size, 0, none⟩ rfl HB2.out.cells ?_))
      refine HD.out.mono ?_
      rintro e w2 ⟨rfl, h1, h2⟩
      have HM3 := hide h1
      have HK3 := hide (HK2.out.trans h2)
      clear h1 h2 HD HK2 HZ HB2 hcl hone hlen hcel'
      by_cases hl : left = 0
      · rw [if_neg (by simp [hl])] at hru
        have HU := hide hru
        have hlb : ((left : Int) != 0) = false := by simp; omega
        have hlb2 : ((left : Int) == 0) = true := by simp; omega
        clear hru hl
        go_wp2
        go_roundw
        case rel => exact ⟨k + 1, m2, by omega, by go_num, HU, HM3, HK3, HO2⟩
        case measure => simp [RowKit.intOf]; omega
      · rw [if_pos hl] at hru
        have HU := hide hru
        have hlb : ((left : Int) != 0) = true := by simp; omega
        have hlb2 : ((left : Int) == 0) = false := by simp; omega
        clear hru hl
        go_wp2
        (try rw [Exit.noGoto_ret])
        go_ret
        rw [← HU.out]
        exact ⟨rfl, HM3.out, HK3.out⟩
    · obtain rfl : k = n := by omega
      have hru := hrun.out
      have hdl : (slL b).drop k = [] := List.drop_eq_nil_of_le (by rw [HN2.out]; exact Nat.le_refl _)
      rw [hdl] at hru
      have HU : Hid ((0, m') = R) := hide hru
      clear hru hdl hrun
      go_wp2
      go_ret
      rw [← HU.out]
      exact ⟨rfl, HMk.out, HKk.out⟩
set_option maxHeartbeats 1000000 in
set_option maxRecDepth 100000 in
theorem mall_none : MaC none := by
  intro w0 g m d X v hL hX h hk
  obtain rfl : v = .slice none 0 0 := hL
  have HM := hide h
  clear h hk hX
  go_enter Tryz.func26, Tryz.ntmps26
  go_wp2_with fail
  go_loopw [10] (fun i wr => i = .int .i64 0 ∧ wr = w0) (fun i _ => 0)
  case atStart => exact ⟨rfl, rfl⟩
  case round =>
    obtain ⟨rfl, rfl⟩ := hrel
    go_wp2
    go_ret
    exact ⟨rfl, HM.out, Km.refl _ _⟩
theorem mdo_all : ∀ (b : Sl), slK b → slN b ≤ 1000000000 → ∀ s ∈ slL b, MdC s
  | ⟨word, v, idx, val, body, oth, rest, next⟩, h, hn, s, hs => by
    obtain ⟨h1, h2, h3, h4, h5, h6, h7, h8, h9⟩ := slK_of h
    rw [slN_eq] at hn
    simp only at hn
    rw [slL_eq] at hs
    rcases List.mem_cons.1 hs with rfl | hs
    · refine mdo_step _ h3 h4 (fun e he => ⟨mv_all e (exOK_of h5 e he), exOK_of h5 e he⟩) (fun e he => ⟨mv_all e (exOK_of h6 e he), exOK_of h6 e he⟩) ?_ ?_ h7
      · match body, h7, hn with
        | none, _, _ => exact mall_none
        | some t, h7, hn =>
          have hn' : slN t ≤ 1000000000 := by have : slO (some t) = slN t := rfl; omega
          exact mall_step t (fun s hs => ⟨mdo_all t h7 hn' s hs, ms_ok t h7 s hs⟩) (Nat.le_trans (slL_len t) hn')
      · match rest, h8, hn with
        | none, _, _ => exact mall_none
        | some t, h8, hn =>
          have hn' : slN t ≤ 1000000000 := by have : slO (some t) = slN t := rfl; omega
          exact mall_step t (fun s hs => ⟨mdo_all t h8 hn' s hs, ms_ok t h8 s hs⟩) (Nat.le_trans (slL_len t) hn')
    · match next, h9, hn, hs with
      | none, _, _, hs => simp [slLO] at hs
      | some t, h9, hn, hs =>
        have hn' : slN t ≤ 1000000000 := by have : slO (some t) = slN t := rfl; omega
        exact mdo_all t h9 hn' s hs
theorem mall_all (o : Option Sl) (h : slOK o) (hn : slO o ≤ 1000000000) : MaC o := by
  match o, h, hn with
  | none, _, _ => exact mall_none
  | some b, h, hn => exact mall_step b (fun s hs => ⟨mdo_all b h hn s hs, ms_ok b h s hs⟩) (Nat.le_trans (slL_len b) hn)
end Go.Proofs.YtiafodeabdhcoaaGreatDoor

namespace Go.Proofs.YtiafodeabdhcoaaGreatDoor
open Go.RowKit
theorem results_cell1 {P : Program} {fn : Func} {p : Tmp} {ty : TypeId} (h : fn.results = #[.cell p ty]) (tmps : Array Value) (w : World) (g : Nat) (t : TypeId) (cs : Array Value) (fr : Nat × Nat) (d : TypeDesc)
    (hp : tmps.getD p undef = .pointer (some ⟨g, 0, none⟩)) (hg : w.heap[g]? = some (.cells cs t fr))
    (hu : P.underlying ty = some d) (hd : (match d with | .struct _ | .array _ _ => true | _ => false) = true) (hi : (P.info? ty).map (·.size) = some cs.size) :
    (results fn tmps).run P w = .ok (.agg cs) w := by
  have hp' : tmps[p]?.getD undef = .pointer (some ⟨g, 0, none⟩) := by simpa using hp
  unfold results
  simp [h, hp', asAddr, run_loadVar_row w g t ty cs fr d hg hu hd hi]
def meL (ov : Value) (m : Mc) : List Value := [ov, .int .i64 (m.state : Nat), .int .i64 (m.code : Nat), .int .i64 (m.taken : Nat), .int .i64 (m.used : Nat)]
theorem info_me : (Tryz.prog.info? 26).map (·.size) = some 5 := by kernel_rfl
theorem info_mc : (Tryz.prog.info? 68).map (·.size) = some 104 := by kernel_rfl
/-- the answers, as a caller hands them in -/
def AnIn (w : World) (an : Value) (l : List Nat) : Prop := ∃ a c, an = .slice a l.length c ∧ l.length ≤ c ∧ ∀ i (h : i < l.length), ∃ b : Addr, a = some b ∧ w.cell? (b.add i) = some (.int .u32 (l[i] : Nat))
theorem AnIn.at {w w' : World} {g : Nat} {an : Value} {l : List Nat} (h : AnIn w an l) (hg : w.heap.size ≤ g) (hb : Below w.heap.size w w') : AnAt w' g an l := by
  obtain ⟨a, c, h1, h2, h3⟩ := h
  refine ⟨a, c, h1, h2, fun i hi => ?_⟩
  obtain ⟨b, k1, k2⟩ := h3 i hi
  have hlt : (b.add i).block < w.heap.size := cell_blk k2
  refine ⟨b, k1, by rw [add_blk] at hlt; omega, ?_⟩
  rw [World.cell?_of_block (hb.block _ hlt)]
  exact k2
theorem AnIn.keep {w w' : World} {an : Value} {l : List Nat} (h : AnIn w an l) (hb : Below w.heap.size w w') : AnIn w' an l := by
  obtain ⟨a, c, h1, h2, h3⟩ := h
  refine ⟨a, c, h1, h2, fun i hi => ?_⟩
  obtain ⟨b, k1, k2⟩ := h3 i hi
  exact ⟨b, k1, by rw [World.cell?_of_block (hb.block _ (cell_blk k2))]; exact k2⟩
theorem mok0 (answers : List Nat) (fuel : Nat) (hf : fuel ≤ 65536) (ha : ∀ x ∈ answers, x ≤ 4294967295) : Mok 0 (mc0 answers fuel) :=
  ⟨by simp [mc0], fun x hx => by have := (List.mem_replicate.1 hx).2; omega, ha, by show 0 + fuel ≤ _; omega, by show 0 + fuel ≤ _; omega, by show 0 + fuel + 1 + 0 ≤ _; omega⟩
theorem mcz_all (a : Option Addr) (n c : Nat) (answers : List Nat) (fuel : Nat) : (mcL (.slice none 0 0) (.slice a n c) (mc0 answers fuel)).all (fun u => u.oneCell') = true := rfl
theorem mcz_is : Tryz.zeroCells68 = (mcL (.slice none 0 0) (.slice none 0 0) (mc0 [] 0)).toArray := by kernel_rfl
set_option maxHeartbeats 16000000 in
set_option maxRecDepth 100000 in
theorem meaning_any (w : World) (o : Option Sl) (X : Nat → Prop) (v an : Value) (answers : List Nat) (fuel : Nat) (hL : LsO w o X v) (hX : ∀ j, X j → j < w.heap.size) (hK : slOK o) (hn : slO o ≤ 1000000) (hA : AnIn w an answers) (ha : ∀ x ∈ answers, x ≤ 4294967295) (hf : fuel ≤ 65536) : Calls Tryz.prog 21 #[v, an, .int .i64 (fuel : Nat)] w fun e w' => ∃ ov, e = .returned (.agg (meL ov (meanT o answers fuel)).toArray) ∧ w'.ownsRow (w.heap.size + 1) 32 2 ov (meanT o answers fuel).outs.length ((meanT o answers fuel).outs.flatMap outL) ∧ Below w.heap.size w w' := by
  have hb1 : Below w.heap.size w (w.alloc (.cells #[.slice none 0 0, .int .i64 0, .int .i64 0, .int .i64 0, .int .i64 0] 26)) := (Below.refl _ _).alloc (Nat.le_refl _) _
  have HB1 := hide hb1
  have HR1 : Hid (Blk (w.alloc (.cells #[.slice none 0 0, .int .i64 0, .int .i64 0, .int .i64 0, .int .i64 0] 26)) w.heap.size 26 [.slice none 0 0, .int .i64 0, .int .i64 0, .int .i64 0, .int .i64 0]) := hide ⟨heap_alloc_last _ _⟩
  have hz1 : (w.alloc (.cells #[.slice none 0 0, .int .i64 0, .int .i64 0, .int .i64 0, .int .i64 0] 26)).heap.size = w.heap.size + 1 := by simp
  obtain ⟨aa, ac, rfl, hA2⟩ : ∃ a c, an = .slice a answers.length c ∧ AnIn w an answers := by obtain ⟨a, c, h1, h2, h3⟩ := hA; exact ⟨a, c, h1, ⟨a, c, h1, h2, h3⟩⟩
  have HA := hide hA2
  have HL := hide hL
  have HX := hide hX
  have HK := hide hK
  have HM0 := hide (mok0 answers fuel hf ha)
  have HZ1 := hide hz1
  clear hA hA2 hL hX hK ha hb1 hz1
  go_enter Tryz.func21, Tryz.ntmps21
  go_upto_region 1 with fail
  change Code.wp _ _ _ _ (w.alloc (.cells #[.slice none 0 0, .int .i64 0, .int .i64 0, .int .i64 0, .int .i64 0] 26))
  generalize w.alloc (.cells #[.slice none 0 0, .int .i64 0, .int .i64 0, .int .i64 0, .int .i64 0] 26) = w1 at *
  have HZ : Hid (Blk (w1.alloc (.cells Tryz.zeroCells68 68)) w1.heap.size 68 (mcL (.slice none 0 0) (.slice none 0 0) (mc0 [] 0))) := hide ⟨by rw [← mcz_is]; exact heap_alloc_last _ _⟩
  go_upto_region 2 with (refine storeB (mcL (.slice none 0 0) (.slice aa answers.length ac) (mc0 answers fuel)) info_mc (mcz_all _ _ _ _ _) rfl _ _ rfl w1.heap.size rfl rfl _ HZ.out rfl ?_)
  have hbw : Below w1.heap.size w1 (putB (w1.alloc (.cells Tryz.zeroCells68 68)) w1.heap.size (mcL (.slice none 0 0) (.slice aa answers.length ac) (mc0 answers fuel)) 68) := putB_below ((Below.refl _ _).alloc (Nat.le_refl _) _) (Nat.le_refl _) _ _
  have hb2 := HB1.out.trans (hbw.mono (by have := HZ1.out; omega))
  have HM2 : Hid (MAt (putB (w1.alloc (.cells Tryz.zeroCells68 68)) w1.heap.size (mcL (.slice none 0 0) (.slice aa answers.length ac) (mc0 answers fuel)) 68) w1.heap.size (mc0 answers fuel)) := hide ⟨.slice none 0 0, .slice aa answers.length ac, HZ.out.put _, World.ownsRow_nil _ _ _ _, HA.out.at (by have := HZ1.out; omega) hb2⟩
  have HR2 := hide (HR1.out.below hbw (by have := HZ1.out; omega))
  have HL2 := hide (HL.out.move (fun j hj _ => ⟨hj, hb2.block j (HX.out j hj)⟩) (fun _ h => h))
  have HB2 := hide hb2
  have HX2 : Hid (∀ j, X j → j < w1.heap.size) := hide (fun j hj => by have := HX.out j hj; have := HZ1.out; omega)
  have HGz : Hid (w.heap.size + 1 = w1.heap.size) := hide HZ1.out.symm
  clear hbw hb2 HR1 HA HZ HB1 HZ1
  generalize putB (w1.alloc (.cells Tryz.zeroCells68 68)) w1.heap.size (mcL (.slice none 0 0) (.slice aa answers.length ac) (mc0 answers fuel)) 68 = w2 at *
  generalize w1.heap.size = g at *
  have HAl := hide (mall_all o HK.out (by omega) w2 g (mc0 answers fuel) 0 X v HL2.out HX2.out HM2.out HM0.out)
  have HO1 := hide (ma_ok o HK.out 0 (mc0 answers fuel) HM0.out)
  have HMe : Hid (meanT o answers fuel = (maO o (mc0 answers fuel)).2.stop 0) := hide rfl
  obtain ⟨z, hz⟩ : ∃ z, maO o (mc0 answers fuel) = z := ⟨_, rfl⟩
  rw [hz] at HAl HO1 HMe
  obtain ⟨left, m1⟩ := z
  dsimp only at HAl HO1 HMe
  clear hz HL2 HM2 HM0
  go_wp2_with fail
  refine HAl.out.mono ?_
  rintro e w3 ⟨rfl, hm3, hk3⟩
  have HSt := hide (mstop_any w3 g m1 0 0 (by decide) hm3 HO1.out)
  have HK3 := hide hk3
  clear hm3 hk3 HAl
  go_wp2_with fail
  refine HSt.out.mono ?_
  rintro e w4 ⟨rfl, hm4, hk4⟩
  have HK4 := hide (HK3.out.trans hk4)
  obtain ⟨ov, an', hb4, hown4, _⟩ := hm4.out
  have HR4 := hide (HR2.out.below HK4.out.b (by have := HGz.out; omega))
  have HB4 := hide (HB2.out.trans (HK4.out.b.mono (by have := HGz.out; omega)))
  have c0 := hb4.get (j := 0) rfl
  have c1 := hb4.get (j := 1) rfl
  have c2 := hb4.get (j := 2) rfl
  have c3 := hb4.get (j := 3) rfl
  have c4 := hb4.get (j := 4) rfl
  obtain ⟨M, hM⟩ : ∃ M, m1.stop 0 = M := ⟨_, rfl⟩
  rw [hM] at hown4 c1 c2 c3 c4 HMe
  have HO4 := hide hown4
  obtain ⟨a5, c5, rfl⟩ := own_shape hown4
  have HF := hide (putB_below (g := w.heap.size) HB4.out (Nat.le_refl _) (meL (.slice a5 M.outs.length c5) M) 26)
  have HCp := hide (HR4.out.put (meL (.slice a5 M.outs.length c5) M))
  have HOf := hide (or_keep (w' := putB w4 w.heap.size (meL (.slice a5 M.outs.length c5) M) 26) hown4 (fun b hb' _ => putB_other _ _ _ _ (by have := HGz.out; omega)))
  clear hk4 hm4 hb4 hown4 HSt hM
  go_wp2_with (refine storeB (meL (.slice a5 M.outs.length c5) M) info_me rfl rfl _ _ rfl w.heap.size rfl rfl _ HR4.out rfl ?_)
  refine bodyPost_ret (results_cell1 rfl _ _ w.heap.size 26 (meL (.slice a5 M.outs.length c5) M).toArray (0, 0) _ rfl HCp.out.out Tryz.underlying26 rfl (by kernel_rfl)) rfl ?_
  rw [HMe.out]
  exact ⟨.slice a5 M.outs.length c5, rfl, own_base HOf.out (by have := HGz.out; omega), HF.out⟩
end Go.Proofs.YtiafodeabdhcoaaGreatDoor

namespace Go.Proofs.YtiafodeabdhcoaaGreatDoor
open Go.RowKit
def evM (q : Option Mc × Nat × Nat) : Mc := q.1.getD (mc0 [] 0)
def EvPost (w : World) (q : Option Mc × Nat × Nat) (e : Ending) (w' : World) : Prop := ∃ ov, e = .returned (.tuple #[.agg (meL ov (evM q)).toArray, .int .i64 (q.2.1 : Nat), .int .i64 (q.2.2 : Nat)]) ∧ w'.ownsRow (w.heap.size + 1) 32 2 ov (evM q).outs.length ((evM q).outs.flatMap outL) ∧ Below w.heap.size w w'
def meZ : List Value := [.slice none 0 0, .int .i64 0, .int .i64 0, .int .i64 0, .int .i64 0]
set_option maxHeartbeats 16000000 in
set_option maxRecDepth 100000 in
theorem eval_any (w : World) (s : Tx) (an : Value) (answers : List Nat) (z : Int) (hs : s.length ≤ 4000000000000000000) (hG : Lg w) (h9 : 9 ≤ w.heap.size) (hA : AnIn w an answers) (ha : ∀ x ∈ answers, x ≤ 4294967295) : Calls Tryz.prog 8 #[.string ⟨s.toArray⟩, an, .int .i64 z] w (EvPost w (evT s answers z)) := by
  have hb1 : Below w.heap.size w (w.alloc (.cells #[.slice none 0 0, .int .i64 0, .int .i64 0, .int .i64 0, .int .i64 0] 26)) := (Below.refl _ _).alloc (Nat.le_refl _) _
  have HB1 := hide hb1
  have HR1 : Hid (Blk (w.alloc (.cells #[.slice none 0 0, .int .i64 0, .int .i64 0, .int .i64 0, .int .i64 0] 26)) w.heap.size 26 meZ) := hide ⟨heap_alloc_last _ _⟩
  have HG1 := hide (hG.below hb1)
  have hz1 : (w.alloc (.cells #[.slice none 0 0, .int .i64 0, .int .i64 0, .int .i64 0, .int .i64 0] 26)).heap.size = w.heap.size + 1 := by simp
  have HZ1 := hide hz1
  by_cases hz : z < 0 ∨ 65536 < z
  · have HV : Hid (evT s answers z = (none, 0, 1)) := hide (by unfold evT; rw [if_pos hz])
    have HF := hide (putB_below (g := w.heap.size) HB1.out (Nat.le_refl _) meZ 26)
    have HCp := hide (HR1.out.put meZ)
    clear hG hb1 hz1 hA ha HG1
    go_enter Tryz.func8, Tryz.ntmps8
    by_cases hz0 : z < 0
    · clear hz
      go_upto_region 1 with fail
      change Code.wp _ _ _ _ (w.alloc (.cells #[.slice none 0 0, .int .i64 0, .int .i64 0, .int .i64 0, .int .i64 0] 26))
      generalize w.alloc (.cells #[.slice none 0 0, .int .i64 0, .int .i64 0, .int .i64 0, .int .i64 0] 26) = w1 at *
      go_wp2_with (refine storeB meZ info_me rfl rfl _ _ rfl w.heap.size rfl rfl _ HR1.out rfl ?_)
      refine bodyPost_ret (results_row3 rfl _ _ w.heap.size 26 meZ.toArray (0, 0) _ rfl HCp.out.out Tryz.underlying26 rfl (by kernel_rfl)) rfl ?_
      rw [HV.out]
      exact ⟨.slice none 0 0, rfl, World.ownsRow_nil _ _ _ _, HF.out⟩
    · have hz2 : 65536 < z := by omega
      clear hz
      go_upto_region 1 with fail
      change Code.wp _ _ _ _ (w.alloc (.cells #[.slice none 0 0, .int .i64 0, .int .i64 0, .int .i64 0, .int .i64 0] 26))
      generalize w.alloc (.cells #[.slice none 0 0, .int .i64 0, .int .i64 0, .int .i64 0, .int .i64 0] 26) = w1 at *
      go_wp2_with (refine storeB meZ info_me rfl rfl _ _ rfl w.heap.size rfl rfl _ HR1.out rfl ?_)
      refine bodyPost_ret (results_row3 rfl _ _ w.heap.size 26 meZ.toArray (0, 0) _ rfl HCp.out.out Tryz.underlying26 rfl (by kernel_rfl)) rfl ?_
      rw [HV.out]
      exact ⟨.slice none 0 0, rfl, World.ownsRow_nil _ _ _ _, HF.out⟩
  · have hz0 : ¬ z < 0 := fun h => hz (.inl h)
    have hz2 : ¬ 65536 < z := fun h => hz (.inr h)
    have HLd := hide (load_any (w.alloc (.cells #[.slice none 0 0, .int .i64 0, .int .i64 0, .int .i64 0, .int .i64 0] 26)) s hs HG1.out (by omega))
    have HV : Hid (evT s answers z = if (ldT s).2.2 ≠ 0 then (none, (ldT s).2.1, (ldT s).2.2) else (some (meanT (ldT s).1.2.1 answers z.toNat), 0, 0)) := hide (by unfold evT; rw [if_neg hz])
    have HKs := hide (ld_ok s)
    obtain ⟨q, hq⟩ : ∃ q, ldT s = q := ⟨_, rfl⟩
    rw [hq] at HLd HV HKs
    obtain ⟨⟨vs, st, tx⟩, ln, er⟩ := q
    dsimp only at HV HKs
    obtain ⟨aa, ac, rfl, hA2⟩ : ∃ a c, an = .slice a answers.length c ∧ AnIn w an answers := by obtain ⟨a, c, h1, h2, h3⟩ := hA; exact ⟨a, c, h1, ⟨a, c, h1, h2, h3⟩⟩
    have HA := hide hA2
    have Ha := hide ha
    clear hG hb1 hz1 hA hA2 ha hz hq
    go_enter Tryz.func8, Tryz.ntmps8
    go_upto_region 1 with fail
    change Code.wp _ _ _ _ (w.alloc (.cells #[.slice none 0 0, .int .i64 0, .int .i64 0, .int .i64 0, .int .i64 0] 26))
    generalize w.alloc (.cells #[.slice none 0 0, .int .i64 0, .int .i64 0, .int .i64 0, .int .i64 0] 26) = w1 at *
    go_wp2_with fail
    refine HLd.out.mono ?_
    rintro e w2 ⟨av, cv, v, rfl, hrw, hls, hb2, htl, hcn⟩
    obtain ⟨v1, v2, v3, rfl⟩ := ls_shape hls
    have hb3 : Below w2.heap.size w2 (putB (w2.alloc (.cells #[.slice none 0 0, .slice none 0 0, .string ⟨#[]⟩] 57)) w2.heap.size (pgL av vs.length cv (.slice v1 v2 v3) tx) 57) := putB_below ((Below.refl _ _).alloc (Nat.le_refl _) _) (Nat.le_refl _) _ _
    have HZ3 : Hid (Blk (w2.alloc (.cells #[.slice none 0 0, .slice none 0 0, .string ⟨#[]⟩] 57)) w2.heap.size 57 [.slice none 0 0, .slice none 0 0, .string ⟨#[]⟩]) := hide ⟨heap_alloc_last _ _⟩
    have HP4 := hide (HZ3.out.put (pgL av vs.length cv (.slice v1 v2 v3) tx))
    have hb13 := hb2.trans (hb3.mono hb2.size)
    have HR4 := hide (HR1.out.below hb13 (by have := HZ1.out; omega))
    have HB4 := hide (HB1.out.trans (hb13.mono (by have := HZ1.out; omega)))
    have HLs := hide ((hls.go (w' := w2) (Y := fun j => w1.heap.size ≤ j ∧ j < w2.heap.size) (fun j hj hs => ⟨⟨hj, hs⟩, rfl⟩)).move (Y := fun j => w1.heap.size ≤ j ∧ j < w2.heap.size) (fun j hj hs => ⟨hj, hb3.block j hs⟩) (fun _ h => h))
    have HSz : Hid ((putB (w2.alloc (.cells #[.slice none 0 0, .slice none 0 0, .string ⟨#[]⟩] 57)) w2.heap.size (pgL av vs.length cv (.slice v1 v2 v3) tx) 57).heap.size = w2.heap.size + 1) := hide (by rw [putB_size]; simp)
    clear hb2 hb3 hb13 hrw hls HLd HR1 HB1
    go_upto_region 4 with (refine storeB (pgL av vs.length cv (.slice v1 v2 v3) tx) info_pgc rfl rfl _ _ rfl w2.heap.size rfl rfl _ HZ3.out rfl ?_)
    generalize hw4 : putB (w2.alloc (.cells #[.slice none 0 0, .slice none 0 0, .string ⟨#[]⟩] 57)) w2.heap.size (pgL av vs.length cv (.slice v1 v2 v3) tx) 57 = w4 at *
    clear hw4 HZ3
    by_cases he : er = 0
    · subst he
      rw [if_neg (by decide)] at HV
      have b1 := HP4.out.get (j := 1) rfl
      have HMn := hide (meaning_any w4 st _ (.slice v1 v2 v3) (.slice aa answers.length ac) answers z.toNat HLs.out (fun j hj => by have := HSz.out; have := hj.2; omega) (HKs.out rfl) (Nat.le_trans hcn (by decide)) (HA.out.keep HB4.out) Ha.out (by omega))
      have hzt : ((z.toNat : Nat) : Int) = z := by omega
      rw [hzt] at HMn
      obtain ⟨M, hM⟩ : ∃ M, meanT st answers z.toNat = M := ⟨_, rfl⟩
      rw [hM] at HMn HV
      clear hM hzt
      go_wp2_with fail
      refine HMn.out.mono ?_
      rintro e w5 ⟨ov, rfl, h1, h2⟩
      have HR5 := hide (HR4.out.below h2 HR4.out.lt)
      have HB5 := hide (HB4.out.trans (h2.mono HB4.out.size))
      obtain ⟨a5, c5, rfl⟩ := own_shape h1
      have HF := hide (putB_below (g := w.heap.size) HB5.out (Nat.le_refl _) (meL (.slice a5 M.outs.length c5) M) 26)
      have HCp := hide (HR5.out.put (meL (.slice a5 M.outs.length c5) M))
      have HOf := hide (or_keep (w' := putB w5 w.heap.size (meL (.slice a5 M.outs.length c5) M) 26) h1 (fun b hb' _ => putB_other _ _ _ _ (by have := HR4.out.lt; omega)))
      clear h1 h2 HMn b1
      go_wp2_with (refine storeB (meL (.slice a5 M.outs.length c5) M) info_me rfl rfl _ _ rfl w.heap.size rfl rfl _ HR5.out rfl ?_)
      refine bodyPost_ret (results_row3 rfl _ _ w.heap.size 26 (meL (.slice a5 M.outs.length c5) M).toArray (0, 0) _ rfl HCp.out.out Tryz.underlying26 rfl (by kernel_rfl)) rfl ?_
      rw [HV.out]
      exact ⟨.slice a5 M.outs.length c5, rfl, own_base HOf.out (by have := HR4.out.lt; omega), HF.out⟩
    · have hei : ((er : Int) != 0) = true := by simp; omega
      have hei2 : ((er : Int) == 0) = false := by simp; omega
      rw [if_pos he] at HV
      have HF := hide (putB_below (g := w.heap.size) HB4.out (Nat.le_refl _) meZ 26)
      have HCp := hide (HR4.out.put meZ)
      clear he
      go_wp2_with (refine storeB meZ info_me rfl rfl _ _ rfl w.heap.size rfl rfl _ HR4.out rfl ?_)
      refine bodyPost_ret (results_row3 rfl _ _ w.heap.size 26 meZ.toArray (0, 0) _ rfl HCp.out.out Tryz.underlying26 rfl (by kernel_rfl)) rfl ?_
      rw [HV.out]
      exact ⟨.slice none 0 0, rfl, World.ownsRow_nil _ _ _ _, HF.out⟩
end Go.Proofs.YtiafodeabdhcoaaGreatDoor

namespace Go.Proofs.YtiafodeabdhcoaaGreatDoor
open Go.RowKit
def lvS : Tx := [101, 109, 105, 116, 32, 50, 32, 43, 32, 51, 32, 42, 32, 52, 59]
def lvW : List Nat := [40894464, 37748738, 340197856, 37748739, 340197857, 37748740, 72613888, 323420641, 121962496, 72613888, 323420640, 88408064, 68419584, 436207630, 34603008, 436207617, 34668543, 436207617]
theorem lv_comp : compT lvS = (lvW, 0, 0) := by kernel_rfl
theorem lv_ev : (evT lvS [] 9).2 = (0, 0) := by kernel_rfl
theorem lv_o : (evM (evT lvS [] 9)).outs = [(14, 14), (1, 0)] := by kernel_rfl
theorem lv_s : (evM (evT lvS [] 9)).state = 3 := by kernel_rfl
theorem lv_c : (evM (evT lvS [] 9)).code = 0 := by kernel_rfl
theorem lv_t : (evM (evT lvS [] 9)).taken = 0 := by kernel_rfl
theorem lv_u : (evM (evT lvS [] 9)).used = 1 := by kernel_rfl
theorem row_get {w : World} {base n k : Nat} {e : TypeId} {v : Value} {xs : List Value} (h : w.ownsRow base e k v n xs) (hn : 0 < n) : ∃ g c, v = .slice (some ⟨g, 0, none⟩) n c ∧ base ≤ g ∧ g < w.heap.size ∧ n ≤ c ∧ ∀ (j : Nat) (x : Value), xs[j]? = some x → w.cell? ⟨g, j, none⟩ = some x := by
  rcases h.2 with ⟨_, h2⟩ | ⟨g, cap, cur, h1, h2, h3, h4, h5, h6, h7⟩
  · omega
  · refine ⟨g, cap, h1, h2, (Array.getElem?_eq_some_iff.1 h3).1, h4, fun j x hx => ?_⟩
    rw [cell_of_row _ _ _ _ _ _ h3]
    rw [← h7, List.getElem?_take] at hx
    split at hx
    · simpa using hx
    · cases hx
set_option maxHeartbeats 8000000 in
set_option maxRecDepth 100000 in
theorem lives_any (w : World) (hG : Lg w) (h9 : 9 ≤ w.heap.size) : Calls Tryz.prog 7 #[] w fun e w' => e = .returned (.bool true) ∧ Below w.heap.size w w' := by
  have HC := hide (comp_any w lvS (by decide) hG h9)
  have HG := hide hG
  rw [lv_comp] at HC
  clear hG
  go_enter Tryz.func7, Tryz.ntmps7
  go_wp2_with fail
  refine HC.out.mono ?_
  rintro e w1 ⟨u, rfl, h1, h2⟩
  obtain ⟨r, c, rfl, hr1, hr2, _, hcell⟩ := row_get h1 (by decide)
  have HB1 := hide h2
  have k0 := hcell 0 _ rfl
  have k1 := hcell 1 _ rfl
  have k17 := hcell 17 _ rfl
  have hs1 := h2.size
  have HE := hide (eval_any w1 lvS (.slice none 0 0) [] 9 (by decide) (HG.out.below h2) (by omega) ⟨none, 0, rfl, Nat.le_refl _, fun i hi => absurd hi (Nat.not_lt_zero _)⟩ (fun x hx => by cases hx))
  clear h1 h2 hcell HC
  go_wp2_with fail
  refine HE.out.mono ?_
  rintro e w2 ⟨ov, rfl, h1, h2⟩
  rw [lv_o] at h1
  obtain ⟨r2, c2, rfl, hq1, hq2, _, hcell⟩ := row_get h1 (by decide)
  have HM : meL (.slice (some ⟨r2, 0, none⟩) [(14, 14), (1, 0)].length c2) (evM (evT lvS [] 9)) = [.slice (some ⟨r2, 0, none⟩) 2 c2, .int .i64 3, .int .i64 0, .int .i64 0, .int .i64 1] := by
    unfold meL
    rw [lv_s, lv_c, lv_t, lv_u]
    rfl
  rw [HM, lv_ev]
  have hs2 := h2.size
  have hb3 : Below w2.heap.size w2 (putB (w2.alloc (.cells #[.slice none 0 0, .int .i64 0, .int .i64 0, .int .i64 0, .int .i64 0] 26)) w2.heap.size [.slice (some ⟨r2, 0, none⟩) 2 c2, .int .i64 3, .int .i64 0, .int .i64 0, .int .i64 1] 26) := putB_below ((Below.refl _ _).alloc (Nat.le_refl _) _) (Nat.le_refl _) _ _
  have HZ : Hid (Blk (w2.alloc (.cells #[.slice none 0 0, .int .i64 0, .int .i64 0, .int .i64 0, .int .i64 0] 26)) w2.heap.size 26 meZ) := hide ⟨heap_alloc_last _ _⟩
  have HP := hide (HZ.out.put [.slice (some ⟨r2, 0, none⟩) 2 c2, .int .i64 3, .int .i64 0, .int .i64 0, .int .i64 1])
  have HB3 := hide (HB1.out.trans ((h2.trans (hb3.mono hs2)).mono hs1))
  have hbb := h2.trans (hb3.mono hs2)
  have j0 := (hbb.cell (p := ⟨r, 0, none⟩) hr2).trans k0
  have j1 := (hbb.cell (p := ⟨r, 1, none⟩) hr2).trans k1
  have j17 := (hbb.cell (p := ⟨r, 17, none⟩) hr2).trans k17
  have o0 := (hb3.cell (p := ⟨r2, 0, none⟩) hq2).trans (hcell 0 _ rfl)
  have o1 := (hb3.cell (p := ⟨r2, 1, none⟩) hq2).trans (hcell 1 _ rfl)
  have o2 := (hb3.cell (p := ⟨r2, 2, none⟩) hq2).trans (hcell 2 _ rfl)
  have o3 := (hb3.cell (p := ⟨r2, 3, none⟩) hq2).trans (hcell 3 _ rfl)
  clear h1 h2 hb3 hbb hcell k0 k1 k17 HE HB1 HM
  go_upto_region 3 with (refine storeB [.slice (some ⟨r2, 0, none⟩) 2 c2, .int .i64 3, .int .i64 0, .int .i64 0, .int .i64 1] info_me rfl rfl _ _ rfl w2.heap.size rfl rfl _ HZ.out rfl ?_)
  generalize hw3 : putB (w2.alloc (.cells #[.slice none 0 0, .int .i64 0, .int .i64 0, .int .i64 0, .int .i64 0] 26)) w2.heap.size [.slice (some ⟨r2, 0, none⟩) 2 c2, .int .i64 3, .int .i64 0, .int .i64 0, .int .i64 1] 26 = w3 at *
  have m0 := HP.out.get (j := 0) rfl
  have m1 := HP.out.get (j := 1) rfl
  have m4 := HP.out.get (j := 4) rfl
  clear hw3 HZ
  go_wp2
  go_ret
  exact ⟨rfl, HB3.out⟩
end Go.Proofs.YtiafodeabdhcoaaGreatDoor

namespace Go.Proofs.YtiafodeabdhcoaaGreatDoor
open Go.RowKit
/-- a list of what was told, in memory -/
def OuR (w : World) (v : Value) (l : List (Nat × Nat)) : Prop := ∃ ao cap, v = .slice ao l.length cap ∧ l.length ≤ cap ∧ ∀ i x, l[i]? = some x → ∃ a : Addr, ao = some a ∧ w.cell? (a.add (i * 2)) = some (.int .i64 (x.1 : Nat)) ∧ w.cell? (a.add (i * 2 + 1)) = some (.int .u32 (x.2 : Nat))
theorem ou_get : ∀ (l : List (Nat × Nat)) (i : Nat) (x : Nat × Nat), l[i]? = some x → (l.flatMap outL)[i * 2]? = some (.int .i64 (x.1 : Nat)) ∧ (l.flatMap outL)[i * 2 + 1]? = some (.int .u32 (x.2 : Nat))
  | [], _, _, h => by simp at h
  | b :: cs, 0, x, h => by simp at h; subst h; exact ⟨rfl, rfl⟩
  | b :: cs, i + 1, x, h => by
    have := ou_get cs i x (by simpa using h)
    rw [show (i + 1) * 2 = i * 2 + 2 by omega, show i * 2 + 2 + 1 = i * 2 + 1 + 2 by omega]
    simpa [outL] using this
theorem add_at (g n : Nat) : (⟨g, 0, none⟩ : Addr).add n = ⟨g, n, none⟩ := by simp [Addr.add, eq_comm]
theorem ou_own {w : World} {base : Nat} {v : Value} {l : List (Nat × Nat)} (h : w.ownsRow base 32 2 v l.length (l.flatMap outL)) : OuR w v l := by
  by_cases hn : 0 < l.length
  · obtain ⟨g, c, rfl, _, _, hc, hcell⟩ := row_get h hn
    refine ⟨_, c, rfl, hc, fun i x hx => ⟨_, rfl, ?_, ?_⟩⟩
    · rw [add_at]; exact hcell _ _ (ou_get l i x hx).1
    · rw [add_at]; exact hcell _ _ (ou_get l i x hx).2
  · have hl : l = [] := List.eq_nil_of_length_eq_zero (by omega)
    obtain ⟨a, c, rfl⟩ := own_shape h
    refine ⟨a, c, rfl, ?_, fun i x hx => by rw [hl] at hx; simp at hx⟩
    rw [hl]; exact Nat.zero_le _
theorem OuR.keep {w w' : World} {v : Value} {l : List (Nat × Nat)} (h : OuR w v l) (hb : Below w.heap.size w w') : OuR w' v l := by
  obtain ⟨ao, cap, h1, h2, h3⟩ := h
  refine ⟨ao, cap, h1, h2, fun i x hx => ?_⟩
  obtain ⟨a, e, c0, c1⟩ := h3 i x hx
  exact ⟨a, e, (hb.cell (cell_blk c0)).trans c0, (hb.cell (cell_blk c1)).trans c1⟩
theorem OuR.drew {w : World} {v : Value} {l : List (Nat × Nat)} (h : OuR w v l) (d : Nat) : OuR (w.drewN d) v l := by
  obtain ⟨ao, cap, h1, h2, h3⟩ := h
  refine ⟨ao, cap, h1, h2, fun i x hx => ?_⟩
  obtain ⟨a, e, c0, c1⟩ := h3 i x hx
  exact ⟨a, e, by rw [World.cell?_drewN]; exact c0, by rw [World.cell?_drewN]; exact c1⟩
theorem OuR.at {w : World} {ao : Option Addr} {n cap : Nat} {l : List (Nat × Nat)} (h : OuR w (.slice ao n cap) l) {i : Nat} {x : Nat × Nat} (hx : l[i]? = some x) :
    ∃ a, ao = some a ∧ w.cell? (a.add (i * 2)) = some (.int .i64 (x.1 : Nat)) ∧ w.cell? ⟨(a.add (i * 2)).block, (a.add (i * 2)).off + 1, none⟩ = some (.int .u32 (x.2 : Nat)) := by
  obtain ⟨ao', cap', h1, h2, h3⟩ := h
  cases h1
  obtain ⟨a, e, c0, c1⟩ := h3 i x hx
  have ea : ∀ j, a.add (i * 2 + (j + 1)) = (⟨(a.add (i * 2)).block, (a.add (i * 2)).off + (j + 1), none⟩ : Addr) := fun j => by rw [← Addr.add_add]; simp [Addr.add]
  rw [ea 0] at c1
  exact ⟨a, e, c0, c1⟩
theorem Blk.drew {w : World} {g : Nat} {t : TypeId} {l : List Value} (h : Blk w g t l) (d : Nat) : Blk (w.drewN d) g t l := ⟨by rw [World.heap_drewN]; exact h.out⟩
theorem meL_cells (v : Value) (M : Mc) : (meL v M).toArray = #[v, .int .i64 (M.state : Nat), .int .i64 (M.code : Nat), .int .i64 (M.taken : Nat), .int .i64 (M.used : Nat)] := rfl
set_option maxRecDepth 100000 in
set_option maxHeartbeats 8000000 in
theorem sameMeaning_any (w : World) (M : Mc) (v1 v2 : Value) (h1 : OuR w v1 M.outs) (h2 : OuR w v2 M.outs) (hl : M.outs.length ≤ 1000000) : Calls Tryz.prog 9 #[.agg (meL v1 M).toArray, .agg (meL v2 M).toArray] w fun e w' => e = .returned (.bool true) ∧ Below w.heap.size w w' := by
  have hb1 : Below w.heap.size w (w.alloc (.cells (meL v1 M).toArray 26)) := (Below.refl _ _).alloc (Nat.le_refl _) _
  have hz1 : (w.alloc (.cells (meL v1 M).toArray 26)).heap.size = w.heap.size + 1 := by simp
  have hb2 := hb1.alloc (by omega) (.cells (meL v2 M).toArray 26)
  have K1 : Blk ((w.alloc (.cells (meL v1 M).toArray 26)).alloc (.cells (meL v2 M).toArray 26)) w.heap.size 26 (meL v1 M) := (Blk.below (g := w.heap.size) ⟨heap_alloc_last _ _⟩ ((Below.refl _ _).alloc (Nat.le_refl _) _) (by omega))
  have K2 : Blk ((w.alloc (.cells (meL v1 M).toArray 26)).alloc (.cells (meL v2 M).toArray 26)) (w.heap.size + 1) 26 (meL v2 M) := by
    have := heap_alloc_last (w.alloc (.cells (meL v1 M).toArray 26)) (.cells (meL v2 M).toArray 26)
    rw [hz1] at this
    exact ⟨this⟩
  have HO1 := hide (h1.keep hb2)
  have HO2 := hide (h2.keep hb2)
  have HB := hide hb2
  obtain ⟨ao, cap, rfl, _⟩ := h1
  obtain ⟨bo, dap, rfl, _⟩ := h2
  obtain ⟨m, hm⟩ : ∃ m, M.outs.length = m := ⟨_, rfl⟩
  rw [hm] at hl HO1 HO2 K1 K2 hb1 hb2 hz1 HB ⊢
  have HLn := hide hm
  clear hb1 hb2 hz1 hm
  rw [meL_cells, meL_cells] at *
  go_enter Tryz.func9, Tryz.ntmps9
  go_upto_region 1 with fail
  generalize (w.alloc (.cells #[.slice ao m cap, .int .i64 (M.state : Nat), .int .i64 (M.code : Nat), .int .i64 (M.taken : Nat), .int .i64 (M.used : Nat)] 26)).alloc (.cells #[.slice bo m dap, .int .i64 (M.state : Nat), .int .i64 (M.code : Nat), .int .i64 (M.taken : Nat), .int .i64 (M.used : Nat)] 26) = w2 at *
  have b0 := K1.get (j := 0) rfl
  have b1 := K1.get (j := 1) rfl
  have b2 := K1.get (j := 2) rfl
  have b3 := K1.get (j := 3) rfl
  have b4 := K1.get (j := 4) rfl
  have c0 := K2.get (j := 0) rfl
  have c1 := K2.get (j := 1) rfl
  have c2 := K2.get (j := 2) rfl
  have c3 := K2.get (j := 3) rfl
  have c4 := K2.get (j := 4) rfl
  have HK1 := hide K1
  have HK2 := hide K2
  clear K1 K2
  generalize M.state = e1 at *
  generalize M.code = e2 at *
  generalize M.taken = e3 at *
  generalize M.used = e4 at *
  go_upto_region 4 with fail
  clear b0 b1 b2 b3 b4 c0 c1 c2 c3 c4
  go_loopw [5] (fun i wr => ∃ k : Nat, k ≤ m ∧ i = .int .i64 (k : Nat) ∧ ∃ d, wr = w2.drewN d) (fun i _ => m - (RowKit.intOf i).toNat)
  case atStart => exact ⟨0, by omega, rfl, 0, by rw [World.drewN_zero]⟩
  case round =>
    obtain ⟨k, hk, rfl, d, hd⟩ := hrel
    have k1 := HK1.out.drew d
    have k2 := HK2.out.drew d
    have k3 := HO1.out.drew d
    have k4 := HO2.out.drew d
    rw [← hd] at k1 k2 k3 k4
    have HD : Hid (∃ d, wr = w2.drewN d) := hide ⟨d, hd⟩
    clear hd
    have b0 := k1.get (j := 0) rfl
    have c0 := k2.get (j := 0) rfl
    by_cases hlt : k < m
    · obtain ⟨x, hx⟩ : ∃ x, M.outs[k]? = some x := ⟨M.outs[k]'(by rw [HLn.out]; exact hlt), List.getElem?_eq_getElem _⟩
      obtain ⟨y, rfl, a0, a1⟩ := k3.at hx
      obtain ⟨y2, rfl, d0, d1⟩ := k4.at hx
      have hki : (k : Int) < m := by omega
      obtain ⟨xs, xw⟩ := x
      dsimp only at a0 a1 d0 d1
      clear hx k1 k2 k3 k4
      go_upto_region 6 with fail
      go_quiet (fail)
      go_wp2
      go_roundw
      case rel => exact ⟨k + 1, by omega, by go_num, by obtain ⟨d, rfl⟩ := HD.out; exact ⟨_, World.drewN_drewN _ _ _⟩⟩
      case measure => simp [RowKit.intOf]; omega
    · obtain rfl : k = m := by omega
      go_wp2
      go_ret
      obtain ⟨d, rfl⟩ := HD.out; exact ⟨rfl, HB.out.trans ⟨rfl, rfl, rfl, Nat.le_refl _, fun _ _ => rfl⟩⟩
end Go.Proofs.YtiafodeabdhcoaaGreatDoor

namespace Go.Proofs.YtiafodeabdhcoaaGreatDoor
open Go.RowKit
/-- a run with less beside a run with more -/
structure RestF (A B : Mc) (nl nm n : Nat) : Prop where
  ul : A.used ≤ nl
  um : B.used ≤ nm
  o : ∃ t, B.outs = A.outs ++ t
  t : A.taken ≤ B.taken
  ta : A.taken ≤ n
  ol : B.outs.length ≤ 1000000
  c : (A.state ≠ 1 ∧ B.outs = A.outs ∧ ∀ v, meL v B = meL v A) ∨ (A.state = 1 ∧ A.code = 0 ∧ A.used = nl)
theorem mean_rest (o : Option Sl) (ho : slOK o) (answers : List Nat) (ha : ∀ x ∈ answers, x ≤ 4294967295) (nl nm : Nat) (h : nl ≤ nm) (hm : nm ≤ 5000) : RestF (meanT o answers nl) (meanT o answers nm) nl nm answers.length := by
  have hk := mok_stop (ma_ok o ho 0 _ (mok0 answers nm (by omega) ha)) 0
  have hol : (meanT o answers nm).outs.length ≤ 1000000 := by
    have := hk.o
    show ((maO o (mc0 answers nm)).2.stop 0).outs.length ≤ _
    omega
  have h1 := mean_more o answers nl (nl + 1) (by omega)
  have h2 := mean_more o answers nm (nm + 1) (by omega)
  have ht := mean_taken o answers nl
  rcases Nat.lt_or_eq_of_le h with hlt | rfl
  · obtain ⟨_, h3⟩ := mean_more o answers nl nm hlt
    rcases h3 with ⟨e1, e2, e3, e4, e5, e6⟩ | ⟨e1, e2, e3, e4, e5⟩
    · exact ⟨h1.1, h2.1, ⟨[], by rw [e1]; simp⟩, by omega, ht, hol, .inl ⟨e6, e1, fun v => by unfold meL; rw [e2, e3, e4, e5]⟩⟩
    · exact ⟨h1.1, h2.1, e4, e5, ht, hol, .inr ⟨e1, e2, e3⟩⟩
  · refine ⟨h1.1, h2.1, ⟨[], by simp⟩, Nat.le_refl _, ht, hol, ?_⟩
    rcases h1.2 with ⟨_, _, _, _, _, e6⟩ | ⟨e1, e2, e3, _⟩
    · exact .inl ⟨e6, rfl, fun _ => rfl⟩
    · exact .inr ⟨e1, e2, e3⟩
theorem ev_two (s : Tx) (answers : List Nat) (ha : ∀ x ∈ answers, x ≤ 4294967295) (nl nm : Nat) (h : nl ≤ nm) (hm : nm ≤ 5000) : ∃ (A B : Mc) (ln er : Nat), evM (evT s answers (nl : Nat)) = A ∧ evM (evT s answers (nm : Nat)) = B ∧ (evT s answers (nl : Nat)).2 = (ln, er) ∧ (evT s answers (nm : Nat)).2 = (ln, er) ∧ (er = 0 → RestF A B nl nm answers.length) := by
  have e : ∀ n : Nat, n ≤ 5000 → evT s answers (n : Nat) = if (ldT s).2.2 ≠ 0 then (none, (ldT s).2.1, (ldT s).2.2) else (some (meanT (ldT s).1.2.1 answers n), 0, 0) := fun n hn => by
    unfold evT
    rw [if_neg (by omega)]
    rfl
  rw [e nl (by omega), e nm hm]
  have ho := ld_ok s
  by_cases he : (ldT s).2.2 = 0
  · rw [if_neg (by simpa using he), if_neg (by simpa using he)]
    exact ⟨_, _, 0, 0, rfl, rfl, rfl, rfl, fun _ => mean_rest _ (ho he) answers ha nl nm h hm⟩
  · rw [if_pos he, if_pos he]
    exact ⟨_, _, _, _, rfl, rfl, rfl, rfl, fun h => absurd h he⟩
theorem eval_at (w : World) (s : Tx) (an : Value) (answers : List Nat) (z : Int) (A : Mc) (ln er : Nat) (hA : evM (evT s answers z) = A) (hq : (evT s answers z).2 = (ln, er)) (hs : s.length ≤ 4000000000000000000) (hG : Lg w) (h9 : 9 ≤ w.heap.size) (hI : AnIn w an answers) (ha : ∀ x ∈ answers, x ≤ 4294967295) : Calls Tryz.prog 8 #[.string ⟨s.toArray⟩, an, .int .i64 z] w fun e w' => ∃ a c, e = .returned (.tuple #[.agg #[.slice a A.outs.length c, .int .i64 (A.state : Nat), .int .i64 (A.code : Nat), .int .i64 (A.taken : Nat), .int .i64 (A.used : Nat)], .int .i64 (ln : Nat), .int .i64 (er : Nat)]) ∧ OuR w' (.slice a A.outs.length c) A.outs ∧ Below w.heap.size w w' := by
  refine (eval_any w s an answers z hs hG h9 hI ha).mono ?_
  rintro e w' ⟨ov, rfl, h1, h2⟩
  rw [hA] at h1
  obtain ⟨a, c, rfl⟩ := own_shape h1
  exact ⟨a, c, by rw [hA, hq]; rfl, ou_own h1, h2⟩
theorem info_w32 : ∃ i, Tryz.prog.info? 30 = some i ∧ i.zero = some (.int .u32 0) ∧ i.size = 1 ∧ i.bytes = 4 := info_parts (by kernel_rfl)
theorem an_cells {w : World} {ad : Addr} {cap : Nat} {l : List Nat} (h : AnIn w (.slice (some ad) l.length cap) l) : ∀ j u, (l.map fun x => Value.int .u32 ((x : Nat) : Int))[j]? = some u → w.cell? (ad.add j) = some u := by
  obtain ⟨a, c, e, _, h3⟩ := h
  cases e
  intro j u hu
  rw [List.getElem?_map] at hu
  by_cases hj : j < l.length
  · obtain ⟨b, e2, h2⟩ := h3 j hj
    cases e2
    rw [List.getElem?_eq_getElem hj] at hu
    simp at hu
    rw [h2, ← hu]
  · rw [List.getElem?_eq_none (by omega)] at hu
    simp at hu
theorem an_own {w : World} {base : Nat} {v : Value} {l : List Nat} (h : w.ownsRow base 30 1 v (0 + l.length) ([] ++ l.map fun x => Value.int .u32 ((x : Nat) : Int))) : ∃ a c, v = .slice a l.length c ∧ AnIn w (.slice a l.length c) l := by
  rw [Nat.zero_add, List.nil_append] at h
  by_cases hn : 0 < l.length
  · obtain ⟨g, c, rfl, _, _, hc, hcell⟩ := row_get h hn
    exact ⟨_, c, rfl, _, c, rfl, hc, fun i hi => ⟨_, rfl, by rw [add_at]; exact hcell i _ (by simp [hi])⟩⟩
  · have hl : l = [] := List.eq_nil_of_length_eq_zero (by omega)
    obtain ⟨a, c, rfl⟩ := own_shape h
    exact ⟨a, c, rfl, a, c, rfl, by omega, fun i hi => absurd hi (by omega)⟩
end Go.Proofs.YtiafodeabdhcoaaGreatDoor
