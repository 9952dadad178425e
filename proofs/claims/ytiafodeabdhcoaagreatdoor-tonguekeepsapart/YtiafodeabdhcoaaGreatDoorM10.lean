import Derived.Shelf.Strings.BuilderK
import Derived.Maps.AppendAt
import Derived.Test.YtiafodeabdhcoaaGreatDoorM08
import Derived.Test.YtiafodeabdhcoaaGreatDoorM09
namespace Go.Proofs.YtiafodeabdhcoaaGreatDoor
open Go.RowKit
theorem slN_eq (s : Sl) : slN s = 1 + exO s.idx + exO s.val + slO s.body + slO s.rest + slO s.next := by
  obtain ⟨word, v, idx, val, body, oth, rest, next⟩ := s
  cases body <;> cases rest <;> cases next <;> rfl
theorem Bx.sta {w0 w1 : World} {g q : Nat} {s : Sl} {X : Nat → Prop} {pi pv pb pr : Value} (h : Bx w0 w1 g q s X pi pv pb pr) : StA w1 s X (stL s.word s.var pi pv pb s.oth pr) := ⟨pi, pv, pb, pr, rfl, h.i, h.v, h.d, h.r⟩
theorem stm_eq (s : Sl) (c : Cd) : cs1 s c = c.stm s.word s.var s.idx s.val s.oth (csO s.body) (csO s.rest) := rfl
theorem info_stc : (Tryz.prog.info? 92).map (·.size) = some 10 := by kernel_rfl
set_option maxHeartbeats 4000000 in
set_option maxRecDepth 100000 in
theorem stm_step (s : Sl) (hsz : s.var.size ≤ 4294967295) (hat : s.var.at' ≤ 4294967295) (hvn : s.word = [61] ∨ s.word = [105, 102] ∨ s.word = [119, 104, 105, 108, 101] ∨ s.word = [101, 109, 105, 116] ∨ s.word = [115, 116, 111, 112] → s.val ≠ none) (hi : ∀ e, s.idx = some e → CxE e) (hv : ∀ e, s.val = some e → CxE e) (hcb : CsC s.body) (hcr : CsC s.rest) : StC s := by
  intro w0 g c X cs hs hX h hG ho hlp hd
  rw [slN_eq] at hd
  obtain ⟨pi, pv, pb, pr, rfl, h1, h2, h3, h4⟩ := hs
  have hpv := h2
  have hpb := h3
  obtain ⟨a3, n3, c3, rfl⟩ := ls_one h3
  obtain ⟨a4, n4, c4, rfl⟩ := ls_one h4
  have hbx := Bx.of h.lt h1 h2 h3 h4 hX
  have HC1 := hide (h.below (w' := (w0.alloc (.cells (stL s.word s.var pi pv (.slice a3 n3 c3) s.oth (.slice a4 n4 c4)).toArray 92))) ((Below.refl _ _).alloc (Nat.le_refl _) _))
  have HG1 := hide (hG.kc hbx.k)
  have HBx := hide hbx
  clear h h1 h2 h3 h4 hX hG hbx
  have HLp := hide hlp
  have HCb := hide hcb
  have HCr := hide hcr
  by_cases n0 : s.word = [61]
  · have hF : cs1 s c = c.assign s.var s.idx s.val := by
      rw [stm_eq]; unfold Cd.stm
      rw [if_pos n0]
    rw [hF] at ho ⊢
    obtain ⟨x, hvx⟩ := Option.ne_none_iff_exists'.1 (hvn (.inl n0))
    have hxx := hv x hvx
    have hdx : exN x ≤ 1000000 := by rw [hvx] at hd; simp only [exO] at hd; omega
    obtain ⟨F, hFF⟩ : ∃ F : Cd, c.assign s.var s.idx s.val = F := ⟨_, rfl⟩
    rw [hFF] at ho ⊢
    have HW : Hid (∀ w1 q, Bx w0 w1 g q s X pi pv (.slice a3 n3 c3) (.slice a4 n4 c4) → CdAt w1 g c → Lyb g w1 → Calls Tryz.prog 90 #[.pointer (some ⟨g, 0, none⟩), .agg (stL s.word s.var pi pv (.slice a3 n3 c3) s.oth (.slice a4 n4 c4)).toArray] w1 (CdPost g F w1)) := hide (fun w1 q hb hc hg => by
      subst hFF
      cases hix : s.idx with
      | none =>
        have := asn_none w1 g c X s _ hb.sta hb.x hc hg x hix hvx hxx hat ho hdx
        rw [hix] at this; exact this
      | some i =>
        have := asn_some w1 g c X s _ hb.sta hb.x hc hg i x hix hvx (hi i hix) hxx hsz hat ho hdx (by rw [hix] at hd; simp only [exO] at hd; omega)
        rw [hix] at this; exact this)
    clear ho hF hFF hvn hi hv hvx hxx hpv hpb
    have HNk := hide n0
    clear n0 
    go_enter Tryz.func58, Tryz.ntmps58
    go_upto_region 1 with fail
    change Code.wp _ _ _ _ (w0.alloc (.cells (stL s.word s.var pi pv (.slice a3 n3 c3) s.oth (.slice a4 n4 c4)).toArray 92))
    generalize w0.alloc (.cells (stL s.word s.var pi pv (.slice a3 n3 c3) s.oth (.slice a4 n4 c4)).toArray 92) = w1 at *
    generalize w0.heap.size = q at *
    have HK1 := hide (Kc.refl g w1)
    have b0 : w1.cell? ⟨q, 0, none⟩ = some (.string ⟨([61] : Tx).toArray⟩) := by rw [← HNk.out]; exact HBx.out.b.get (j := 0) rfl
    go_upto_region 3 with fail
    go_wp2_with (refine loadT Tryz.underlying92 rfl (stL s.word s.var pi pv (.slice a3 n3 c3) s.oth (.slice a4 n4 c4)) info_stc rfl _ rfl ⟨q, 0, none⟩ rfl HBx.out.b.cells ?_)
    refine (HW.out _ _ HBx.out HC1.out HG1.out).mono ?_
    rintro e w2 hp
    have HP := hide (hp.pre HBx.out.k)
    obtain ⟨rfl, _⟩ := hp
    clear HW
    go_wp2
    go_end0
    exact HP.out
  · have e0 : (s.word == [61]) = false := by simpa using n0
    by_cases n1 : s.word = [105, 102]
    · have hF : cs1 s c = (csO s.rest ((if s.oth ≠ 0 then (csO s.body ((cxO s.val 0 c.pair).put [[106, 122, 32, 114, 52, 44, 32, 97] ++ c.name])).put [[106, 109, 112, 32, 98] ++ c.name] else csO s.body ((cxO s.val 0 c.pair).put [[106, 122, 32, 114, 52, 44, 32, 97] ++ c.name])).lab ([97] ++ c.name))).lab ([98] ++ c.name) := by
        rw [stm_eq]; unfold Cd.stm
        rw [if_neg n0, if_pos n1]
      rw [hF] at ho ⊢
      obtain ⟨x, hvx⟩ := Option.ne_none_iff_exists'.1 (hvn (.inr (.inl n1)))
      have hxx := hv x hvx
      have hdx : exN x ≤ 1000000 := by rw [hvx] at hd; simp only [exO] at hd; omega
      obtain ⟨F, hFF⟩ : ∃ F : Cd, (csO s.rest ((if s.oth ≠ 0 then (csO s.body ((cxO s.val 0 c.pair).put [[106, 122, 32, 114, 52, 44, 32, 97] ++ c.name])).put [[106, 109, 112, 32, 98] ++ c.name] else csO s.body ((cxO s.val 0 c.pair).put [[106, 122, 32, 114, 52, 44, 32, 97] ++ c.name])).lab ([97] ++ c.name))).lab ([98] ++ c.name) = F := ⟨_, rfl⟩
      rw [hFF] at ho ⊢
      have HW : Hid (∀ w1 q, Bx w0 w1 g q s X pi pv (.slice a3 n3 c3) (.slice a4 n4 c4) → CdAt w1 g c → Lyb g w1 → Calls Tryz.prog 91 #[.pointer (some ⟨g, 0, none⟩), .agg (stL s.word s.var pi pv (.slice a3 n3 c3) s.oth (.slice a4 n4 c4)).toArray] w1 (CdPost g F w1)) := hide (fun w1 q hb hc hg => by
        by_cases hoth : s.oth = 0
        · exact cho_no w1 g c X s _ hb.sta hb.x hc hg x hvx hxx hcb hcr hlp (by omega) (by omega) hdx hoth F hFF.symm ho
        · exact cho_yes w1 g c X s _ hb.sta hb.x hc hg x hvx hxx hcb hcr hlp (by omega) (by omega) hdx hoth F hFF.symm ho)
      clear ho hF hFF hvn hi hv hvx hxx hpv hpb
      have HNk := hide n1
      clear n1 n0
      go_enter Tryz.func58, Tryz.ntmps58
      go_upto_region 1 with fail
      change Code.wp _ _ _ _ (w0.alloc (.cells (stL s.word s.var pi pv (.slice a3 n3 c3) s.oth (.slice a4 n4 c4)).toArray 92))
      generalize w0.alloc (.cells (stL s.word s.var pi pv (.slice a3 n3 c3) s.oth (.slice a4 n4 c4)).toArray 92) = w1 at *
      generalize w0.heap.size = q at *
      have HK1 := hide (Kc.refl g w1)
      have b0 : w1.cell? ⟨q, 0, none⟩ = some (.string ⟨([105, 102] : Tx).toArray⟩) := by rw [← HNk.out]; exact HBx.out.b.get (j := 0) rfl
      go_upto_region 5 with fail
      go_wp2_with (refine loadT Tryz.underlying92 rfl (stL s.word s.var pi pv (.slice a3 n3 c3) s.oth (.slice a4 n4 c4)) info_stc rfl _ rfl ⟨q, 0, none⟩ rfl HBx.out.b.cells ?_)
      refine (HW.out _ _ HBx.out HC1.out HG1.out).mono ?_
      rintro e w2 hp
      have HP := hide (hp.pre HBx.out.k)
      obtain ⟨rfl, _⟩ := hp
      clear HW
      go_wp2
      go_end0
      exact HP.out
    · have e1 : (s.word == [105, 102]) = false := by simpa using n1
      by_cases n2 : s.word = [119, 104, 105, 108, 101]
      · have hF : cs1 s c = { ((csO s.body ((cxO s.val 0 (({ c.pair with loop := c.name } : Cd).lab ([97] ++ c.name))).put [[106, 122, 32, 114, 52, 44, 32, 98] ++ c.name])).put [[106, 109, 112, 32, 97] ++ c.name]).lab ([98] ++ c.name) with loop := c.loop } := by
          rw [stm_eq]; unfold Cd.stm
          rw [if_neg n0, if_neg n1, if_pos n2]
        rw [hF] at ho ⊢
        obtain ⟨x, hvx⟩ := Option.ne_none_iff_exists'.1 (hvn (.inr (.inr (.inl n2))))
        have hxx := hv x hvx
        have hdx : exN x ≤ 1000000 := by rw [hvx] at hd; simp only [exO] at hd; omega
        obtain ⟨F, hFF⟩ : ∃ F : Cd, ({ ((csO s.body ((cxO s.val 0 (({ c.pair with loop := c.name } : Cd).lab ([97] ++ c.name))).put [[106, 122, 32, 114, 52, 44, 32, 98] ++ c.name])).put [[106, 109, 112, 32, 97] ++ c.name]).lab ([98] ++ c.name) with loop := c.loop } : Cd) = F := ⟨_, rfl⟩
        rw [hFF] at ho ⊢
        have HW : Hid (∀ w1 q, Bx w0 w1 g q s X pi pv (.slice a3 n3 c3) (.slice a4 n4 c4) → CdAt w1 g c → Lyb g w1 → Calls Tryz.prog 92 #[.pointer (some ⟨g, 0, none⟩), .agg (stL s.word s.var pi pv (.slice a3 n3 c3) s.oth (.slice a4 n4 c4)).toArray] w1 (CdPost g F w1)) := hide (fun w1 q hb hc hg => by
          exact whl_any w1 g c X s _ hb.sta hb.x hc hg x hvx hxx hcb hcr (by omega) hdx F hFF.symm ho)
        clear ho hF hFF hvn hi hv hvx hxx hpv hpb
        have HNk := hide n2
        clear n2 n0 n1
        go_enter Tryz.func58, Tryz.ntmps58
        go_upto_region 1 with fail
        change Code.wp _ _ _ _ (w0.alloc (.cells (stL s.word s.var pi pv (.slice a3 n3 c3) s.oth (.slice a4 n4 c4)).toArray 92))
        generalize w0.alloc (.cells (stL s.word s.var pi pv (.slice a3 n3 c3) s.oth (.slice a4 n4 c4)).toArray 92) = w1 at *
        generalize w0.heap.size = q at *
        have HK1 := hide (Kc.refl g w1)
        have b0 : w1.cell? ⟨q, 0, none⟩ = some (.string ⟨([119, 104, 105, 108, 101] : Tx).toArray⟩) := by rw [← HNk.out]; exact HBx.out.b.get (j := 0) rfl
        go_upto_region 7 with fail
        go_wp2_with (refine loadT Tryz.underlying92 rfl (stL s.word s.var pi pv (.slice a3 n3 c3) s.oth (.slice a4 n4 c4)) info_stc rfl _ rfl ⟨q, 0, none⟩ rfl HBx.out.b.cells ?_)
        refine (HW.out _ _ HBx.out HC1.out HG1.out).mono ?_
        rintro e w2 hp
        have HP := hide (hp.pre HBx.out.k)
        obtain ⟨rfl, _⟩ := hp
        clear HW
        go_wp2
        go_end0
        exact HP.out
      · have e2 : (s.word == [119, 104, 105, 108, 101]) = false := by simpa using n2
        by_cases n3 : s.word = [101, 109, 105, 116]
        · have hF : cs1 s c = (cxO s.val 0 c).put [[109, 111, 118, 32, 114, 49, 44, 32, 114, 52], [115, 121, 115, 32, 49, 52]] := by
            rw [stm_eq]; unfold Cd.stm
            rw [if_neg n0, if_neg n1, if_neg n2, if_pos n3]
          rw [hF] at ho ⊢
          obtain ⟨x, hvx⟩ := Option.ne_none_iff_exists'.1 (hvn (.inr (.inr (.inr (.inl n3)))))
          have hxx := hv x hvx
          have hdx : exN x ≤ 1000000 := by rw [hvx] at hd; simp only [exO] at hd; omega
          rw [hvx] at ho hpv ⊢
          obtain ⟨q1, rfl, hxe⟩ := hpv
          obtain ⟨s1, e1⟩ : ∃ t, cxF x 0 c = t := ⟨_, rfl⟩
          have HO1 : Hid s1.Ok := hide ((le_put s1 [[109, 111, 118, 32, 114, 49, 44, 32, 114, 52], [115, 121, 115, 32, 49, 52]]).ok (by rw [← e1]; exact ho))
          have HO2 : Hid (s1.put [[109, 111, 118, 32, 114, 49, 44, 32, 114, 52], [115, 121, 115, 32, 49, 52]]).Ok := hide (by rw [← e1]; exact ho)
          have hfin : (cxO (some x) 0 c).put [[109, 111, 118, 32, 114, 49, 44, 32, 114, 52], [115, 121, 115, 32, 49, 52]] = s1.put [[109, 111, 118, 32, 114, 49, 44, 32, 114, 52], [115, 121, 115, 32, 49, 52]] := by rw [← e1]; rfl
          rw [hfin]
          have HE1 := hide e1
          have HEx := hide hxx
          have HXe := hide hxe
          clear hfin e1 ho hF hvn hi hv hxx hxe
          have hn := nuT_len 14 (by omega)
          have HNk := hide n3
          clear n3 n0 n1 n2
          go_enter Tryz.func58, Tryz.ntmps58
          go_upto_region 1 with fail
          change Code.wp _ _ _ _ (w0.alloc (.cells (stL s.word s.var pi (.pointer (some ⟨q1, 0, none⟩)) (.slice a3 n3 c3) s.oth (.slice a4 n4 c4)).toArray 92))
          generalize w0.alloc (.cells (stL s.word s.var pi (.pointer (some ⟨q1, 0, none⟩)) (.slice a3 n3 c3) s.oth (.slice a4 n4 c4)).toArray 92) = w1 at *
          generalize w0.heap.size = q at *
          have HK1 := hide (Kc.refl g w1)
          have b0 : w1.cell? ⟨q, 0, none⟩ = some (.string ⟨([101, 109, 105, 116] : Tx).toArray⟩) := by rw [← HNk.out]; exact HBx.out.b.get (j := 0) rfl
          have b6 : w1.cell? ⟨q, 6, none⟩ = some (.pointer (some ⟨q1, 0, none⟩)) := HBx.out.b.get (j := 6) rfl
          go_wp2_with fail
          refine (HEx.out w1 g c 0 q1 X (HXe.out.kc (HBx.out.k.trans HK1.out) HBx.out.x) HBx.out.x HC1.out HG1.out (HE1.out ▸ HO1.out) (by omega)).mono ?_
          clear b0 b6
          rintro e w2 ⟨rfl, h1, h2, h3⟩
          have HC2 := hide h1
          have HK2 := hide (HK1.out.trans h2)
          have HG2 := hide h3
          clear h1 h2 h3 HC1 HK1 HG1
          rw [HE1.out] at HC2
          go_wp2_with fail
          refine (sys_any w2 14 (by omega) HG2.out.lg).mono ?_
          rintro e w3 ⟨rfl, hb⟩
          have hk := Kc.below (g := g) hb (by have := HC2.out.lt; omega)
          have HC3 := hide (HC2.out.below hb)
          have HG3 := hide (HG2.out.kc hk)
          have HK3 := hide (HK2.out.trans hk)
          clear hb hk HC2 HK2 HG2
          go_wp2_with fail
          refine (putk_any w3 g s1 _ [[109, 111, 118, 32, 114, 49, 44, 32, 114, 52], [115, 121, 115, 32, 49, 52]] ?hb (by simp) (all_two (semi_lit _ rfl) (semi_lit _ rfl)) HC3.out HG3.out HO2.out).mono ?_
          case hb => simp [ByteArray.data_append, semJ]; rfl
          rintro e w4 ⟨rfl, h1, h2, h3⟩
          have HC4 := hide h1
          have HK4 := hide (HK3.out.trans h2)
          have HG4 := hide h3
          clear h1 h2 h3 HC3 HK3 HG3
          go_wp2
          go_end0
          exact ⟨rfl, HC4.out, HBx.out.k.trans HK4.out, HG4.out⟩
        · have e3 : (s.word == [101, 109, 105, 116]) = false := by simpa using n3
          by_cases n4 : s.word = [115, 116, 111, 112]
          · have hF : cs1 s c = (cxO s.val 0 c).put [[109, 111, 118, 32, 114, 49, 44, 32, 114, 52], [115, 121, 115, 32, 49]] := by
              rw [stm_eq]; unfold Cd.stm
              rw [if_neg n0, if_neg n1, if_neg n2, if_neg n3, if_pos n4]
            rw [hF] at ho ⊢
            obtain ⟨x, hvx⟩ := Option.ne_none_iff_exists'.1 (hvn (.inr (.inr (.inr (.inr n4)))))
            have hxx := hv x hvx
            have hdx : exN x ≤ 1000000 := by rw [hvx] at hd; simp only [exO] at hd; omega
            rw [hvx] at ho hpv ⊢
            obtain ⟨q1, rfl, hxe⟩ := hpv
            obtain ⟨s1, e1⟩ : ∃ t, cxF x 0 c = t := ⟨_, rfl⟩
            have HO1 : Hid s1.Ok := hide ((le_put s1 [[109, 111, 118, 32, 114, 49, 44, 32, 114, 52], [115, 121, 115, 32, 49]]).ok (by rw [← e1]; exact ho))
            have HO2 : Hid (s1.put [[109, 111, 118, 32, 114, 49, 44, 32, 114, 52], [115, 121, 115, 32, 49]]).Ok := hide (by rw [← e1]; exact ho)
            have hfin : (cxO (some x) 0 c).put [[109, 111, 118, 32, 114, 49, 44, 32, 114, 52], [115, 121, 115, 32, 49]] = s1.put [[109, 111, 118, 32, 114, 49, 44, 32, 114, 52], [115, 121, 115, 32, 49]] := by rw [← e1]; rfl
            rw [hfin]
            have HE1 := hide e1
            have HEx := hide hxx
            have HXe := hide hxe
            clear hfin e1 ho hF hvn hi hv hxx hxe
            have hn := nuT_len 1 (by omega)
            have HNk := hide n4
            clear n4 n0 n1 n2 n3
            go_enter Tryz.func58, Tryz.ntmps58
            go_upto_region 1 with fail
            change Code.wp _ _ _ _ (w0.alloc (.cells (stL s.word s.var pi (.pointer (some ⟨q1, 0, none⟩)) (.slice a3 n3 c3) s.oth (.slice a4 n4 c4)).toArray 92))
            generalize w0.alloc (.cells (stL s.word s.var pi (.pointer (some ⟨q1, 0, none⟩)) (.slice a3 n3 c3) s.oth (.slice a4 n4 c4)).toArray 92) = w1 at *
            generalize w0.heap.size = q at *
            have HK1 := hide (Kc.refl g w1)
            have b0 : w1.cell? ⟨q, 0, none⟩ = some (.string ⟨([115, 116, 111, 112] : Tx).toArray⟩) := by rw [← HNk.out]; exact HBx.out.b.get (j := 0) rfl
            have b6 : w1.cell? ⟨q, 6, none⟩ = some (.pointer (some ⟨q1, 0, none⟩)) := HBx.out.b.get (j := 6) rfl
            go_wp2_with fail
            refine (HEx.out w1 g c 0 q1 X (HXe.out.kc (HBx.out.k.trans HK1.out) HBx.out.x) HBx.out.x HC1.out HG1.out (HE1.out ▸ HO1.out) (by omega)).mono ?_
            clear b0 b6
            rintro e w2 ⟨rfl, h1, h2, h3⟩
            have HC2 := hide h1
            have HK2 := hide (HK1.out.trans h2)
            have HG2 := hide h3
            clear h1 h2 h3 HC1 HK1 HG1
            rw [HE1.out] at HC2
            go_wp2_with fail
            refine (sys_any w2 1 (by omega) HG2.out.lg).mono ?_
            rintro e w3 ⟨rfl, hb⟩
            have hk := Kc.below (g := g) hb (by have := HC2.out.lt; omega)
            have HC3 := hide (HC2.out.below hb)
            have HG3 := hide (HG2.out.kc hk)
            have HK3 := hide (HK2.out.trans hk)
            clear hb hk HC2 HK2 HG2
            go_wp2_with fail
            refine (putk_any w3 g s1 _ [[109, 111, 118, 32, 114, 49, 44, 32, 114, 52], [115, 121, 115, 32, 49]] ?hb (by simp) (all_two (semi_lit _ rfl) (semi_lit _ rfl)) HC3.out HG3.out HO2.out).mono ?_
            case hb => simp [ByteArray.data_append, semJ]; rfl
            rintro e w4 ⟨rfl, h1, h2, h3⟩
            have HC4 := hide h1
            have HK4 := hide (HK3.out.trans h2)
            have HG4 := hide h3
            clear h1 h2 h3 HC3 HK3 HG3
            go_wp2
            go_end0
            exact ⟨rfl, HC4.out, HBx.out.k.trans HK4.out, HG4.out⟩
          · have e4 : (s.word == [115, 116, 111, 112]) = false := by simpa using n4
            by_cases n5 : s.word = [121, 105, 101, 108, 100]
            · have hF : cs1 s c = c.put [[115, 121, 115, 32, 48]] := by
                rw [stm_eq]; unfold Cd.stm
                rw [if_neg n0, if_neg n1, if_neg n2, if_neg n3, if_neg n4, if_pos n5]
              rw [hF] at ho ⊢
              have HO := hide ho
              clear ho hF hvn hi hv
              have HNk := hide n5
              clear n5 n0 n1 n2 n3 n4
              go_enter Tryz.func58, Tryz.ntmps58
              go_upto_region 1 with fail
              change Code.wp _ _ _ _ (w0.alloc (.cells (stL s.word s.var pi pv (.slice a3 n3 c3) s.oth (.slice a4 n4 c4)).toArray 92))
              generalize w0.alloc (.cells (stL s.word s.var pi pv (.slice a3 n3 c3) s.oth (.slice a4 n4 c4)).toArray 92) = w1 at *
              generalize w0.heap.size = q at *
              have HK1 := hide (Kc.refl g w1)
              have b0 : w1.cell? ⟨q, 0, none⟩ = some (.string ⟨([121, 105, 101, 108, 100] : Tx).toArray⟩) := by rw [← HNk.out]; exact HBx.out.b.get (j := 0) rfl
              go_wp2_with fail
              refine (sys_any w1 0 (by omega) HG1.out.lg).mono ?_
              clear b0
              rintro e w2 ⟨rfl, hb⟩
              have hk := Kc.below (g := g) hb (by have := HC1.out.lt; omega)
              have HC2 := hide (HC1.out.below hb)
              have HG2 := hide (HG1.out.kc hk)
              have HK2 := hide (HK1.out.trans hk)
              clear hb hk HC1 HK1 HG1
              go_wp2_with fail
              refine (putk_any w2 g c _ [[115, 121, 115, 32, 48]] ?hb (by simp) (all_one (semi_lit _ rfl)) HC2.out HG2.out HO.out).mono ?_
              case hb => rfl
              rintro e w3 ⟨rfl, h1, h2, h3⟩
              have HC3 := hide h1
              have HK3 := hide (HK2.out.trans h2)
              have HG3 := hide h3
              clear h1 h2 h3 HC2 HK2 HG2
              go_wp2
              go_end0
              exact ⟨rfl, HC3.out, HBx.out.k.trans HK3.out, HG3.out⟩
            · have e5 : (s.word == [121, 105, 101, 108, 100]) = false := by simpa using n5
              by_cases n6 : s.word = [98, 114, 101, 97, 107]
              · have hF : cs1 s c = c.put [[106, 109, 112, 32, 98] ++ c.loop] := by
                  rw [stm_eq]; unfold Cd.stm
                  rw [if_neg n0, if_neg n1, if_neg n2, if_neg n3, if_neg n4, if_neg n5, if_pos n6]
                rw [hF] at ho ⊢
                have HO := hide ho
                have hll := hlp.1
                clear ho hF hvn hi hv
                have HNk := hide n6
                clear n6 n0 n1 n2 n3 n4 n5
                go_enter Tryz.func58, Tryz.ntmps58
                go_upto_region 1 with fail
                change Code.wp _ _ _ _ (w0.alloc (.cells (stL s.word s.var pi pv (.slice a3 n3 c3) s.oth (.slice a4 n4 c4)).toArray 92))
                generalize w0.alloc (.cells (stL s.word s.var pi pv (.slice a3 n3 c3) s.oth (.slice a4 n4 c4)).toArray 92) = w1 at *
                generalize w0.heap.size = q at *
                have HK1 := hide (Kc.refl g w1)
                have b0 : w1.cell? ⟨q, 0, none⟩ = some (.string ⟨([98, 114, 101, 97, 107] : Tx).toArray⟩) := by rw [← HNk.out]; exact HBx.out.b.get (j := 0) rfl
                obtain ⟨k4, _⟩ := HC1.out.cell (j := 4) (x := .string ⟨c.loop.toArray⟩) (fun _ _ => rfl)
                go_wp2_with fail
                refine (putk_any w1 g c _ [[106, 109, 112, 32, 98] ++ c.loop] ?hb (by simp) (all_one (semi_app (semi_lit _ rfl) HLp.out.2)) HC1.out HG1.out HO.out).mono ?_
                case hb => simp [ByteArray.data_append, semJ]
                clear b0
                rintro e w2 ⟨rfl, h1, h2, h3⟩
                have HC2 := hide h1
                have HK2 := hide (HK1.out.trans h2)
                have HG2 := hide h3
                clear h1 h2 h3 HC1 HK1 HG1
                go_wp2
                go_end0
                exact ⟨rfl, HC2.out, HBx.out.k.trans HK2.out, HG2.out⟩
              · have e6 : (s.word == [98, 114, 101, 97, 107]) = false := by simpa using n6
                by_cases n7 : s.word = [99, 111, 110, 116, 105, 110, 117, 101]
                · have hF : cs1 s c = c.put [[106, 109, 112, 32, 97] ++ c.loop] := by
                    rw [stm_eq]; unfold Cd.stm
                    rw [if_neg n0, if_neg n1, if_neg n2, if_neg n3, if_neg n4, if_neg n5, if_neg n6, if_pos n7]
                  rw [hF] at ho ⊢
                  have HO := hide ho
                  have hll := hlp.1
                  clear ho hF hvn hi hv
                  have HNk := hide n7
                  clear n7 n0 n1 n2 n3 n4 n5 n6
                  go_enter Tryz.func58, Tryz.ntmps58
                  go_upto_region 1 with fail
                  change Code.wp _ _ _ _ (w0.alloc (.cells (stL s.word s.var pi pv (.slice a3 n3 c3) s.oth (.slice a4 n4 c4)).toArray 92))
                  generalize w0.alloc (.cells (stL s.word s.var pi pv (.slice a3 n3 c3) s.oth (.slice a4 n4 c4)).toArray 92) = w1 at *
                  generalize w0.heap.size = q at *
                  have HK1 := hide (Kc.refl g w1)
                  have b0 : w1.cell? ⟨q, 0, none⟩ = some (.string ⟨([99, 111, 110, 116, 105, 110, 117, 101] : Tx).toArray⟩) := by rw [← HNk.out]; exact HBx.out.b.get (j := 0) rfl
                  obtain ⟨k4, _⟩ := HC1.out.cell (j := 4) (x := .string ⟨c.loop.toArray⟩) (fun _ _ => rfl)
                  go_wp2_with fail
                  refine (putk_any w1 g c _ [[106, 109, 112, 32, 97] ++ c.loop] ?hb (by simp) (all_one (semi_app (semi_lit _ rfl) HLp.out.2)) HC1.out HG1.out HO.out).mono ?_
                  case hb => simp [ByteArray.data_append, semJ]
                  clear b0
                  rintro e w2 ⟨rfl, h1, h2, h3⟩
                  have HC2 := hide h1
                  have HK2 := hide (HK1.out.trans h2)
                  have HG2 := hide h3
                  clear h1 h2 h3 HC1 HK1 HG1
                  go_wp2
                  go_end0
                  exact ⟨rfl, HC2.out, HBx.out.k.trans HK2.out, HG2.out⟩
                · have e7 : (s.word == [99, 111, 110, 116, 105, 110, 117, 101]) = false := by simpa using n7
                  by_cases n8 : s.word = [123]
                  · have hF : cs1 s c = csO s.body (c.put [[110, 111, 112]]) := by
                      rw [stm_eq]; unfold Cd.stm
                      rw [if_neg n0, if_neg n1, if_neg n2, if_neg n3, if_neg n4, if_neg n5, if_neg n6, if_neg n7, if_pos n8]
                    rw [hF] at ho ⊢
                    obtain ⟨s1, e1⟩ : ∃ t, c.put [[110, 111, 112]] = t := ⟨_, rfl⟩
                    rw [e1] at ho ⊢
                    have HO1 : Hid s1.Ok := hide ((le_csO s.body s1).ok ho)
                    have HO2 := hide ho
                    have HL1 : Hid (LpOk s1) := hide (hlp.of (by rw [← e1]; rfl))
                    have HE1 := hide e1
                    clear ho hF hvn hi hv e1
                    have HNk := hide n8
                    clear n8 n0 n1 n2 n3 n4 n5 n6 n7
                    go_enter Tryz.func58, Tryz.ntmps58
                    go_upto_region 1 with fail
                    change Code.wp _ _ _ _ (w0.alloc (.cells (stL s.word s.var pi pv (.slice a3 n3 c3) s.oth (.slice a4 n4 c4)).toArray 92))
                    generalize w0.alloc (.cells (stL s.word s.var pi pv (.slice a3 n3 c3) s.oth (.slice a4 n4 c4)).toArray 92) = w1 at *
                    generalize w0.heap.size = q at *
                    have HK1 := hide (Kc.refl g w1)
                    have b0 : w1.cell? ⟨q, 0, none⟩ = some (.string ⟨([123] : Tx).toArray⟩) := by rw [← HNk.out]; exact HBx.out.b.get (j := 0) rfl
                    go_wp2_with fail
                    refine (putk_any w1 g c _ [[110, 111, 112]] ?hb (by simp) (all_one (semi_lit _ rfl)) HC1.out HG1.out (HE1.out ▸ HO1.out)).mono ?_
                    case hb => rfl
                    clear b0
                    rintro e w2 ⟨rfl, h1, h2, h3⟩
                    have HC2 := hide h1
                    have HK2 := hide (HK1.out.trans h2)
                    have HG2 := hide h3
                    clear h1 h2 h3 HC1 HK1 HG1
                    rw [HE1.out] at HC2
                    have b7 := (HBx.out.b.kb HK2.out HBx.out.ng (by decide)).get (j := 7) rfl
                    go_wp2_with fail
                    refine (HCb.out w2 g s1 X _ (HBx.out.d.kc HK2.out HBx.out.x) HBx.out.x HC2.out HG2.out HO2.out HL1.out (by omega)).mono ?_
                    clear b7
                    rintro e w3 ⟨rfl, h1, h2, h3⟩
                    have HC3 := hide h1
                    have HK3 := hide (HK2.out.trans h2)
                    have HG3 := hide h3
                    clear h1 h2 h3 HC2 HK2 HG2
                    go_wp2
                    go_end0
                    exact ⟨rfl, HC3.out, HBx.out.k.trans HK3.out, HG3.out⟩
                  · have e8 : (s.word == [123]) = false := by simpa using n8
                    have hF : cs1 s c = c := by rw [stm_eq]; unfold Cd.stm; rw [if_neg n0, if_neg n1, if_neg n2, if_neg n3, if_neg n4, if_neg n5, if_neg n6, if_neg n7, if_neg n8]
                    rw [hF]
                    clear ho hF n0 n1 n2 n3 n4 n5 n6 n7 n8 hvn hi hv
                    go_enter Tryz.func58, Tryz.ntmps58
                    go_upto_region 1 with fail
                    change Code.wp _ _ _ _ (w0.alloc (.cells (stL s.word s.var pi pv (.slice a3 n3 c3) s.oth (.slice a4 n4 c4)).toArray 92))
                    generalize w0.alloc (.cells (stL s.word s.var pi pv (.slice a3 n3 c3) s.oth (.slice a4 n4 c4)).toArray 92) = w1 at *
                    generalize w0.heap.size = q at *
                    have HK1 := hide (Kc.refl g w1)
                    have b0 := HBx.out.b.get (j := 0) rfl
                    go_wp2
                    go_end0
                    exact ⟨rfl, HC1.out, HBx.out.k.trans HK1.out, HG1.out⟩
end Go.Proofs.YtiafodeabdhcoaaGreatDoor

namespace Go.Proofs.YtiafodeabdhcoaaGreatDoor
open Go.RowKit
/-- statements as a list -/
def slL : Sl → List Sl
  | ⟨word, v, idx, val, body, oth, rest, next⟩ => ⟨word, v, idx, val, body, oth, rest, next⟩ :: (match next with | none => [] | some t => slL t)
def slLO (o : Option Sl) : List Sl := match o with | none => [] | some s => slL s
theorem slL_eq (s : Sl) : slL s = s :: slLO s.next := by
  obtain ⟨word, v, idx, val, body, oth, rest, next⟩ := s
  cases next <;> rfl
theorem cs_fold : ∀ (b : Sl) (c : Cd), csF b c = (slL b).foldl (fun c s => cs1 s c) c
  | ⟨word, v, idx, val, body, oth, rest, next⟩, c => by
    rw [csF_next, slL_eq, List.foldl_cons]
    match next with
    | none => rfl
    | some t => exact cs_fold t _
theorem ch_at {w : World} {X : Nat → Prop} : ∀ (b : Sl) (N : List (List Value)), ChIs w b X N → N.length = (slL b).length ∧ ∀ i (h1 : i < (slL b).length) (h2 : i < N.length), StA w (slL b)[i] X N[i]
  | ⟨word, v, idx, val, body, oth, rest, next⟩, N, h => by
    obtain ⟨cs, M, rfl, hs, hn⟩ := ChIs.iff.1 h
    have ht : M.length = (slLO next).length ∧ ∀ i (h1 : i < (slLO next).length) (h2 : i < M.length), StA w (slLO next)[i] X M[i] := by
      match next, hn with
      | none, hn => cases hn; exact ⟨rfl, fun i h1 => by simp [slLO] at h1⟩
      | some t, hn => exact ch_at t M hn
    have e := slL_eq ⟨word, v, idx, val, body, oth, rest, next⟩
    refine ⟨by rw [e]; simp [ht.1], fun i h1 h2 => ?_⟩
    simp only [e]
    match i with
    | 0 => exact hs
    | i + 1 => exact ht.2 i (by rw [e] at h1; simpa using h1) (by simpa using h2)
theorem le_fold : ∀ (l : List Sl) (c : Cd), c.Le (l.foldl (fun c s => cs1 s c) c)
  | [], c => Cd.Le.refl c
  | s :: l, c => (le_cs1 s c).trans (le_fold l _)
theorem lp_fold : ∀ (l : List Sl) (c : Cd), (l.foldl (fun c s => cs1 s c) c).loop = c.loop
  | [], _ => rfl
  | s :: l, c => (lp_fold l _).trans (lp_cs1 s c)
theorem slN_mem : ∀ (b s : Sl), s ∈ slL b → slN s ≤ slN b
  | ⟨word, v, idx, val, body, oth, rest, next⟩, s, h => by
    rw [slL_eq] at h
    rcases List.mem_cons.1 h with rfl | h
    · exact Nat.le_refl _
    · have hn : slN s ≤ slO next := by
        match next, h with
        | none, h => simp [slLO] at h
        | some t, h => exact slN_mem t s h
      rw [slN_eq ⟨word, v, idx, val, body, oth, rest, next⟩]
      simp only
      omega
theorem slL_len : ∀ (b : Sl), (slL b).length ≤ slN b
  | ⟨word, v, idx, val, body, oth, rest, next⟩ => by
    have hn : (slLO next).length ≤ slO next := by
      match next with
      | none => exact Nat.le_refl _
      | some t => exact slL_len t
    rw [slL_eq, slN_eq ⟨word, v, idx, val, body, oth, rest, next⟩]
    simp only [List.length_cons]
    omega
theorem kc_cell {w w' : World} {g : Nat} (hk : Kc g w w') {p : Addr} (hp : p.block < g) : w'.cell? p = w.cell? p := World.cell?_of_block (hk.b.block _ hp)
theorem pt_one {w : World} {X : Nat → Prop} {o : Option Ex} {v : Value} (h : PtE w o X v) : ∃ z, v = .pointer z := by
  match o, h with
  | none, h => exact ⟨_, h⟩
  | some e, ⟨q, h1, _⟩ => exact ⟨_, h1⟩
theorem slZ_block (w : World) : Blk (w.alloc (.cells #[.string ⟨#[]⟩, .string ⟨#[]⟩, .bool false, .int .i64 0, .int .i64 0, .pointer none, .pointer none, .slice none 0 0, .int .i64 0, .slice none 0 0] 92)) w.heap.size 92 (stL [] vr0 (.pointer none) (.pointer none) (.slice none 0 0) 0 (.slice none 0 0)) := ⟨heap_alloc_last _ _⟩
set_option maxHeartbeats 4000000 in
set_option maxRecDepth 100000 in
theorem csl_step (b : Sl) (hb : ∀ s ∈ slL b, StC s) : CsC (some b) := by
  intro w0 g c X v hL hX h hG ho hlp hd
  obtain ⟨a, cc, N, rfl, hXa, hrw, hch⟩ := hL
  obtain ⟨hNl, hst⟩ := ch_at b N hch
  have hfold : csO (some b) c = (slL b).foldl (fun c s => cs1 s c) c := cs_fold b c
  rw [hfold] at ho ⊢
  have hag := hX _ hXa
  have HC0 := hide h
  have HG0 := hide hG
  have HO := hide ho
  have HS := hide hst
  have HRw := hide hrw
  have HX := hide hX
  have HB := hide hb
  have HLp := hide hlp
  have HD : Hid (∀ s ∈ slL b, slN s ≤ 1000000) := hide (fun s hs => Nat.le_trans (slN_mem b s hs) hd)
  obtain ⟨n, hn⟩ : ∃ n, N.length = n := ⟨_, rfl⟩
  have HN := hide hn
  have HN2 : Hid ((slL b).length = n) := hide (by rw [← hNl]; exact hn)
  have hnb : n ≤ 1000000 := by have h1 := slL_len b; have h2 := HN2.out; have h3 : slN b ≤ 1000000 := hd; omega
  rw [hn]
  clear h hG ho hst hrw hX hb hch hfold hlp hd hNl hn
  go_enter Tryz.func33, Tryz.ntmps33
  go_wp2_with fail
  go_loopw [8] (fun i wr => ∃ k : Nat, k ≤ n ∧ i = .int .i64 (k : Nat) ∧ Hid (CdAt wr g (((slL b).take k).foldl (fun c s => cs1 s c) c)) ∧ Hid (Kc g w0 wr)) (fun i _ => n - (RowKit.intOf i).toNat)
  case atStart => exact ⟨0, by omega, rfl, HC0, hide (Kc.refl _ _)⟩
  case round =>
    obtain ⟨k, hk, rfl, HCk, HKk⟩ := hrel
    by_cases hlt : k < n
    · have hki : (k : Int) < n := by omega
      have hkN : k < N.length := by have := HN.out; omega
      have hkb : k < (slL b).length := by have := HN2.out; omega
      obtain ⟨a', ha', hcel⟩ := HRw.out k hkN
      cases ha'
      have hsta := HS.out k hkb hkN
      have hmem : (slL b)[k] ∈ slL b := List.getElem_mem hkb
      have hcel' : Hid (∀ (j : Nat) (x : Value), N[k][j]? = some x → wr.cell? ((a.add (k * 10)).add j) = some x) := hide (fun j x hx => by
        rw [kc_cell HKk.out (by rw [add_blk, add_blk]; exact hag)]; exact hcel j x hx)
      obtain ⟨s, hs⟩ : ∃ s, (slL b)[k] = s := ⟨_, rfl⟩
      rw [hs] at hsta hmem
      have hte : (slL b).take (k + 1) = (slL b).take k ++ [s] := by rw [← hs]; exact List.take_succ_eq_append_getElem hkb
      have hfd : ((slL b).take (k + 1)).foldl (fun c s => cs1 s c) c = cs1 s (((slL b).take k).foldl (fun c s => cs1 s c) c) := by rw [hte, List.foldl_append]; rfl
      have hok : (((slL b).take (k + 1)).foldl (fun c s => cs1 s c) c).Ok := by
        have e : (slL b).foldl (fun c s => cs1 s c) c = ((slL b).drop (k + 1)).foldl (fun c s => cs1 s c) (((slL b).take (k + 1)).foldl (fun c s => cs1 s c) c) := by
          rw [← List.foldl_append, List.take_append_drop]
        have := HO.out
        rw [e] at this
        exact (le_fold _ _).ok this
      rw [hfd] at hok
      have HF := hide hfd
      have HOk := hide hok
      have HSt := hide (HB.out s hmem)
      have HDs := hide (HD.out s hmem)
      have HLk : Hid (LpOk (((slL b).take k).foldl (fun c s => cs1 s c) c)) := hide (HLp.out.of (lp_fold _ _))
      obtain ⟨ck, hck⟩ : ∃ ck, ((slL b).take k).foldl (fun c s => cs1 s c) c = ck := ⟨_, rfl⟩
      rw [hck] at HF HOk HLk HCk
      have HSa := hide (hsta.kc HKk.out HX.out)
      obtain ⟨pi, pv, pb, pr, hcs, p1, p2, p3, p4⟩ := hsta
      obtain ⟨cs, hcse⟩ : ∃ cs, N[k] = cs := ⟨_, rfl⟩
      rw [hcse] at hcel' hcs HSa
      clear hte hfd hok hck hs hmem hcel hcse
      have hbw : Below wr.heap.size wr (putB (wr.alloc (.cells #[.string ⟨#[]⟩, .string ⟨#[]⟩, .bool false, .int .i64 0, .int .i64 0, .pointer none, .pointer none, .slice none 0 0, .int .i64 0, .slice none 0 0] 92)) wr.heap.size cs 92) := putB_below ((Below.refl _ _).alloc (Nat.le_refl _) _) (Nat.le_refl _) _ _
      have hkw := Kc.below (g := g) hbw (by have := HCk.out.lt; omega)
      have HC2 := hide (HCk.out.below hbw)
      have HK2 := hide (HKk.out.trans hkw)
      have HG2 := hide (HG0.out.kc HK2.out)
      have HS2 := hide (HSa.out.kc hkw HX.out)
      have HZ := hide (slZ_block wr)
      have HB2 := hide (HZ.out.put cs)
      have hcl : Hid ((Tryz.prog.info? 92).map (·.size) = some cs.length) := hide (by rw [hcs]; exact info_stc)
      have hone : cs.all (fun u => u.oneCell') = true := by
        obtain ⟨x1, x2, x3, rfl⟩ := ls_one p3
        obtain ⟨y1, y2, y3, rfl⟩ := ls_one p4
        obtain ⟨z1, rfl⟩ := pt_one p1
        obtain ⟨z2, rfl⟩ := pt_one p2
        rw [hcs]
        rfl
      have hlen : Hid (10 = cs.length) := hide (by rw [hcs]; rfl)
      clear hbw hkw hcs p1 p2 p3 p4 HCk HKk HSa
      go_upto_region 2 with fail
      go_wp2_with (first | (refine loadT Tryz.underlying92 rfl cs hcl.out rfl _ rfl (a.add (k * 10)) rfl hcel'.out ?_) | (refine storeB cs hcl.out hone rfl _ _ rfl wr.heap.size rfl rfl _ HZ.out hlen.out ?_) | (refine loadT Tryz.underlying92 rfl cs hcl.out rfl _ rfl ⟨wr.heap.size, 0, none⟩ rfl HB2.out.cells ?_))
      refine (HSt.out _ g ck X cs HS2.out HX.out HC2.out HG2.out HOk.out HLk.out HDs.out).mono ?_
      rintro e w2 ⟨rfl, h1, h2, h3⟩
      have H1 : Hid (CdAt w2 g (((slL b).take (k + 1)).foldl (fun c s => cs1 s c) c)) := hide (by rw [HF.out]; exact h1)
      have H2 := hide (HK2.out.trans h2)
      clear h1 h2 h3 HC2 HK2 HG2 HS2 HZ HB2 hcl hone hlen HF HOk HLk HDs HSt hcel'
      go_wp2
      go_roundw
      case rel => exact ⟨k + 1, by omega, by go_num, H1, H2⟩
      case measure => simp [RowKit.intOf]; omega
    · obtain rfl : k = n := by omega
      have hfin : (slL b).take k = slL b := by rw [← HN2.out, List.take_length]
      rw [hfin] at HCk
      clear hfin
      go_wp2
      go_end0
      exact ⟨rfl, HCk.out, HKk.out, HG0.out.kc HKk.out⟩
set_option maxHeartbeats 1000000 in
set_option maxRecDepth 100000 in
theorem csl_none : CsC none := by
  intro w0 g c X v hL hX h hG ho hlp hd
  obtain rfl : v = .slice none 0 0 := hL
  have HC := hide h
  have HG := hide hG
  clear h hG ho hlp hd hX
  go_enter Tryz.func33, Tryz.ntmps33
  go_wp2_with fail
  go_loopw [8] (fun i wr => i = .int .i64 0 ∧ wr = w0) (fun i _ => 0)
  case atStart => exact ⟨rfl, rfl⟩
  case round =>
    obtain ⟨rfl, rfl⟩ := hrel
    go_wp2
    go_end0
    exact ⟨rfl, HC.out, Kc.refl _ _, HG.out⟩
theorem slK_of {word : Tx} {v : Vr} {idx val : Option Ex} {body : Option Sl} {oth : Nat} {rest next : Option Sl} (h : slK ⟨word, v, idx, val, body, oth, rest, next⟩) : v.size ≤ 4294967295 ∧ v.at' ≤ 4294967295 ∧ (word = [61] → (idx = none → 384 ≤ v.at' ∧ v.at' < 480) ∧ (idx ≠ none → 384 ≤ v.at' ∧ v.at' + v.size ≤ 480)) ∧
    (word = [61] ∨ word = [105, 102] ∨ word = [119, 104, 105, 108, 101] ∨ word = [101, 109, 105, 116] ∨ word = [115, 116, 111, 112] → val ≠ none) ∧ exOK idx ∧ exOK val ∧ slOK body ∧ slOK rest ∧ slOK next := by
  unfold slK at h
  cases body <;> cases rest <;> cases next <;> exact h
theorem exOK_of {o : Option Ex} (h : exOK o) : ∀ e, o = some e → exK e := fun e he => by subst he; exact h
/-- the list's statements, each with what follows it -/
theorem stm_all : ∀ (b : Sl), slK b → ∀ s ∈ slL b, StC s
  | ⟨word, v, idx, val, body, oth, rest, next⟩, h, s, hs => by
    obtain ⟨h1, h2, _, h4, h5, h6, h7, h8, h9⟩ := slK_of h
    rw [slL_eq] at hs
    rcases List.mem_cons.1 hs with rfl | hs
    · refine stm_step _ h1 h2 h4 (fun e he => expr_all e (exOK_of h5 e he)) (fun e he => expr_all e (exOK_of h6 e he)) ?_ ?_
      · match body, h7 with
        | none, _ => exact csl_none
        | some t, h7 => exact csl_step t (stm_all t h7)
      · match rest, h8 with
        | none, _ => exact csl_none
        | some t, h8 => exact csl_step t (stm_all t h8)
    · match next, h9, hs with
      | none, _, hs => simp [slLO] at hs
      | some t, h9, hs => exact stm_all t h9 s hs
theorem csl_all (o : Option Sl) (h : slOK o) : CsC o := by
  match o, h with
  | none, _ => exact csl_none
  | some b, h => exact csl_step b (stm_all b h)
end Go.Proofs.YtiafodeabdhcoaaGreatDoor

namespace Go.Proofs.YtiafodeabdhcoaaGreatDoor
open Go.RowKit
set_option maxHeartbeats 2000000 in
set_option maxRecDepth 100000 in
theorem cds_any (w : World) (g : Nat) (s : Cd) (h : CdAt w g s) (h0 : s.text ≠ []) : Calls Tryz.prog 36 #[.pointer (some ⟨g, 0, none⟩)] w fun e w' => e = .returned (.string ⟨s.text.toArray⟩) ∧ w'.cell? ⟨g, 2, none⟩ = some (.int .i64 (s.words : Nat)) ∧ Below g w w' := by
  obtain ⟨p, v, hb, hown⟩ : ∃ p v, Blk w g 85 (coL p v s) ∧ w.ownsRowF g 5 1 v s.text.length (Lib.byteCells s.text) := by
    rcases h with ⟨v, h1, h2⟩ | ⟨v, h1, h2⟩
    · exact ⟨_, v, h1, h2⟩
    · exact ⟨_, v, h1, h2⟩
  have hl0 : s.text.length ≠ 0 := by simpa using h0
  obtain ⟨r, cap, cur, fz, rfl, hbg, hg, hfz, hnc, hcm, hcs, htake⟩ : ∃ r cap cur fz, v = .slice (some ⟨r, 0, none⟩) s.text.length cap ∧ g ≤ r ∧ w.heap[r]? = some (.cells cur 5 fz) ∧ fz.2 ≤ s.text.length * 1 ∧ s.text.length ≤ cap ∧ cap ≤ maxLen ∧ cur.size = cap * 1 ∧ cur.toList.take (s.text.length * 1) = Lib.byteCells s.text := by
    rcases hown.2 with ⟨_, hz⟩ | ⟨r, cap, cur, fz, hv, q⟩
    · exact absurd hz hl0
    · exact ⟨r, cap, cur, fz, hv, q⟩
  have hrg : r ≠ g := fun e => rowF_ne hown hb (by decide) (by simp [Value.ownBlock, e])
  have c1 : w.drew.cell? ⟨g, 1, none⟩ = some (.slice (some ⟨r, 0, none⟩) s.text.length cap) := hb.get rfl
  have hSD : (Builtin.unsafeSliceData_ #[81] 127 #[.slice (some ⟨r, 0, none⟩) s.text.length cap]).run Tryz.prog w.drew = .ok (.pointer (some ⟨r, 0, none⟩)) w.drew :=
    Lib.run_unsafeSliceData_row _ _ _ _ _ _ (by omega)
  have hUS : (Builtin.unsafeString_ #[127, 3] 9 #[.pointer (some ⟨r, 0, none⟩), .int .i64 s.text.length]).run Tryz.prog w.drew = .ok (.string ⟨s.text.toArray⟩) (w.drew.freeze ⟨r, 0, none⟩ s.text.length) := by
    refine Lib.run_unsafeString_row w.drew 127 3 9 5 Tryz.underlying127 Tryz.extra169.cellsByte r cur.size (by have hg' : w.drew.heap[r]? = some (.cells cur 5 fz) := hg; simp [World.shape?, hg']) s.text h0 (by omega) (by unfold maxLen at hcm; omega) ?_
    intro j x hx
    exact hown.cells (g := r) rfl j (.int .u8 x.toNat) (by simp [Lib.byteCells, hx])
  have HW : Hid ((w.drew.freeze ⟨r, 0, none⟩ s.text.length).cell? ⟨g, 2, none⟩ = some (.int .i64 (s.words : Nat))) := hide (by
    have hbd : (w.drew.freeze ⟨r, 0, none⟩ s.text.length).heap[g]? = w.heap[g]? := by
      unfold World.freeze
      split
      · rfl
      · simp only [Array.getElem?_modify]
        rw [if_neg hrg]
        rfl
    rw [World.cell?_of_block (a := ⟨g, 2, none⟩) hbd]
    exact hb.get rfl)
  have HB := hide (Lib.below_freeze (Below.drew (Below.refl g w)) (p := ⟨r, 0, none⟩) hbg s.text.length)
  have mixed : Tryz.prog.follows Departure.mixedOrders = true := by kernel_rfl
  clear h hb hown hbg hg hfz hnc hcm hcs htake
  go_enter Tryz.func36, Tryz.ntmps36
  go_wp2
  go_region_o
  all_goals (go_wp2; go_ret; exact ⟨rfl, HW.out, HB.out⟩)
set_option maxHeartbeats 4000000 in
set_option maxRecDepth 100000 in
theorem codeOf_any (w : World) (o : Option Sl) (X : Nat → Prop) (v : Value) (hL : LsO w o X v) (hX : ∀ j, X j → j < w.heap.size) (hG : Lg w) (hK : slOK o) (ho : (codeT o).Ok) (hd : slO o ≤ 1000000) : Calls Tryz.prog 25 #[v] w fun e w' => e = .returned (.tuple #[.string ⟨(codeT o).text.toArray⟩, .int .i64 ((codeT o).words : Nat)]) ∧ Below w.heap.size w w' := by
  have hb0 : Below w.heap.size w (w.alloc (.cells (coL (.pointer none) (.slice none 0 0) cd0).toArray 85)) := (Below.refl _ _).alloc (Nat.le_refl _) _
  have HC0 : Hid (CdAt (w.alloc (.cells (coL (.pointer none) (.slice none 0 0) cd0).toArray 85)) w.heap.size cd0) := hide (.inl ⟨.slice none 0 0, ⟨heap_alloc_last _ _⟩, World.ownsRowF_nil _ _ _ _⟩)
  have HG0 : Hid (Lyb w.heap.size (w.alloc (.cells (coL (.pointer none) (.slice none 0 0) cd0).toArray 85))) := hide ⟨w, hG, Nat.le_refl _, hb0⟩
  have HL0 := hide (hL.move (w' := w.alloc (.cells (coL (.pointer none) (.slice none 0 0) cd0).toArray 85)) (fun j hj _ => ⟨hj, hb0.block j (hX j hj)⟩) (fun _ h => h))
  have HX := hide hX
  have HB0 := hide hb0
  have HS := hide (csl_all o hK)
  obtain ⟨s1, e1⟩ : ∃ t, cd0.put [[108, 105, 32, 114, 55, 44, 32, 48]] = t := ⟨_, rfl⟩
  obtain ⟨s2, e2⟩ : ∃ t, csO o s1 = t := ⟨_, rfl⟩
  obtain ⟨s3, e3⟩ : ∃ t, s2.put [[108, 105, 32, 114, 49, 44, 32, 48], [115, 121, 115, 32, 49]] = t := ⟨_, rfl⟩
  obtain ⟨s4, e4⟩ : ∃ t, s3.lab [116, 114, 97, 112] = t := ⟨_, rfl⟩
  obtain ⟨s5, e5⟩ : ∃ t, s4.put [[108, 105, 32, 114, 49, 44, 32, 45, 49], [115, 121, 115, 32, 49]] = t := ⟨_, rfl⟩
  have hfin : codeT o = s5 := by rw [← e5, ← e4, ← e3, ← e2, ← e1]; rfl
  rw [hfin] at ho ⊢
  have HO5 := hide ho
  have HO4 : Hid s4.Ok := hide ((by rw [← e5]; exact le_put _ _ : s4.Le s5).ok HO5.out)
  have HO3 : Hid s3.Ok := hide ((by rw [← e4]; exact le_lab _ _ : s3.Le s4).ok HO4.out)
  have HO2 : Hid s2.Ok := hide ((by rw [← e3]; exact le_put _ _ : s2.Le s3).ok HO3.out)
  have HO1 : Hid s1.Ok := hide ((by rw [← e2]; exact le_csO _ _ : s1.Le s2).ok HO2.out)
  have HLp : Hid (LpOk s1) := hide (by rw [← e1]; exact ⟨by decide, by decide⟩)
  have HT : Hid (s5.text ≠ []) := hide (by rw [← e5]; simp [Cd.put, lnsT])
  have HE1 := hide e1
  have HE2 := hide e2
  have HE3 := hide e3
  have HE4 := hide e4
  have HE5 := hide e5
  have hn := nuT_len 1 (by omega)
  clear hfin e1 e2 e3 e4 e5 ho hL hX hG hK hb0
  go_enter Tryz.func25, Tryz.ntmps25
  go_upto_region 2 with fail
  change Code.wp _ _ _ _ (w.alloc (.cells (coL (.pointer none) (.slice none 0 0) cd0).toArray 85))
  generalize w.alloc (.cells (coL (.pointer none) (.slice none 0 0) cd0).toArray 85) = w0 at *
  have HK0 := hide (Kc.refl w.heap.size w0)
  go_wp2_with fail
  refine (putk_any w0 w.heap.size cd0 _ [[108, 105, 32, 114, 55, 44, 32, 48]] ?hb (by simp) (all_one (semi_lit _ rfl)) HC0.out HG0.out (HE1.out ▸ HO1.out)).mono ?_
  case hb => rfl
  rintro e w1 ⟨rfl, h1, h2, h3⟩
  have HC1 := hide h1
  have HK1 := hide (HK0.out.trans h2)
  have HG1 := hide h3
  clear h1 h2 h3 HC0 HK0 HG0
  rw [HE1.out] at HC1
  go_wp2_with fail
  refine (HS.out w1 w.heap.size s1 X _ (HL0.out.kc HK1.out HX.out) HX.out HC1.out HG1.out (HE2.out ▸ HO2.out) HLp.out hd).mono ?_
  rintro e w2 ⟨rfl, h1, h2, h3⟩
  have HC2 := hide h1
  have HK2 := hide (HK1.out.trans h2)
  have HG2 := hide h3
  clear h1 h2 h3 HC1 HK1 HG1
  rw [HE2.out] at HC2
  go_wp2_with fail
  refine (sys_any w2 1 (by omega) HG2.out.lg).mono ?_
  rintro e w3 ⟨rfl, hb⟩
  have hk := Kc.below (g := w.heap.size) hb (by have := HC2.out.lt; omega)
  have HC3 := hide (HC2.out.below hb)
  have HG3 := hide (HG2.out.kc hk)
  have HK3 := hide (HK2.out.trans hk)
  clear hb hk HC2 HK2 HG2
  go_wp2_with fail
  refine (putk_any w3 w.heap.size s2 _ [[108, 105, 32, 114, 49, 44, 32, 48], [115, 121, 115, 32, 49]] ?hb (by simp) (all_two (semi_lit _ rfl) (semi_lit _ rfl)) HC3.out HG3.out (HE3.out ▸ HO3.out)).mono ?_
  case hb => simp [ByteArray.data_append, semJ]; rfl
  rintro e w4 ⟨rfl, h1, h2, h3⟩
  have HC4 := hide h1
  have HK4 := hide (HK3.out.trans h2)
  have HG4 := hide h3
  clear h1 h2 h3 HC3 HK3 HG3
  rw [HE3.out] at HC4
  go_wp2_with fail
  refine (lab_any w4 w.heap.size s3 _ [116, 114, 97, 112] ?hb HC4.out HG4.out (HE4.out ▸ HO4.out)).mono ?_
  case hb => rfl
  rintro e w5 ⟨rfl, h1, h2, h3⟩
  have HC5 := hide h1
  have HK5 := hide (HK4.out.trans h2)
  have HG5 := hide h3
  clear h1 h2 h3 HC4 HK4 HG4
  rw [HE4.out] at HC5
  go_wp2_with fail
  refine (sys_any w5 1 (by omega) HG5.out.lg).mono ?_
  rintro e w6 ⟨rfl, hb⟩
  have hk := Kc.below (g := w.heap.size) hb (by have := HC5.out.lt; omega)
  have HC6 := hide (HC5.out.below hb)
  have HG6 := hide (HG5.out.kc hk)
  have HK6 := hide (HK5.out.trans hk)
  clear hb hk HC5 HK5 HG5
  go_wp2_with fail
  refine (putk_any w6 w.heap.size s4 _ [[108, 105, 32, 114, 49, 44, 32, 45, 49], [115, 121, 115, 32, 49]] ?hb (by simp) (all_two (semi_lit _ rfl) (semi_lit _ rfl)) HC6.out HG6.out (HE5.out ▸ HO5.out)).mono ?_
  case hb => simp [ByteArray.data_append, semJ]; rfl
  rintro e w7 ⟨rfl, h1, h2, h3⟩
  have HC7 := hide h1
  have HK7 := hide (HK6.out.trans h2)
  have HG7 := hide h3
  clear h1 h2 h3 HC6 HK6 HG6
  rw [HE5.out] at HC7
  go_upto_region 7 with fail
  generalize hgg : w.heap.size = g at *
  obtain ⟨wD, hwD⟩ : ∃ wD, wD = w7.drew := ⟨_, rfl⟩
  have HC9 : Hid (CdAt wD g s5) := by rw [hwD]; exact hide (HC7.out.below (Below.refl _ w7).drew)
  have HB9 : Hid (Below g w wD) := by rw [hwD]; exact hide ((HB0.out.trans HK7.out.b).drew)
  have HS0 : Hid ((fun W : World => W.cell? ⟨g, 2, none⟩ = some (.int .i64 (s5.words : Nat))) wD) := hide (HC9.out.cell (fun _ _ => rfl)).1
  refine wp_region_held_drew (S := fun W : World => W.cell? ⟨g, 2, none⟩ = some (.int .i64 (s5.words : Nat))) (by kernel_rfl) (by rw [← hwD]; exact HS0.out) (fun hHeld => ?_)
  rw [← hwD]
  clear hwD hHeld
  refine hd_take 0 (o := ⟨some 15, _, _, _, _, _⟩) (.pointer (some ⟨g, 0, none⟩)) (by kernel_rfl) (by kernel_rfl) (by kernel_rfl) rfl (by rfl) (fun W hSw => by go_simp) (fun _ _ _ h => h) HS0.out ?_
  simp only [Act.put, List.setIfInBounds_toArray, List.set_cons_zero, List.set_cons_succ]
  refine hd_take 2 (o := ⟨some 17, _, _, _, _, _⟩) (.pointer (some ⟨g, 2, none⟩)) (by kernel_rfl) (by kernel_rfl) (by kernel_rfl) rfl (by rfl) (fun W hSw => by go_simp) (fun _ _ _ h => h) HS0.out ?_
  simp only [Act.put, List.setIfInBounds_toArray, List.set_cons_zero, List.set_cons_succ]
  refine hd_take 3 (o := ⟨some 18, _, _, _, _, _⟩) (.int .i64 (s5.words : Nat)) (by kernel_rfl) (by kernel_rfl) (by kernel_rfl) rfl (by rfl) (fun W hSw => by have k : W.cell? ⟨g, 2, none⟩ = some (.int .i64 (s5.words : Nat)) := hSw; go_simp) (fun _ _ _ h => h) HS0.out ?_
  simp only [Act.put, List.setIfInBounds_toArray, List.set_cons_zero, List.set_cons_succ]
  refine hd_call 1 (o := ⟨some 16, _, _, _, _, _⟩) (by kernel_rfl) rfl (by rfl) (fun K' hK => ?_)
  go_simp
  go_wp2_with (go_at_call 36; refine (cds_any wD g s5 HC9.out HT.out).mono ?_; rintro e1 w9 ⟨rfl, hw9, hb9⟩)
  have HBf := hide (HB9.out.trans hb9)
  have HS1 : Hid ((fun W : World => W.cell? ⟨g, 2, none⟩ = some (.int .i64 (s5.words : Nat))) w9) := hide hw9
  clear hw9 hb9 HC9 HB9
  refine hK _ _ HS1.out ?_
  clear hK K'
  try simp only [Act.put, List.setIfInBounds_toArray, List.set_cons_zero, List.set_cons_succ]
  refine hd_take 4 (o := ⟨some 2, _, _, _, _, _⟩) (.string ⟨s5.text.toArray⟩) (by kernel_rfl) (by kernel_rfl) (by kernel_rfl) rfl (by rfl) (fun W hSw => by go_simp) (fun _ _ _ h => h) HS1.out ?_
  simp only [Act.put, List.setIfInBounds_toArray, List.set_cons_zero, List.set_cons_succ]
  refine hd_take 5 (o := ⟨some 3, _, _, _, _, _⟩) (.int .i64 (s5.words : Nat)) (by kernel_rfl) (by kernel_rfl) (by kernel_rfl) rfl (by rfl) (fun W hSw => by go_simp) (fun _ _ _ h => h) HS1.out ?_
  simp only [Act.put, List.setIfInBounds_toArray, List.set_cons_zero, List.set_cons_succ]
  refine wpAnyH_done (by kernel_rfl) ?_ _
  go_wp2
  go_ret2
  exact ⟨rfl, HBf.out⟩
end Go.Proofs.YtiafodeabdhcoaaGreatDoor

namespace Go.Proofs.YtiafodeabdhcoaaGreatDoor
open Go.RowKit
theorem ls_lt {w : World} {b : Sl} {X : Nat → Prop} {a : Addr} {N : List (List Value)} (h : RwK w (some a) 10 id N) (h2 : ChIs w b X N) : a.block < w.heap.size := by
  obtain ⟨cs, M, rfl, ⟨pi, pv, pb, pr, rfl, _⟩, _⟩ := ChIs.iff.1 h2
  obtain ⟨a', h1, h3⟩ := h 0 (by simp)
  cases h1
  have := cell_blk (h3 0 _ rfl)
  rwa [add_blk, add_blk] at this
theorem ChIs.go {w w' : World} : ∀ (s : Sl) {X Y : Nat → Prop} {L : List (List Value)}, ChIs w s X L → (∀ j, X j → j < w.heap.size → Y j ∧ w'.heap[j]? = w.heap[j]?) → ChIs w' s Y L
  | ⟨word, v, idx, val, body, oth, rest, next⟩, X, Y, L, h, hm => by
    unfold ChIs at h ⊢
    obtain ⟨cs, M, pi, pv, pb, pr, h1, h2, h3, h4, h5, h6, h7⟩ := h
    refine ⟨cs, M, pi, pv, pb, pr, h1, h2, h3.move hm, h4.move hm, ?_, ?_, ?_⟩
    · match body, h5 with
      | none, h5 => exact h5
      | some b, ⟨a, c, N, e1, e2, e3, e4⟩ => exact ⟨a, c, N, e1, (hm _ e2 (ls_lt e3 e4)).1, rw_move e3 (fun hl => (hm _ e2 hl).2), ChIs.go b e4 hm⟩
    · match rest, h6 with
      | none, h6 => exact h6
      | some b, ⟨a, c, N, e1, e2, e3, e4⟩ => exact ⟨a, c, N, e1, (hm _ e2 (ls_lt e3 e4)).1, rw_move e3 (fun hl => (hm _ e2 hl).2), ChIs.go b e4 hm⟩
    · match next, h7 with
      | none, h7 => exact h7
      | some s, h7 => exact ChIs.go s h7 hm
section
variable {w w' : World} {X Y : Nat → Prop}
theorem LsO.go {o : Option Sl} {v : Value} (h : LsO w o X v) (hm : ∀ j, X j → j < w.heap.size → Y j ∧ w'.heap[j]? = w.heap[j]?) : LsO w' o Y v := by
  match o, h with
  | none, h => exact h
  | some b, ⟨a, c, N, e1, e2, e3, e4⟩ => exact ⟨a, c, N, e1, (hm _ e2 (ls_lt e3 e4)).1, rw_move e3 (fun hl => (hm _ e2 hl).2), e4.go b hm⟩
theorem StA.go {s : Sl} {cs : List Value} (h : StA w s X cs) (hm : ∀ j, X j → j < w.heap.size → Y j ∧ w'.heap[j]? = w.heap[j]?) : StA w' s Y cs := by
  obtain ⟨pi, pv, pb, pr, h1, h2, h3, h4, h5⟩ := h
  exact ⟨pi, pv, pb, pr, h1, h2.move hm, h3.move hm, h4.go hm, h5.go hm⟩
theorem PtE.one {o : Option Ex} {v : Value} (h : PtE w o X v) : v.oneCell' = true := by
  match o, h with
  | none, h => rw [h]; rfl
  | some e, ⟨q, h1, _⟩ => rw [h1]; rfl
theorem LsO.one {o : Option Sl} {v : Value} (h : LsO w o X v) : v.oneCell' = true := by
  obtain ⟨a, n, c, rfl⟩ := ls_shape h
  rfl
theorem StA.one {s : Sl} {cs : List Value} (h : StA w s X cs) : ∀ u ∈ cs, u.oneCell' = true := by
  obtain ⟨pi, pv, pb, pr, h1, h2, h3, h4, h5⟩ := h
  intro u hu
  rw [h1] at hu
  simp [stL] at hu
  rcases hu with rfl | rfl | rfl | rfl | rfl | rfl | rfl | rfl | rfl | rfl
  · rfl
  · rfl
  · rfl
  · rfl
  · rfl
  · exact h2.one
  · exact h3.one
  · exact h4.one
  · rfl
  · exact h5.one
end
theorem flat_at {L : List (List Value)} {k : Nat} (hf : ∀ i (h : i < L.length), (L[i]).length = k) {i : Nat} (hi : i < L.length) {j : Nat} (hj : j < k) : (L.flatMap id)[i * k + j]? = (L[i])[j]? := by
  induction L generalizing i with
  | nil => simp at hi
  | cons x r ih =>
    have h0 := hf 0 (by simp)
    simp only [List.getElem_cons_zero] at h0
    cases i with
    | zero =>
      simp only [List.flatMap_cons, id_eq, Nat.zero_mul, Nat.zero_add, List.getElem_cons_zero]
      rw [List.getElem?_append_left (by rw [h0]; exact hj)]
    | succ i =>
      simp only [List.flatMap_cons, id_eq, List.getElem_cons_succ]
      rw [List.getElem?_append_right (by rw [h0, Nat.succ_mul]; omega), h0]
      have e : (i + 1) * k + j - k = i * k + j := by rw [Nat.succ_mul]; omega
      rw [e]
      exact ih (fun a ha => by have := hf (a + 1) (by simp; omega); simpa using this) (by simpa using hi)
/-- statements read so far, in a row of one's own -/
structure Rws (w : World) (B : Nat) (v : Value) (acc : List Sl) (L : List (List Value)) : Prop where
  len : acc.length = L.length
  nil : L = [] → v = .slice none 0 0
  own : w.ownsRow B 92 10 v L.length (L.flatMap id)
  st : ∀ i (h : i < acc.length) (h2 : i < L.length), StA w acc[i] (fun k => B ≤ k ∧ v.ownBlock ≠ some k) L[i]
theorem own_keepK {w w' : World} {B g k n : Nat} {e : TypeId} {v : Value} {xs : List Value} (h : w.ownsRow B e k v n xs) (hk : Kp g w w') (hg : g < B) : w'.ownsRow B e k v n xs := by
  obtain ⟨h1, h2 | ⟨j, cap, cur, h2, h3, h4, h5⟩⟩ := h
  · exact ⟨h1, .inl h2⟩
  · exact ⟨h1, .inr ⟨j, cap, cur, h2, h3, by rw [hk.block j (Array.getElem?_eq_some_iff.1 h4).1 (by omega)]; exact h4, h5⟩⟩
theorem Rws.keepK {w w' : World} {B g : Nat} {v : Value} {acc : List Sl} {L : List (List Value)} (h : Rws w B v acc L) (hk : Kp g w w') (hg : g < B) : Rws w' B v acc L :=
  ⟨h.len, h.nil, own_keepK h.own hk hg, fun i h1 h2 => (h.st i h1 h2).go fun j hj hs => ⟨hj, hk.block j hs (by have := hj.1; omega)⟩⟩
theorem Rws.app {w w' : World} {B : Nat} {v v' : Value} {acc : List Sl} {L : List (List Value)} {s : Sl} {cs : List Value} (h : Rws w B v acc L) (hs : StA w s (fun k => B ≤ k ∧ v.ownBlock ≠ some k) cs) (hg : w.grownBy w' v.ownBlock) (ho : w'.ownsRow B 92 10 v' (L.length + 1) (L.flatMap id ++ cs)) (hb : v'.ownBlock = v.ownBlock ∨ v'.ownBlock = some w.heap.size) : Rws w' B v' (acc ++ [s]) (L ++ [cs]) := by
  have hm : ∀ j, (B ≤ j ∧ v.ownBlock ≠ some j) → j < w.heap.size → (B ≤ j ∧ v'.ownBlock ≠ some j) ∧ w'.heap[j]? = w.heap[j]? := fun j hj hs => ⟨⟨hj.1, fun e => by
    rcases hb with h1 | h1
    · rw [h1] at e; exact hj.2 e
    · rw [h1] at e; cases e; omega⟩, hg.block j hs (fun e => hj.2 e.symm)⟩
  refine ⟨by simp [h.len], fun e => by simp at e, by simpa using ho, fun i h1 h2 => ?_⟩
  by_cases hi : i < acc.length
  · rw [List.getElem_append_left hi, List.getElem_append_left (by rw [← h.len]; exact hi)]
    exact (h.st i hi (by rw [← h.len]; exact hi)).go hm
  · have e : i = acc.length := by simp at h1; omega
    subst e
    rw [List.getElem_append_right (Nat.le_refl _)]
    have : (L ++ [cs])[acc.length] = cs := by
      rw [List.getElem_append_right (by rw [h.len]; exact Nat.le_refl _)]
      simp [h.len]
    rw [this]
    simp only [Nat.sub_self, List.getElem_cons_zero]
    exact hs.go hm
theorem Rws.ls {w : World} {B : Nat} {v : Value} {acc : List Sl} {L : List (List Value)} (h : Rws w B v acc L) : LsO w (chn acc none) (fun k => B ≤ k) v := by
  cases acc with
  | nil =>
    have hL : L = [] := List.eq_nil_of_length_eq_zero (by rw [← h.len]; rfl)
    exact h.nil hL
  | cons s r =>
    have hf : ∀ i (h2 : i < L.length), (L[i]).length = 10 := fun i h2 => (h.st i (by rw [h.len]; exact h2) h2).len
    have hc := chn_is (s :: r) L h.len h.st
    have hl := h.own.1
    have hpos : 0 < L.length := by rw [← h.len]; simp
    rcases h.own.2 with ⟨h1, h2⟩ | ⟨g, cap, cur, h1, h2, h3, _, _, _, h7⟩
    · omega
    · refine ⟨⟨g, 0, none⟩, cap, L, h1, h2, fun i hi => ⟨_, rfl, fun j u hu => ?_⟩, ?_⟩
      · have hj : j < 10 := by
          have := (List.getElem?_eq_some_iff.1 hu).1
          rw [← hf i hi]; exact this
        rw [add0, Lib.add_plain, Lib.cell_of_heap h3]
        have e : (cur.toList.take (L.length * 10))[i * 10 + j]? = some u := by rw [h7, flat_at hf hi hj]; exact hu
        rw [List.getElem?_take] at e
        split at e
        · rw [← Array.getElem?_toList]; exact e
        · simp at e
      · exact ChIs.go { s with next := chn r none } hc fun j hj _ => ⟨hj.1, rfl⟩
def oneT (ts : List Tk) (n : Nat) (r : Rd) : Option (Option Sl × Rd) :=
  if (r.see ts).text = [105, 102] then some (psF ts n 2 r)
  else if (r.see ts).text = [119, 104, 105, 108, 101] then some (psF ts n 3 r)
  else if (r.see ts).text = [101, 109, 105, 116] ∨ (r.see ts).text = [115, 116, 111, 112] then some (some (r.telling ts (r.see ts).text).1, (r.telling ts (r.see ts).text).2)
  else if (r.see ts).text = [121, 105, 101, 108, 100] ∨ (r.see ts).text = [98, 114, 101, 97, 107] ∨ (r.see ts).text = [99, 111, 110, 116, 105, 110, 117, 101] then some (some (r.bare ts (r.see ts)).1, (r.bare ts (r.see ts)).2)
  else if (r.see ts).text = [123] then some (some { Sl.of [123] with body := (psF ts n 1 r).1 }, (psF ts n 1 r).2)
  else if (r.see ts).kind = 4 then some (some (r.assign ts).1, (r.assign ts).2)
  else none
theorem ps_zero (ts : List Tk) (n : Nat) (r : Rd) : psF ts (n + 1) 0 r = match oneT ts n r with
    | some (some s, r1) => (some { s with next := (psF ts n 0 r1).1 }, (psF ts n 0 r1).2)
    | _ => (none, r) := by
  simp only [psF, oneT]
  rfl
theorem info_st10 : ∃ i, Tryz.prog.info? 92 = some i ∧ i.zero = some (.agg (List.toArray stZ)) ∧ i.size = 10 ∧ i.bytes = 128 := info_parts (by kernel_rfl)
end Go.Proofs.YtiafodeabdhcoaaGreatDoor
