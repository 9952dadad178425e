import Derived.Test.YtiafodeabdhcoaaGreatDoorM07
namespace Go.Proofs.YtiafodeabdhcoaaGreatDoor
open Go.RowKit
theorem Blk.kb {w w' : World} {q g : Nat} {T : TypeId} {vs : List Value} (h : Blk w q T vs) (hk : Kc g w w') (hq : q ≠ g) (hT : T ≠ 5) : Blk w' q T vs := ⟨kc_row hk h.out hq hT⟩
section
variable {w w' : World} {g : Nat} {X : Nat → Prop}
theorem PtE.kc {o : Option Ex} {v : Value} (h : PtE w o X v) (hk : Kc g w w') (hX : ∀ j, X j → j < g) : PtE w' o X v := h.move fun j hj _ => ⟨hj, hk.b.block j (hX j hj)⟩
theorem LsO.kc {o : Option Sl} {v : Value} (h : LsO w o X v) (hk : Kc g w w') (hX : ∀ j, X j → j < g) : LsO w' o X v := h.move (fun j hj _ => ⟨hj, hk.b.block j (hX j hj)⟩) fun _ h => h
theorem StA.kc {s : Sl} {cs : List Value} (h : StA w s X cs) (hk : Kc g w w') (hX : ∀ j, X j → j < g) : StA w' s X cs := h.move (fun j hj _ => ⟨hj, hk.b.block j (hX j hj)⟩) fun _ h => h
theorem ls_one {o : Option Sl} {v : Value} (h : LsO w o X v) : ∃ a n c, v = .slice a n c := by
  match o, h with
  | none, h => exact ⟨_, _, _, h⟩
  | some b, ⟨a, c, N, h1, _⟩ => exact ⟨_, _, _, h1⟩
end
/-- a statement's value laid in a block of its own -/
structure Bx (w0 w1 : World) (g q : Nat) (s : Sl) (X : Nat → Prop) (pi pv pb pr : Value) : Prop where
  b : Blk w1 q 92 (stL s.word s.var pi pv pb s.oth pr)
  ng : q ≠ g
  i : PtE w1 s.idx X pi
  v : PtE w1 s.val X pv
  d : LsO w1 s.body X pb
  r : LsO w1 s.rest X pr
  x : ∀ j, X j → j < g
  k : Kc g w0 w1
theorem Bx.of {w0 : World} {g : Nat} {s : Sl} {X : Nat → Prop} {pi pv pb pr : Value} (hg : g < w0.heap.size) (h1 : PtE w0 s.idx X pi) (h2 : PtE w0 s.val X pv) (h3 : LsO w0 s.body X pb) (h4 : LsO w0 s.rest X pr) (hX : ∀ j, X j → j < g) : Bx w0 (w0.alloc (.cells (stL s.word s.var pi pv pb s.oth pr).toArray 92)) g w0.heap.size s X pi pv pb pr := by
  have hk : Kc g w0 (w0.alloc (.cells (stL s.word s.var pi pv pb s.oth pr).toArray 92)) := Kc.below ((Below.refl _ _).alloc (Nat.le_refl _) _) (by omega)
  exact ⟨⟨heap_alloc_last _ _⟩, by omega, h1.kc hk hX, h2.kc hk hX, h3.kc hk hX, h4.kc hk hX, hX, hk⟩
set_option maxHeartbeats 4000000 in
set_option maxRecDepth 100000 in
theorem asn_none (w0 : World) (g : Nat) (c : Cd) (X : Nat → Prop) (s : Sl) (cs : List Value) (hs : StA w0 s X cs) (hX : ∀ j, X j → j < g) (h : CdAt w0 g c) (hG : Lyb g w0) (x : Ex) (hix : s.idx = none) (hvl : s.val = some x) (hx : CxE x) (hat : s.var.at' ≤ 4294967295) (ho : (c.assign s.var s.idx s.val).Ok) (hd : exN x ≤ 1000000) : Calls Tryz.prog 90 #[.pointer (some ⟨g, 0, none⟩), .agg cs.toArray] w0 (CdPost g (c.assign s.var s.idx s.val) w0) := by
  obtain ⟨pi, pv, pb, pr, rfl, h1, h2, h3, h4⟩ := hs
  obtain ⟨q1, rfl, hxx⟩ : ∃ q, pv = .pointer (some ⟨q, 0, none⟩) ∧ ExAt w0 x X q := by rw [hvl] at h2; exact h2
  obtain rfl : pi = .pointer none := by rw [hix] at h1; exact h1
  have HX1 := hide (fun j hj => hX j hj)
  have HL : Hid (∀ w', Kc g w0 w' → ExAt w' x X q1) := hide (fun w' hk => hxx.kc hk hX)
  have HEx := hide hx
  obtain ⟨s1, e1⟩ : ∃ t, cxF x 0 c = t := ⟨_, rfl⟩
  obtain ⟨s2, e2⟩ : ∃ t, s1.put [[115, 116, 32, 114, 52, 44, 32, 114, 55, 44, 32] ++ nuT s.var.at'] = t := ⟨_, rfl⟩
  have hfin : c.assign s.var s.idx s.val = s2 := by
    rw [hix, hvl, ← e2, ← e1]
    rfl
  rw [hfin] at ho ⊢
  have HO2 := hide ho
  have HO1 : Hid s1.Ok := hide ((by rw [← e2]; exact le_put _ _ : s1.Le s2).ok HO2.out)
  have HE1 := hide e1
  have HE2 := hide e2
  clear hfin ho e1 e2
  have hnl := nuT_len s.var.at' (by omega)
  obtain ⟨pv, hpv⟩ : ∃ z, Value.pointer (some ⟨q1, 0, none⟩) = z := ⟨_, rfl⟩
  clear hxx hx hix hvl
  subst hpv
  have hbx := Bx.of h.lt h1 h2 h3 h4 hX
  have HC1 := hide (h.below (w' := (w0.alloc (.cells (stL s.word s.var (.pointer none) (.pointer (some ⟨q1, 0, none⟩)) pb s.oth pr).toArray 92))) ((Below.refl _ _).alloc (Nat.le_refl _) _))
  have HG1 := hide (hG.kc hbx.k)
  have HBx := hide hbx
  clear h h1 h2 h3 h4 hX hG hbx
  go_enter Tryz.func90, Tryz.ntmps90
  go_upto_region 1 with fail
  change Code.wp _ _ _ _ (w0.alloc (.cells (stL s.word s.var (.pointer none) (.pointer (some ⟨q1, 0, none⟩)) pb s.oth pr).toArray 92))
  generalize w0.alloc (.cells (stL s.word s.var (.pointer none) (.pointer (some ⟨q1, 0, none⟩)) pb s.oth pr).toArray 92) = w1 at *
  generalize w0.heap.size = q at *
  have HK1 := hide (Kc.refl g w1)
  have b1 := (HBx.out.b.kb HK1.out HBx.out.ng (by decide)).get (j := 1) rfl
  have b2 := (HBx.out.b.kb HK1.out HBx.out.ng (by decide)).get (j := 2) rfl
  have b3 := (HBx.out.b.kb HK1.out HBx.out.ng (by decide)).get (j := 3) rfl
  have b4 := (HBx.out.b.kb HK1.out HBx.out.ng (by decide)).get (j := 4) rfl
  go_wp2_with fail
  refine (addr_any w1 s.var hat HG1.out.lg).mono ?_
  clear b1 b2 b3 b4
  rintro e w2 ⟨rfl, hb⟩
  have hk := Kc.below (g := g) hb (by have := HC1.out.lt; omega)
  have HC2 := hide (HC1.out.below hb)
  have HG2 := hide (HG1.out.kc hk)
  have HK2 := hide (HK1.out.trans hk)
  clear hb hk HC1 HK1 HG1
  have b5 := (HBx.out.b.kb HK2.out HBx.out.ng (by decide)).get (j := 5) rfl
  have b6 := (HBx.out.b.kb HK2.out HBx.out.ng (by decide)).get (j := 6) rfl
  go_wp2_with fail
  refine (HEx.out w2 g c 0 q1 X (HL.out _ (HBx.out.k.trans HK2.out)) HX1.out HC2.out HG2.out (HE1.out ▸ HO1.out) (by omega)).mono ?_
  clear b5 b6
  rintro e w3 ⟨rfl, h1, h2, h3⟩
  have HC3 := hide h1
  have HK3 := hide (HK2.out.trans h2)
  have HG3 := hide h3
  clear h1 h2 h3 HC2 HK2 HG2
  rw [HE1.out] at HC3
  go_wp2_with fail
  refine (putk_any w3 g s1 _ [[115, 116, 32, 114, 52, 44, 32, 114, 55, 44, 32] ++ nuT s.var.at'] ?hb (by simp) (all_one (semi_nu rfl (by omega))) HC3.out HG3.out (HE2.out ▸ HO2.out)).mono ?_
  case hb => simp [ByteArray.data_append, semJ]
  rintro e w4 ⟨rfl, h1, h2, h3⟩
  have HC4 := hide h1
  have HK4 := hide (HK3.out.trans h2)
  have HG4 := hide h3
  clear h1 h2 h3 HC3 HK3 HG3
  rw [HE2.out] at HC4
  go_wp2
  go_end0
  exact ⟨rfl, HC4.out, HBx.out.k.trans HK4.out, HG4.out⟩
set_option maxHeartbeats 4000000 in
set_option maxRecDepth 100000 in
theorem asn_some (w0 : World) (g : Nat) (c : Cd) (X : Nat → Prop) (s : Sl) (cs : List Value) (hs : StA w0 s X cs) (hX : ∀ j, X j → j < g) (h : CdAt w0 g c) (hG : Lyb g w0) (i x : Ex) (hix : s.idx = some i) (hvl : s.val = some x) (hi : CxE i) (hx : CxE x) (hsz : s.var.size ≤ 4294967295) (hat : s.var.at' ≤ 4294967295) (ho : (c.assign s.var s.idx s.val).Ok) (hd : exN x ≤ 1000000) (hdi : exN i ≤ 1000000) : Calls Tryz.prog 90 #[.pointer (some ⟨g, 0, none⟩), .agg cs.toArray] w0 (CdPost g (c.assign s.var s.idx s.val) w0) := by
  obtain ⟨pi, pv, pb, pr, rfl, h1, h2, h3, h4⟩ := hs
  obtain ⟨q1, rfl, hxx⟩ : ∃ q, pv = .pointer (some ⟨q, 0, none⟩) ∧ ExAt w0 x X q := by rw [hvl] at h2; exact h2
  obtain ⟨q2, rfl, hii⟩ : ∃ q, pi = .pointer (some ⟨q, 0, none⟩) ∧ ExAt w0 i X q := by rw [hix] at h1; exact h1
  have HX1 := hide (fun j hj => hX j hj)
  have HL : Hid (∀ w', Kc g w0 w' → ExAt w' x X q1) := hide (fun w' hk => hxx.kc hk hX)
  have HI : Hid (∀ w', Kc g w0 w' → ExAt w' i X q2) := hide (fun w' hk => hii.kc hk hX)
  have HEx := hide hx
  have HEi := hide hi
  obtain ⟨s1, e1⟩ : ∃ t, cxF i 0 c = t := ⟨_, rfl⟩
  obtain ⟨s2, e2⟩ : ∃ t, s1.guard s.var = t := ⟨_, rfl⟩
  obtain ⟨s3, e3⟩ : ∃ t, s2.put [[115, 116, 32, 114, 52, 44, 32, 114, 55, 44, 32] ++ nuT 480] = t := ⟨_, rfl⟩
  obtain ⟨s4, e4⟩ : ∃ t, cxF x 1 s3 = t := ⟨_, rfl⟩
  obtain ⟨s5, e5⟩ : ∃ t, s4.put [[108, 100, 32, 114, 53, 44, 32, 114, 55, 44, 32] ++ nuT 480, [115, 116, 32, 114, 52, 44, 32, 114, 53, 44, 32] ++ nuT s.var.at'] = t := ⟨_, rfl⟩
  have hfin : c.assign s.var s.idx s.val = s5 := by
    rw [hix, hvl, ← e5, ← e4, ← e3, ← e2, ← e1]
    rfl
  rw [hfin] at ho ⊢
  have HO5 := hide ho
  have HO4 : Hid s4.Ok := hide ((by rw [← e5]; exact le_put _ _ : s4.Le s5).ok HO5.out)
  have HO3 : Hid s3.Ok := hide ((by rw [← e4]; exact le_cx _ _ _ : s3.Le s4).ok HO4.out)
  have HO2 : Hid s2.Ok := hide ((by rw [← e3]; exact le_put _ _ : s2.Le s3).ok HO3.out)
  have HO1 : Hid s1.Ok := hide ((by rw [← e2]; exact le_guard _ _ : s1.Le s2).ok HO2.out)
  have HE1 := hide e1
  have HE2 := hide e2
  have HE3 := hide e3
  have HE4 := hide e4
  have HE5 := hide e5
  clear hfin ho e1 e2 e3 e4 e5
  have hnl := nuT_len s.var.at' (by omega)
  have hnt := nuT_len 480 (by omega)
  clear hxx hii hx hi hix hvl
  have hbx := Bx.of h.lt h1 h2 h3 h4 hX
  have HC1 := hide (h.below (w' := (w0.alloc (.cells (stL s.word s.var (.pointer (some ⟨q2, 0, none⟩)) (.pointer (some ⟨q1, 0, none⟩)) pb s.oth pr).toArray 92))) ((Below.refl _ _).alloc (Nat.le_refl _) _))
  have HG1 := hide (hG.kc hbx.k)
  have HBx := hide hbx
  clear h h1 h2 h3 h4 hX hG hbx
  go_enter Tryz.func90, Tryz.ntmps90
  go_upto_region 1 with fail
  change Code.wp _ _ _ _ (w0.alloc (.cells (stL s.word s.var (.pointer (some ⟨q2, 0, none⟩)) (.pointer (some ⟨q1, 0, none⟩)) pb s.oth pr).toArray 92))
  generalize w0.alloc (.cells (stL s.word s.var (.pointer (some ⟨q2, 0, none⟩)) (.pointer (some ⟨q1, 0, none⟩)) pb s.oth pr).toArray 92) = w1 at *
  generalize w0.heap.size = q at *
  have HK1 := hide (Kc.refl g w1)
  have b1 := (HBx.out.b.kb HK1.out HBx.out.ng (by decide)).get (j := 1) rfl
  have b2 := (HBx.out.b.kb HK1.out HBx.out.ng (by decide)).get (j := 2) rfl
  have b3 := (HBx.out.b.kb HK1.out HBx.out.ng (by decide)).get (j := 3) rfl
  have b4 := (HBx.out.b.kb HK1.out HBx.out.ng (by decide)).get (j := 4) rfl
  go_wp2_with fail
  refine (addr_any w1 s.var hat HG1.out.lg).mono ?_
  clear b1 b2 b3 b4
  rintro e w2 ⟨rfl, hb⟩
  have hk := Kc.below (g := g) hb (by have := HC1.out.lt; omega)
  have HC2 := hide (HC1.out.below hb)
  have HG2 := hide (HG1.out.kc hk)
  have HK2 := hide (HK1.out.trans hk)
  clear hb hk HC1 HK1 HG1
  have b5 := (HBx.out.b.kb HK2.out HBx.out.ng (by decide)).get (j := 5) rfl
  go_wp2_with fail
  refine (HEi.out w2 g c 0 q2 X (HI.out _ (HBx.out.k.trans HK2.out)) HX1.out HC2.out HG2.out (HE1.out ▸ HO1.out) (by omega)).mono ?_
  clear b5
  rintro e w3 ⟨rfl, h1, h2, h3⟩
  have HC3 := hide h1
  have HK3 := hide (HK2.out.trans h2)
  have HG3 := hide h3
  clear h1 h2 h3 HC2 HK2 HG2
  rw [HE1.out] at HC3
  have b1 := (HBx.out.b.kb HK3.out HBx.out.ng (by decide)).get (j := 1) rfl
  have b2 := (HBx.out.b.kb HK3.out HBx.out.ng (by decide)).get (j := 2) rfl
  have b3 := (HBx.out.b.kb HK3.out HBx.out.ng (by decide)).get (j := 3) rfl
  have b4 := (HBx.out.b.kb HK3.out HBx.out.ng (by decide)).get (j := 4) rfl
  go_wp2_with fail
  refine (guard_any w3 g s1 s.var hsz HC3.out HG3.out (HE2.out ▸ HO2.out)).mono ?_
  clear b1 b2 b3 b4
  rintro e w4 ⟨rfl, h1, h2, h3⟩
  have HC4 := hide h1
  have HK4 := hide (HK3.out.trans h2)
  have HG4 := hide h3
  clear h1 h2 h3 HC3 HK3 HG3
  rw [HE2.out] at HC4
  go_wp2_with fail
  refine (temp_any w4 0 (by omega) HG4.out.lg).mono ?_
  rintro e w5 ⟨rfl, hb⟩
  have hk := Kc.below (g := g) hb (by have := HC4.out.lt; omega)
  have HC5 := hide (HC4.out.below hb)
  have HG5 := hide (HG4.out.kc hk)
  have HK5 := hide (HK4.out.trans hk)
  clear hb hk HC4 HK4 HG4
  go_wp2_with fail
  refine (putk_any w5 g s2 _ [[115, 116, 32, 114, 52, 44, 32, 114, 55, 44, 32] ++ nuT 480] ?hb (by simp) (all_one (semi_nu rfl (by omega))) HC5.out HG5.out (HE3.out ▸ HO3.out)).mono ?_
  case hb => simp [ByteArray.data_append, semJ]
  rintro e w6 ⟨rfl, h1, h2, h3⟩
  have HC6 := hide h1
  have HK6 := hide (HK5.out.trans h2)
  have HG6 := hide h3
  clear h1 h2 h3 HC5 HK5 HG5
  rw [HE3.out] at HC6
  have b6 := (HBx.out.b.kb HK6.out HBx.out.ng (by decide)).get (j := 6) rfl
  go_wp2_with fail
  refine (HEx.out w6 g s3 1 q1 X (HL.out _ (HBx.out.k.trans HK6.out)) HX1.out HC6.out HG6.out (HE4.out ▸ HO4.out) (by omega)).mono ?_
  clear b6
  rintro e w7 ⟨rfl, h1, h2, h3⟩
  have HC7 := hide h1
  have HK7 := hide (HK6.out.trans h2)
  have HG7 := hide h3
  clear h1 h2 h3 HC6 HK6 HG6
  rw [HE4.out] at HC7
  go_wp2_with fail
  refine (temp_any w7 0 (by omega) HG7.out.lg).mono ?_
  rintro e w8 ⟨rfl, hb⟩
  have hk := Kc.below (g := g) hb (by have := HC7.out.lt; omega)
  have HC8 := hide (HC7.out.below hb)
  have HG8 := hide (HG7.out.kc hk)
  have HK8 := hide (HK7.out.trans hk)
  clear hb hk HC7 HK7 HG7
  go_wp2_with fail
  refine (putk_any w8 g s4 _ [[108, 100, 32, 114, 53, 44, 32, 114, 55, 44, 32] ++ nuT 480, [115, 116, 32, 114, 52, 44, 32, 114, 53, 44, 32] ++ nuT s.var.at'] ?hb (by simp) (all_two (semi_nu rfl (by omega)) (semi_nu rfl (by omega))) HC8.out HG8.out (HE5.out ▸ HO5.out)).mono ?_
  case hb => simp [ByteArray.data_append, semJ]
  rintro e w9 ⟨rfl, h1, h2, h3⟩
  have HC9 := hide h1
  have HK9 := hide (HK8.out.trans h2)
  have HG9 := hide h3
  clear h1 h2 h3 HC8 HK8 HG8
  rw [HE5.out] at HC9
  go_wp2
  go_end0
  exact ⟨rfl, HC9.out, HBx.out.k.trans HK9.out, HG9.out⟩
end Go.Proofs.YtiafodeabdhcoaaGreatDoor

namespace Go.Proofs.YtiafodeabdhcoaaGreatDoor
open Go.RowKit
theorem lp_put (c : Cd) (L : List Tx) : (c.put L).loop = c.loop := rfl
theorem LpOk.of {a b : Cd} (h : LpOk a) (e : b.loop = a.loop) : LpOk b := by unfold LpOk; rw [e]; exact h
theorem name_ok (c : Cd) (h : c.pair.Ok) : c.name.length ≤ 21 ∧ (59 : UInt8) ∉ c.name := by
  have : c.labels + 1 ≤ 1000000000 := h.l
  exact ⟨nuT_len _ (by omega), nuT_semi _ (by omega)⟩
set_option maxHeartbeats 4000000 in
set_option maxRecDepth 100000 in
theorem cho_no (w0 : World) (g : Nat) (c : Cd) (X : Nat → Prop) (s : Sl) (cs : List Value) (hs : StA w0 s X cs) (hX : ∀ j, X j → j < g) (h : CdAt w0 g c) (hG : Lyb g w0) (x : Ex) (hvl : s.val = some x) (hx : CxE x) (hcb : CsC s.body) (hcr : CsC s.rest) (hlp : LpOk c) (hdb : slO s.body ≤ 1000000) (hdr : slO s.rest ≤ 1000000) (hd : exN x ≤ 1000000) (hoth : s.oth = 0) (F : Cd) (hF : F = (csO s.rest ((if s.oth ≠ 0 then (csO s.body ((cxO s.val 0 c.pair).put [[106, 122, 32, 114, 52, 44, 32, 97] ++ c.name])).put [[106, 109, 112, 32, 98] ++ c.name] else csO s.body ((cxO s.val 0 c.pair).put [[106, 122, 32, 114, 52, 44, 32, 97] ++ c.name])).lab ([97] ++ c.name))).lab ([98] ++ c.name)) (ho : F.Ok) : Calls Tryz.prog 91 #[.pointer (some ⟨g, 0, none⟩), .agg cs.toArray] w0 (CdPost g F w0) := by
  obtain ⟨pi, pv, pb, pr, rfl, h1, h2, h3, h4⟩ := hs
  obtain ⟨q1, rfl, hxx⟩ : ∃ q, pv = .pointer (some ⟨q, 0, none⟩) ∧ ExAt w0 x X q := by rw [hvl] at h2; exact h2
  have HX1 := hide (fun j hj => hX j hj)
  have HL : Hid (∀ w', Kc g w0 w' → ExAt w' x X q1) := hide (fun w' hk => hxx.kc hk hX)
  have HB : Hid (∀ w', Kc g w0 w' → LsO w' s.body X pb) := hide (fun w' hk => h3.kc hk hX)
  have HR : Hid (∀ w', Kc g w0 w' → LsO w' s.rest X pr) := hide (fun w' hk => h4.kc hk hX)
  have HEx := hide hx
  have HCb := hide hcb
  have HCr := hide hcr
  obtain ⟨a3, n3, c3, rfl⟩ := ls_one h3
  obtain ⟨a4, n4, c4, rfl⟩ := ls_one h4
  obtain ⟨n, hn⟩ : ∃ n, c.name = n := ⟨_, rfl⟩
  obtain ⟨s1, e1⟩ : ∃ t, c.pair = t := ⟨_, rfl⟩
  obtain ⟨s2, e2⟩ : ∃ t, cxF x 0 s1 = t := ⟨_, rfl⟩
  obtain ⟨s3, e3⟩ : ∃ t, s2.put [[106, 122, 32, 114, 52, 44, 32, 97] ++ n] = t := ⟨_, rfl⟩
  obtain ⟨s4, e4⟩ : ∃ t, csO s.body s3 = t := ⟨_, rfl⟩
  obtain ⟨s5, e5⟩ : ∃ t, s4.put [] = t := ⟨_, rfl⟩
  obtain ⟨s6, e6⟩ : ∃ t, s5.lab ([97] ++ n) = t := ⟨_, rfl⟩
  obtain ⟨s7, e7⟩ : ∃ t, csO s.rest s6 = t := ⟨_, rfl⟩
  obtain ⟨s8, e8⟩ : ∃ t, s7.lab ([98] ++ n) = t := ⟨_, rfl⟩
  have hfin : F = s8 := by
    rw [hF, hvl, hn, ← e8, ← e7, ← e6, ← e5, ← e4, ← e3, ← e2, ← e1, if_neg (by simp [hoth]), put_nil]
    rfl
  rw [hfin] at ho ⊢
  have HO8 := hide ho
  have HO7 : Hid s7.Ok := hide ((by rw [← e8]; exact le_lab _ _ : s7.Le s8).ok HO8.out)
  have HO6 : Hid s6.Ok := hide ((by rw [← e7]; exact le_csO _ _ : s6.Le s7).ok HO7.out)
  have HO5 : Hid s5.Ok := hide ((by rw [← e6]; exact le_lab _ _ : s5.Le s6).ok HO6.out)
  have HO4 : Hid s4.Ok := hide ((by rw [← e5]; exact le_put _ _ : s4.Le s5).ok HO5.out)
  have HO3 : Hid s3.Ok := hide ((by rw [← e4]; exact le_csO _ _ : s3.Le s4).ok HO4.out)
  have HO2 : Hid s2.Ok := hide ((by rw [← e3]; exact le_put _ _ : s2.Le s3).ok HO3.out)
  have HO1 : Hid s1.Ok := hide ((by rw [← e2]; exact le_cx _ _ _ : s1.Le s2).ok HO2.out)
  have HE1 := hide e1
  have HE2 := hide e2
  have HE3 := hide e3
  have HE4 := hide e4
  have HE5 := hide e5
  have HE6 := hide e6
  have HE7 := hide e7
  have HE8 := hide e8
  clear hfin ho e1 e2 e3 e4 e5 e6 e7 e8
  have HL3 : Hid (LpOk s3) := hide (hlp.of (by rw [← HE3.out, lp_put, ← HE2.out, lp_cx, ← HE1.out]; rfl))
  have HL6 : Hid (LpOk s6) := hide (HL3.out.of (by rw [← HE6.out]; show s5.loop = _; rw [← HE5.out, lp_put, ← HE4.out, lp_csO]))
  obtain ⟨hnl, hns⟩ := name_ok c (by rw [HE1.out]; exact HO1.out)
  rw [hn] at hnl hns
  have HNS := hide hns
  have HNM := hide hn
  have hoi : (s.oth : Int) = 0 := by omega
  clear hxx hx hvl hcb hcr hns hn hlp hoth hF
  have hbx := Bx.of h.lt h1 h2 h3 h4 hX
  have HC1 := hide (h.below (w' := (w0.alloc (.cells (stL s.word s.var pi (.pointer (some ⟨q1, 0, none⟩)) (.slice a3 n3 c3) s.oth (.slice a4 n4 c4)).toArray 92))) ((Below.refl _ _).alloc (Nat.le_refl _) _))
  have HG1 := hide (hG.kc hbx.k)
  have HBx := hide hbx
  clear h h1 h2 h3 h4 hX hG hbx
  go_enter Tryz.func91, Tryz.ntmps91
  go_upto_region 1 with fail
  change Code.wp _ _ _ _ (w0.alloc (.cells (stL s.word s.var pi (.pointer (some ⟨q1, 0, none⟩)) (.slice a3 n3 c3) s.oth (.slice a4 n4 c4)).toArray 92))
  generalize w0.alloc (.cells (stL s.word s.var pi (.pointer (some ⟨q1, 0, none⟩)) (.slice a3 n3 c3) s.oth (.slice a4 n4 c4)).toArray 92) = w1 at *
  generalize w0.heap.size = q at *
  have HK1 := hide (Kc.refl g w1)
  go_wp2_with fail
  refine (pair_any w1 g c HC1.out HG1.out (HE1.out ▸ HO1.out)).mono ?_
  rintro e w2 ⟨rfl, h1, h2, h3⟩
  rw [HNM.out]
  have HC2 : Hid (CdAt w2 g s1) := hide (HE1.out ▸ h1)
  have HK2 := hide (HK1.out.trans h2)
  have HG2 := hide h3
  clear h1 h2 h3 HC1 HK1 HG1
  have b6 := (HBx.out.b.kb HK2.out HBx.out.ng (by decide)).get (j := 6) rfl
  go_wp2_with fail
  refine (HEx.out w2 g s1 0 q1 X (HL.out _ (HBx.out.k.trans HK2.out)) HX1.out HC2.out HG2.out (HE2.out ▸ HO2.out) (by omega)).mono ?_
  clear b6
  rintro e w3 ⟨rfl, h1, h2, h3⟩
  have HC3 := hide h1
  have HK3 := hide (HK2.out.trans h2)
  have HG3 := hide h3
  clear h1 h2 h3 HC2 HK2 HG2
  rw [HE2.out] at HC3
  go_wp2_with fail
  refine (putk_any w3 g s2 _ [[106, 122, 32, 114, 52, 44, 32, 97] ++ n] ?hb (by simp) (all_one (semi_app (semi_lit _ rfl) HNS.out)) HC3.out HG3.out (HE3.out ▸ HO3.out)).mono ?_
  case hb => simp [ByteArray.data_append, semJ]
  rintro e w4 ⟨rfl, h1, h2, h3⟩
  have HC4 := hide h1
  have HK4 := hide (HK3.out.trans h2)
  have HG4 := hide h3
  clear h1 h2 h3 HC3 HK3 HG3
  rw [HE3.out] at HC4
  have b7 := (HBx.out.b.kb HK4.out HBx.out.ng (by decide)).get (j := 7) rfl
  go_wp2_with fail
  refine (HCb.out w4 g s3 X _ (HB.out _ (HBx.out.k.trans HK4.out)) HX1.out HC4.out HG4.out (HE4.out ▸ HO4.out) HL3.out hdb).mono ?_
  clear b7
  rintro e w5 ⟨rfl, h1, h2, h3⟩
  have HC5 := hide h1
  have HK5 := hide (HK4.out.trans h2)
  have HG5 := hide h3
  clear h1 h2 h3 HC4 HK4 HG4
  rw [HE4.out] at HC5
  have b8 := (HBx.out.b.kb HK5.out HBx.out.ng (by decide)).get (j := 8) rfl
  have e5 : s4 = s5 := by rw [← HE5.out, put_nil]
  rw [e5] at HC5
  go_wp2_with fail
  refine (lab_any w5 g s5 _ ([97] ++ n) ?hb HC5.out HG5.out (HE6.out ▸ HO6.out)).mono ?_
  case hb => simp [ByteArray.data_append]
  clear b8
  rintro e w6 ⟨rfl, h1, h2, h3⟩
  have HC6 := hide h1
  have HK6 := hide (HK5.out.trans h2)
  have HG6 := hide h3
  clear h1 h2 h3 HC5 HK5 HG5
  rw [HE6.out] at HC6
  have b9 := (HBx.out.b.kb HK6.out HBx.out.ng (by decide)).get (j := 9) rfl
  go_wp2_with fail
  refine (HCr.out w6 g s6 X _ (HR.out _ (HBx.out.k.trans HK6.out)) HX1.out HC6.out HG6.out (HE7.out ▸ HO7.out) HL6.out hdr).mono ?_
  clear b9
  rintro e w7 ⟨rfl, h1, h2, h3⟩
  have HC7 := hide h1
  have HK7 := hide (HK6.out.trans h2)
  have HG7 := hide h3
  clear h1 h2 h3 HC6 HK6 HG6
  rw [HE7.out] at HC7
  go_wp2_with fail
  refine (lab_any w7 g s7 _ ([98] ++ n) ?hb HC7.out HG7.out (HE8.out ▸ HO8.out)).mono ?_
  case hb => simp [ByteArray.data_append]
  rintro e w8 ⟨rfl, h1, h2, h3⟩
  have HC8 := hide h1
  have HK8 := hide (HK7.out.trans h2)
  have HG8 := hide h3
  clear h1 h2 h3 HC7 HK7 HG7
  rw [HE8.out] at HC8
  go_wp2
  go_end0
  exact ⟨rfl, HC8.out, HBx.out.k.trans HK8.out, HG8.out⟩
set_option maxHeartbeats 4000000 in
set_option maxRecDepth 100000 in
theorem cho_yes (w0 : World) (g : Nat) (c : Cd) (X : Nat → Prop) (s : Sl) (cs : List Value) (hs : StA w0 s X cs) (hX : ∀ j, X j → j < g) (h : CdAt w0 g c) (hG : Lyb g w0) (x : Ex) (hvl : s.val = some x) (hx : CxE x) (hcb : CsC s.body) (hcr : CsC s.rest) (hlp : LpOk c) (hdb : slO s.body ≤ 1000000) (hdr : slO s.rest ≤ 1000000) (hd : exN x ≤ 1000000) (hoth : s.oth ≠ 0) (F : Cd) (hF : F = (csO s.rest ((if s.oth ≠ 0 then (csO s.body ((cxO s.val 0 c.pair).put [[106, 122, 32, 114, 52, 44, 32, 97] ++ c.name])).put [[106, 109, 112, 32, 98] ++ c.name] else csO s.body ((cxO s.val 0 c.pair).put [[106, 122, 32, 114, 52, 44, 32, 97] ++ c.name])).lab ([97] ++ c.name))).lab ([98] ++ c.name)) (ho : F.Ok) : Calls Tryz.prog 91 #[.pointer (some ⟨g, 0, none⟩), .agg cs.toArray] w0 (CdPost g F w0) := by
  obtain ⟨pi, pv, pb, pr, rfl, h1, h2, h3, h4⟩ := hs
  obtain ⟨q1, rfl, hxx⟩ : ∃ q, pv = .pointer (some ⟨q, 0, none⟩) ∧ ExAt w0 x X q := by rw [hvl] at h2; exact h2
  have HX1 := hide (fun j hj => hX j hj)
  have HL : Hid (∀ w', Kc g w0 w' → ExAt w' x X q1) := hide (fun w' hk => hxx.kc hk hX)
  have HB : Hid (∀ w', Kc g w0 w' → LsO w' s.body X pb) := hide (fun w' hk => h3.kc hk hX)
  have HR : Hid (∀ w', Kc g w0 w' → LsO w' s.rest X pr) := hide (fun w' hk => h4.kc hk hX)
  have HEx := hide hx
  have HCb := hide hcb
  have HCr := hide hcr
  obtain ⟨a3, n3, c3, rfl⟩ := ls_one h3
  obtain ⟨a4, n4, c4, rfl⟩ := ls_one h4
  obtain ⟨n, hn⟩ : ∃ n, c.name = n := ⟨_, rfl⟩
  obtain ⟨s1, e1⟩ : ∃ t, c.pair = t := ⟨_, rfl⟩
  obtain ⟨s2, e2⟩ : ∃ t, cxF x 0 s1 = t := ⟨_, rfl⟩
  obtain ⟨s3, e3⟩ : ∃ t, s2.put [[106, 122, 32, 114, 52, 44, 32, 97] ++ n] = t := ⟨_, rfl⟩
  obtain ⟨s4, e4⟩ : ∃ t, csO s.body s3 = t := ⟨_, rfl⟩
  obtain ⟨s5, e5⟩ : ∃ t, s4.put [[106, 109, 112, 32, 98] ++ n] = t := ⟨_, rfl⟩
  obtain ⟨s6, e6⟩ : ∃ t, s5.lab ([97] ++ n) = t := ⟨_, rfl⟩
  obtain ⟨s7, e7⟩ : ∃ t, csO s.rest s6 = t := ⟨_, rfl⟩
  obtain ⟨s8, e8⟩ : ∃ t, s7.lab ([98] ++ n) = t := ⟨_, rfl⟩
  have hfin : F = s8 := by
    rw [hF, hvl, hn, ← e8, ← e7, ← e6, ← e5, ← e4, ← e3, ← e2, ← e1, if_pos hoth]
    rfl
  rw [hfin] at ho ⊢
  have HO8 := hide ho
  have HO7 : Hid s7.Ok := hide ((by rw [← e8]; exact le_lab _ _ : s7.Le s8).ok HO8.out)
  have HO6 : Hid s6.Ok := hide ((by rw [← e7]; exact le_csO _ _ : s6.Le s7).ok HO7.out)
  have HO5 : Hid s5.Ok := hide ((by rw [← e6]; exact le_lab _ _ : s5.Le s6).ok HO6.out)
  have HO4 : Hid s4.Ok := hide ((by rw [← e5]; exact le_put _ _ : s4.Le s5).ok HO5.out)
  have HO3 : Hid s3.Ok := hide ((by rw [← e4]; exact le_csO _ _ : s3.Le s4).ok HO4.out)
  have HO2 : Hid s2.Ok := hide ((by rw [← e3]; exact le_put _ _ : s2.Le s3).ok HO3.out)
  have HO1 : Hid s1.Ok := hide ((by rw [← e2]; exact le_cx _ _ _ : s1.Le s2).ok HO2.out)
  have HE1 := hide e1
  have HE2 := hide e2
  have HE3 := hide e3
  have HE4 := hide e4
  have HE5 := hide e5
  have HE6 := hide e6
  have HE7 := hide e7
  have HE8 := hide e8
  clear hfin ho e1 e2 e3 e4 e5 e6 e7 e8
  have HL3 : Hid (LpOk s3) := hide (hlp.of (by rw [← HE3.out, lp_put, ← HE2.out, lp_cx, ← HE1.out]; rfl))
  have HL6 : Hid (LpOk s6) := hide (HL3.out.of (by rw [← HE6.out]; show s5.loop = _; rw [← HE5.out, lp_put, ← HE4.out, lp_csO]))
  obtain ⟨hnl, hns⟩ := name_ok c (by rw [HE1.out]; exact HO1.out)
  rw [hn] at hnl hns
  have HNS := hide hns
  have HNM := hide hn
  have hoi : ¬ (s.oth : Int) = 0 := by omega
  clear hxx hx hvl hcb hcr hns hn hlp hoth hF
  have hbx := Bx.of h.lt h1 h2 h3 h4 hX
  have HC1 := hide (h.below (w' := (w0.alloc (.cells (stL s.word s.var pi (.pointer (some ⟨q1, 0, none⟩)) (.slice a3 n3 c3) s.oth (.slice a4 n4 c4)).toArray 92))) ((Below.refl _ _).alloc (Nat.le_refl _) _))
  have HG1 := hide (hG.kc hbx.k)
  have HBx := hide hbx
  clear h h1 h2 h3 h4 hX hG hbx
  go_enter Tryz.func91, Tryz.ntmps91
  go_upto_region 1 with fail
  change Code.wp _ _ _ _ (w0.alloc (.cells (stL s.word s.var pi (.pointer (some ⟨q1, 0, none⟩)) (.slice a3 n3 c3) s.oth (.slice a4 n4 c4)).toArray 92))
  generalize w0.alloc (.cells (stL s.word s.var pi (.pointer (some ⟨q1, 0, none⟩)) (.slice a3 n3 c3) s.oth (.slice a4 n4 c4)).toArray 92) = w1 at *
  generalize w0.heap.size = q at *
  have HK1 := hide (Kc.refl g w1)
  go_wp2_with fail
  refine (pair_any w1 g c HC1.out HG1.out (HE1.out ▸ HO1.out)).mono ?_
  rintro e w2 ⟨rfl, h1, h2, h3⟩
  rw [HNM.out]
  have HC2 : Hid (CdAt w2 g s1) := hide (HE1.out ▸ h1)
  have HK2 := hide (HK1.out.trans h2)
  have HG2 := hide h3
  clear h1 h2 h3 HC1 HK1 HG1
  have b6 := (HBx.out.b.kb HK2.out HBx.out.ng (by decide)).get (j := 6) rfl
  go_wp2_with fail
  refine (HEx.out w2 g s1 0 q1 X (HL.out _ (HBx.out.k.trans HK2.out)) HX1.out HC2.out HG2.out (HE2.out ▸ HO2.out) (by omega)).mono ?_
  clear b6
  rintro e w3 ⟨rfl, h1, h2, h3⟩
  have HC3 := hide h1
  have HK3 := hide (HK2.out.trans h2)
  have HG3 := hide h3
  clear h1 h2 h3 HC2 HK2 HG2
  rw [HE2.out] at HC3
  go_wp2_with fail
  refine (putk_any w3 g s2 _ [[106, 122, 32, 114, 52, 44, 32, 97] ++ n] ?hb (by simp) (all_one (semi_app (semi_lit _ rfl) HNS.out)) HC3.out HG3.out (HE3.out ▸ HO3.out)).mono ?_
  case hb => simp [ByteArray.data_append, semJ]
  rintro e w4 ⟨rfl, h1, h2, h3⟩
  have HC4 := hide h1
  have HK4 := hide (HK3.out.trans h2)
  have HG4 := hide h3
  clear h1 h2 h3 HC3 HK3 HG3
  rw [HE3.out] at HC4
  have b7 := (HBx.out.b.kb HK4.out HBx.out.ng (by decide)).get (j := 7) rfl
  go_wp2_with fail
  refine (HCb.out w4 g s3 X _ (HB.out _ (HBx.out.k.trans HK4.out)) HX1.out HC4.out HG4.out (HE4.out ▸ HO4.out) HL3.out hdb).mono ?_
  clear b7
  rintro e w5 ⟨rfl, h1, h2, h3⟩
  have HC5 := hide h1
  have HK5 := hide (HK4.out.trans h2)
  have HG5 := hide h3
  clear h1 h2 h3 HC4 HK4 HG4
  rw [HE4.out] at HC5
  have b8 := (HBx.out.b.kb HK5.out HBx.out.ng (by decide)).get (j := 8) rfl
  go_wp2_with fail
  refine (putk_any w5 g s4 _ [[106, 109, 112, 32, 98] ++ n] ?hb (by simp) (all_one (semi_app (semi_lit _ rfl) HNS.out)) HC5.out HG5.out (HE5.out ▸ HO5.out)).mono ?_
  case hb => simp [ByteArray.data_append, semJ]
  clear b8
  rintro e w6 ⟨rfl, h1, h2, h3⟩
  have HC6 := hide h1
  have HK6 := hide (HK5.out.trans h2)
  have HG6 := hide h3
  clear h1 h2 h3 HC5 HK5 HG5
  rw [HE5.out] at HC6
  go_wp2_with fail
  refine (lab_any w6 g s5 _ ([97] ++ n) ?hb HC6.out HG6.out (HE6.out ▸ HO6.out)).mono ?_
  case hb => simp [ByteArray.data_append]
  rintro e w7 ⟨rfl, h1, h2, h3⟩
  have HC7 := hide h1
  have HK7 := hide (HK6.out.trans h2)
  have HG7 := hide h3
  clear h1 h2 h3 HC6 HK6 HG6
  rw [HE6.out] at HC7
  have b9 := (HBx.out.b.kb HK7.out HBx.out.ng (by decide)).get (j := 9) rfl
  go_wp2_with fail
  refine (HCr.out w7 g s6 X _ (HR.out _ (HBx.out.k.trans HK7.out)) HX1.out HC7.out HG7.out (HE7.out ▸ HO7.out) HL6.out hdr).mono ?_
  clear b9
  rintro e w8 ⟨rfl, h1, h2, h3⟩
  have HC8 := hide h1
  have HK8 := hide (HK7.out.trans h2)
  have HG8 := hide h3
  clear h1 h2 h3 HC7 HK7 HG7
  rw [HE7.out] at HC8
  go_wp2_with fail
  refine (lab_any w8 g s7 _ ([98] ++ n) ?hb HC8.out HG8.out (HE8.out ▸ HO8.out)).mono ?_
  case hb => simp [ByteArray.data_append]
  rintro e w9 ⟨rfl, h1, h2, h3⟩
  have HC9 := hide h1
  have HK9 := hide (HK8.out.trans h2)
  have HG9 := hide h3
  clear h1 h2 h3 HC8 HK8 HG8
  rw [HE8.out] at HC9
  go_wp2
  go_end0
  exact ⟨rfl, HC9.out, HBx.out.k.trans HK9.out, HG9.out⟩
set_option maxHeartbeats 4000000 in
set_option maxRecDepth 100000 in
theorem whl_any (w0 : World) (g : Nat) (c : Cd) (X : Nat → Prop) (s : Sl) (cs : List Value) (hs : StA w0 s X cs) (hX : ∀ j, X j → j < g) (h : CdAt w0 g c) (hG : Lyb g w0) (x : Ex) (hvl : s.val = some x) (hx : CxE x) (hcb : CsC s.body) (hcr : CsC s.rest) (hdb : slO s.body ≤ 1000000) (hd : exN x ≤ 1000000) (F : Cd) (hF : F = { ((csO s.body ((cxO s.val 0 (({ c.pair with loop := c.name } : Cd).lab ([97] ++ c.name))).put [[106, 122, 32, 114, 52, 44, 32, 98] ++ c.name])).put [[106, 109, 112, 32, 97] ++ c.name]).lab ([98] ++ c.name) with loop := c.loop }) (ho : F.Ok) : Calls Tryz.prog 92 #[.pointer (some ⟨g, 0, none⟩), .agg cs.toArray] w0 (CdPost g F w0) := by
  obtain ⟨pi, pv, pb, pr, rfl, h1, h2, h3, h4⟩ := hs
  obtain ⟨q1, rfl, hxx⟩ : ∃ q, pv = .pointer (some ⟨q, 0, none⟩) ∧ ExAt w0 x X q := by rw [hvl] at h2; exact h2
  have HX1 := hide (fun j hj => hX j hj)
  have HL : Hid (∀ w', Kc g w0 w' → ExAt w' x X q1) := hide (fun w' hk => hxx.kc hk hX)
  have HB : Hid (∀ w', Kc g w0 w' → LsO w' s.body X pb) := hide (fun w' hk => h3.kc hk hX)
  have HR : Hid (∀ w', Kc g w0 w' → LsO w' s.rest X pr) := hide (fun w' hk => h4.kc hk hX)
  have HEx := hide hx
  have HCb := hide hcb
  have HCr := hide hcr
  obtain ⟨a3, n3, c3, rfl⟩ := ls_one h3
  obtain ⟨a4, n4, c4, rfl⟩ := ls_one h4
  obtain ⟨n, hn⟩ : ∃ n, c.name = n := ⟨_, rfl⟩
  obtain ⟨s1, e1⟩ : ∃ t, c.pair = t := ⟨_, rfl⟩
  obtain ⟨s2, e2⟩ : ∃ t, ({ s1 with loop := n } : Cd) = t := ⟨_, rfl⟩
  obtain ⟨s3, e3⟩ : ∃ t, s2.lab ([97] ++ n) = t := ⟨_, rfl⟩
  obtain ⟨s4, e4⟩ : ∃ t, cxF x 0 s3 = t := ⟨_, rfl⟩
  obtain ⟨s5, e5⟩ : ∃ t, s4.put [[106, 122, 32, 114, 52, 44, 32, 98] ++ n] = t := ⟨_, rfl⟩
  obtain ⟨s6, e6⟩ : ∃ t, csO s.body s5 = t := ⟨_, rfl⟩
  obtain ⟨s7, e7⟩ : ∃ t, s6.put [[106, 109, 112, 32, 97] ++ n] = t := ⟨_, rfl⟩
  obtain ⟨s8, e8⟩ : ∃ t, s7.lab ([98] ++ n) = t := ⟨_, rfl⟩
  obtain ⟨s9, e9⟩ : ∃ t, ({ s8 with loop := c.loop } : Cd) = t := ⟨_, rfl⟩
  have hfin : F = s9 := by
    rw [hF, hvl, hn, ← e9, ← e8, ← e7, ← e6, ← e5, ← e4, ← e3, ← e2, ← e1]
    rfl
  rw [hfin] at ho ⊢
  have HO9 := hide ho
  have HO8 : Hid s8.Ok := hide ((by rw [← e9]; exact le_loop _ _ : s8.Le s9).ok HO9.out)
  have HO7 : Hid s7.Ok := hide ((by rw [← e8]; exact le_lab _ _ : s7.Le s8).ok HO8.out)
  have HO6 : Hid s6.Ok := hide ((by rw [← e7]; exact le_put _ _ : s6.Le s7).ok HO7.out)
  have HO5 : Hid s5.Ok := hide ((by rw [← e6]; exact le_csO _ _ : s5.Le s6).ok HO6.out)
  have HO4 : Hid s4.Ok := hide ((by rw [← e5]; exact le_put _ _ : s4.Le s5).ok HO5.out)
  have HO3 : Hid s3.Ok := hide ((by rw [← e4]; exact le_cx _ _ _ : s3.Le s4).ok HO4.out)
  have HO2 : Hid s2.Ok := hide ((by rw [← e3]; exact le_lab _ _ : s2.Le s3).ok HO3.out)
  have HO1 : Hid s1.Ok := hide ((by rw [← e2]; exact le_loop _ _ : s1.Le s2).ok HO2.out)
  have HE1 := hide e1
  have HE2 := hide e2
  have HE3 := hide e3
  have HE4 := hide e4
  have HE5 := hide e5
  have HE6 := hide e6
  have HE7 := hide e7
  have HE8 := hide e8
  have HE9 := hide e9
  clear hfin ho e1 e2 e3 e4 e5 e6 e7 e8 e9
  obtain ⟨hnl, hns⟩ := name_ok c (by rw [HE1.out]; exact HO1.out)
  rw [hn] at hnl hns
  have HL5 : Hid (LpOk s5) := hide (by
    have : s5.loop = n := by rw [← HE5.out, lp_put, ← HE4.out, lp_cx, ← HE3.out, ← HE2.out]; rfl
    unfold LpOk
    rw [this]
    exact ⟨hnl, hns⟩)
  have HNS := hide hns
  have HNM := hide hn
  clear hxx hx hvl hcb hcr hns hn hF
  have hbx := Bx.of h.lt h1 h2 h3 h4 hX
  have HC1 := hide (h.below (w' := (w0.alloc (.cells (stL s.word s.var pi (.pointer (some ⟨q1, 0, none⟩)) (.slice a3 n3 c3) s.oth (.slice a4 n4 c4)).toArray 92))) ((Below.refl _ _).alloc (Nat.le_refl _) _))
  have HG1 := hide (hG.kc hbx.k)
  have HBx := hide hbx
  clear h h1 h2 h3 h4 hX hG hbx
  go_enter Tryz.func92, Tryz.ntmps92
  go_upto_region 1 with fail
  change Code.wp _ _ _ _ (w0.alloc (.cells (stL s.word s.var pi (.pointer (some ⟨q1, 0, none⟩)) (.slice a3 n3 c3) s.oth (.slice a4 n4 c4)).toArray 92))
  generalize w0.alloc (.cells (stL s.word s.var pi (.pointer (some ⟨q1, 0, none⟩)) (.slice a3 n3 c3) s.oth (.slice a4 n4 c4)).toArray 92) = w1 at *
  generalize w0.heap.size = q at *
  have HK1 := hide (Kc.refl g w1)
  obtain ⟨k4, _⟩ := HC1.out.cell (j := 4) (x := .string ⟨c.loop.toArray⟩) (fun _ _ => rfl)
  go_upto_region 2 with fail
  clear k4
  go_wp2_with fail
  refine (pair_any w1 g c HC1.out HG1.out (HE1.out ▸ HO1.out)).mono ?_
  rintro e w2 ⟨rfl, h1, h2, h3⟩
  rw [HNM.out]
  have HC2 : Hid (CdAt w2 g s1) := hide (HE1.out ▸ h1)
  have HK2 := hide (HK1.out.trans h2)
  have HG2 := hide h3
  clear h1 h2 h3 HC1 HK1 HG1
  obtain ⟨k4, f4⟩ := HC2.out.cell (j := 4) (x := .string ⟨s1.loop.toArray⟩) (fun _ _ => rfl)
  go_upto_region 4 with fail
  have HC3 : Hid (CdAt (w2.setCell ⟨g, 4, none⟩ (.string ⟨n.toArray⟩)) g s2) := hide (HC2.out.store 4 _ (fun p v => by rw [← HE2.out]; rfl) (by rw [← HE2.out]))
  have HK3 : Hid (Kc g w1 (w2.setCell ⟨g, 4, none⟩ (.string ⟨n.toArray⟩))) := hide (HK2.out.store 4 _)
  have HG3 : Hid (Lyb g (w2.setCell ⟨g, 4, none⟩ (.string ⟨n.toArray⟩))) := hide (HG2.out.kc ((Kc.refl g w2).store 4 _))
  clear HC2 HK2 HG2 k4 f4
  generalize w2.setCell ⟨g, 4, none⟩ (.string ⟨n.toArray⟩) = w3 at *
  go_wp2_with fail
  refine (lab_any w3 g s2 _ ([97] ++ n) ?hb HC3.out HG3.out (HE3.out ▸ HO3.out)).mono ?_
  case hb => simp [ByteArray.data_append]
  rintro e w4 ⟨rfl, h1, h2, h3⟩
  have HC4 := hide h1
  have HK4 := hide (HK3.out.trans h2)
  have HG4 := hide h3
  clear h1 h2 h3 HC3 HK3 HG3
  rw [HE3.out] at HC4
  have b6 := (HBx.out.b.kb HK4.out HBx.out.ng (by decide)).get (j := 6) rfl
  go_wp2_with fail
  refine (HEx.out w4 g s3 0 q1 X (HL.out _ (HBx.out.k.trans HK4.out)) HX1.out HC4.out HG4.out (HE4.out ▸ HO4.out) (by omega)).mono ?_
  clear b6
  rintro e w5 ⟨rfl, h1, h2, h3⟩
  have HC5 := hide h1
  have HK5 := hide (HK4.out.trans h2)
  have HG5 := hide h3
  clear h1 h2 h3 HC4 HK4 HG4
  rw [HE4.out] at HC5
  go_wp2_with fail
  refine (putk_any w5 g s4 _ [[106, 122, 32, 114, 52, 44, 32, 98] ++ n] ?hb (by simp) (all_one (semi_app (semi_lit _ rfl) HNS.out)) HC5.out HG5.out (HE5.out ▸ HO5.out)).mono ?_
  case hb => simp [ByteArray.data_append, semJ]
  rintro e w6 ⟨rfl, h1, h2, h3⟩
  have HC6 := hide h1
  have HK6 := hide (HK5.out.trans h2)
  have HG6 := hide h3
  clear h1 h2 h3 HC5 HK5 HG5
  rw [HE5.out] at HC6
  have b7 := (HBx.out.b.kb HK6.out HBx.out.ng (by decide)).get (j := 7) rfl
  go_wp2_with fail
  refine (HCb.out w6 g s5 X _ (HB.out _ (HBx.out.k.trans HK6.out)) HX1.out HC6.out HG6.out (HE6.out ▸ HO6.out) HL5.out hdb).mono ?_
  clear b7
  rintro e w7 ⟨rfl, h1, h2, h3⟩
  have HC7 := hide h1
  have HK7 := hide (HK6.out.trans h2)
  have HG7 := hide h3
  clear h1 h2 h3 HC6 HK6 HG6
  rw [HE6.out] at HC7
  go_wp2_with fail
  refine (putk_any w7 g s6 _ [[106, 109, 112, 32, 97] ++ n] ?hb (by simp) (all_one (semi_app (semi_lit _ rfl) HNS.out)) HC7.out HG7.out (HE7.out ▸ HO7.out)).mono ?_
  case hb => simp [ByteArray.data_append, semJ]
  rintro e w8 ⟨rfl, h1, h2, h3⟩
  have HC8 := hide h1
  have HK8 := hide (HK7.out.trans h2)
  have HG8 := hide h3
  clear h1 h2 h3 HC7 HK7 HG7
  rw [HE7.out] at HC8
  go_wp2_with fail
  refine (lab_any w8 g s7 _ ([98] ++ n) ?hb HC8.out HG8.out (HE8.out ▸ HO8.out)).mono ?_
  case hb => simp [ByteArray.data_append]
  rintro e w9 ⟨rfl, h1, h2, h3⟩
  have HC9 := hide h1
  have HK9 := hide (HK8.out.trans h2)
  have HG9 := hide h3
  clear h1 h2 h3 HC8 HK8 HG8
  rw [HE8.out] at HC9
  obtain ⟨k4, f4⟩ := HC9.out.cell (j := 4) (x := .string ⟨s8.loop.toArray⟩) (fun _ _ => rfl)
  have HCf : Hid (CdAt (w9.setCell ⟨g, 4, none⟩ (.string ⟨c.loop.toArray⟩)) g s9) := hide (HC9.out.store 4 _ (fun p v => by rw [← HE9.out]; rfl) (by rw [← HE9.out]))
  have HKf : Hid (Kc g w0 (w9.setCell ⟨g, 4, none⟩ (.string ⟨c.loop.toArray⟩))) := hide (HBx.out.k.trans (HK9.out.store 4 _))
  have HGf : Hid (Lyb g (w9.setCell ⟨g, 4, none⟩ (.string ⟨c.loop.toArray⟩))) := hide (HG9.out.kc ((Kc.refl g w9).store 4 _))
  go_wp2
  go_end0
  exact ⟨rfl, HCf.out, HKf.out, HGf.out⟩
end Go.Proofs.YtiafodeabdhcoaaGreatDoor

namespace Go.Proofs.YtiafodeabdhcoaaGreatDoor
open Go.RowKit
theorem info_st : (Tryz.prog.info? 92).map (·.size) = some 10 := by kernel_rfl
def StPost (w : World) (g : Nat) (ts : List Tk) (F : Fx) (q : Sl × Rd) (e : Ending) (w' : World) : Prop := ∃ cs, e = .returned (.agg (List.toArray cs)) ∧ StA w' q.1 (New w) cs ∧ RdA w' g ts F q.2 ∧ Kp g w w'
abbrev stZ : List Value := [.string ⟨#[]⟩, .string ⟨#[]⟩, .bool false, .int .i64 0, .int .i64 0, .pointer none, .pointer none, .slice none 0 0, .int .i64 0, .slice none 0 0]
/-- the last step of a call that answers a statement -/
theorem st_fin {w w5 : World} {g N : Nat} {ts : List Tk} {F : Fx} {r r' : Rd} {s : Sl} {cs : List Value} (HR : RdA w g ts F r) (hA : RdA w5 g ts F r') (hK : Kp g w w5) (hv : r'.vars = r.vars) (hN : w.heap.size ≤ N) (hS : StA w5 s (fun j => w.heap.size ≤ j ∧ j ≠ N) cs) (T : TypeId) :
    StA (putB w5 N cs T) s (New w) cs ∧ RdA (putB w5 N cs T) g ts F r' ∧ Kp g w (putB w5 N cs T) := by
  have hg := HR.b.lt
  have hk := hK.putN hN cs T
  exact ⟨hS.move (fun j hj _ => ⟨hj.1, putB_other _ _ _ _ hj.2⟩) (fun j hj => hj.1), HR.to hk (hA.b.keep (putB_other _ _ _ _ (by omega))) hv hA.hat, hk⟩
theorem RdA.setN {w w5 : World} {g N j : Nat} {ts : List Tk} {F : Fx} {r r' : Rd} (HR : RdA w g ts F r) (hK : Kp g w w5) (hA : RdA w5 g ts F r') (hv : r'.vars = r.vars) (hN : w.heap.size ≤ N) (v : Value) : RdA (w5.setCell ⟨N, j, none⟩ v) g ts F r' := by
  have hg := HR.b.lt
  exact HR.to (hK.setN hN v) (hA.b.keep (heap_setCell_other w5 ⟨N, j, none⟩ g v (by show g ≠ N; omega))) hv hA.hat
theorem PtE.setN {w : World} {o : Option Ex} {X : Nat → Prop} {p : Value} {N j : Nat} (h : PtE w o X p) (hx : ∀ k, X k → k ≠ N) (v : Value) : PtE (w.setCell ⟨N, j, none⟩ v) o X p := h.move fun k hk _ => ⟨hk, heap_setCell_other w ⟨N, j, none⟩ k v (hx k hk)⟩
theorem LsO.setN {w : World} {o : Option Sl} {X : Nat → Prop} {p : Value} {N j : Nat} (h : LsO w o X p) (hx : ∀ k, X k → k ≠ N) (v : Value) : LsO (w.setCell ⟨N, j, none⟩ v) o X p := h.move (fun k hk _ => ⟨hk, heap_setCell_other w ⟨N, j, none⟩ k v (hx k hk)⟩) fun _ h => h
theorem Blk.setN {w : World} {n N j : Nat} {T : TypeId} {vs : List Value} (h : Blk w n T vs) (hx : n ≠ N) (v : Value) : Blk (w.setCell ⟨N, j, none⟩ v) n T vs := h.keep (heap_setCell_other w ⟨N, j, none⟩ n v hx)
set_option maxRecDepth 100000 in
set_option maxHeartbeats 2000000 in
theorem telling_any (w : World) (g : Nat) (ts : List Tk) (F : Fx) (r : Rd) (wd : Tx) (hwd : wd ≠ []) (h : RdA w g ts F r) (hG : Lg w) (hg9 : 9 ≤ g) : Calls Tryz.prog 83 #[.pointer (some ⟨g, 0, none⟩), .string ⟨wd.toArray⟩] w (StPost w g ts F (r.telling ts wd)) := by
  have hbA := bel1 w (.cells (List.toArray stZ) 92)
  have hZ0 := Blk.new w stZ 92
  have HT := hide (take_any (w.alloc (.cells (List.toArray stZ) 92)) g ts F r wd hwd (h.keep hbA))
  have hfr := (fr_telling (ts := ts) r wd).vars
  have HV : Hid (r.telling ts wd = ({ Sl.of wd with val := some (Rd.whole ts (r.take ts wd)).1 }, ((Rd.whole ts (r.take ts wd)).2).take ts [59])) := hide rfl
  rw [HV.out] at hfr
  have hgl := h.b.lt
  have HR := hide h
  have HG := hide hG
  clear h hG
  generalize r.telling ts wd = RT at *
  go_enter Tryz.func83, Tryz.ntmps83
  go_wp2_with fail
  refine HT.out.mono ?_
  rintro e w1 ⟨rfl, hA1, hk1⟩
  have HZ1 := hide (hZ0.keepK hk1 (by omega))
  have HK1 := hide ((Kp.of (g := g) hbA).trans hk1)
  have HWh := hide (whole_any w1 g ts F (r.take ts wd) hA1 (HG.out.keepK HK1.out hg9) hg9)
  have hs1 : w.heap.size < w1.heap.size := HZ1.out.lt
  clear hA1 hk1 hbA hZ0 HT
  generalize Rd.whole ts (r.take ts wd) = q at *
  obtain ⟨ex, r2⟩ := q
  simp only at HV HWh hfr
  go_wp2_with fail
  refine HWh.out.mono ?_
  rintro e w2 ⟨p, rfl, hX2, hA2, hk2⟩
  have HX2 := hide hX2
  have HA2 := hide hA2
  have HK2 := hide (HK1.out.trans hk2)
  have HZ2 := hide (HZ1.out.keepK hk2 (by omega))
  clear hX2 hA2 hk2 HWh HK1 HZ1
  go_upto_region 3 with fail
  have HS3 : Hid (Blk (w2.alloc (.cells #[.string ⟨wd.toArray⟩, .string ⟨#[]⟩, .bool false, .int .i64 0, .int .i64 0, .pointer none, .pointer (some ⟨p, 0, none⟩), .slice none 0 0, .int .i64 0, .slice none 0 0] 92)) w2.heap.size 92 [.string ⟨wd.toArray⟩, .string ⟨#[]⟩, .bool false, .int .i64 0, .int .i64 0, .pointer none, .pointer (some ⟨p, 0, none⟩), .slice none 0 0, .int .i64 0, .slice none 0 0]) := hide ⟨heap_alloc_new _ _⟩
  have hb3 := bel1 w2 (.cells #[.string ⟨wd.toArray⟩, .string ⟨#[]⟩, .bool false, .int .i64 0, .int .i64 0, .pointer none, .pointer (some ⟨p, 0, none⟩), .slice none 0 0, .int .i64 0, .slice none 0 0] 92)
  have HX3 := hide (HX2.out.keepK (Kp.of (g := g) hb3) (fun j hj => by have : w1.heap.size ≤ j := hj; omega))
  have HK3 := hide (HK2.out.trans (Kp.of hb3))
  have HZ3 := hide (HZ2.out.below hb3 HZ2.out.lt)
  have HA3 := hide (HA2.out.keep hb3)
  have hs2 : g < w2.heap.size := HA2.out.b.lt
  clear hb3 HX2 HA2 HK2 HZ2
  generalize w2.alloc (.cells #[.string ⟨wd.toArray⟩, .string ⟨#[]⟩, .bool false, .int .i64 0, .int .i64 0, .pointer none, .pointer (some ⟨p, 0, none⟩), .slice none 0 0, .int .i64 0, .slice none 0 0] 92) = W3 at *
  generalize w2.heap.size = N1 at *
  have HT3 := hide (take_any W3 g ts F r2 [59] (by decide) HA3.out)
  go_wp2_with fail
  refine HT3.out.mono ?_
  rintro e w4 ⟨rfl, hA4, hk4⟩
  have HX4 := hide (HX3.out.keepK hk4 (fun j hj => by have : w1.heap.size ≤ j := hj; omega))
  have HK4 := hide (HK3.out.trans hk4)
  have HZ4 := hide (HZ3.out.keepK hk4 (by omega))
  have HA4 := hide hA4
  have hS4 := HS3.out.keepK hk4 (by omega)
  have x0 := hS4.get (j := 0) rfl
  have x1 := hS4.get (j := 1) rfl
  have x2 := hS4.get (j := 2) rfl
  have x3 := hS4.get (j := 3) rfl
  have x4 := hS4.get (j := 4) rfl
  have x5 := hS4.get (j := 5) rfl
  have x6 := hS4.get (j := 6) rfl
  have x7 := hS4.get (j := 7) rfl
  have x8 := hS4.get (j := 8) rfl
  have x9 := hS4.get (j := 9) rfl
  clear hA4 hk4 HX3 HK3 HZ3 HA3 HS3 HT3 hS4
  go_wp2_with (refine storeB [.string ⟨wd.toArray⟩, .string ⟨#[]⟩, .bool false, .int .i64 0, .int .i64 0, .pointer none, .pointer (some ⟨p, 0, none⟩), .slice none 0 0, .int .i64 0, .slice none 0 0] info_st rfl rfl _ _ rfl w.heap.size rfl rfl _ HZ4.out rfl ?_)
  refine bodyPost_ret (results_cell_row rfl _ _ w.heap.size 92 (List.toArray [.string ⟨wd.toArray⟩, .string ⟨#[]⟩, .bool false, .int .i64 0, .int .i64 0, .pointer none, .pointer (some ⟨p, 0, none⟩), .slice none 0 0, .int .i64 0, .slice none 0 0]) (0, 0) _ rfl (HZ4.out.put _).out Tryz.underlying92 rfl info_st) rfl ?_
  refine ⟨_, rfl, ?_⟩
  rw [HV.out]
  have hS : StA w4 { Sl.of wd with val := some ex } (fun j => w.heap.size ≤ j ∧ j ≠ w.heap.size) [.string ⟨wd.toArray⟩, .string ⟨#[]⟩, .bool false, .int .i64 0, .int .i64 0, .pointer none, .pointer (some ⟨p, 0, none⟩), .slice none 0 0, .int .i64 0, .slice none 0 0] := ⟨_, _, _, _, rfl, rfl, ⟨p, rfl, HX4.out.mono (fun j hj => by have : w1.heap.size ≤ j := hj; exact ⟨by omega, by omega⟩)⟩, rfl, rfl⟩
  exact st_fin HR.out HA4.out HK4.out hfr (Nat.le_refl _) hS _
set_option maxRecDepth 100000 in
set_option maxHeartbeats 2000000 in
theorem bare_any (w : World) (g : Nat) (ts : List Tk) (F : Fx) (r : Rd) (t : Tk) (hx : t.text ≠ []) (h : RdA w g ts F r) : Calls Tryz.prog 84 #[.pointer (some ⟨g, 0, none⟩), .agg (tkL t).toArray] w (StPost w g ts F (r.bare ts t)) := by
  have hfr := (fr_bare (ts := ts) r t).vars
  have HV : Hid (r.bare ts t = (Sl.of t.text, ((if t.text ≠ [121, 105, 101, 108, 100] ∧ r.loops = 0 then r.nname t.line else r).take ts t.text).take ts [59])) := hide rfl
  rw [HV.out] at hfr
  have hgl := h.b.lt
  have HR := hide h
  obtain ⟨tk, tx, tv, tl⟩ := t
  have hx0 : tx ≠ [] := hx
  simp only [tkL] at HV hfr ⊢
  have hb1 := bel1 w (.cells #[.int .i64 (tk : Nat), .string ⟨tx.toArray⟩, .int .u32 (tv : Nat), .int .i64 (tl : Nat)] 115)
  have hT1 : Blk (w.alloc (.cells #[.int .i64 (tk : Nat), .string ⟨tx.toArray⟩, .int .u32 (tv : Nat), .int .i64 (tl : Nat)] 115)) w.heap.size 115 (tkL ⟨tk, tx, tv, tl⟩) := ⟨heap_alloc_new _ _⟩
  have hb2 := bel1 (w.alloc (.cells #[.int .i64 (tk : Nat), .string ⟨tx.toArray⟩, .int .u32 (tv : Nat), .int .i64 (tl : Nat)] 115)) (.cells #[.string ⟨#[]⟩, .string ⟨#[]⟩, .bool false, .int .i64 0, .int .i64 0, .pointer none, .pointer none, .slice none 0 0, .int .i64 0, .slice none 0 0] 92)
  have hZ2 := Blk.new (w.alloc (.cells #[.int .i64 (tk : Nat), .string ⟨tx.toArray⟩, .int .u32 (tv : Nat), .int .i64 (tl : Nat)] 115)) stZ 92
  simp only [World.size_alloc] at hZ2
  have HT2 := hide (hT1.below hb2 (by simp))
  have HZ2 := hide hZ2
  have HK2 := hide ((Kp.of (g := g) hb1).trans (Kp.of hb2))
  have HA2 := hide ((h.keep hb1).keep hb2)
  have l10 := HA2.out.b.get (j := 10) rfl
  have t1 := HT2.out.get (j := 1) rfl
  have t3 := HT2.out.get (j := 3) rfl
  simp only at t1 t3
  clear h hb1 hb2 hT1 hZ2 hx
  go_enter Tryz.func84, Tryz.ntmps84
  go_upto_region 1 with fail
  generalize hW2 : (w.alloc (.cells #[.int .i64 (tk : Nat), .string ⟨tx.toArray⟩, .int .u32 (tv : Nat), .int .i64 (tl : Nat)] 115)).alloc (.cells #[.string ⟨#[]⟩, .string ⟨#[]⟩, .bool false, .int .i64 0, .int .i64 0, .pointer none, .pointer none, .slice none 0 0, .int .i64 0, .slice none 0 0] 92) = W2 at *
  clear hW2
  by_cases hy : tx = [121, 105, 101, 108, 100]
  · have hyb : (tx == [121, 105, 101, 108, 100]) = true := by simpa using hy
    rw [if_neg (by simp [hy])] at HV hfr
    clear hy l10 t3
    have HTa := hide (take_any W2 g ts F r tx hx0 HA2.out)
    have t1 := HT2.out.get (j := 1) rfl
    simp only at t1
    go_wp2_with fail
    refine HTa.out.mono ?_
    rintro e w4 ⟨rfl, hA4, hk4⟩
    have HK4 := hide (HK2.out.trans hk4)
    have HZ4 := hide (HZ2.out.keepK hk4 (by omega))
    have HT4 := hide (HT2.out.keepK hk4 (by omega))
    have HTb := hide (take_any w4 g ts F (r.take ts tx) [59] (by decide) hA4)
    clear hA4 hk4 HTa t1
    go_wp2_with fail
    refine HTb.out.mono ?_
    rintro e w5 ⟨rfl, hA5, hk5⟩
    have HA5 := hide hA5
    have HK5 := hide (HK4.out.trans hk5)
    have HZ5 := hide (HZ4.out.keepK hk5 (by omega))
    have hT5 := HT4.out.keepK hk5 (by omega)
    have t1 := hT5.get (j := 1) rfl
    simp only at t1
    clear hA5 hk5 HK4 HZ4 HT4 HTb hT5
    go_wp2_with (refine storeB [.string ⟨tx.toArray⟩, .string ⟨#[]⟩, .bool false, .int .i64 0, .int .i64 0, .pointer none, .pointer none, .slice none 0 0, .int .i64 0, .slice none 0 0] info_st rfl rfl _ _ rfl (w.heap.size + 1) rfl rfl _ HZ5.out rfl ?_)
    refine bodyPost_ret (results_cell_row rfl _ _ (w.heap.size + 1) 92 (List.toArray [.string ⟨tx.toArray⟩, .string ⟨#[]⟩, .bool false, .int .i64 0, .int .i64 0, .pointer none, .pointer none, .slice none 0 0, .int .i64 0, .slice none 0 0]) (0, 0) _ rfl (HZ5.out.put _).out Tryz.underlying92 rfl info_st) rfl ?_
    refine ⟨_, rfl, ?_⟩
    rw [HV.out]
    have hS : StA w5 (Sl.of tx) (fun j => w.heap.size ≤ j ∧ j ≠ w.heap.size + 1) [.string ⟨tx.toArray⟩, .string ⟨#[]⟩, .bool false, .int .i64 0, .int .i64 0, .pointer none, .pointer none, .slice none 0 0, .int .i64 0, .slice none 0 0] := ⟨_, _, _, _, rfl, rfl, rfl, rfl, rfl⟩
    exact st_fin HR.out HA5.out HK5.out hfr (Nat.le_succ _) hS _
  · have hyb : (tx == [121, 105, 101, 108, 100]) = false := by simpa using hy
    by_cases hl : r.loops = 0
    · rw [if_pos ⟨hy, hl⟩] at HV hfr
      rw [hl] at l10
      have HN := hide (note_any W2 g ts F r 1 tl 1 rfl (by decide) HA2.out)
      change Hid (Calls _ _ _ W2 fun e w' => e = .returned (.tuple #[]) ∧ RdA w' g ts F (r.nname tl) ∧ Kp g W2 w') at HN
      clear hy hl
      go_wp2_with fail
      refine HN.out.mono ?_
      rintro e w3 ⟨rfl, hA3, hk3⟩
      have HA3 := hide hA3
      have HK3 := hide (HK2.out.trans hk3)
      have HZ3 := hide (HZ2.out.keepK hk3 (by omega))
      have HT3 := hide (HT2.out.keepK hk3 (by omega))
      clear hA3 hk3 HN HA2 HK2 HZ2 HT2 l10 t1 t3
      have HTa := hide (take_any w3 g ts F (r.nname tl) tx hx0 HA3.out)
      have t1 := HT3.out.get (j := 1) rfl
      simp only at t1
      go_wp2_with fail
      refine HTa.out.mono ?_
      rintro e w4 ⟨rfl, hA4, hk4⟩
      have HK4 := hide (HK3.out.trans hk4)
      have HZ4 := hide (HZ3.out.keepK hk4 (by omega))
      have HT4 := hide (HT3.out.keepK hk4 (by omega))
      have HTb := hide (take_any w4 g ts F ((r.nname tl).take ts tx) [59] (by decide) hA4)
      clear hA4 hk4 HTa t1
      go_wp2_with fail
      refine HTb.out.mono ?_
      rintro e w5 ⟨rfl, hA5, hk5⟩
      have HA5 := hide hA5
      have HK5 := hide (HK4.out.trans hk5)
      have HZ5 := hide (HZ4.out.keepK hk5 (by omega))
      have hT5 := HT4.out.keepK hk5 (by omega)
      have t1 := hT5.get (j := 1) rfl
      simp only at t1
      clear hA5 hk5 HK4 HZ4 HT4 HTb hT5
      go_wp2_with (refine storeB [.string ⟨tx.toArray⟩, .string ⟨#[]⟩, .bool false, .int .i64 0, .int .i64 0, .pointer none, .pointer none, .slice none 0 0, .int .i64 0, .slice none 0 0] info_st rfl rfl _ _ rfl (w.heap.size + 1) rfl rfl _ HZ5.out rfl ?_)
      refine bodyPost_ret (results_cell_row rfl _ _ (w.heap.size + 1) 92 (List.toArray [.string ⟨tx.toArray⟩, .string ⟨#[]⟩, .bool false, .int .i64 0, .int .i64 0, .pointer none, .pointer none, .slice none 0 0, .int .i64 0, .slice none 0 0]) (0, 0) _ rfl (HZ5.out.put _).out Tryz.underlying92 rfl info_st) rfl ?_
      refine ⟨_, rfl, ?_⟩
      rw [HV.out]
      have hS : StA w5 (Sl.of tx) (fun j => w.heap.size ≤ j ∧ j ≠ w.heap.size + 1) [.string ⟨tx.toArray⟩, .string ⟨#[]⟩, .bool false, .int .i64 0, .int .i64 0, .pointer none, .pointer none, .slice none 0 0, .int .i64 0, .slice none 0 0] := ⟨_, _, _, _, rfl, rfl, rfl, rfl, rfl⟩
      exact st_fin HR.out HA5.out HK5.out hfr (Nat.le_succ _) hS _
    · rw [if_neg (by simp [hl])] at HV hfr
      have hlb : ((r.loops : Int) == 0) = false := by simpa using hl
      generalize r.loops = lp at *
      clear hy hl t3
      have HTa := hide (take_any W2 g ts F r tx hx0 HA2.out)
      have t1 := HT2.out.get (j := 1) rfl
      simp only at t1
      go_wp2_with fail
      refine HTa.out.mono ?_
      rintro e w4 ⟨rfl, hA4, hk4⟩
      have HK4 := hide (HK2.out.trans hk4)
      have HZ4 := hide (HZ2.out.keepK hk4 (by omega))
      have HT4 := hide (HT2.out.keepK hk4 (by omega))
      have HTb := hide (take_any w4 g ts F (r.take ts tx) [59] (by decide) hA4)
      clear hA4 hk4 HTa t1
      go_wp2_with fail
      refine HTb.out.mono ?_
      rintro e w5 ⟨rfl, hA5, hk5⟩
      have HA5 := hide hA5
      have HK5 := hide (HK4.out.trans hk5)
      have HZ5 := hide (HZ4.out.keepK hk5 (by omega))
      have hT5 := HT4.out.keepK hk5 (by omega)
      have t1 := hT5.get (j := 1) rfl
      simp only at t1
      clear hA5 hk5 HK4 HZ4 HT4 HTb hT5
      go_wp2_with (refine storeB [.string ⟨tx.toArray⟩, .string ⟨#[]⟩, .bool false, .int .i64 0, .int .i64 0, .pointer none, .pointer none, .slice none 0 0, .int .i64 0, .slice none 0 0] info_st rfl rfl _ _ rfl (w.heap.size + 1) rfl rfl _ HZ5.out rfl ?_)
      refine bodyPost_ret (results_cell_row rfl _ _ (w.heap.size + 1) 92 (List.toArray [.string ⟨tx.toArray⟩, .string ⟨#[]⟩, .bool false, .int .i64 0, .int .i64 0, .pointer none, .pointer none, .slice none 0 0, .int .i64 0, .slice none 0 0]) (0, 0) _ rfl (HZ5.out.put _).out Tryz.underlying92 rfl info_st) rfl ?_
      refine ⟨_, rfl, ?_⟩
      rw [HV.out]
      have hS : StA w5 (Sl.of tx) (fun j => w.heap.size ≤ j ∧ j ≠ w.heap.size + 1) [.string ⟨tx.toArray⟩, .string ⟨#[]⟩, .bool false, .int .i64 0, .int .i64 0, .pointer none, .pointer none, .slice none 0 0, .int .i64 0, .slice none 0 0] := ⟨_, _, _, _, rfl, rfl, rfl, rfl, rfl⟩
      exact st_fin HR.out HA5.out HK5.out hfr (Nat.le_succ _) hS _
end Go.Proofs.YtiafodeabdhcoaaGreatDoor

namespace Go.Proofs.YtiafodeabdhcoaaGreatDoor
open Go.RowKit
set_option maxRecDepth 100000 in
set_option maxHeartbeats 4000000 in
theorem assign_any (w : World) (g : Nat) (ts : List Tk) (F : Fx) (r : Rd) (hk4 : (r.see ts).kind = 4) (h : RdA w g ts F r) (hG : Lg w) (hg9 : 9 ≤ g) : Calls Tryz.prog 86 #[.pointer (some ⟨g, 0, none⟩)] w (StPost w g ts F (r.assign ts)) := by
  have hbA := bel1 w (.cells (List.toArray stZ) 92)
  have hZ0 := Blk.new w stZ 92
  have HN := hide (named_any (w.alloc (.cells (List.toArray stZ) 92)) g ts F r hk4 (h.keep hbA))
  have hfr := (fr_assign (ts := ts) r).vars
  have hfn := (fr_named (ts := ts) r).vars
  have HV : Hid (r.assign ts = if ((r.named ts).2).is ts [91] = true then
      ({ Sl.of [61] with var := (r.named ts).1, idx := some (Rd.whole ts (r.named ts).2.step).1, val := some (Rd.whole ts ((((Rd.whole ts (r.named ts).2.step).2).take ts [93]).take ts [61])).1 }, ((Rd.whole ts ((((Rd.whole ts (r.named ts).2.step).2).take ts [93]).take ts [61])).2).take ts [59])
    else ({ Sl.of [61] with var := (r.named ts).1, val := some (Rd.whole ts (((r.named ts).2).take ts [61])).1 }, ((Rd.whole ts (((r.named ts).2).take ts [61])).2).take ts [59])) := hide rfl
  rw [HV.out] at hfr
  have hgl := h.b.lt
  have HR := hide h
  have HG := hide hG
  clear h hG hk4
  generalize r.assign ts = RT at *
  generalize r.named ts = vr at *
  obtain ⟨⟨vn, va, vs, vt⟩, r1⟩ := vr
  simp only [vrL] at HN HV hfr hfn
  go_enter Tryz.func86, Tryz.ntmps86
  go_wp2_with fail
  refine HN.out.mono ?_
  rintro e w1 ⟨rfl, hA1, hk1⟩
  have HZ1 := hide (hZ0.keepK hk1 (by omega))
  have HK1 := hide ((Kp.of (g := g) hbA).trans hk1)
  have HA1 := hide hA1
  have hs1 : w.heap.size < w1.heap.size := HZ1.out.lt
  clear hA1 hk1 hbA hZ0 HN
  go_upto_region 2 with fail
  have HS2 : Hid (Blk (w1.alloc (.cells #[.string ⟨#[61]⟩, .string ⟨vn.toArray⟩, .bool va, .int .i64 (vs : Nat), .int .i64 (vt : Nat), .pointer none, .pointer none, .slice none 0 0, .int .i64 0, .slice none 0 0] 92)) w1.heap.size 92 [.string ⟨#[61]⟩, .string ⟨vn.toArray⟩, .bool va, .int .i64 (vs : Nat), .int .i64 (vt : Nat), .pointer none, .pointer none, .slice none 0 0, .int .i64 0, .slice none 0 0]) := hide ⟨heap_alloc_new _ _⟩
  have hb2 := bel1 w1 (.cells #[.string ⟨#[61]⟩, .string ⟨vn.toArray⟩, .bool va, .int .i64 (vs : Nat), .int .i64 (vt : Nat), .pointer none, .pointer none, .slice none 0 0, .int .i64 0, .slice none 0 0] 92)
  have HK2 := hide (HK1.out.trans (Kp.of hb2))
  have HZ2 := hide (HZ1.out.below hb2 HZ1.out.lt)
  have HA2 := hide (HA1.out.keep hb2)
  have hgN : g < w1.heap.size := HA1.out.b.lt
  clear hb2 HK1 HZ1 HA1
  generalize w1.alloc (.cells #[.string ⟨#[61]⟩, .string ⟨vn.toArray⟩, .bool va, .int .i64 (vs : Nat), .int .i64 (vt : Nat), .pointer none, .pointer none, .slice none 0 0, .int .i64 0, .slice none 0 0] 92) = W2 at *
  generalize w1.heap.size = N1 at *
  have HP1 := hide (pass_any W2 g ts F r1 [91] (by decide) HA2.out)
  have HPe : Hid (r1.pass ts [91] = if r1.is ts [91] = true then r1.step else r1) := hide rfl
  rw [HPe.out] at HP1
  clear HPe
  go_wp2_with fail
  refine HP1.out.mono ?_
  rintro e w3 ⟨rfl, hA3, hk3⟩
  have HK3 := hide (HK2.out.trans hk3)
  have HZ3 := hide (HZ2.out.keepK hk3 (by omega))
  have HS3 := hide (HS2.out.keepK hk3 (by omega))
  clear hk3 HP1 HK2 HZ2 HS2 HA2
  cases hx : r1.is ts [91] with
  | false =>
    rw [hx] at HV hA3 hfr
    simp only [if_false, Bool.false_eq_true] at HV hA3 hfr
    have HA3 := hide hA3
    clear hA3 hx
    have HT1 := hide (take_any w3 g ts F r1 [61] (by decide) HA3.out)
    go_wp2_with fail
    refine HT1.out.mono ?_
    rintro e w4 ⟨rfl, hA4, hk4⟩
    have HK4 := hide (HK3.out.trans hk4)
    have HZ4 := hide (HZ3.out.keepK hk4 (by omega))
    have HS4 := hide (HS3.out.keepK hk4 (by omega))
    have HWh := hide (whole_any w4 g ts F (Rd.take ts r1 [61]) hA4 (HG.out.keepK HK4.out hg9) hg9)
    have hn4 : N1 < w4.heap.size := HS4.out.lt
    clear hA4 hk4 HT1 HK3 HZ3 HS3 HA3
    generalize Rd.whole ts (Rd.take ts r1 [61]) = q9 at *
    obtain ⟨ex, r5⟩ := q9
    simp only at HV HWh hfr
    go_wp2_with fail
    refine HWh.out.mono ?_
    rintro e w5 ⟨q, rfl, hX5, hA5, hk5⟩
    have HK5 := hide (HK4.out.trans hk5)
    have HZ5 := hide (HZ4.out.keepK hk5 (by omega))
    have hS5 := HS4.out.keepK hk5 (by omega)
    have hv5 : r5.vars = r.vars := (fr_take (ts := ts) r5 [59]).vars.symm.trans hfr
    have x6 := hS5.get (j := 6) rfl
    have f6 := hS5.frz 6
    have HX6 := hide (PtE.setN (j := 6) (o := some ex) ⟨q, rfl, hX5⟩ (fun k (hk : w4.heap.size ≤ k) => by show k ≠ N1; omega) (.pointer (some ⟨q, 0, none⟩)))
    have HA6 := hide (RdA.setN (N := N1) (j := 6) HR.out HK5.out hA5 hv5 (by omega) (.pointer (some ⟨q, 0, none⟩)))
    have HK6 := hide (HK5.out.setN (N := N1) (j := 6) (by omega) (.pointer (some ⟨q, 0, none⟩)))
    have HZ6 := hide (HZ5.out.setN (N := N1) (j := 6) (by omega) (.pointer (some ⟨q, 0, none⟩)))
    have HS6 : Hid (Blk (w5.setCell ⟨N1, 6, none⟩ (.pointer (some ⟨q, 0, none⟩))) N1 92 [.string ⟨#[61]⟩, .string ⟨vn.toArray⟩, .bool va, .int .i64 (vs : Nat), .int .i64 (vt : Nat), .pointer none, .pointer (some ⟨q, 0, none⟩), .slice none 0 0, .int .i64 0, .slice none 0 0]) := hide (hS5.set 6 _)
    clear hX5 hA5 hk5 HWh HK4 HZ4 HS4 HK5 HZ5 hS5
    go_upto_region 7 with fail
    clear x6 f6
    generalize w5.setCell ⟨N1, 6, none⟩ (.pointer (some ⟨q, 0, none⟩)) = W6 at *
    have HT7 := hide (take_any W6 g ts F r5 [59] (by decide) HA6.out)
    go_wp2_with fail
    refine HT7.out.mono ?_
    rintro e w7 ⟨rfl, hA7, hk7⟩
    have HK7 := hide (HK6.out.trans hk7)
    have HZ7 := hide (HZ6.out.keepK hk7 (by omega))
    have HX7 := hide (HX6.out.keepK hk7 (fun j hj => by have : w4.heap.size ≤ j := hj; omega))
    have HA7 := hide hA7
    have hS7 := HS6.out.keepK hk7 (by omega)
    have x0 := hS7.get (j := 0) rfl
    have x1 := hS7.get (j := 1) rfl
    have x2 := hS7.get (j := 2) rfl
    have x3 := hS7.get (j := 3) rfl
    have x4 := hS7.get (j := 4) rfl
    have x5 := hS7.get (j := 5) rfl
    have x6 := hS7.get (j := 6) rfl
    have x7 := hS7.get (j := 7) rfl
    have x8 := hS7.get (j := 8) rfl
    have x9 := hS7.get (j := 9) rfl
    clear hA7 hk7 HK6 HZ6 HX6 HA6 HS6 HT7 hS7
    go_wp2_with (refine storeB [.string ⟨#[61]⟩, .string ⟨vn.toArray⟩, .bool va, .int .i64 (vs : Nat), .int .i64 (vt : Nat), .pointer none, .pointer (some ⟨q, 0, none⟩), .slice none 0 0, .int .i64 0, .slice none 0 0] info_st rfl rfl _ _ rfl w.heap.size rfl rfl _ HZ7.out rfl ?_)
    refine bodyPost_ret (results_cell_row rfl _ _ w.heap.size 92 (List.toArray [.string ⟨#[61]⟩, .string ⟨vn.toArray⟩, .bool va, .int .i64 (vs : Nat), .int .i64 (vt : Nat), .pointer none, .pointer (some ⟨q, 0, none⟩), .slice none 0 0, .int .i64 0, .slice none 0 0]) (0, 0) _ rfl (HZ7.out.put _).out Tryz.underlying92 rfl info_st) rfl ?_
    refine ⟨_, rfl, ?_⟩
    rw [HV.out]
    have hS : StA w7 { Sl.of [61] with var := ⟨vn, va, vs, vt⟩, val := some ex } (fun j => w.heap.size ≤ j ∧ j ≠ w.heap.size) [.string ⟨#[61]⟩, .string ⟨vn.toArray⟩, .bool va, .int .i64 (vs : Nat), .int .i64 (vt : Nat), .pointer none, .pointer (some ⟨q, 0, none⟩), .slice none 0 0, .int .i64 0, .slice none 0 0] := ⟨_, _, _, _, rfl, rfl, HX7.out.mono (fun j hj => by have : w4.heap.size ≤ j := hj; exact ⟨by omega, by omega⟩), rfl, rfl⟩
    exact st_fin HR.out HA7.out HK7.out hfr (Nat.le_refl _) hS _
  | true =>
    rw [hx] at HV hA3 hfr
    simp only [if_true] at HV hA3 hfr
    have HWi := hide (whole_any w3 g ts F r1.step hA3 (HG.out.keepK HK3.out hg9) hg9)
    have hfi := (fr_whole (ts := ts) r1.step).vars
    have hn3 : N1 < w3.heap.size := HS3.out.lt
    clear hA3 hx
    generalize Rd.whole ts r1.step = q8 at *
    obtain ⟨ei, r2⟩ := q8
    simp only at HV HWi hfr hfi
    have hv2 : r2.vars = r.vars := hfi.trans hfn
    go_wp2_with fail
    refine HWi.out.mono ?_
    rintro e wa ⟨p, rfl, hXa, hAa, hka⟩
    have HKa := hide (HK3.out.trans hka)
    have HZa := hide (HZ3.out.keepK hka (by omega))
    have hSa := HS3.out.keepK hka (by omega)
    have x5 := hSa.get (j := 5) rfl
    have f5 := hSa.frz 5
    have HPb0 := hide (PtE.setN (j := 5) (o := some ei) ⟨p, rfl, hXa⟩ (fun k (hk : w3.heap.size ≤ k) => by show k ≠ N1; omega) (.pointer (some ⟨p, 0, none⟩)))
    have HPb := hide (HPb0.out.mono (Y := fun k => N1 < k) (fun k hk => by have : w3.heap.size ≤ k := hk; show N1 < k; omega))
    have HAb := hide (RdA.setN (N := N1) (j := 5) HR.out HKa.out hAa hv2 (by omega) (.pointer (some ⟨p, 0, none⟩)))
    have HKb := hide (HKa.out.setN (N := N1) (j := 5) (by omega) (.pointer (some ⟨p, 0, none⟩)))
    have HZb := hide (HZa.out.setN (N := N1) (j := 5) (by omega) (.pointer (some ⟨p, 0, none⟩)))
    have HSb : Hid (Blk (wa.setCell ⟨N1, 5, none⟩ (.pointer (some ⟨p, 0, none⟩))) N1 92 [.string ⟨#[61]⟩, .string ⟨vn.toArray⟩, .bool va, .int .i64 (vs : Nat), .int .i64 (vt : Nat), .pointer (some ⟨p, 0, none⟩), .pointer none, .slice none 0 0, .int .i64 0, .slice none 0 0]) := hide (hSa.set 5 _)
    clear hXa hAa hka HWi HK3 HZ3 HS3 HKa HZa hSa HPb0
    go_upto_region 4 with fail
    clear x5 f5
    generalize wa.setCell ⟨N1, 5, none⟩ (.pointer (some ⟨p, 0, none⟩)) = Wb at *
    have HTc := hide (take_any Wb g ts F r2 [93] (by decide) HAb.out)
    go_wp2_with fail
    refine HTc.out.mono ?_
    rintro e w3 ⟨rfl, hA3, hk3⟩
    have HA3 := hide hA3
    have HK3 := hide (HKb.out.trans hk3)
    have HZ3 := hide (HZb.out.keepK hk3 (by omega))
    have HS3 := hide (HSb.out.keepK hk3 (by omega))
    have HP := hide (HPb.out.keepK hk3 (fun j hj => by have : N1 < j := hj; omega))
    clear hA3 hk3 HTc HAb HKb HZb HSb HPb
    have HT1 := hide (take_any w3 g ts F (Rd.take ts r2 [93]) [61] (by decide) HA3.out)
    go_wp2_with fail
    refine HT1.out.mono ?_
    rintro e w4 ⟨rfl, hA4, hk4⟩
    have HK4 := hide (HK3.out.trans hk4)
    have HZ4 := hide (HZ3.out.keepK hk4 (by omega))
    have HS4 := hide (HS3.out.keepK hk4 (by omega))
    have HP4 := hide (HP.out.keepK hk4 (fun j hj => by have : N1 < j := hj; omega))
    have HWh := hide (whole_any w4 g ts F (Rd.take ts (Rd.take ts r2 [93]) [61]) hA4 (HG.out.keepK HK4.out hg9) hg9)
    have hn4 : N1 < w4.heap.size := HS4.out.lt
    clear hA4 hk4 HT1 HK3 HZ3 HS3 HA3
    clear HP
    generalize Rd.whole ts (Rd.take ts (Rd.take ts r2 [93]) [61]) = q9 at *
    obtain ⟨ex, r5⟩ := q9
    simp only at HV HWh hfr
    go_wp2_with fail
    refine HWh.out.mono ?_
    rintro e w5 ⟨q, rfl, hX5, hA5, hk5⟩
    have HK5 := hide (HK4.out.trans hk5)
    have HZ5 := hide (HZ4.out.keepK hk5 (by omega))
    have hS5 := HS4.out.keepK hk5 (by omega)
    have HP5 := hide (HP4.out.keepK hk5 (fun j hj => by have : N1 < j := hj; omega))
    have hv5 : r5.vars = r.vars := (fr_take (ts := ts) r5 [59]).vars.symm.trans hfr
    have x6 := hS5.get (j := 6) rfl
    have f6 := hS5.frz 6
    have HX6 := hide (PtE.setN (j := 6) (o := some ex) ⟨q, rfl, hX5⟩ (fun k (hk : w4.heap.size ≤ k) => by show k ≠ N1; omega) (.pointer (some ⟨q, 0, none⟩)))
    have HA6 := hide (RdA.setN (N := N1) (j := 6) HR.out HK5.out hA5 hv5 (by omega) (.pointer (some ⟨q, 0, none⟩)))
    have HK6 := hide (HK5.out.setN (N := N1) (j := 6) (by omega) (.pointer (some ⟨q, 0, none⟩)))
    have HZ6 := hide (HZ5.out.setN (N := N1) (j := 6) (by omega) (.pointer (some ⟨q, 0, none⟩)))
    have HS6 : Hid (Blk (w5.setCell ⟨N1, 6, none⟩ (.pointer (some ⟨q, 0, none⟩))) N1 92 [.string ⟨#[61]⟩, .string ⟨vn.toArray⟩, .bool va, .int .i64 (vs : Nat), .int .i64 (vt : Nat), .pointer (some ⟨p, 0, none⟩), .pointer (some ⟨q, 0, none⟩), .slice none 0 0, .int .i64 0, .slice none 0 0]) := hide (hS5.set 6 _)
    have HP6 := hide (HP5.out.setN (N := N1) (j := 6) (fun k hk => by have : N1 < k := hk; omega) (.pointer (some ⟨q, 0, none⟩)))
    clear hX5 hA5 hk5 HWh HK4 HZ4 HS4 HK5 HZ5 hS5
    clear HP4 HP5
    go_upto_region 7 with fail
    clear x6 f6
    generalize w5.setCell ⟨N1, 6, none⟩ (.pointer (some ⟨q, 0, none⟩)) = W6 at *
    have HT7 := hide (take_any W6 g ts F r5 [59] (by decide) HA6.out)
    go_wp2_with fail
    refine HT7.out.mono ?_
    rintro e w7 ⟨rfl, hA7, hk7⟩
    have HK7 := hide (HK6.out.trans hk7)
    have HZ7 := hide (HZ6.out.keepK hk7 (by omega))
    have HX7 := hide (HX6.out.keepK hk7 (fun j hj => by have : w4.heap.size ≤ j := hj; omega))
    have HP7 := hide (HP6.out.keepK hk7 (fun j hj => by have : N1 < j := hj; omega))
    have HA7 := hide hA7
    have hS7 := HS6.out.keepK hk7 (by omega)
    have x0 := hS7.get (j := 0) rfl
    have x1 := hS7.get (j := 1) rfl
    have x2 := hS7.get (j := 2) rfl
    have x3 := hS7.get (j := 3) rfl
    have x4 := hS7.get (j := 4) rfl
    have x5 := hS7.get (j := 5) rfl
    have x6 := hS7.get (j := 6) rfl
    have x7 := hS7.get (j := 7) rfl
    have x8 := hS7.get (j := 8) rfl
    have x9 := hS7.get (j := 9) rfl
    clear hA7 hk7 HK6 HZ6 HX6 HA6 HS6 HT7 hS7
    clear HP6
    go_wp2_with (refine storeB [.string ⟨#[61]⟩, .string ⟨vn.toArray⟩, .bool va, .int .i64 (vs : Nat), .int .i64 (vt : Nat), .pointer (some ⟨p, 0, none⟩), .pointer (some ⟨q, 0, none⟩), .slice none 0 0, .int .i64 0, .slice none 0 0] info_st rfl rfl _ _ rfl w.heap.size rfl rfl _ HZ7.out rfl ?_)
    refine bodyPost_ret (results_cell_row rfl _ _ w.heap.size 92 (List.toArray [.string ⟨#[61]⟩, .string ⟨vn.toArray⟩, .bool va, .int .i64 (vs : Nat), .int .i64 (vt : Nat), .pointer (some ⟨p, 0, none⟩), .pointer (some ⟨q, 0, none⟩), .slice none 0 0, .int .i64 0, .slice none 0 0]) (0, 0) _ rfl (HZ7.out.put _).out Tryz.underlying92 rfl info_st) rfl ?_
    refine ⟨_, rfl, ?_⟩
    rw [HV.out]
    have hS : StA w7 { Sl.of [61] with var := ⟨vn, va, vs, vt⟩, idx := some ei, val := some ex } (fun j => w.heap.size ≤ j ∧ j ≠ w.heap.size) [.string ⟨#[61]⟩, .string ⟨vn.toArray⟩, .bool va, .int .i64 (vs : Nat), .int .i64 (vt : Nat), .pointer (some ⟨p, 0, none⟩), .pointer (some ⟨q, 0, none⟩), .slice none 0 0, .int .i64 0, .slice none 0 0] := ⟨_, _, _, _, rfl, HP7.out.mono (fun j hj => by have : N1 < j := hj; exact ⟨by omega, by omega⟩), HX7.out.mono (fun j hj => by have : w4.heap.size ≤ j := hj; exact ⟨by omega, by omega⟩), rfl, rfl⟩
    exact st_fin HR.out HA7.out HK7.out hfr (Nat.le_refl _) hS _
end Go.Proofs.YtiafodeabdhcoaaGreatDoor
