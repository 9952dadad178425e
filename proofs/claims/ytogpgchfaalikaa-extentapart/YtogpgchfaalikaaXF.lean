import Derived.Test.YtogpgchfaalikaaXE
namespace Go.Proofs.Ytogpgchfaalikaa
open Go.RowKit

theorem ap32 (z : Int) : wrap64 ((IntKind.u64.wrap z).tmod 32) = (((z % 32).toNat : Nat) : Int) := by
  have e1 : IntKind.u64.wrap z = z % 18446744073709551616 := by simp [IntKind.wrap, IntKind.signed, IntKind.bits]
  have e2 : (z % 18446744073709551616).tmod 32 = z % 18446744073709551616 % 32 := Int.tmod_eq_emod_of_nonneg (by omega)
  rw [e1, e2]
  unfold wrap64
  omega
theorem ap_free {L n : Nat} (hn : n < 32) : clr (fun _ => Cl.zero) L (n : Int) 5 = ((n : Int), 0) ∧ clC (fun _ => Cl.zero) L (n : Int) 5 = put (fun _ => Cl.zero) n ⟨5, 1⟩ := by
  have h1 : ¬ (n : Int) = -1 := by omega
  have h2 : (0 : Int) ≤ n ∧ (n : Int) < 32 := by omega
  have h3 : isCl (fun _ => Cl.zero) (n : Int) = false := by rw [isCl_nat _ hn]; rfl
  have h4 : clr (fun _ => Cl.zero) L (n : Int) 5 = ((n : Int), 0) := by
    unfold clr chr
    rw [if_neg (by omega), if_neg h1, if_neg (by simpa using h2), h3]; rfl
  exact ⟨h4, by unfold clC; rw [h4, if_pos rfl]; rfl⟩
set_option maxRecDepth 100000 in
set_option maxHeartbeats 6400000 in
theorem apart_walk (w : World) (z1 z2 : Int) (b : Nat) (hb : b < 256) :
    Calls Try.prog 4 #[.int .i64 z1, .int .i64 z2, .int .u8 (b : Int)] w fun e w' => e = .returned (.bool true) ∧ Below w.heap.size w w' := by
  go_enter Try.func4, Try.ntmps4
  go_wp2_with fail
  refine (new_any w).mono ?_
  rintro e1 w1 ⟨rfl, hD, hb1⟩
  have S0 : Sys w w emp := ⟨fun _ => False, fun b h => h, fun b h => h.elim, Below.refl _ _⟩
  have S1 := hide (S0.new good_emp hD (fun b h => by rw [h]; exact Nat.le_refl _) hb1)
  clear hD hb1 S0
  go_wp2_with fail
  refine (newE_any w1 w.heap.size).mono ?_
  rintro e1 w2 ⟨rfl, hT, hb2⟩
  have S2 : Hid (Sys w w2 (star (TbA w1.heap.size w.heap.size (fun _ => Cl.zero)) (star (DkA w.heap.size D0) emp))) :=
    hide (S1.out.new ((good_dk _ _).star good_emp) (Fc := fun b => b = w1.heap.size) ⟨hT, fun _ => Iff.rfl⟩ (fun b h => by rw [h]; exact Nat.le_refl _) hb2)
  clear hT hb2 S1
  obtain ⟨B, hB⟩ : ∃ B, B = w.heap.size := ⟨_, rfl⟩
  rw [← hB] at S2
  have e1 := ap32 z1
  have e2 := ap32 z2
  have hn : (z1 % 32).toNat < 32 := by omega
  have hs : (z2 % 32).toNat < 32 := by omega
  go_upto_region 9 with fail
  rw [e1, e2]
  rw [← hB]
  clear e1 e2
  generalize (z1 % 32).toNat = n at *
  generalize (z2 % 32).toNat = s at *
  generalize w1.heap.size = T at *
  obtain ⟨L, hL⟩ := low_any (fun _ => Cl.zero)
  have HC : Hid (Calls Try.prog 10 #[tp T, .int .i64 (n : Int), .int .i64 5] w2 fun e w' => e = .returned (.tuple #[.int .i64 (n : Int), .int .i64 0]) ∧ Sys w w' (star (TbA T B (put (fun _ => Cl.zero) n ⟨5, 1⟩)) (star (DkA B D0) emp))) := by
    obtain ⟨F, hX, hl, hk⟩ := S2.out.call ((good_dk _ _).star good_emp)
    have hc := claim_any w2 T (dvB B) _ hX.1 L hL (n : Int) 5
    rw [(ap_free hn).1, (ap_free hn).2] at hc
    refine hide (hc.mono ?_)
    rintro e w' ⟨rfl, hT', hA'⟩
    exact ⟨rfl, hk w' F _ ⟨hT', hX.2⟩ ⟨hA'.mod ((hX.2 T).2 rfl), fun _ h => .inl h⟩⟩
  clear hL S2
  go_wp2_with fail
  refine HC.out.mono ?_
  rintro e1 w3 ⟨rfl, hS3⟩
  have S3 := hide hS3
  clear hS3 HC
  have HCn : Hid (put (fun _ => Cl.zero) n ⟨5, 1⟩ n = ⟨5, 1⟩) := hide (put_same _ _ _)
  generalize hCC : put (fun _ => Cl.zero) n ⟨5, 1⟩ = C at *
  have HCC := hide hCC
  clear hCC
  go_wp2_with fail
  refine (run_any w3 b 129 (by omega)).mono ?_
  rintro e1 w4 ⟨vi, rfl, hvi, hb4⟩
  obtain ⟨gi, ci, rfl, _, hci, _⟩ := hvi.some_of (by simp)
  rw [List.length_replicate] at hvi hci ⊢
  have S4 := hide (S3.out.newOw ((good_tb _ _ _).star ((good_dk _ _).star good_emp)) hvi hb4)
  clear hvi hb4 S3
  obtain ⟨P, hP⟩ : ∃ P, n * 32 + s = P := ⟨_, rfl⟩
  have hPl : P < 1024 := by omega
  have HWr : Hid (Calls Try.prog 15 #[tp T, .int .i64 (n : Int), .int .i64 (s : Int), .slice (some ⟨gi, 0, none⟩) 128 ci] w4 fun e w' => e = .returned (.int .i64 0) ∧ Sys w w' (star (DkA B (D0.acted.put P (List.replicate 128 b))) (star (OwA (.slice (some ⟨gi, 0, none⟩) 129 ci) (List.replicate 129 b)) (star (TbA T B C) emp)))) := by
    obtain ⟨F0, hT0, _⟩ := S4.out.swap.first
    obtain ⟨F, G, hX, hY, hFG, hl, hk⟩ := S4.out.third.call2 (good_ow _ _) ((good_tb _ _ _).star good_emp)
    have hcut := hY.1.cut 128 (by simp)
    have hw := writeE_ok hT0.1 hX n s hn hs (by rw [HCn.out]; exact Nat.one_pos) (.slice (some ⟨gi, 0, none⟩) 128 ci) (List.replicate 128 b) (by have := hcut.rd; rwa [List.take_replicate] at this) ⟨by simp, fun x hx => by rw [(List.mem_replicate.1 hx).2]; exact hb⟩ (fun c hc hf => hFG c hf ((hY.2 c).2 hc)) rfl (fun h => by cases h) (by decide) (by decide)
    rw [hP] at hw
    refine hide (hw.mono ?_)
    rintro e w' ⟨rfl, F', hD', hX'⟩
    exact ⟨rfl, hk w' F' _ hD' hX'⟩
  go_wp2_with fail
  refine HWr.out.mono ?_
  rintro e1 w5 ⟨rfl, hS5⟩
  have S5 := hide hS5.swap
  clear hS5 HWr S4
  go_wp2_with fail
  refine (run_any w5 b 129 (by omega)).mono ?_
  rintro e1 w6 ⟨v2, rfl, hv2, hb6⟩
  have S6 := hide (S5.out.below ((good_ow _ _).star ((good_dk _ _).star ((good_tb _ _ _).star good_emp))) hb6)
  have HSm := hide (same_eq (.slice (some ⟨gi, 0, none⟩) 129 ci) v2 _ w6 (by obtain ⟨F, hX, _⟩ := S6.out.first; exact hX.1.rd) hv2.rd)
  clear hv2 hb6 S5
  go_wp2_with fail
  refine HSm.out.mono ?_
  rintro e1 w7 ⟨rfl, rfl⟩
  have S7 : Hid (Sys w w7 (star (AnA (.slice (some ⟨gi, 0, none⟩) 129 ci) 129) (star (DkA B (D0.acted.put P (List.replicate 128 b))) (star (TbA T B C) emp)))) := by
    refine hide (S6.out.mono ?_)
    rintro W H ⟨H1, H2, h1, h2, h3, h4⟩
    exact ⟨H1, H2, ⟨_, by have := h1.1; unfold Ow at this; rw [List.length_replicate] at this; exact this, h1.2⟩, h2, h3, h4⟩
  clear S6 HSm
  go_upto_region 16 with fail
  generalize hDD : D0.acted.put P (List.replicate 128 b) = D at *
  have HDs : Hid (D.seen P = List.replicate 128 b ∧ D.down = false) := hide ⟨by rw [← hDD]; show play zro (D0.c ++ [(P, List.replicate 128 b)]) P = _; rw [play_snoc]; exact upd_same _ _ _, by rw [← hDD]; rfl⟩
  clear hDD
  go_loopw [12] (fun x wx => ∃ k : Nat, k ≤ 129 ∧ x = .int .i64 (k : Int) ∧ Hid (Sys w wx (star (AnA (.slice (some ⟨gi, 0, none⟩) 129 ci) 129) (star (DkA B D) (star (TbA T B C) emp))))) (fun x _ => 129 - (intOf x).toNat)
  case atStart => exact ⟨0, by omega, rfl, S7⟩
  case round =>
  clear S7
  obtain ⟨k, hk, rfl, KK⟩ := hrel
  by_cases hlt : k < 129
  · have hd : decide ((k : Int) < 129) = true := by simp; omega
    have hk3 : (k : Int) < 129 := by omega
    obtain ⟨⟨u, c1⟩, f1⟩ := KK.out.cellN hlt
    have HN := hide (fun u => KK.out.setN ((good_dk _ _).star ((good_tb _ _ _).star good_emp)) k u)
    clear KK
    go_upto_region 17 with fail
    generalize Value.int IntKind.u8 (bits BinOp.xor IntKind.u8 _ _) = vv at *
    have HN2 := hide (HN.out vv)
    clear HN c1 f1
    generalize wr.setCell ⟨gi, k, none⟩ vv = wz at *
    go_wp2
    go_roundw
    case rel =>
      first
        | exact ⟨k + 1, by omega, by go_num, HN2⟩
        | ((repeat apply Exists.intro); refine ⟨?_, rfl⟩; exact ⟨k + 1, by omega, by go_num, HN2⟩)
    case measure => simp [intOf]; omega
  · obtain rfl : k = 129 := by omega
    have hgood := (good_an (.slice (some ⟨gi, 0, none⟩) 129 ci) 129).star ((good_dk B D).star ((good_tb T B C).star good_emp))
    have HRe : Hid (∀ (W : World) (R : Asn), Good R → Sys w W (star (DkA B D) (star (TbA T B C) R)) → Calls Try.prog 17 #[tp T, .int .i64 (n : Int), .int .i64 (s : Int)] W fun e w' => ∃ g c, e = .returned (.tuple #[.slice (some ⟨g, 0, none⟩) 128 c, .int .i64 0]) ∧ 128 ≤ c ∧ Sys w w' (star (OwA (.slice (some ⟨g, 0, none⟩) 128 c) (List.replicate 128 b)) (star (DkA B D) (star (TbA T B C) R)))) := by
      refine hide (fun W R hR hS => ?_)
      obtain ⟨F, hX, _⟩ := hS.first
      obtain ⟨F0, hT0, _⟩ := hS.swap.first
      have hr := readE_ok hT0.1 hX n s hn hs (by rw [HCn.out]; exact Nat.one_pos) HDs.out.2
      rw [hP, HDs.out.1] at hr
      refine hr.mono ?_
      rintro e w' ⟨r, rfl, hr1, hr2⟩
      obtain ⟨g, c, rfl, _, hc, _⟩ := hr1.some_of (by simp)
      rw [List.length_replicate] at hr1 hc ⊢
      exact ⟨g, c, rfl, hc, hS.newOw ((good_dk _ _).star ((good_tb _ _ _).star hR)) hr1 hr2⟩
    have S8 : Hid (Sys w wr (star (DkA B D) (star (TbA T B C) (star (AnA (.slice (some ⟨gi, 0, none⟩) 129 ci) 129) emp)))) :=
      hide (KK.out.swap.mono (fun _ _ => star_mono (fun _ _ => star_swap)))
    clear KK hgood
    go_wp2_with fail
    refine (HRe.out wr _ ((good_an _ _).star good_emp) S8.out).mono ?_
    rintro e1 w8 ⟨gx, cx, rfl, hcx, hS8⟩
    have S9 : Hid (Sys w w8 (star (DkA B D) (star (TbA T B C) (star (OwA (.slice (some ⟨gx, 0, none⟩) 128 cx) (List.replicate 128 b)) (star (AnA (.slice (some ⟨gi, 0, none⟩) 129 ci) 129) emp))))) :=
      hide (hS8.swap.mono (fun _ _ => star_mono (fun _ _ => star_swap)))
    clear S8 hS8
    go_wp2_with fail
    refine (HRe.out w8 _ ((good_ow _ _).star ((good_an _ _).star good_emp)) S9.out).mono ?_
    rintro e1 w9 ⟨gy, cy, rfl, hcy, hS9⟩
    have S10 : Hid (Sys w w9 (star (OwA (.slice (some ⟨gx, 0, none⟩) 128 cx) (mx ((b + 1) % 256) b 0 128)) (star (OwA (.slice (some ⟨gy, 0, none⟩) 128 cy) (mx ((b + 2) % 256) b 0 128)) (star (DkA B D) (star (TbA T B C) (star (AnA (.slice (some ⟨gi, 0, none⟩) 129 ci) 129) emp)))))) := by
      rw [mx_0, mx_0]
      exact hide hS9.fourth
    clear S9 hS9
    have e3 : IntKind.u8.wrap ((b : Int) + 1) = (((b + 1) % 256 : Nat) : Int) := by simp [IntKind.wrap, IntKind.signed, IntKind.bits]
    have e4 : IntKind.u8.wrap ((b : Int) + 2) = (((b + 2) % 256 : Nat) : Int) := by simp [IntKind.wrap, IntKind.signed, IntKind.bits]
    generalize hb1 : (b + 1) % 256 = b1 at *
    generalize hb2 : (b + 2) % 256 = b2 at *
    clear hb1 hb2
    go_upto_region 24 with fail
    go_loopw [17] (fun x wx => ∃ k : Nat, k ≤ 128 ∧ x = .int .i64 (k : Int) ∧ Hid (Sys w wx (star (OwA (.slice (some ⟨gx, 0, none⟩) 128 cx) (mx b1 b k 128)) (star (OwA (.slice (some ⟨gy, 0, none⟩) 128 cy) (mx b2 b k 128)) (star (DkA B D) (star (TbA T B C) (star (AnA (.slice (some ⟨gi, 0, none⟩) 129 ci) 129) emp))))))) (fun x _ => 128 - (intOf x).toNat)
    case atStart => exact ⟨0, by omega, rfl, S10⟩
    case round =>
    clear S10
    obtain ⟨k, hk, rfl, KK⟩ := hrel
    by_cases hlt2 : k < 128
    · have hd2 : decide ((k : Int) < 128) = true := by simp; omega
      have hk4 : (k : Int) < 128 := by omega
      have hG1 := (good_dk B D).star ((good_tb T B C).star ((good_an (.slice (some ⟨gi, 0, none⟩) 129 ci) 129).star good_emp))
      obtain ⟨F, hX, _⟩ := KK.out.first
      have c1 := hX.1.cell (j := k) (by rw [mx_len hk]; omega)
      have f1 := hX.1.frz k
      have S11 : Hid (Sys w (wr.setCell ⟨gx, k, none⟩ (By b1)) (star (OwA (.slice (some ⟨gy, 0, none⟩) 128 cy) (mx b2 b k 128)) (star (OwA (.slice (some ⟨gx, 0, none⟩) 128 cx) (mx b1 b (k + 1) 128)) (star (DkA B D) (star (TbA T B C) (star (AnA (.slice (some ⟨gi, 0, none⟩) 129 ci) 129) emp)))))) := by
        have := (KK.out.setB ((good_ow _ _).star hG1) (i := k) (c := b1)).swap
        rw [mx_set hlt2] at this
        exact hide this
      clear hX KK
      go_upto_region 27 with fail
      rw [show Value.int IntKind.u8 (b1 : Int) = By b1 from rfl]
      generalize wr.setCell ⟨gx, k, none⟩ (By b1) = wz at *
      obtain ⟨F2, hY, _⟩ := S11.out.first
      have c2 := hY.1.cell (j := k) (by rw [mx_len hk]; omega)
      have f2 := hY.1.frz k
      have S12 : Hid (Sys w (wz.setCell ⟨gy, k, none⟩ (By b2)) (star (OwA (.slice (some ⟨gx, 0, none⟩) 128 cx) (mx b1 b (k + 1) 128)) (star (OwA (.slice (some ⟨gy, 0, none⟩) 128 cy) (mx b2 b (k + 1) 128)) (star (DkA B D) (star (TbA T B C) (star (AnA (.slice (some ⟨gi, 0, none⟩) 129 ci) 129) emp)))))) := by
        have := (S11.out.setB ((good_ow _ _).star hG1) (i := k) (c := b2)).swap
        rw [mx_set hlt2] at this
        exact hide this
      clear hY S11 c1 f1 hG1
      go_upto_region 25 with fail
      rw [show Value.int IntKind.u8 (b2 : Int) = By b2 from rfl]
      generalize wz.setCell ⟨gy, k, none⟩ (By b2) = wy at *
      clear c2 f2
      go_wp2
      go_roundw
      case rel =>
        first
          | exact ⟨k + 1, by omega, by go_num, S12⟩
          | ((repeat apply Exists.intro); refine ⟨?_, rfl⟩; exact ⟨k + 1, by omega, by go_num, S12⟩)
      case measure => simp [intOf]; omega
    · obtain rfl : k = 128 := by omega
      rw [mx_all, mx_all] at KK
      have hG1 := (good_dk B D).star ((good_tb T B C).star ((good_an (.slice (some ⟨gi, 0, none⟩) 129 ci) 129).star good_emp))
      obtain ⟨i5, hi, hz, hs5, hb5⟩ := info5'
      have e5 : IntKind.u8.wrap ((b : Int) + 3) = (((b + 3) % 256 : Nat) : Int) := by simp [IntKind.wrap, IntKind.signed, IntKind.bits]
      have e6 : IntKind.u8.wrap ((b : Int) + 4) = (((b + 4) % 256 : Nat) : Int) := by simp [IntKind.wrap, IntKind.signed, IntKind.bits]
      generalize (b + 3) % 256 = b3 at *
      generalize (b + 4) % 256 = b4 at *
      have hox : wr.ownsRow 0 5 1 (.slice (some ⟨gx, 0, none⟩) 128 cx) 128 ((List.replicate 128 b1).map By) := by
        obtain ⟨F, hX, _⟩ := KK.out.first; have := hX.1; unfold Ow at this; rw [List.length_replicate] at this; exact this
      go_upto_region 29 with (at_builtin; refine wpList_append_own_at _ rfl _ _ 41 rfl 0 5 i5 (.int .u8 0) 1 1 Try.underlying41 hi hz hs5 hb5 rfl (by decide) (.slice (some ⟨gx, 0, none⟩) 128 cx) 128 ((List.replicate 128 b1).map By) rfl (hox.alloc _) ⟨wr.heap.size, 0, none⟩ 2 2 [.int .u8 (b3 : Int), .int .u8 (b3 : Int)] rfl rfl (cell_two_new _ _ _ _) (by simp [Value.oneCell']) (by unfold maxLen; omega) (by omega) (by omega) ?_; intro vx wx2 hox2 hgx _ hlx)
      have S13 : Hid (Sys w wx2 (star (OwA vx (List.replicate 128 b1 ++ [b3, b3])) (star (OwA (.slice (some ⟨gy, 0, none⟩) 128 cy) (List.replicate 128 b2)) (star (DkA B D) (star (TbA T B C) (star (AnA (.slice (some ⟨gi, 0, none⟩) 129 ci) 129) emp)))))) := by
        have h1 := KK.out.below ((good_ow _ _).star ((good_ow _ _).star hG1)) ((Below.refl wr.heap.size wr).alloc (Nat.le_refl _) (.cells #[.int .u8 (b3 : Int), .int .u8 (b3 : Int)] 5))
        exact hide (h1.app ((good_ow _ _).star hG1) (by unfold Ow; rw [List.map_append, List.length_append, List.length_replicate]; exact hox2) hgx hlx)
      clear hox hox2 hgx hlx KK
      have hoy : wx2.ownsRow 0 5 1 (.slice (some ⟨gy, 0, none⟩) 128 cy) 128 ((List.replicate 128 b2).map By) := by
        obtain ⟨F, hX, _⟩ := S13.out.swap.first; have := hX.1; unfold Ow at this; rw [List.length_replicate] at this; exact this
      go_upto_region 30 with (at_builtin; refine wpList_append_own_at _ rfl _ _ 41 rfl 0 5 i5 (.int .u8 0) 1 1 Try.underlying41 hi hz hs5 hb5 rfl (by decide) (.slice (some ⟨gy, 0, none⟩) 128 cy) 128 ((List.replicate 128 b2).map By) rfl (hoy.alloc _) ⟨wx2.heap.size, 0, none⟩ 2 2 [.int .u8 (b4 : Int), .int .u8 (b4 : Int)] rfl rfl (cell_two_new _ _ _ _) (by simp [Value.oneCell']) (by unfold maxLen; omega) (by omega) (by omega) ?_; intro vy wy2 hoy2 hgy _ hly)
      have S14 : Hid (Sys w wy2 (star (DkA B D) (star (TbA T B C) (star (OwA vy (List.replicate 128 b2 ++ [b4, b4])) (star (OwA vx (List.replicate 128 b1 ++ [b3, b3])) (star (AnA (.slice (some ⟨gi, 0, none⟩) 129 ci) 129) emp)))))) := by
        have h1 := S13.out.swap.below ((good_ow _ _).star ((good_ow _ _).star hG1)) ((Below.refl wx2.heap.size wx2).alloc (Nat.le_refl _) (.cells #[.int .u8 (b4 : Int), .int .u8 (b4 : Int)] 5))
        have h2 := h1.app (zs2 := List.replicate 128 b2 ++ [b4, b4]) ((good_ow _ _).star hG1) (by unfold Ow; rw [List.map_append, List.length_append, List.length_replicate]; exact hoy2) hgy hly
        exact hide h2.fourth.fourth
      clear hoy hoy2 hgy hly S13 hG1
      have HLs : Hid (∀ W, Tb W T (dvB B) C → Calls Try.prog 13 #[tp T] W fun e w' => ∃ g c, e = .returned (.slice (some ⟨g, 0, none⟩) 1 c) ∧ 1 ≤ c ∧ w'.ownsRow W.heap.size 39 3 (.slice (some ⟨g, 0, none⟩) 1 c) 1 [.int .i64 (n : Int), .int .i64 5, .int .i64 1] ∧ Below W.heap.size W w') := by
        refine hide (fun W hW => (list_any W T (dvB B) C hW).mono ?_)
        have hcl : cld C 32 = [n] := by rw [← HCC.out]; exact cld_one n hn
        have htl : tells C [n] = [.int .i64 (n : Int), .int .i64 5, .int .i64 1] := by
          show tell1 C n ++ [] = _
          rw [List.append_nil]; unfold tell1; rw [HCn.out]; rfl
        rintro e w' ⟨v, rfl, ho, hb'⟩
        rw [hcl, htl] at ho
        obtain ⟨g, c, rfl, hc⟩ := os_some ho (by simp)
        exact ⟨g, c, rfl, hc, ho, hb'⟩
      have hGX := (good_ow vy (List.replicate 128 b2 ++ [b4, b4])).star ((good_ow vx (List.replicate 128 b1 ++ [b3, b3])).star ((good_an (.slice (some ⟨gi, 0, none⟩) 129 ci) 129).star good_emp))
      obtain ⟨i39, hi9, hz9, hs9, hb9⟩ := info39
      go_wp2_with fail
      refine (HLs.out wy2 (by obtain ⟨F, hX, _⟩ := S14.out.swap.first; exact hX.1)).mono ?_
      rintro e1 wl ⟨gl, cl, rfl, hcl, hol, hbl⟩
      have S15 : Hid (Sys w wl (star (DkA B D) (star (TbA T B C) (star (OsA (.slice (some ⟨gl, 0, none⟩) 1 cl) 1 [.int .i64 (n : Int), .int .i64 5, .int .i64 1]) (star (OwA vy (List.replicate 128 b2 ++ [b4, b4])) (star (OwA vx (List.replicate 128 b1 ++ [b3, b3])) (star (AnA (.slice (some ⟨gi, 0, none⟩) 129 ci) 129) emp))))))) := hide (S14.out.newOs ((good_dk _ _).star ((good_tb _ _ _).star hGX)) hol hbl).back2
      clear hol hbl S14
      go_wp2_with fail
      refine (HLs.out wl (by obtain ⟨F, hX, _⟩ := S15.out.swap.first; exact hX.1)).mono ?_
      rintro e1 wm ⟨gm, cm, rfl, hcm, hom, hbm⟩
      have S16 : Hid (Sys w wm (star (OsA (.slice (some ⟨gl, 0, none⟩) 1 cl) 1 [.int .i64 (n : Int), .int .i64 5, .int .i64 1]) (star (DkA B D) (star (TbA T B C) (star (OsA (.slice (some ⟨gm, 0, none⟩) 1 cm) 1 [.int .i64 (n : Int), .int .i64 5, .int .i64 1]) (star (OwA vy (List.replicate 128 b2 ++ [b4, b4])) (star (OwA vx (List.replicate 128 b1 ++ [b3, b3])) (star (AnA (.slice (some ⟨gi, 0, none⟩) 129 ci) 129) emp)))))))) := hide (S15.out.newOs ((good_dk _ _).star ((good_tb _ _ _).star ((good_os _ _ _).star hGX))) hom hbm).back2.fourth
      clear hom hbm S15 HLs
      have hGL := (good_dk B D).star ((good_tb T B C).star ((good_os (.slice (some ⟨gm, 0, none⟩) 1 cm) 1 [.int .i64 (n : Int), .int .i64 5, .int .i64 1]).star hGX))
      obtain ⟨Fl, hXl, _⟩ := S16.out.first
      have cl0 : wm.cell? ⟨gl, 0, none⟩ = some (.int .i64 (n : Int)) := by have := World.ownsRow.cells hXl.1 rfl 0 _ rfl; rw [add0] at this; exact this
      have fl0 := os_frz hXl.1 0
      have S17 := hide (S16.out.setS hGL (i := 0) (.int .i64 40))
      clear hXl S16
      go_upto_region 35 with fail
      generalize wm.setCell ⟨gl, 0, none⟩ (.int .i64 40) = wn at *
      clear cl0 fl0
      simp only [List.set_cons_zero] at S17
      have hol2 : wn.ownsRow 0 39 3 (.slice (some ⟨gl, 0, none⟩) 1 cl) 1 [.int .i64 40, .int .i64 5, .int .i64 1] := by obtain ⟨F, hX, _⟩ := S17.out.first; exact hX.1
      go_upto_region 36 with (at_builtin; refine wpList_append_own_at _ rfl _ _ 36 rfl 0 39 i39 (.agg #[.int .i64 0, .int .i64 0, .int .i64 0]) 3 24 Try.underlying36 hi9 hz9 hs9 hb9 rfl (by decide) (.slice (some ⟨gl, 0, none⟩) 1 cl) 1 [.int .i64 40, .int .i64 5, .int .i64 1] rfl (hol2.alloc _) ⟨wn.heap.size, 0, none⟩ 1 1 [.int .i64 41, .int .i64 0, .int .i64 0] rfl rfl (cell_three_new _ _ _ _ _) (by simp [Value.oneCell']) (by unfold maxLen; omega) (by omega) (by omega) ?_; intro vl wl2 hol3 hgl _ hll)
      obtain ⟨gl2, cl2, rfl, hcl2⟩ := os_some hol3 (by omega)
      have S18 : Hid (Sys w wl2 (star (DkA B D) (star (TbA T B C) (star (OsA (.slice (some ⟨gl2, 0, none⟩) (1 + 1) cl2) (1 + 1) [.int .i64 40, .int .i64 5, .int .i64 1, .int .i64 41, .int .i64 0, .int .i64 0]) (star (OsA (.slice (some ⟨gm, 0, none⟩) 1 cm) 1 [.int .i64 (n : Int), .int .i64 5, .int .i64 1]) (star (OwA vy (List.replicate 128 b2 ++ [b4, b4])) (star (OwA vx (List.replicate 128 b1 ++ [b3, b3])) (star (AnA (.slice (some ⟨gi, 0, none⟩) 129 ci) 129) emp)))))))) := by
        have h1 := S17.out.below ((good_os _ _ _).star hGL) ((Below.refl wn.heap.size wn).alloc (Nat.le_refl _) (.cells #[.int .i64 41, .int .i64 0, .int .i64 0] 39))
        exact hide (h1.appS hGL hol3 hgl hll).back2
      clear hol2 hol3 hgl hll S17 hGL
      go_wp2_with fail
      refine (HRe.out wl2 _ ((good_os _ _ _).star ((good_os _ _ _).star hGX)) S18.out).mono ?_
      rintro e1 wq ⟨gz, cz, rfl, hcz, hS19⟩
      have S19 := hide hS19
      clear hS19 S18
      have HSe := hide (serial_any wq T (dvB B) C (by obtain ⟨F, hX, _⟩ := S19.out.third.first; exact hX.1) (n : Int))
      rw [isCl_nat _ hn, Int.toNat_natCast, HCn.out] at HSe
      simp only [Nat.one_pos, decide_true, if_true] at HSe
      go_wp2_with fail
      refine HSe.out.mono ?_
      rintro e1 wS ⟨rfl, rfl⟩
      have SX := S19.out.drop.drop.drop
      obtain ⟨Fz, hz1, _⟩ := S19.out.first
      obtain ⟨F1, hl1, _⟩ := SX.first
      obtain ⟨F2, hm1, _⟩ := SX.swap.first
      obtain ⟨F3, hy1, _⟩ := SX.third.first
      obtain ⟨F4, hx1, _⟩ := SX.fourth.first
      obtain ⟨gx2, cx2, rfl, _, hcx2, _⟩ := hx1.1.some_of (by simp)
      obtain ⟨gy2, cy2, rfl, _, hcy2, _⟩ := hy1.1.some_of (by simp)
      have Rz := hide hz1.1.rd
      have Rx := hide (hx1.1.cut 128 (by simp)).rd
      have Ry := hide (hy1.1.cut 128 (by simp)).rd
      simp only [List.take_left' (List.length_replicate ..)] at Rx Ry
      simp only [List.length_append, List.length_replicate, List.length_cons, List.length_nil, Nat.zero_add, Nat.reduceAdd] at hcx2 hcy2 ⊢
      have HBl := hide S19.out.bel
      have Hm : Hid (∀ W, Below wS.heap.size wS W → W.cell? ⟨gm, 0, none⟩ = some (.int .i64 (n : Int)) ∧ W.cell? ⟨gm, 1, none⟩ = some (.int .i64 5) ∧ W.cell? ⟨gm, 2, none⟩ = some (.int .i64 1) ∧ W.cell? ⟨gl2, 0, none⟩ = some (.int .i64 40)) := by
        refine hide (fun W hW => ?_)
        have c0 := World.ownsRow.cells hm1.1 rfl 0 _ rfl
        have c1 := World.ownsRow.cells hm1.1 rfl 1 _ rfl
        have c2 := World.ownsRow.cells hm1.1 rfl 2 _ rfl
        have c3 := World.ownsRow.cells hl1.1 rfl 0 _ rfl
        rw [add0] at c0 c1 c2 c3
        exact ⟨cell_belowN hW c0, cell_belowN hW c1, cell_belowN hW c2, cell_belowN hW c3⟩
      clear SX hz1 hl1 hm1 hy1 hx1 S19 HSe HRe hGX
      go_upto_region 38 with fail
      have hcx3 : (128 : Int) ≤ (cx2 : Int) := by omega
      have hcy3 : (128 : Int) ≤ (cy2 : Int) := by omega
      have HS0 : Hid (Below wS.heap.size wS wS.drew) := hide ⟨rfl, rfl, rfl, Nat.le_refl _, fun _ _ => rfl⟩
      refine wp_region_held_drew (S := fun W => Below wS.heap.size wS W) (by kernel_rfl) HS0.out (fun _ => ?_)
      generalize wS.drew = w20 at *
      refine hd_take 0 (o := ⟨some 169, _, _, _, _, _⟩) (.int .i64 0) (by kernel_rfl) (by kernel_rfl) (by kernel_rfl) rfl (by rfl) (fun W hSw => by go_simp) (fun _ _ _ h => h) HS0.out ?_
      simp only [Act.put, List.setIfInBounds_toArray, List.set_cons_zero, List.set_cons_succ]
      refine hd_take 1 (o := ⟨some 170, _, _, _, _, _⟩) (.bool true) (by kernel_rfl) (by kernel_rfl) (by kernel_rfl) rfl (by rfl) (fun W hSw => by go_simp) (fun _ _ _ h => h) HS0.out ?_
      simp only [Act.put, List.setIfInBounds_toArray, List.set_cons_zero, List.set_cons_succ]
      refine hd_take 2 (o := ⟨some 171, _, _, _, _, _⟩) (.bool true) (by kernel_rfl) (by kernel_rfl) (by kernel_rfl) rfl (by rfl) (fun W hSw => by go_simp) (fun _ _ _ h => h) HS0.out ?_
      simp only [Act.put, List.setIfInBounds_toArray, List.set_cons_zero, List.set_cons_succ]
      refine hd_take 3 (o := ⟨some 172, _, _, _, _, _⟩) (.int .i64 0) (by kernel_rfl) (by kernel_rfl) (by kernel_rfl) rfl (by rfl) (fun W hSw => by go_simp) (fun _ _ _ h => h) HS0.out ?_
      simp only [Act.put, List.setIfInBounds_toArray, List.set_cons_zero, List.set_cons_succ]
      refine hd_take 4 (o := ⟨some 173, _, _, _, _, _⟩) (.bool true) (by kernel_rfl) (by kernel_rfl) (by kernel_rfl) rfl (by rfl) (fun W hSw => by go_simp) (fun _ _ _ h => h) HS0.out ?_
      simp only [Act.put, List.setIfInBounds_toArray, List.set_cons_zero, List.set_cons_succ]
      refine hd_take 5 (o := ⟨some 174, _, _, _, _, _⟩) (.bool true) (by kernel_rfl) (by kernel_rfl) (by kernel_rfl) rfl (by rfl) (fun W hSw => by go_simp) (fun _ _ _ h => h) HS0.out ?_
      simp only [Act.put, List.setIfInBounds_toArray, List.set_cons_zero, List.set_cons_succ]
      refine hd_take 6 (o := ⟨some 175, _, _, _, _, _⟩) (.bool true) (by kernel_rfl) (by kernel_rfl) (by kernel_rfl) rfl (by rfl) (fun W hSw => by go_simp) (fun _ _ _ h => h) HS0.out ?_
      simp only [Act.put, List.setIfInBounds_toArray, List.set_cons_zero, List.set_cons_succ]
      refine hd_take 7 (o := ⟨some 176, _, _, _, _, _⟩) (.int .i64 5) (by kernel_rfl) (by kernel_rfl) (by kernel_rfl) rfl (by rfl) (fun W hSw => by go_simp) (fun _ _ _ h => h) HS0.out ?_
      simp only [Act.put, List.setIfInBounds_toArray, List.set_cons_zero, List.set_cons_succ]
      refine hd_take 8 (o := ⟨some 177, _, _, _, _, _⟩) (.bool true) (by kernel_rfl) (by kernel_rfl) (by kernel_rfl) rfl (by rfl) (fun W hSw => by go_simp) (fun _ _ _ h => h) HS0.out ?_
      simp only [Act.put, List.setIfInBounds_toArray, List.set_cons_zero, List.set_cons_succ]
      refine hd_take 9 (o := ⟨some 178, _, _, _, _, _⟩) (.bool true) (by kernel_rfl) (by kernel_rfl) (by kernel_rfl) rfl (by rfl) (fun W hSw => by go_simp) (fun _ _ _ h => h) HS0.out ?_
      simp only [Act.put, List.setIfInBounds_toArray, List.set_cons_zero, List.set_cons_succ]
      refine hd_take 10 (o := ⟨some 179, _, _, _, _, _⟩) (.bool true) (by kernel_rfl) (by kernel_rfl) (by kernel_rfl) rfl (by rfl) (fun W hSw => by go_simp) (fun _ _ _ h => h) HS0.out ?_
      simp only [Act.put, List.setIfInBounds_toArray, List.set_cons_zero, List.set_cons_succ]
      refine hd_take 11 (o := ⟨some 180, _, _, _, _, _⟩) (.slice (some ⟨gz, 0, none⟩) 128 cz) (by kernel_rfl) (by kernel_rfl) (by kernel_rfl) rfl (by rfl) (fun W hSw => by go_simp) (fun _ _ _ h => h) HS0.out ?_
      simp only [Act.put, List.setIfInBounds_toArray, List.set_cons_zero, List.set_cons_succ]
      refine hd_take 12 (o := ⟨some 181, _, _, _, _, _⟩) (.int .u8 (b : Int)) (by kernel_rfl) (by kernel_rfl) (by kernel_rfl) rfl (by rfl) (fun W hSw => by go_simp) (fun _ _ _ h => h) HS0.out ?_
      simp only [Act.put, List.setIfInBounds_toArray, List.set_cons_zero, List.set_cons_succ]
      refine hd_call 13 (o := ⟨some 182, _, _, _, _, _⟩) (by kernel_rfl) rfl (by rfl) (fun K hK => ?_)
      go_simp
      go_wp2_with (go_at_call 14; refine (run_any _ b 128 (by omega)).mono ?_; rintro e1 w21 ⟨vA, rfl, hv9, hb9'⟩)
      have HS13 := hide (HS0.out.trans (hb9'.mono HS0.out.size))
      have HvA := hide hv9
      clear hv9 hb9'
      refine hK _ _ HS13.out ?_
      clear hK K
      try simp only [Act.put, List.setIfInBounds_toArray, List.set_cons_zero, List.set_cons_succ]
      refine hd_call 14 (o := ⟨some 183, _, _, _, _, _⟩) (by kernel_rfl) rfl (by rfl) (fun K hK => ?_)
      go_simp
      go_wp2_with (go_at_call 16; refine (same_eq _ _ _ _ (Rz.out.below HS13.out (Nat.le_refl _)) HvA.out.rd).mono ?_; rintro e1 w99 ⟨rfl, rfl⟩)
      refine hK _ _ HS13.out ?_
      clear hK K
      try simp only [Act.put, List.setIfInBounds_toArray, List.set_cons_zero, List.set_cons_succ]
      refine hd_take 15 (o := ⟨some 184, _, _, _, _, _⟩) (.bool true) (by kernel_rfl) (by kernel_rfl) (by kernel_rfl) rfl (by rfl) (fun W hSw => by go_simp) (fun _ _ _ h => h) HS13.out ?_
      simp only [Act.put, List.setIfInBounds_toArray, List.set_cons_zero, List.set_cons_succ]
      refine hd_take 16 (o := ⟨some 185, _, _, _, _, _⟩) (.bool true) (by kernel_rfl) (by kernel_rfl) (by kernel_rfl) rfl (by rfl) (fun W hSw => by go_simp) (fun _ _ _ h => h) HS13.out ?_
      simp only [Act.put, List.setIfInBounds_toArray, List.set_cons_zero, List.set_cons_succ]
      refine hd_take 17 (o := ⟨some 186, _, _, _, _, _⟩) (.slice (some ⟨gx2, 0, none⟩) 130 cx2) (by kernel_rfl) (by kernel_rfl) (by kernel_rfl) rfl (by rfl) (fun W hSw => by go_simp) (fun _ _ _ h => h) HS13.out ?_
      simp only [Act.put, List.setIfInBounds_toArray, List.set_cons_zero, List.set_cons_succ]
      refine hd_take 18 (o := ⟨some 187, _, _, _, _, _⟩) (.slice (some ⟨gx2, 0, none⟩) 128 cx2) (by kernel_rfl) (by kernel_rfl) (by kernel_rfl) rfl (by rfl) (fun W hSw => by go_simp) (fun _ _ _ h => h) HS13.out ?_
      simp only [Act.put, List.setIfInBounds_toArray, List.set_cons_zero, List.set_cons_succ]
      refine hd_take 19 (o := ⟨some 188, _, _, _, _, _⟩) (.int .u8 (b : Int)) (by kernel_rfl) (by kernel_rfl) (by kernel_rfl) rfl (by rfl) (fun W hSw => by go_simp) (fun _ _ _ h => h) HS13.out ?_
      simp only [Act.put, List.setIfInBounds_toArray, List.set_cons_zero, List.set_cons_succ]
      refine hd_take 20 (o := ⟨some 189, _, _, _, _, _⟩) (.int .u8 (b1 : Int)) (by kernel_rfl) (by kernel_rfl) (by kernel_rfl) rfl (by rfl) (fun W hSw => by go_simp) (fun _ _ _ h => h) HS13.out ?_
      simp only [Act.put, List.setIfInBounds_toArray, List.set_cons_zero, List.set_cons_succ]
      refine hd_call 21 (o := ⟨some 190, _, _, _, _, _⟩) (by kernel_rfl) rfl (by rfl) (fun K hK => ?_)
      go_simp
      go_wp2_with (go_at_call 14; refine (run_any _ b1 128 (by omega)).mono ?_; rintro e1 w22 ⟨vB, rfl, hv9, hb9'⟩)
      have HS21 := hide (HS13.out.trans (hb9'.mono HS13.out.size))
      have HvB := hide hv9
      clear hv9 hb9'
      refine hK _ _ HS21.out ?_
      clear hK K
      try simp only [Act.put, List.setIfInBounds_toArray, List.set_cons_zero, List.set_cons_succ]
      refine hd_call 22 (o := ⟨some 191, _, _, _, _, _⟩) (by kernel_rfl) rfl (by rfl) (fun K hK => ?_)
      go_simp
      go_wp2_with (go_at_call 16; refine (same_eq _ _ _ _ (Rx.out.below HS21.out (Nat.le_refl _)) HvB.out.rd).mono ?_; rintro e1 w99 ⟨rfl, rfl⟩)
      refine hK _ _ HS21.out ?_
      clear hK K
      try simp only [Act.put, List.setIfInBounds_toArray, List.set_cons_zero, List.set_cons_succ]
      refine hd_take 23 (o := ⟨some 192, _, _, _, _, _⟩) (.bool true) (by kernel_rfl) (by kernel_rfl) (by kernel_rfl) rfl (by rfl) (fun W hSw => by go_simp) (fun _ _ _ h => h) HS21.out ?_
      simp only [Act.put, List.setIfInBounds_toArray, List.set_cons_zero, List.set_cons_succ]
      refine hd_take 24 (o := ⟨some 193, _, _, _, _, _⟩) (.bool true) (by kernel_rfl) (by kernel_rfl) (by kernel_rfl) rfl (by rfl) (fun W hSw => by go_simp) (fun _ _ _ h => h) HS21.out ?_
      simp only [Act.put, List.setIfInBounds_toArray, List.set_cons_zero, List.set_cons_succ]
      refine hd_take 25 (o := ⟨some 194, _, _, _, _, _⟩) (.slice (some ⟨gy2, 0, none⟩) 130 cy2) (by kernel_rfl) (by kernel_rfl) (by kernel_rfl) rfl (by rfl) (fun W hSw => by go_simp) (fun _ _ _ h => h) HS21.out ?_
      simp only [Act.put, List.setIfInBounds_toArray, List.set_cons_zero, List.set_cons_succ]
      refine hd_take 26 (o := ⟨some 195, _, _, _, _, _⟩) (.slice (some ⟨gy2, 0, none⟩) 128 cy2) (by kernel_rfl) (by kernel_rfl) (by kernel_rfl) rfl (by rfl) (fun W hSw => by go_simp) (fun _ _ _ h => h) HS21.out ?_
      simp only [Act.put, List.setIfInBounds_toArray, List.set_cons_zero, List.set_cons_succ]
      refine hd_take 27 (o := ⟨some 196, _, _, _, _, _⟩) (.int .u8 (b : Int)) (by kernel_rfl) (by kernel_rfl) (by kernel_rfl) rfl (by rfl) (fun W hSw => by go_simp) (fun _ _ _ h => h) HS21.out ?_
      simp only [Act.put, List.setIfInBounds_toArray, List.set_cons_zero, List.set_cons_succ]
      refine hd_take 28 (o := ⟨some 197, _, _, _, _, _⟩) (.int .u8 (b2 : Int)) (by kernel_rfl) (by kernel_rfl) (by kernel_rfl) rfl (by rfl) (fun W hSw => by go_simp) (fun _ _ _ h => h) HS21.out ?_
      simp only [Act.put, List.setIfInBounds_toArray, List.set_cons_zero, List.set_cons_succ]
      refine hd_call 29 (o := ⟨some 198, _, _, _, _, _⟩) (by kernel_rfl) rfl (by rfl) (fun K hK => ?_)
      go_simp
      go_wp2_with (go_at_call 14; refine (run_any _ b2 128 (by omega)).mono ?_; rintro e1 w23 ⟨vC, rfl, hv9, hb9'⟩)
      have HS29 := hide (HS21.out.trans (hb9'.mono HS21.out.size))
      have HvC := hide hv9
      clear hv9 hb9'
      refine hK _ _ HS29.out ?_
      clear hK K
      try simp only [Act.put, List.setIfInBounds_toArray, List.set_cons_zero, List.set_cons_succ]
      refine hd_call 30 (o := ⟨some 199, _, _, _, _, _⟩) (by kernel_rfl) rfl (by rfl) (fun K hK => ?_)
      go_simp
      go_wp2_with (go_at_call 16; refine (same_eq _ _ _ _ (Ry.out.below HS29.out (Nat.le_refl _)) HvC.out.rd).mono ?_; rintro e1 w99 ⟨rfl, rfl⟩)
      refine hK _ _ HS29.out ?_
      clear hK K
      try simp only [Act.put, List.setIfInBounds_toArray, List.set_cons_zero, List.set_cons_succ]
      refine hd_take 31 (o := ⟨some 200, _, _, _, _, _⟩) (.bool true) (by kernel_rfl) (by kernel_rfl) (by kernel_rfl) rfl (by rfl) (fun W hSw => by go_simp) (fun _ _ _ h => h) HS29.out ?_
      simp only [Act.put, List.setIfInBounds_toArray, List.set_cons_zero, List.set_cons_succ]
      refine hd_take 32 (o := ⟨some 201, _, _, _, _, _⟩) (.bool true) (by kernel_rfl) (by kernel_rfl) (by kernel_rfl) rfl (by rfl) (fun W hSw => by go_simp) (fun _ _ _ h => h) HS29.out ?_
      simp only [Act.put, List.setIfInBounds_toArray, List.set_cons_zero, List.set_cons_succ]
      refine hd_take 33 (o := ⟨some 202, _, _, _, _, _⟩) (.slice (some ⟨gm, 0, none⟩) 1 cm) (by kernel_rfl) (by kernel_rfl) (by kernel_rfl) rfl (by rfl) (fun W hSw => by go_simp) (fun _ _ _ h => h) HS29.out ?_
      simp only [Act.put, List.setIfInBounds_toArray, List.set_cons_zero, List.set_cons_succ]
      refine hd_take 34 (o := ⟨some 203, _, _, _, _, _⟩) (.pointer (some ⟨gm, 0, none⟩)) (by kernel_rfl) (by kernel_rfl) (by kernel_rfl) rfl (by rfl) (fun W hSw => by go_simp) (fun _ _ _ h => h) HS29.out ?_
      simp only [Act.put, List.setIfInBounds_toArray, List.set_cons_zero, List.set_cons_succ]
      refine hd_take 35 (o := ⟨some 204, _, _, _, _, _⟩) (.agg #[.int .i64 (n : Int), .int .i64 5, .int .i64 1]) (by kernel_rfl) (by kernel_rfl) (by kernel_rfl) rfl (by rfl) (fun W hSw => by obtain ⟨q0, q1, q2, q3⟩ := Hm.out W hSw; go_simp) (fun _ _ _ h => h) HS29.out ?_
      simp only [Act.put, List.setIfInBounds_toArray, List.set_cons_zero, List.set_cons_succ]
      refine hd_take 36 (o := ⟨some 205, _, _, _, _, _⟩) (.int .i64 (n : Int)) (by kernel_rfl) (by kernel_rfl) (by kernel_rfl) rfl (by rfl) (fun W hSw => by go_simp) (fun _ _ _ h => h) HS29.out ?_
      simp only [Act.put, List.setIfInBounds_toArray, List.set_cons_zero, List.set_cons_succ]
      refine hd_take 37 (o := ⟨some 206, _, _, _, _, _⟩) (.agg #[.int .i64 (n : Int), .int .i64 5, .int .i64 1]) (by kernel_rfl) (by kernel_rfl) (by kernel_rfl) rfl (by rfl) (fun W hSw => by go_simp) (fun _ _ _ h => h) HS29.out ?_
      simp only [Act.put, List.setIfInBounds_toArray, List.set_cons_zero, List.set_cons_succ]
      refine hd_take 38 (o := ⟨some 207, _, _, _, _, _⟩) (.bool true) (by kernel_rfl) (by kernel_rfl) (by kernel_rfl) rfl (by rfl) (fun W hSw => by go_simp) (fun _ _ _ h => h) HS29.out ?_
      simp only [Act.put, List.setIfInBounds_toArray, List.set_cons_zero, List.set_cons_succ]
      refine hd_take 39 (o := ⟨some 208, _, _, _, _, _⟩) (.bool true) (by kernel_rfl) (by kernel_rfl) (by kernel_rfl) rfl (by rfl) (fun W hSw => by go_simp) (fun _ _ _ h => h) HS29.out ?_
      simp only [Act.put, List.setIfInBounds_toArray, List.set_cons_zero, List.set_cons_succ]
      refine hd_take 40 (o := ⟨some 209, _, _, _, _, _⟩) (.bool true) (by kernel_rfl) (by kernel_rfl) (by kernel_rfl) rfl (by rfl) (fun W hSw => by go_simp) (fun _ _ _ h => h) HS29.out ?_
      simp only [Act.put, List.setIfInBounds_toArray, List.set_cons_zero, List.set_cons_succ]
      refine hd_take 41 (o := ⟨some 210, _, _, _, _, _⟩) (.slice (some ⟨gl2, 0, none⟩) 2 cl2) (by kernel_rfl) (by kernel_rfl) (by kernel_rfl) rfl (by rfl) (fun W hSw => by go_simp) (fun _ _ _ h => h) HS29.out ?_
      simp only [Act.put, List.setIfInBounds_toArray, List.set_cons_zero, List.set_cons_succ]
      refine hd_take 42 (o := ⟨some 211, _, _, _, _, _⟩) (.pointer (some ⟨gl2, 0, none⟩)) (by kernel_rfl) (by kernel_rfl) (by kernel_rfl) rfl (by rfl) (fun W hSw => by go_simp) (fun _ _ _ h => h) HS29.out ?_
      simp only [Act.put, List.setIfInBounds_toArray, List.set_cons_zero, List.set_cons_succ]
      refine hd_take 43 (o := ⟨some 212, _, _, _, _, _⟩) (.pointer (some ⟨gl2, 0, none⟩)) (by kernel_rfl) (by kernel_rfl) (by kernel_rfl) rfl (by rfl) (fun W hSw => by go_simp) (fun _ _ _ h => h) HS29.out ?_
      simp only [Act.put, List.setIfInBounds_toArray, List.set_cons_zero, List.set_cons_succ]
      refine hd_take 44 (o := ⟨some 213, _, _, _, _, _⟩) (.int .i64 40) (by kernel_rfl) (by kernel_rfl) (by kernel_rfl) rfl (by rfl) (fun W hSw => by obtain ⟨q0, q1, q2, q3⟩ := Hm.out W hSw; go_simp) (fun _ _ _ h => h) HS29.out ?_
      simp only [Act.put, List.setIfInBounds_toArray, List.set_cons_zero, List.set_cons_succ]
      refine hd_take 45 (o := ⟨some 214, _, _, _, _, _⟩) (.bool true) (by kernel_rfl) (by kernel_rfl) (by kernel_rfl) rfl (by rfl) (fun W hSw => by go_simp) (fun _ _ _ h => h) HS29.out ?_
      simp only [Act.put, List.setIfInBounds_toArray, List.set_cons_zero, List.set_cons_succ]
      refine hd_take 46 (o := ⟨some 215, _, _, _, _, _⟩) (.bool true) (by kernel_rfl) (by kernel_rfl) (by kernel_rfl) rfl (by rfl) (fun W hSw => by go_simp) (fun _ _ _ h => h) HS29.out ?_
      simp only [Act.put, List.setIfInBounds_toArray, List.set_cons_zero, List.set_cons_succ]
      refine hd_take 47 (o := ⟨some 6, _, _, _, _, _⟩) (.bool true) (by kernel_rfl) (by kernel_rfl) (by kernel_rfl) rfl (by rfl) (fun W hSw => by go_simp) (fun _ _ _ h => h) HS29.out ?_
      simp only [Act.put, List.setIfInBounds_toArray, List.set_cons_zero, List.set_cons_succ]
      refine wpAnyH_done (by kernel_rfl) ?_ _
      have HF := hide (HBl.out.trans (HS29.out.mono HBl.out.size))
      go_wp2
      go_ret
      exact ⟨rfl, HF.out⟩
end Go.Proofs.Ytogpgchfaalikaa
