import Derived.Test.YteacmcdmdeckmaaGreatME
namespace Go.Proofs.YteacmcdmdeckmaaGreat
open Go.RowKit

theorem Drops.chain {ps : List (Nat × Nat)} {bk bk' : List (Option Lst)} (h : Drops ps bk bk') : ∃ ms : Nat → List (Option Lst), ms 0 = bk ∧ ms ps.length = bk' ∧ ∀ k, k ≤ ps.length → Drops (ps.take k) bk (ms k) ∧ ∀ p, ps[k]? = some p → ∃ r, atB (ms k) (p.1 : Int) (p.2 : Int) = some r ∧ DropR (ms k) p.1 p.2 r (ms (k + 1)) := by
  induction h using Drops.ind with
  | nil bk => exact ⟨fun _ => bk, rfl, rfl, fun k hk => ⟨by simp; exact Drops.nil _, fun p hp => by simp at hp⟩⟩
  | snoc h0 hr hd ih =>
    rename_i ps bk m bk' p r
    obtain ⟨ms, e0, e1, e2⟩ := ih
    refine ⟨fun k => if k ≤ ps.length then ms k else bk', by simp [e0], by simp; omega, fun k hk => ?_⟩
    by_cases h1 : k < ps.length
    · obtain ⟨q1, q2⟩ := e2 k (by omega)
      rw [List.take_append_of_le_length (by omega), List.getElem?_append_left h1]
      simp only [if_pos (show k ≤ ps.length by omega), if_pos (show k + 1 ≤ ps.length by omega)]
      exact ⟨q1, q2⟩
    · by_cases h2 : k = ps.length
      · subst h2
        refine ⟨?_, fun q hq => ?_⟩
        · simp only [List.take_left', if_pos (Nat.le_refl _)]
          rw [e1]; exact h0
        · simp at hq
          subst hq
          simp only [if_pos (Nat.le_refl _), if_neg (show ¬ ps.length + 1 ≤ ps.length by omega)]
          rw [e1]
          exact ⟨r, hr, hd⟩
      · have hk2 : k = ps.length + 1 := by simp at hk; omega
        subst hk2
        refine ⟨?_, fun q hq => ?_⟩
        · simp only [if_neg (show ¬ ps.length + 1 ≤ ps.length by omega)]
          rw [List.take_of_length_le (by simp)]
          exact Drops.snoc h0 hr hd
        · rw [List.getElem?_eq_none (by simp)] at hq; cases hq
theorem Drops.caps {ps : List (Nat × Nat)} {bk m : List (Option Lst)} (h : Drops ps bk m) : ∀ (a b : Nat) (r' : Rc), atB m (a : Int) (b : Int) = some r' → ∃ r, atB bk (a : Int) (b : Int) = some r ∧ r'.k = r.k ∧ r'.o = r.o ∧ r'.s = r.s ∧ r'.r = r.r := by
  induction h using Drops.ind with
  | nil bk => exact fun a b r h => ⟨r, h, rfl, rfl, rfl, rfl⟩
  | snoc h0 hr hd ih =>
    rename_i ps bk m bk' p r
    intro a b r' h
    rw [hd.2 a b] at h
    split at h
    · cases h
    · rw [Option.map_eq_some_iff] at h
      obtain ⟨r2, h2, rfl⟩ := h
      obtain ⟨r3, h3, c1, c2, c3, c4⟩ := ih a b r2 h2
      refine ⟨r3, h3, ?_⟩
      unfold rp
      split
      · exact ⟨c1, c2, c3, c4⟩
      · exact ⟨c1, c2, c3, c4⟩
theorem Drops.p8 {ps : List (Nat × Nat)} {bk m : List (Option Lst)} (h : Drops ps bk m) (hp : P8 bk) : P8 m := by
  refine Nat.le_trans (nodup_le _ _ (pls_nodup (fun _ => true) m) (fun x hx => ?_)) hp
  obtain ⟨a, b⟩ := x
  obtain ⟨r, hr, _⟩ := mem_pls.1 hx
  obtain ⟨r2, h2, _⟩ := h.caps a b r hr
  exact mem_pls.2 ⟨r2, h2, rfl⟩
theorem Ext.low' {F F' : Nat → Prop} {w a b : World} (h : Ext F w F' a) (k : Below w.heap.size a b) : Ext F w F' b :=
  ⟨⟨k.os.trans h.mod.os, k.tape.trans h.mod.tape, k.output.trans h.mod.output, Nat.le_trans h.mod.size k.size, fun x hx hn => (k.block x hx).trans (h.mod.block x hx hn)⟩, h.new⟩
theorem grew_low {wr w2 : World} {base e size n : Nat} {v : Value} {xs : List Value} {o : Obj} (ho : wr.ownsRow base e size v n xs) (hb : base ≤ wr.heap.size) (hg : (wr.alloc o).grownBy w2 v.ownBlock) : Below base wr w2 := by
  have hb1 : Below base wr (wr.alloc o) := (Below.refl _ _).alloc hb o
  exact hb1.grown hg (Nat.le_trans hb hb1.size) (fun b hb' => (World.ownsRow.lt ho b hb').1)
section
variable {w : World} {R : Nat} {bk bk' : List (Option Lst)} {F : Nat → Prop} {v : Value} {K : List Rw}
theorem RbAt.grown {wr w2 : World} {base n : Nat} {u : Value} {xs : List Value} {o : Obj} (h : RbAt wr R v bk K) (ho : wr.ownsRow base 78 6 u n xs) (hR : R < base) (hb : base ≤ wr.heap.size) (hg : (wr.alloc o).grownBy w2 u.ownBlock) : RbAt w2 R v bk K := by
  refine ⟨?_, keep_two ho h.row (by decide) hg, h.ne⟩
  rw [(grew_low ho hb hg).block R hR]; exact h.top
theorem held_kept {w4 w5 : World} {F' F'' : Nat → Prop} {base n : Nat} {u : Value} {xs : List Value} (h : RbAt w4 R v bk K) (he : ∀ b, F' b ↔ b = R ∨ v.ownBlock = some b) (ho : w4.ownsRow base 78 6 u n xs) (hR : R < base) (hx : Ext F' w4 F'' w5) : w5.ownsRow base 78 6 u n xs := by
  refine ownsRow_keep ho (fun b hb => hx.mod.block b (ownsRow_lt ho hb) (fun hf => ?_))
  rcases (he b).1 hf with rfl | e
  · have := (World.ownsRow.lt ho b hb).1; omega
  · exact own_type ho h.row (by decide) hb e
theorem shut_fin {wr : World} {F' : Nat → Prop} {i n : Nat} {l : Lst} {u : Value} {xs : List Value} (h : RbA R bk' wr F') (hx : Ext F w F' wr) (ho : wr.ownsRow w.heap.size 78 6 u n xs) (hR : R < w.heap.size) (hi : i < 16) (hl : bk[i]? = some (some l)) (hd : Drops (plc i (prs l 0)) bk bk') : (wr.setCell ⟨R, i, none⟩ (.bool false)).ownsRow w.heap.size 78 6 u n xs ∧ RbA R (bk'.set i none) (wr.setCell ⟨R, i, none⟩ (.bool false)) F' ∧ Ext F w F' (wr.setCell ⟨R, i, none⟩ (.bool false)) := by
  obtain ⟨v, K, h, ha, he⟩ := h
  have hfr : F' R := (he R).2 (.inl rfl)
  refine ⟨ownsRow_keep ho (fun b hb => heap_setCell_other _ _ _ _ (fun e => by
    have := (World.ownsRow.lt ho b hb).1
    have e2 : b = R := e
    omega)), ⟨v, K, ⟨?_, ownsRow_keep h.row (fun b hb => heap_setCell_other _ _ _ _ (fun e => h.ne (by have e2 : b = R := e; rw [← e2]; exact hb))), h.ne⟩, ⟨ha.srt, fun a b r => by rw [ha.mem, shut_view hl hd]⟩, he⟩, hx.mod.setCell ((hx.new R hfr).imp id id) _, hx.new⟩
  rw [heap_setCell_same _ _ _ _ _ _ h.top, flg_set bk' (bk'.set i none) (t := false) hi (fun x hx => by
    rw [look_nat, look_nat, List.getElem?_set]
    split
    · rename_i e
      subst e
      rw [if_pos rfl]
      split <;> rfl
    · rename_i e
      rw [if_neg (fun e' => e e'.symm)])]
  congr 2
  apply Array.ext'
  simp only [Array.toList_setIfInBounds]
  rw [List.set_append_left _ _ (by rw [flg_len]; exact hi)]
set_option maxHeartbeats 3200000 in
theorem shutD_none (h : RbA R bk w F) (hw : Wb bk) (e : Int) (hn : look bk e = none) : Calls Tryz.prog 52 #[tp R, .int .i64 e] w fun x w' => x = .returned (.tuple #[.slice none 0 0, .int .i64 83]) ∧ w' = w := by
  obtain ⟨v, K, h, ha, he⟩ := h
  have HH := hide (hasR_any h hw e)
  rw [hn] at HH
  clear h hn hw ha he
  go_enter Tryz.func52, Tryz.ntmps52
  go_wp2_with fail
  refine HH.out.mono ?_
  rintro e1 w1 ⟨rfl, rfl⟩
  go_wp2
  go_ret2
  exact ⟨rfl, rfl⟩
set_option maxRecDepth 100000 in
set_option maxHeartbeats 6400000 in
theorem shutD_some (h : RbA R bk w F) (hw : Wb bk) (i : Nat) (l : Lst) (hl : bk[i]? = some (some l)) (hdr : Drops (plc i (prs l 0)) bk bk') : Calls Tryz.prog 52 #[tp R, .int .i64 (i : Int)] w fun x w' => ∃ u F', x = .returned (.tuple #[u, .int .i64 0]) ∧ w'.ownsRow w.heap.size 78 6 u (prs l 0).length (encHs (i : Int) (prs l 0)) ∧ RbA R (bk'.set i none) w' F' ∧ Ext F w F' w' := by
  obtain ⟨i6, hi6, hz6, hs6, hb6⟩ := info54'
  have hi16 : i < 16 := by have := (List.getElem?_eq_some_iff.1 hl).1; rw [hw.l16] at this; exact this
  have hii : (i : Int) < 16 := by omega
  have h48 := hw.l48 i l hl
  have hp8 := hw.p8
  obtain ⟨ms, hm0, hm1, hm2⟩ := hdr.chain
  have HH : Hid (Calls Tryz.prog 35 #[tp R, .int .i64 (i : Int)] w fun x w' => x = .returned (.bool true) ∧ w' = w) := by
    obtain ⟨v, K, h, ha, he⟩ := h
    have := hasR_any h hw (i : Int)
    rw [look_nat, hl] at this
    exact hide this
  have Hlt : Hid (R < w.heap.size) := by
    obtain ⟨v, K, h, ha, he⟩ := h
    exact hide h.lt
  have HL := hide hl
  have HDr := hide hdr
  have HM1 : Hid (ms (prs l 0).length = bk') := hide (by rw [← hm1]; simp [plc])
  have HM2 : Hid (∀ k, k ≤ (prs l 0).length → Drops (plc i ((prs l 0).take k)) bk (ms k) ∧ ∀ x, (prs l 0)[k]? = some x → ∃ r, atB (ms k) (i : Int) (x.1 : Int) = some r ∧ DropR (ms k) i x.1 r (ms (k + 1))) := hide (fun k hk => by
    obtain ⟨q1, q2⟩ := hm2 k (by simp [plc]; exact hk)
    refine ⟨by rw [show plc i ((prs l 0).take k) = (plc i (prs l 0)).take k by simp [plc]]; exact q1, fun x hx => ?_⟩
    exact q2 (i, x.1) (by simp [plc, hx]))
  have H48 := hide h48
  have HP8 := hide hp8
  have HSt : Hid (∃ dn F', prs l 0 = dn ++ prs l 0 ∧ dn.length = 0 ∧ RbA R (ms 0) w F' ∧ Ext F w F' w ∧ w.ownsRow w.heap.size 78 6 (.slice none 0 0) 0 (encHs (i : Int) dn)) := hide ⟨[], F, rfl, rfl, by rw [hm0]; exact h, Ext.refl _ _, World.ownsRow_nil _ _ _ _⟩
  clear h hw hl hdr h48 hp8 hm0 hm1 hm2
  go_enter Tryz.func52, Tryz.ntmps52
  go_wp2_with fail
  refine HH.out.mono ?_
  rintro e1 w1 ⟨rfl, hw1⟩
  subst hw1
  clear HH
  go_wp2
  go_loopw [6, 7] (fun gv x wr => ∃ s k : Nat, s ≤ 48 ∧ k ≤ s ∧ x = .int .i64 (s : Int) ∧ ∃ (a2 : Option Addr) (c2 : Nat), gv = .slice a2 k c2 ∧ Hid (∃ dn F', prs l 0 = dn ++ prs l s ∧ dn.length = k ∧ RbA R (ms k) wr F' ∧ Ext F w1 F' wr ∧ wr.ownsRow w1.heap.size 78 6 (.slice a2 k c2) k (encHs (i : Int) dn))) (fun _ x _ => 48 - (intOf x).toNat)
  case atStart => exact ⟨0, 0, by omega, by omega, rfl, none, 0, rfl, HSt⟩
  case round =>
  clear HSt
  obtain ⟨s, k, hs, hks, rfl, a2, c2, rfl, KK⟩ := hrel
  obtain ⟨dn, F', hpr, hdl, ⟨v, K, hR, hA, hE⟩, hX, hO⟩ := KK.out
  have hkl : k ≤ (prs l 0).length := by rw [hpr, List.length_append]; omega
  have htk : (prs l 0).take k = dn := by rw [hpr, ← hdl]; simp
  have hD := (HM2.out k hkl).1
  rw [htk] at hD
  have HP := hide (hD.p8 HP8.out)
  by_cases hlt : s < 48
  · have hd : decide ((s : Int) < 48) = true := by simp; omega
    have HAt := hide (atb_any hR hA HP.out (i : Int) (s : Int))
    have HX := hide hX
    have HO := hide hO
    have HR := hide hR
    have HA := hide hA
    have HE := hide hE
    have HDl := hide hdl
    cases hq : look l (s : Int) with
    | none =>
      have HNo : Hid (atB (ms k) (i : Int) (s : Int) = none) := hide (by
        have h1 := hD.here.2 i s
        have h2 : atB bk (i : Int) (s : Int) = none := by unfold atB; rw [look_nat, HL.out]; exact hq
        rw [h2] at h1
        simpa using h1)
      have HPr : Hid (prs l 0 = dn ++ prs l (s + 1)) := hide (by rw [hpr, prs_none hq])
      clear KK hpr hdl hR hA hE hX hO hD htk hkl hq
      go_wp2_with fail
      refine HAt.out.mono ?_
      rintro e1 w2 ⟨hb2, ⟨j2, x1, x2, r2, -, -, -, -, hat⟩ | ⟨rfl, -⟩⟩
      · rw [HNo.out] at hat; cases hat
      have HEnd : Hid (∃ dn F', prs l 0 = dn ++ prs l (s + 1) ∧ dn.length = k ∧ RbA R (ms k) w2 F' ∧ Ext F w1 F' w2 ∧ w2.ownsRow w1.heap.size 78 6 (.slice a2 k c2) k (encHs (i : Int) dn)) := hide ⟨dn, F', HPr.out, HDl.out, ⟨v, K, HR.out.below hb2, HA.out, HE.out⟩, HX.out.low' (hb2.mono HX.out.mod.size), ownsRow_keep HO.out (fun b hb' => hb2.block b (ownsRow_lt HO.out hb'))⟩
      have hge : decide ((0 : Int) ≤ -1) = false := by decide
      clear hb2 HAt HX HO HR HA HE HDl HPr HNo HP
      go_wp2
      go_roundw
      case rel => first | exact ⟨s + 1, k, by omega, by omega, by go_num, a2, c2, rfl, HEnd⟩ | ((repeat apply Exists.intro); refine ⟨?_, rfl⟩; exact ⟨s + 1, k, by omega, by omega, by go_num, a2, c2, rfl, HEnd⟩)
      case measure => simp [intOf]; omega
    | some x =>
      have hls : l[s]? = some (some x) := by
        rw [look_nat] at hq
        cases hz : l[s]? with
        | none => rw [hz] at hq; cases hq
        | some o => rw [hz] at hq; cases o with
          | none => cases hq
          | some y => simp at hq; rw [hq]
      have hps : prs l 0 = (dn ++ [(s, x)]) ++ prs l (s + 1) := by rw [hpr, prs_some hls]; simp
      have hk2 : k < (prs l 0).length := by rw [hps]; simp; omega
      have hgk : (prs l 0)[k]? = some (s, x) := by rw [hps, ← hdl]; simp
      obtain ⟨r', hr', hdr'⟩ := (HM2.out k hkl).2 _ hgk
      simp only at hr' hdr'
      obtain ⟨r3, h3, c1, c2', c3, c4⟩ := hD.caps i s r' hr'
      have hrx : r3 = x := by
        have h2 : atB bk (i : Int) (s : Int) = some x := by unfold atB; rw [look_nat, HL.out]; exact hq
        rw [h2] at h3; cases h3; rfl
      subst hrx
      obtain ⟨j0, hj0⟩ := hA.find hr'
      obtain ⟨g, c', hv, -⟩ := hR.at hj0
      obtain ⟨L, hL⟩ : ∃ L, K.length = L := ⟨_, rfl⟩
      rw [hL] at hv
      have hlen := hA.len HP.out
      rw [hL] at hlen
      have HLn := hide hL
      subst hv
      have HPr := hide hps
      have HR' := hide hr'
      have HDr' := hide hdr'
      have HC : Hid (r'.k = r3.k ∧ r'.o = r3.o ∧ r'.s = r3.s ∧ r'.r = r3.r) := hide ⟨c1, c2', c3, c4⟩
      clear KK hpr hdl hR hA hE hX hO hD htk hkl hq hls hps hk2 hgk hr' hdr' h3 c1 c2' c3 c4 hj0 hL
      go_wp2_with fail
      refine HAt.out.mono ?_
      rintro e1 w2 ⟨hb2, ⟨j2, x1, x2, r2, rfl, hj2, hx1, hx2, hat⟩ | ⟨-, hno⟩⟩
      rotate_left
      · rw [HR'.out] at hno; cases hno
      have HJ : Hid (K[j2]? = some ((i, s), r')) := hide (by
        rw [HR'.out] at hat
        cases hat
        obtain rfl : i = x1 := by omega
        obtain rfl : s = x2 := by omega
        exact hj2)
      have hjl : j2 < L := by have := (List.getElem?_eq_some_iff.1 HJ.out).1; rw [HLn.out] at this; exact this
      have hji : (j2 : Int) < (L : Int) := by omega
      have hge : decide ((0 : Int) ≤ (j2 : Int)) = true := by simp
      have hR2 := HR.out.below hb2
      have c16 := hR2.rowc
      obtain ⟨r0, r1, r2', r3', r4, r5, r6, r7⟩ := hR2.row8 HJ.out
      simp only at r0 r1 r2' r3' r4 r5 r6 r7
      have HR2 := hide hR2
      have HX2 := hide (HX.out.low' (hb2.mono HX.out.mod.size))
      have HO2 : Hid (w2.ownsRow w1.heap.size 78 6 (.slice a2 k c2) k (encHs (i : Int) dn)) := hide (ownsRow_keep HO.out (fun b hb' => hb2.block b (ownsRow_lt HO.out hb')))
      clear hb2 hj2 hx1 hx2 hat hR2 HX HO HR HAt
      go_wp2_with fail
      refine (heldR_any _ (i : Int) (s : Int) r').mono ?_
      rintro e1 w3 ⟨rfl, hb3⟩
      have HR3 := hide (HR2.out.below hb3)
      have HX3 := hide (HX2.out.low' (hb3.mono HX2.out.mod.size))
      have HO3 : Hid (w3.ownsRow w1.heap.size 78 6 (.slice a2 k c2) k (encHs (i : Int) dn)) := hide (ownsRow_keep HO2.out (fun b hb' => hb3.block b (ownsRow_lt HO2.out hb')))
      clear hb3 HR2 HX2 HO2 r0 r1 r2' r3' r4 r5 r6 r7 c16
      go_upto_region 10 with (at_builtin; refine wpList_append_own _ rfl _ _ 52 rfl w1.heap.size 78 i6 (.agg #[.int .i64 0, .int .i64 0, .int .i64 0, .int .i64 0, .int .i64 0, .int .i64 0]) 6 48 Tryz.underlying52 hi6 hz6 hs6 hb6 rfl (by decide) _ k (encHs (i : Int) dn) rfl (HO3.out.alloc _) ⟨w3.heap.size, 0, none⟩ 1 1 [.int .i64 (i : Int), .int .i64 (s : Int), .int .i64 r'.k, .int .i64 r'.o, .int .i64 r'.s, .int .i64 r'.r] rfl rfl ?p1 ?p2 ?p3 ?p4 ?p5 ?_)
      case p1 => exact cell_list_new _ _ [.int .i64 (i : Int), .int .i64 (s : Int), .int .i64 r'.k, .int .i64 r'.o, .int .i64 r'.s, .int .i64 r'.r]
      case p2 => simp [Value.oneCell']
      case p3 => unfold maxLen; omega
      case p4 => omega
      case p5 => have := HX3.out.mod.size; simp; omega
      intro v4 w4 hown4 hg4 _
      have HR4 := hide (HR3.out.grown HO3.out Hlt.out HX3.out.mod.size hg4)
      have HX4 := hide (HX3.out.low' (grew_low HO3.out HX3.out.mod.size hg4))
      obtain ⟨a4, c4, rfl⟩ := own_shape hown4
      have HO4 : Hid (w4.ownsRow w1.heap.size 78 6 (.slice a4 (k + 1) c4) (k + 1) (encHs (i : Int) (dn ++ [(s, r3)]))) := hide (by
        rw [encHs_snoc]
        obtain ⟨c1, c2', c3, c4'⟩ := HC.out
        simp only
        rw [← c1, ← c2', ← c3, ← c4']
        exact hown4)
      clear hown4 hg4 HR3 HX3 HO3
      go_wp2_with fail
      refine (takeA_any HR4.out HA.out HE.out HP.out j2 i s r' HJ.out HDr'.out).mono ?_
      rintro e1 w5 ⟨rfl, F5, hR5, hX5⟩
      have HEnd : Hid (∃ dn F', prs l 0 = dn ++ prs l (s + 1) ∧ dn.length = k + 1 ∧ RbA R (ms (k + 1)) w5 F' ∧ Ext F w1 F' w5 ∧ w5.ownsRow w1.heap.size 78 6 (.slice a4 (k + 1) c4) (k + 1) (encHs (i : Int) dn)) := hide ⟨dn ++ [(s, r3)], F5, HPr.out, by rw [List.length_append, HDl.out]; rfl, hR5, HX4.out.trans hX5, held_kept HR4.out HE.out HO4.out Hlt.out hX5⟩
      clear hR5 hX5 HR4 HX4 HO4 HA HE HP HJ HDr' HDl HPr HR' HC HLn
      go_wp2
      go_roundw
      case rel => first | exact ⟨s + 1, k + 1, by omega, by omega, by go_num, a4, c4, rfl, HEnd⟩ | ((repeat apply Exists.intro); refine ⟨?_, rfl⟩; exact ⟨s + 1, k + 1, by omega, by omega, by go_num, a4, c4, rfl, HEnd⟩)
      case measure => simp [intOf]; omega
  · obtain rfl : s = 48 := by omega
    have hd : decide ((48 : Int) < 48) = false := by decide
    have hnil : prs l 48 = [] := by unfold prs; rw [List.drop_eq_nil_of_le (by rw [H48.out]; exact Nat.le_refl _)]; rfl
    rw [hnil, List.append_nil] at hpr
    have cf := hR.flag hi16
    have ff := hR.frz i
    have hkk : k = (prs l 0).length := by rw [hpr]; exact hdl.symm
    have hRb : RbA R bk' wr F' := by
      rw [← HM1.out, ← hkk]; exact ⟨v, K, hR, hA, hE⟩
    have HEnd : Hid ((wr.setCell ⟨R, i, none⟩ (.bool false)).ownsRow w1.heap.size 78 6 (.slice a2 k c2) (prs l 0).length (encHs (i : Int) (prs l 0)) ∧ RbA R (bk'.set i none) (wr.setCell ⟨R, i, none⟩ (.bool false)) F' ∧ Ext F w1 F' (wr.setCell ⟨R, i, none⟩ (.bool false))) := hide (shut_fin hRb hX (by rw [← hkk, hpr]; exact hO) Hlt.out hi16 HL.out HDr.out)
    clear KK hpr hdl hR hA hE hX hO hD htk hkl hnil hRb hkk
    go_wp2
    go_ret2
    exact ⟨_, F', rfl, HEnd.out.1, HEnd.out.2.1, HEnd.out.2.2⟩
end
end Go.Proofs.YteacmcdmdeckmaaGreat

namespace Go.Proofs.YteacmcdmdeckmaaGreat
open Go.RowKit

theorem Ups.inv {bk : List (Option Lst)} {ins : Int → Bool} {a b p q : Int} (h : Ups bk ins a b p q) : (a = -1 ∧ b = -1 ∧ p = -1 ∧ q = -1) ∨ (∃ r, atB bk a b = some r ∧ ins a = true ∧ p = a ∧ q = b) ∨ ∃ r, atB bk a b = some r ∧ ins a = false ∧ Ups bk ins r.e r.t p q := by
  induction h using Ups.ind with
  | none => exact .inl ⟨rfl, rfl, rfl, rfl⟩
  | here e s r h0 h1 => exact .inr (.inl ⟨r, h0, h1, rfl, rfl⟩)
  | up e s x y r h0 h1 h2 _ => exact .inr (.inr ⟨r, h0, h1, h2⟩)
theorem Ups.det {bk : List (Option Lst)} {ins : Int → Bool} {a b p q : Int} (hn : atB bk (-1) (-1) = Option.none) (h : Ups bk ins a b p q) : ∀ {p' q' : Int}, Ups bk ins a b p' q' → p = p' ∧ q = q' := by
  induction h using Ups.ind with
  | none =>
    intro p' q' k
    rcases k.inv with ⟨_, _, rfl, rfl⟩ | ⟨r, h, _⟩ | ⟨r, h, _⟩
    · exact ⟨rfl, rfl⟩
    · rw [hn] at h; cases h
    · rw [hn] at h; cases h
  | here e s r h0 h1 =>
    intro p' q' k
    rcases k.inv with ⟨rfl, rfl, _⟩ | ⟨r, _, _, rfl, rfl⟩ | ⟨r, _, h, _⟩
    · rw [hn] at h0; cases h0
    · exact ⟨rfl, rfl⟩
    · rw [h1] at h; cases h
  | up e s x y r h0 h1 h2 ih =>
    intro p' q' k
    rcases k.inv with ⟨rfl, rfl, _⟩ | ⟨r, _, h, _⟩ | ⟨r', h3, _, h4⟩
    · rw [hn] at h0; cases h0
    · rw [h1] at h; cases h
    · rw [h0] at h3; cases h3
      exact ih h4
theorem insF_of {Z : Nat → Int} {len a : Nat} (ha : a < 16) : insF Z len (a : Int) = (List.range len).any (fun j => decide (Z j = (a : Int))) := by
  unfold insF
  rw [show ((a : Int)).toNat = a by omega, insB_get Z len a ha]; rfl
theorem insF_yes {Z : Nat → Int} {len a t : Nat} (ha : a < 16) (ht : t < len) (hz : Z t = (a : Int)) : insF Z len (a : Int) = true := by
  rw [insF_of ha, List.any_eq_true]
  exact ⟨t, List.mem_range.2 ht, by simp [hz]⟩
theorem insF_no {Z : Nat → Int} {len a : Nat} (ha : a < 16) (hz : ∀ t, t < len → Z t ≠ (a : Int)) : insF Z len (a : Int) = false := by
  rw [insF_of ha, List.any_eq_false]
  intro t ht
  simp [hz t (List.mem_range.1 ht)]
theorem Wb.lt {bk : List (Option Lst)} (h : Wb bk) {a b : Nat} {r : Rc} (hr : atB bk (a : Int) (b : Int) = some r) : a < 16 := by
  obtain ⟨i, j, l, h1, h2, h3, h4, _⟩ := atB_some hr
  have := (List.getElem?_eq_some_iff.1 h3).1
  rw [h.l16] at this
  omega
section
variable {w : World} {R : Nat} {bk bk' : List (Option Lst)} {F : Nat → Prop} {v : Value} {K : List Rw}
set_option maxHeartbeats 3200000 in
theorem upD_none (h : RbAt w R v bk K) (ha : Ag bk K) (hw : Wb bk) (e s : Int) (hn : atB bk e s = none) (inside : Value) : Calls Tryz.prog 14 #[tp R, .int .i64 e, .int .i64 s, inside] w fun x w' => x = .returned (.tuple #[.agg #[.int .i64 (-1), .int .i64 (-1)], .int .i64 (lcode bk e s)]) ∧ Below w.heap.size w w' := by
  have hb0 := (Below.refl w.heap.size w).alloc (Nat.le_refl _) (.cells #[.int .i64 0, .int .i64 0] 48)
  have h1 := h.below hb0
  have HL := hide (lookR_any h1 ha hw e s)
  have hZ : (w.alloc (.cells #[.int .i64 0, .int .i64 0] 48)).heap[w.heap.size]? = some (.cells #[.int .i64 0, .int .i64 0] 48 (0, 0)) := heap_alloc_last _ _
  have HB0 := hide hb0
  clear h h1 hb0
  go_enter Tryz.func14, Tryz.ntmps14
  go_wp2_with fail
  generalize hgw : w.alloc (.cells #[.int .i64 0, .int .i64 0] 48) = w0 at *
  clear hgw
  refine HL.out.mono ?_
  rintro e1 w1 ⟨hb1, ⟨i, a, b, r, -, -, -, -, hr, -⟩ | ⟨rfl, -, hc⟩⟩
  · rw [hn] at hr; cases hr
  · have hcb : (lcode bk e s == 0) = false := by rw [beq_eq_false_iff_ne]; omega
    have hlt := (Array.getElem?_eq_some_iff.1 hZ).1
    have HZ1 := hide ((hb1.block w.heap.size hlt).trans hZ)
    have HB1 := hide (HB0.out.trans (hb1.mono HB0.out.size))
    obtain ⟨cc, hcc⟩ : ∃ cc, lcode bk e s = cc := ⟨_, rfl⟩
    rw [hcc] at hcb ⊢
    have Hcc := hide (And.intro hn hcc)
    clear hcc
    clear hb1 HL hZ hn hc HB0
    go_wp2_with fail
    refine (noneR_any _).mono ?_
    rintro e1 w2 ⟨rfl, hb2⟩
    have hZ2 := (hb2.block w.heap.size (Array.getElem?_eq_some_iff.1 HZ1.out).1).trans HZ1.out
    obtain ⟨d0, d1, f0, f1⟩ := blk2 hZ2
    have HS := hide (fun a b => set2a hZ2 a b)
    have HB2 := hide (HB1.out.trans (hb2.mono HB1.out.size))
    clear hb2 hZ2
    go_wp2
    refine bodyPost_ret (results_row2 rfl _ _ w.heap.size 48 #[.int .i64 (-1), .int .i64 (-1)] (0, 0) _ rfl (HS.out _ _) Tryz.underlying48 rfl (by kernel_rfl)) rfl ?_
    exact ⟨by rw [Hcc.out.2]; rfl, (HB2.out.setCell (p := ⟨w.heap.size, 0, none⟩) (Nat.le_refl _) _).setCell (p := ⟨w.heap.size, 1, none⟩) (Nat.le_refl _) _⟩
set_option maxRecDepth 100000 in
set_option maxHeartbeats 6400000 in
theorem upD_some (h : RbAt w R v bk K) (ha : Ag bk K) (hw : Wb bk) {f : Int → Int → Nat} (hf : Rk bk f) (e s : Int) (r : Rc) (hr : atB bk e s = some r) (ad : Option Addr) (len cap : Nat) (Z : Nat → Int) (hml : len ≤ maxLen) (hz : IsInts' w ad len Z) : Calls Tryz.prog 14 #[tp R, .int .i64 e, .int .i64 s, .slice ad len cap] w fun x w' => ∃ p q : Int, x = .returned (.tuple #[.agg #[.int .i64 p, .int .i64 q], .int .i64 0]) ∧ Ups bk (insF Z len) r.e r.t p q ∧ Below w.heap.size w w' := by
  have hb0 := (Below.refl w.heap.size w).alloc (Nat.le_refl _) (.cells #[.int .i64 0, .int .i64 0] 48)
  have h1 := h.below hb0
  have HL := hide (lookR_any h1 ha hw e s)
  have hZ : (w.alloc (.cells #[.int .i64 0, .int .i64 0] 48)).heap[w.heap.size]? = some (.cells #[.int .i64 0, .int .i64 0] 48 (0, 0)) := heap_alloc_last _ _
  have HB0 := hide hb0
  have HR0 := hide h
  have HA := hide ha
  have HW := hide hw
  have HRk := hide hf
  have HI := hide hz
  have HIn : Hid (∀ (ca cb : Nat) (cr : Rc), ((ca, cb), cr) ∈ K → atB bk (ca : Int) (cb : Int) = some cr ∧ ca < 16) := hide (fun ca cb cr hm => ⟨(ha.mem ca cb cr).1 hm, hw.lt ((ha.mem ca cb cr).1 hm)⟩)
  have hl := ha.len hw.p8
  obtain ⟨aa, c, hv⟩ := h.shape
  obtain ⟨L, hL⟩ : ∃ L, K.length = L := ⟨_, rfl⟩
  rw [hL] at hv hl
  have HLn := hide hL
  have Hr := hide hr
  subst hv
  clear h h1 hb0 ha hw hf hz hL hr
  go_enter Tryz.func14, Tryz.ntmps14
  go_wp2_with fail
  generalize hgw : w.alloc (.cells #[.int .i64 0, .int .i64 0] 48) = w0 at *
  clear hgw
  refine HL.out.mono ?_
  rintro e1 w1 ⟨hb1, ⟨j0, a0, b0, r0, rfl, hj0, -, -, hr0, -⟩ | ⟨-, hno, -⟩⟩
  rotate_left
  · rw [Hr.out] at hno; cases hno
  have hlt := (Array.getElem?_eq_some_iff.1 hZ).1
  have HSt : Hid (Below w.heap.size w w1 ∧ w1.heap[w.heap.size]? = some (.cells #[.int .i64 0, .int .i64 0] 48 (0, 0))) := hide ⟨HB0.out.trans (hb1.mono HB0.out.size), (hb1.block w.heap.size hlt).trans hZ⟩
  have HC0 : Hid (∃ ca cb cr, K[j0]? = some ((ca, cb), cr) ∧ (∀ p q, Ups bk (insF Z len) cr.e cr.t p q → Ups bk (insF Z len) r.e r.t p q) ∧ Gone f K 0 ca cb) := hide (by
    rw [Hr.out] at hr0; cases hr0
    exact ⟨a0, b0, _, hj0, fun _ _ h => h, [], rfl, List.nodup_nil, by simp, by simp⟩)
  clear hb1 HL hZ hlt hj0 hr0 HB0
  have hml' : (len : Int) ≤ 9223372036854775807 := by unfold maxLen at hml; omega
  go_wp2_with fail
  go_loopw [10, 12] (fun iv x wr => ∃ k j : Nat, x = .int .i64 (k : Int) ∧ iv = .int .i64 (j : Int) ∧ Hid (∃ ca cb cr, K[j]? = some ((ca, cb), cr) ∧ (∀ p q, Ups bk (insF Z len) cr.e cr.t p q → Ups bk (insF Z len) r.e r.t p q) ∧ Gone f K k ca cb) ∧ Hid (Below w.heap.size w wr ∧ wr.heap[w.heap.size]? = some (.cells #[.int .i64 0, .int .i64 0] 48 (0, 0)))) (fun _ x _ => L - (intOf x).toNat)
  case atStart => exact ⟨0, j0, rfl, rfl, HC0, HSt⟩
  case round =>
  clear HC0 HSt
  obtain ⟨k, j, rfl, rfl, HC, KK⟩ := hrel
  have hRr := HR0.out.below KK.out.1
  have c16 := hRr.rowc
  obtain ⟨ca, cb, cr, hj, hup, hg⟩ := HC.out
  have hkl := hg.lt hj
  have hjl := (List.getElem?_eq_some_iff.1 hj).1
  rw [HLn.out] at hkl hjl
  have hki : (k : Int) < (L : Int) := by omega
  have hd1 : decide ((k : Int) < (L : Int)) = true := by simp; omega
  have hji : (j : Int) < (L : Int) := by omega
  obtain ⟨g, c', hv, hrow⟩ := hRr.at hj
  rw [HLn.out] at hv
  cases hv
  have r6 := hrow.c6
  have r7 := hrow.c7
  simp only at r6 r7
  have HAt := hide ((HIn.out ca cb cr (List.mem_of_getElem? hj)).1)
  have HG := hide hg
  have HUp := hide hup
  have HJ := hide hj
  obtain ⟨Br, hBr⟩ : ∃ B, B = wr.heap.size := ⟨_, rfl⟩
  have hsz0 := (Array.getElem?_eq_some_iff.1 KK.out.2).1
  have hba := (Below.refl wr.heap.size wr).alloc (Nat.le_refl _) (.cells #[.int .i64 cr.e, .int .i64 cr.t] 48)
  have hyb : (wr.alloc (.cells #[.int .i64 cr.e, .int .i64 cr.t] 48)).heap[Br]? = some (.cells #[.int .i64 cr.e, .int .i64 cr.t] 48 (0, 0)) := by rw [hBr]; exact heap_alloc_last _ _
  have HBB : Hid (Below w.heap.size w (wr.alloc (.cells #[.int .i64 cr.e, .int .i64 cr.t] 48)) ∧ (wr.alloc (.cells #[.int .i64 cr.e, .int .i64 cr.t] 48)).heap[w.heap.size]? = some (.cells #[.int .i64 0, .int .i64 0] 48 (0, 0))) := hide ⟨KK.out.1.trans (hba.mono KK.out.1.size), by rw [hba.block _ hsz0]; exact KK.out.2⟩
  have HBr : Hid (w.heap.size < Br) := hide (by rw [hBr]; exact hsz0)
  clear hRr hrow hba hsz0 hj hup hg HC KK
  go_upto_region 8 with fail
  rw [← hBr]
  generalize wr.alloc (.cells #[.int .i64 cr.e, .int .i64 cr.t] 48) = W1 at *
  clear hBr r6 r7 c16
  have y0 : W1.cell? ⟨Br, 0, none⟩ = some (.int .i64 cr.e) := by rw [cell_of_row _ _ _ _ _ _ hyb]; rfl
  have y1 : W1.cell? ⟨Br, 1, none⟩ = some (.int .i64 cr.t) := by rw [cell_of_row _ _ _ _ _ _ hyb]; rfl
  go_wp2_with fail
  refine (atb_any (HR0.out.below HBB.out.1) HA.out HW.out.p8 cr.e cr.t).mono ?_
  rintro e1 w2 ⟨hb2, ⟨j2, a2, b2, r2, rfl, hj2, he2, hs2, hat2⟩ | ⟨rfl, hno⟩⟩
  · have hsz1 := (Array.getElem?_eq_some_iff.1 HBB.out.2).1
    have hsz2 := (Array.getElem?_eq_some_iff.1 hyb).1
    have HU : Hid (Below w.heap.size w w2 ∧ w2.heap[w.heap.size]? = some (.cells #[.int .i64 0, .int .i64 0] 48 (0, 0)) ∧ w2.heap[Br]? = some (.cells #[.int .i64 cr.e, .int .i64 cr.t] 48 (0, 0))) := hide ⟨HBB.out.1.trans (hb2.mono HBB.out.1.size), by rw [hb2.block _ hsz1]; exact HBB.out.2, by rw [hb2.block _ hsz2]; exact hyb⟩
    have HN2 : Hid (insF Z len cr.e = false → ∃ ca cb cr, K[j2]? = some ((ca, cb), cr) ∧ (∀ p q, Ups bk (insF Z len) cr.e cr.t p q → Ups bk (insF Z len) r.e r.t p q) ∧ Gone f K (k + 1) ca cb) := hide (fun hf => by
      refine ⟨a2, b2, r2, hj2, fun p q h => HUp.out p q (.up _ _ _ _ r2 hat2 hf h), ?_⟩
      refine HG.out.next HJ.out ?_
      rcases HRk.out _ _ _ HAt.out with ⟨h1, _⟩ | ⟨_, h2⟩
      · rw [he2] at h1; omega
      · rw [he2, hs2] at h2; exact h2)
    have HYes : Hid (insF Z len cr.e = true → Ups bk (insF Z len) r.e r.t cr.e cr.t) := hide (fun hf => HUp.out _ _ (.here _ _ r2 hat2 hf))
    have HA2 : Hid (cr.e = (a2 : Int) ∧ a2 < 16) := hide ⟨he2, (HIn.out a2 b2 r2 (List.mem_of_getElem? hj2)).2⟩
    have hneg : decide ((j2 : Int) < 0) = false := by simp
    clear hb2 hj2 he2 hs2 hat2 hsz1 hsz2 y0 y1 hyb HBB
    go_wp2_with fail
    go_loopw [14] (fun x wq => ∃ t : Nat, t ≤ len ∧ x = .int .i64 (t : Int) ∧ Hid (∀ z, z < t → Z z ≠ cr.e) ∧ Hid (Below w.heap.size w wq ∧ wq.heap[w.heap.size]? = some (.cells #[.int .i64 0, .int .i64 0] 48 (0, 0)) ∧ wq.heap[Br]? = some (.cells #[.int .i64 cr.e, .int .i64 cr.t] 48 (0, 0)))) (fun x _ => len - (intOf x).toNat)
    case atStart => exact ⟨0, by omega, rfl, hide (fun z hz => by omega), HU⟩
    case round =>
    clear HU
    obtain ⟨t, ht, rfl, HZ, HU⟩ := hrel
    obtain ⟨y0, y1, -, -⟩ := blk2 HU.out.2.2
    by_cases htl : t < len
    · obtain ⟨x, rfl, hx⟩ := HI.out.at htl
      have cx := hx _ HU.out.1
      have hti : (t : Int) < (len : Int) := by omega
      clear hx
      by_cases hze : Z t = cr.e
      · have hq : (Z t == cr.e) = true := by simp [hze]
        have HFin := hide (HYes.out (by rw [HA2.out.1]; exact insF_yes HA2.out.2 htl (by rw [hze]; exact HA2.out.1)))
        clear hze
        go_wp2
        go_quiet (fail)
        have HU2 : Hid (∀ n, Below w.heap.size w (wr.drewN n) ∧ (wr.drewN n).heap[w.heap.size]? = some (.cells #[.int .i64 0, .int .i64 0] 48 (0, 0)) ∧ (wr.drewN n).heap[Br]? = some (.cells #[.int .i64 cr.e, .int .i64 cr.t] 48 (0, 0))) := hide (fun n => ⟨below_dn HU.out.1, HU.out.2.1, HU.out.2.2⟩)
        have HU3 := hide (HU2.out nq)
        clear HU2 HU y0 y1 cx
        generalize wr.drewN nq = w6 at *
        obtain ⟨y0, y1, -, -⟩ := blk2 HU3.out.2.2
        obtain ⟨d0, d1, f0, f1⟩ := blk2 HU3.out.2.1
        have HS := hide (fun a b => set2a HU3.out.2.1 a b)
        have HB3 := hide HU3.out.1
        clear HU3
        go_wp2
        refine bodyPost_ret (results_row2 rfl _ _ w.heap.size 48 #[.int .i64 cr.e, .int .i64 cr.t] (0, 0) _ rfl (HS.out _ _) Tryz.underlying48 rfl (by kernel_rfl)) rfl ?_
        exact ⟨cr.e, cr.t, rfl, HFin.out, (HB3.out.setCell (p := ⟨w.heap.size, 0, none⟩) (Nat.le_refl _) _).setCell (p := ⟨w.heap.size, 1, none⟩) (Nat.le_refl _) _⟩
      · have hq : (Z t == cr.e) = false := by rw [beq_eq_false_iff_ne]; exact hze
        have HZ2 : Hid (∀ z, z < t + 1 → Z z ≠ cr.e) := hide (fun z hz => by
          by_cases e1 : z = t
          · subst e1; exact hze
          · exact HZ.out z (by omega))
        clear hze
        go_wp2
        go_quiet (fail)
        have HU2 : Hid (∀ n, Below w.heap.size w (wr.drewN n) ∧ (wr.drewN n).heap[w.heap.size]? = some (.cells #[.int .i64 0, .int .i64 0] 48 (0, 0)) ∧ (wr.drewN n).heap[Br]? = some (.cells #[.int .i64 cr.e, .int .i64 cr.t] 48 (0, 0))) := hide (fun n => ⟨below_dn HU.out.1, HU.out.2.1, HU.out.2.2⟩)
        have HU3 := hide (HU2.out nq)
        clear HU2 HU y0 y1 cx
        generalize wr.drewN nq = w6 at *
        go_wp2
        go_roundw
        case rel => first | exact ⟨t + 1, by omega, by go_num, HZ2, HU3⟩ | ((repeat apply Exists.intro); refine ⟨?_, rfl⟩; exact ⟨t + 1, by omega, by go_num, HZ2, HU3⟩)
        case measure => simp [intOf]; omega
    · obtain rfl : t = len := by omega
      have hd2 : decide ((t : Int) < (t : Int)) = false := by simp
      have HN3 := hide (HN2.out (by rw [HA2.out.1]; exact insF_no HA2.out.2 (fun z hz => by rw [← HA2.out.1]; exact HZ.out z hz)))
      have HE2 := hide (And.intro HU.out.1 HU.out.2.1)
      clear HU y0 y1
      go_wp2
      go_roundw
      case rel => first | exact ⟨k + 1, j2, by go_num, rfl, HN3, HE2⟩ | ((repeat apply Exists.intro); refine ⟨?_, rfl⟩; exact ⟨k + 1, j2, by go_num, rfl, HN3, HE2⟩)
      case measure => simp [intOf]; omega
  · have HRes : Hid (Ups bk (insF Z len) r.e r.t (-1) (-1)) := hide (by
      rcases HRk.out _ _ _ HAt.out with ⟨h1, h2⟩ | ⟨⟨r', h1⟩, _⟩
      · refine HUp.out _ _ ?_
        rw [h1, h2]; exact .none
      · rw [hno] at h1; cases h1)
    have hsz1 := (Array.getElem?_eq_some_iff.1 HBB.out.2).1
    have HB2 := hide (HBB.out.1.trans (hb2.mono HBB.out.1.size))
    have HZ2 : Hid (w2.heap[w.heap.size]? = some (.cells #[.int .i64 0, .int .i64 0] 48 (0, 0))) := hide (by rw [hb2.block _ hsz1]; exact HBB.out.2)
    clear hb2 hno y0 y1 hyb HBB hsz1
    go_wp2_with fail
    refine (noneR_any _).mono ?_
    rintro e1 w3 ⟨rfl, hb3⟩
    have hZ3 := (hb3.block w.heap.size (Array.getElem?_eq_some_iff.1 HZ2.out).1).trans HZ2.out
    obtain ⟨d0, d1, f0, f1⟩ := blk2 hZ3
    have HS := hide (fun a b => set2a hZ3 a b)
    have HB3 := hide (HB2.out.trans (hb3.mono HB2.out.size))
    clear hb3 hZ3
    go_wp2
    refine bodyPost_ret (results_row2 rfl _ _ w.heap.size 48 #[.int .i64 (-1), .int .i64 (-1)] (0, 0) _ rfl (HS.out _ _) Tryz.underlying48 rfl (by kernel_rfl)) rfl ?_
    exact ⟨(-1), (-1), rfl, HRes.out, (HB3.out.setCell (p := ⟨w.heap.size, 0, none⟩) (Nat.le_refl _) _).setCell (p := ⟨w.heap.size, 1, none⟩) (Nat.le_refl _) _⟩
end
end Go.Proofs.YteacmcdmdeckmaaGreat
