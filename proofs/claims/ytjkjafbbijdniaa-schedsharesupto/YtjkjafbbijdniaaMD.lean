import Derived.Test.YtjkjafbbijdniaaPZ
import Derived.Test.YtjkjafbbijdniaaM8
namespace Go.Proofs.Ytjkjafbbijdniaa
open Go.RowKit
theorem Os.low {w : World} {base base' : Nat} {v : Value} {l : List Sh} (h : Os w base v l) (hb : base' ≤ base) : Os w base' v l := by
  obtain ⟨hl, ⟨rfl, h0⟩ | ⟨g, cap, cur, rfl, hbs, hg, hn, hm, hs, ht⟩⟩ := h
  · exact ⟨hl, .inl ⟨rfl, h0⟩⟩
  · exact ⟨hl, .inr ⟨g, cap, cur, rfl, by omega, hg, hn, hm, hs, ht⟩⟩
theorem oneC_two {s : Pl} {b : Bool} {o : Og} (h : o.k = 2) : oneC s b o = [] := by unfold oneC; rw [if_neg (fun h2 => by have := h2.1; omega)]
theorem stepS_not {s : Pl} {o : Og} (h : ¬ o.k = 2) (h2 : (oneC s false o).length = 0) : stepS s o = s := by
  unfold stepS
  rw [if_neg h]
  split
  · split
    · rename_i h3 h4
      unfold oneC at h2
      rw [if_pos ⟨h3, h4⟩] at h2
      simp at h2
    · rfl
  · rfl
theorem oneC_some {s : Pl} {b : Bool} {o : Og} {c : Cz} (h : (oneC s b o)[0]? = some c) : o.k = 3 ∧ mayF (srt o.R) = 0 ∧ c = ⟨o.R, pick s (srt o.R), b⟩ ∧ stepS s o = nextP s (srt o.R) := by
  unfold oneC at h
  split at h
  · rename_i h3
    simp at h
    refine ⟨h3.1, h3.2, h.symm, ?_⟩
    unfold stepS
    rw [if_neg (by omega), if_pos h3.1, if_pos h3.2]
  · simp at h
theorem quiet_of_draws {P : Program} {f : FuncId} {args : Array Value} {w : World} {n : Nat} {v : Value}
    (h : Calls P f args (w.drewN n) fun e w' => e = .returned v ∧ ∃ t, w' = (w.drewN n).drewN t) : Calls P f args (w.drewN n) fun e w'' => e = .returned v ∧ ∃ m, w'' = w.drewN m :=
  h.mono fun _ _ ⟨he, t, ht⟩ => ⟨he, n + t, by rw [ht]; simp⟩
section
variable (w : World)
set_option maxRecDepth 100000 in
set_option maxHeartbeats 16000000 in
theorem schedShares_walk (v : Value) (os : List Og) (hO : OpR (fun b => b < w.heap.size) w v os) (hF : Fit os) (hc : cost os ≤ 1048576) :
    Calls Try.prog 6 #[v] w fun e w' => e = .returned (.bool true) ∧ Below w.heap.size w w' := by
  obtain ⟨i30, hi, hz, hs, hb⟩ := info30
  obtain ⟨i33, hi3, hz3, hs3, hb3⟩ := info33
  have HI := hide (And.intro hi (And.intro hz (And.intro hs hb)))
  have HJ := hide (And.intro hi3 (And.intro hz3 (And.intro hs3 hb3)))
  clear hi hz hs hb hi3 hz3 hs3 hb3
  have HO := hide hO
  have HF := hide hF
  obtain ⟨ao, cap, rfl, hcap, hops⟩ := hO
  have HH := hide hops
  obtain ⟨m, hm⟩ : ∃ m, os.length = m := ⟨_, rfl⟩
  have HLn := hide hm
  have hcl := cost_len os
  rw [hm] at hcap HO hcl ⊢
  clear hF hm hops
  go_enter Try.func6, Try.ntmps6
  go_wp2_with fail
  refine (plan_any w 2 (by omega)).mono ?_
  rintro e w1 ⟨g, X, rfl, h1, h2, h3⟩
  have HS0 : Hid (ShS w w1 X g 0 (start 2) (.slice none 0 0) (.slice none 0 0) (([] : List En).map (·.c)) (([] : List En).map tlE)) := hide ⟨h1, h2, h3, OwC.start _ _ _, OwT.start _ _ _⟩
  clear h1 h2 h3
  go_upto_region 7 with fail
  go_loopw [4, 5, 6] (fun vl vt i wr => ∃ (k n : Nat) (X : Nat → Prop) (s : Pl) (G : List En), k ≤ m ∧ i = .int .i64 (k : Nat) ∧ s.kind = 2 ∧ Hid (n ≤ cost (os.take k) ∧ G.length ≤ cost (os.take k)) ∧ Hid (ShS w wr X g n s vl vt (G.map (·.c)) (G.map tlE)) ∧ Hid (Ghost G s)) (fun _ _ i _ => m - (RowKit.intOf i).toNat)
  case atStart => exact ⟨0, 0, X, start 2, [], by omega, rfl, rfl, hide ⟨by omega, by simp⟩, HS0, hide (Ghost.nil _)⟩
  case round =>
    obtain ⟨k, n, X, s, G, hk, rfl, hsk, HBd, HS, HG⟩ := hrel
    clear HS0
    by_cases hlt : k < m
    · obtain ⟨o, ho⟩ : ∃ o, os[k]? = some o := ⟨os[k]'(by rw [HLn.out]; exact hlt), List.getElem?_eq_getElem _⟩
      have hcs := cost_succ ho
      have hct := cost_take os (k + 1)
      have hdt : (os.drop k).take (k + 1 - k) = [o] := by
        obtain ⟨h1, h2⟩ := List.getElem?_eq_some_iff.1 ho
        rw [show k + 1 - k = 1 by omega, List.drop_eq_getElem_cons h1, h2]; rfl
      have hKo : cost [o] = o.R.length + 1 := rfl
      obtain ⟨x, u, rfl, hSx, d0, _⟩ := HH.out k o ho
      have HXx := hide hSx
      have HD0 := hide d0
      have HOk := HO.out.keep (w' := wr) (fun b hb => HS.out.bel.block b hb)
      have HSub : Hid (OpR (fun b => b < w.heap.size) wr (.slice (some (x.add (k * 5))) 1 (cap - k)) [o]) := hide (by
        have := HOk.sub rfl (i := k) (j := k + 1) (c := cap - k) (by omega) (by rw [HLn.out]; omega) (by omega)
        rw [hdt, show k + 1 - k = 1 by omega] at this
        exact this)
      have HFo : Hid (Fit [o]) := hide (fun q hq => by simp at hq; subst hq; exact HF.out _ (List.mem_of_getElem? ho))
      have HCs := hide (And.intro hcs (And.intro hct (And.intro hc hKo)))
      have hki : (k : Int) < m := by omega
      have hkc : ¬ cap = k := by omega
      have hkc2 : (k : Int) + 1 ≤ cap := by omega
      have hkc3 : (k : Int) ≤ (k : Int) + 1 := by omega
      have hk0 : (0 : Int) ≤ k := by omega
      have hwk : IntKind.i64.wrap ((k : Int) + 1) = (k : Int) + 1 := wi _ (by omega) (by omega)
      have hws := HS.out.bel.size
      clear ho hdt hcs hct HOk hSx d0 hKo
      go_upto_region 9 with fail
      go_wp2_with fail
      refine (chosen_any wr g n X (fun b => b < w.heap.size) s HS.out.pl _ [o] HSub.out (fun b hb => ⟨fun h => by have := HS.out.low b h; omega, by omega⟩) HFo.out (by have := HBd.out; have := HCs.out; omega) (by have := HCs.out; omega)).mono ?_
      rintro e w2 ⟨r, X2, rfl, h1, h2, h3⟩
      have h1' : PlAt w2 X2 g (n + cost [o]) (stepS s o) := h1
      have h2' : OwC w2 wr.heap.size X2 r (oneC s false o ++ []) := h2
      rw [List.append_nil] at h2'
      have HS2 := hide (HS.out.ext h1' h3)
      have HR2 := hide h2'
      have HOk2 := hide HS.out.pl.ok
      have hml := oneC_len s false o
      have hsk2 : (stepS s o).kind = 2 := by rw [stepS_kind]; exact hsk
      obtain ⟨l1, hl1⟩ : ∃ l, oneC s false o = l := ⟨_, rfl⟩
      have HL1 := hide hl1
      obtain ⟨s2, hs2⟩ : ∃ z, stepS s o = z := ⟨_, rfl⟩
      have HSt := hide hs2
      rw [hl1] at HR2 hml
      rw [hs2] at HS2 hsk2
      obtain ⟨ml, hmll⟩ : ∃ z, l1.length = z := ⟨_, rfl⟩
      have HMl := hide hmll
      rw [hmll] at hml
      obtain ⟨ar, cr, rfl⟩ : ∃ a c, r = .slice a ml c := by
        obtain ⟨us, e1, e2, _⟩ := HR2.out
        obtain ⟨a, c, h⟩ := own_shape e2
        exact ⟨a, c, by rw [h, hmll]⟩
      obtain ⟨gl, hgl⟩ : ∃ z, G.length = z := ⟨_, rfl⟩
      have HGl := hide hgl
      obtain ⟨al, cl2, rfl⟩ : ∃ a c, u4 = .slice a gl c := by
        obtain ⟨us, e1, e2, _⟩ := HS2.out.ch
        obtain ⟨a, c, h⟩ := own_shape e2
        exact ⟨a, c, by rw [h, List.length_map, hgl]⟩
      have hglb : gl ≤ 1048576 := by have := HBd.out; have := HCs.out; omega
      have d0 := cell_keep (i := k * 5) (w' := w2) HD0.out (HS2.out.bel.block _ HXx.out)
      clear h1 h2 h3 h1' h2' HS HSub hl1 hs2 hmll hgl
      by_cases hk2 : o.k = 2
      · have hl0 : ml = 0 := by rw [← HMl.out, ← HL1.out, oneC_two hk2]; rfl
        subst hl0
        rw [hk2] at d0
        by_cases hg0 : gl = 0
        · subst hg0
          have HG3 : Hid (Ghost G s2) := hide (by rw [List.eq_nil_of_length_eq_zero HGl.out]; exact Ghost.nil _)
          go_upto_region 16 with fail
          go_loopw [4, 5, 9] (fun vl vt i wq => ∃ q : Nat, q ≤ 0 ∧ i = .int .i64 (q : Nat) ∧ vl = .slice al 0 cl2 ∧ vt = u5 ∧ wq = w2) (fun _ _ _ _ => 0)
          case atStart => exact ⟨0, Nat.le_refl _, rfl, rfl, rfl, rfl⟩
          case round =>
            obtain ⟨q, hq, rfl, rfl, rfl, rfl⟩ := hrel
            obtain rfl : q = 0 := by omega
            go_wp2
            go_roundw
            case rel => exact ⟨k + 1, n + cost [o], X2, s2, G, by omega, by go_num, hsk2, hide (by have := HBd.out; have := HCs.out; have := HGl.out; refine ⟨by omega, ?_⟩; omega), HS2, HG3⟩
            case measure => simp [RowKit.intOf]; omega
        · have hgp : (0 : Int) < gl := by omega
          obtain ⟨xs, hx, hadd⟩ := HS2.out.addC1 (gl := gl) (by rw [List.length_map, HGl.out])
          have HXs := hide hx
          have HAd := hide hadd
          have hws2 := HS2.out.bel.size
          clear hx hadd
          go_upto_region 14 with (refine wpList_append_own_at _ rfl (.tmp 46) (.tmp 48) 25 rfl w.heap.size 30 i30 _ 3 40 Try.underlying25 HI.out.1 HI.out.2.1 HI.out.2.2.1 HI.out.2.2.2 rfl (by decide) _ gl _ rfl (World.ownsRow.alloc HXs.out _) (⟨w2.heap.size, 0, none⟩) 1 1 [Value.slice none 0 0, .int .i64 0, .bool true] rfl rfl (cell_row_new _ #[Value.slice none 0 0, .int .i64 0, .bool true] _) (by simp [Value.oneCell']) (by unfold maxLen; omega) (by omega) (by simp; omega) ?_; intro v' w3 hown hg9 _ hat)
          have HS3 := hide (HAd.out _ _ _ (.slice none 0 0) ⟨[], 0, true⟩ ⟨by simp, .inl ⟨rfl, rfl⟩⟩ (fun b hb => by simp [Value.ownBlock] at hb) hown hg9 hat)
          obtain ⟨al3, cl3, rfl⟩ := own_shape hown
          clear hown hg9 hat HAd HXs HS2 d0
          obtain ⟨xs, hx, hadd⟩ := HS3.out.addT1 (gl := gl) (by rw [List.length_map, HGl.out])
          have HXs := hide hx
          have HAd := hide hadd
          have hws3 := HS3.out.bel.size
          clear hx hadd
          go_upto_region 16 with (refine wpList_append_own_at _ rfl (.tmp 50) (.tmp 51) 38 rfl w.heap.size 33 i33 _ 1 24 Try.underlying38 HJ.out.1 HJ.out.2.1 HJ.out.2.2.1 HJ.out.2.2.2 rfl (by decide) _ gl _ rfl (World.ownsRow.alloc HXs.out _) (⟨w3.heap.size, 0, none⟩) 1 1 [Value.slice none 0 0] rfl rfl (cell_one_new _ _ _) (by simp [Value.oneCell']) (by unfold maxLen; omega) (by omega) (by simp; omega) ?_; intro v4 w4 hown hg9 _ hat)
          have HS4 : Hid (ShS w w4 X2 g (n + cost [o]) s2 (.slice al3 (gl + 1) cl3) v4 ((G ++ [markE s2]).map (·.c)) ((G ++ [markE s2]).map tlE)) := hide (by
            have := HAd.out _ _ _ (.slice none 0 0) [] ⟨rfl, .inl ⟨rfl, rfl⟩⟩ (fun b hb => by simp [Value.ownBlock] at hb) hown hg9 hat
            rw [List.map_append, List.map_append]
            exact this)
          have HG4 : Hid (Ghost (G ++ [markE s2]) s2) := hide (by
            have h9 : Ghost G s := HG.out
            exact ghost_snoc h9 (.inl ⟨rfl, rfl⟩) (fun e => by cases e) (fun e => by cases e))
          clear hown hg9 hat HAd HXs HS3
          go_upto_region 16 with fail
          go_loopw [4, 5, 9] (fun vl vt i wq => ∃ q : Nat, q ≤ 0 ∧ i = .int .i64 (q : Nat) ∧ vl = .slice al3 (gl + 1) cl3 ∧ vt = v4 ∧ wq = w4) (fun _ _ _ _ => 0)
          case atStart => exact ⟨0, Nat.le_refl _, rfl, rfl, rfl, rfl⟩
          case round =>
            obtain ⟨q, hq, rfl, rfl, rfl, rfl⟩ := hrel
            obtain rfl : q = 0 := by omega
            go_wp2
            go_roundw
            case rel => exact ⟨k + 1, n + cost [o], X2, s2, (G ++ [markE s2]), by omega, by go_num, hsk2, hide (by have := HBd.out; have := HCs.out; have := HGl.out; refine ⟨by omega, ?_⟩; (try rw [List.length_append]); simp only [List.length_cons, List.length_nil]; omega), HS4, HG4⟩
            case measure => simp [RowKit.intOf]; omega
      · have hk2b : (o.k == 2) = false := by simpa using hk2
        go_upto_region 16 with fail
        go_loopw [4, 5, 9] (fun vl vt i wq => ∃ q : Nat, q ≤ ml ∧ i = .int .i64 (q : Nat) ∧ Hid ((q = 0 ∧ vl = .slice al gl cl2 ∧ vt = u5 ∧ wq = w2) ∨ (q = 1 ∧ ∃ e : En, Hid (ShS w wq X2 g (n + cost [o]) s2 vl vt ((G ++ [e]).map (·.c)) ((G ++ [e]).map tlE)) ∧ Hid (Ghost (G ++ [e]) s2)))) (fun _ _ i _ => ml - (RowKit.intOf i).toNat)
        case atStart => exact ⟨0, by omega, rfl, hide (.inl ⟨rfl, rfl, rfl, rfl⟩)⟩
        case round =>
          obtain ⟨q, hq, rfl, HQ⟩ := hrel
          by_cases hql : q < ml
          · have hq0 : q = 0 := by omega
            obtain ⟨_, hv1, hv2, hv3⟩ := HQ.out.resolve_right (fun h => by have := h.1; omega)
            subst hv1
            subst hv2
            subst hv3
            subst hq0
            obtain ⟨c, hc9⟩ : ∃ c, l1[0]? = some c := ⟨l1[0]'(by rw [HMl.out]; omega), List.getElem?_eq_getElem _⟩
            obtain ⟨ho3, hmf, hcc, hst⟩ := oneC_some (s := s) (b := false) (o := o) (c := c) (by rw [HL1.out]; exact hc9)
            obtain ⟨x', u', cap', hv, hcp, c0, c1, c2, hOi, hux⟩ := HR2.out.at hc9
            rw [HMl.out] at hv hcp
            cases hv
            subst hcc
            dsimp only at c0 c1 c2 hOi
            simp only [Nat.zero_mul, Addr.add, if_true] at c0 c1 c2
            obtain ⟨au, cu, rfl⟩ := own_shape hOi
            generalize hPk : pick s (srt o.R) = cc at *
            have HOi := hide (hOi.low hws)
            have HUx := hide hux
            have HPk := hide hPk
            have hqi : (0 : Int) < ml := by omega
            obtain ⟨xs, hx, hadd⟩ := HS2.out.addC1 (gl := gl) (by rw [List.length_map, HGl.out])
            have HXs := hide hx
            have HAd := hide hadd
            have HMf := hide hmf
            have HSt2 := hide hst
            have hws2 := HS2.out.bel.size
            obtain ⟨zl, hzl⟩ : ∃ z, o.R.length = z := ⟨_, rfl⟩
            have HZl := hide hzl
            rw [hzl] at c0
            clear hx hadd hOi hux hPk hmf hst ho3 hc9 HQ hzl
            go_upto_region 19 with (refine wpList_append_own_at _ rfl (.tmp 59) (.tmp 64) 25 rfl w.heap.size 30 i30 _ 3 40 Try.underlying25 HI.out.1 HI.out.2.1 HI.out.2.2.1 HI.out.2.2.2 rfl (by decide) _ gl _ rfl (World.ownsRow.alloc HXs.out _) (⟨wr.heap.size, 0, none⟩) 1 1 [Value.slice au zl cu, .int .i64 cc, .bool false] rfl rfl (cell_row_new _ #[Value.slice au zl cu, .int .i64 cc, .bool false] _) (by simp [Value.oneCell']) (by unfold maxLen; omega) (by omega) (by simp; omega) ?_; intro v' w3 hown hg9 _ hat)
            have HS3 := hide (HAd.out _ _ _ _ ⟨o.R, cc, false⟩ HOi.out HUx.out (by rw [HZl.out]; exact hown) hg9 hat)
            obtain ⟨al3, cl3, rfl⟩ := own_shape hown
            clear hown hg9 hat HAd HXs c0 c1 c2
            go_wp2_with fail
            refine (Told_any w3 g _ X2 s2 HS3.out.pl (by have := HBd.out; have := HCs.out; omega)).mono ?_
            rintro e w4 ⟨tv, ks, rfl, ho4, hpw, hks, hlen, hb4⟩
            have HS4 := hide (HS3.out.below hb4)
            have hkl : ks.length ≤ 4194304 := by have := HBd.out; have := HCs.out; omega
            have HO4 := hide (Os.low (base' := w.heap.size) ho4 HS3.out.bel.size)
            have HO4x : Hid (∀ b, tv.ownBlock = some b → ¬ X2 b) := hide (fun b hb h => by
              have := (World.ownsRow.lt ho4 b hb).1
              have := HS3.out.pl.lt b h
              omega)
            have HKs := hide (And.intro hks hkl)
            obtain ⟨at4, ct4, htv⟩ := own_shape ho4
            subst htv
            rw [told_len] at HO4 HO4x ⊢
            generalize hkn : ks.length = kn at *
            have HKn := hide hkn
            obtain ⟨xs, hx, hadd⟩ := HS4.out.addT1 (gl := gl) (by rw [List.length_map, HGl.out])
            have HXs := hide hx
            have HAd := hide hadd
            have hws4 := HS4.out.bel.size
            clear hx hadd hpw hks hb4 ho4 HS3 hkn
            go_wp2_with (refine wpList_append_own_at _ rfl (.tmp 66) (.tmp 69) 38 rfl w.heap.size 33 i33 _ 1 24 Try.underlying38 HJ.out.1 HJ.out.2.1 HJ.out.2.2.1 HJ.out.2.2.2 rfl (by decide) _ gl _ rfl (World.ownsRow.alloc HXs.out _) (⟨w4.heap.size, 0, none⟩) 1 1 [Value.slice at4 kn ct4] rfl rfl (cell_one_new _ _ _) (by simp [Value.oneCell']) (by unfold maxLen; omega) (by omega) (by simp; omega) ?_; intro v6 w6 hown hg9 _ hat)
            have HS6 : Hid (ShS w w6 X2 g (n + cost [o]) s2 _ v6 ((G ++ [(⟨⟨o.R, cc, false⟩, s, s2, ks, n⟩ : En)]).map (·.c)) ((G ++ [(⟨⟨o.R, cc, false⟩, s, s2, ks, n⟩ : En)]).map tlE)) := hide (by
              have := HAd.out _ _ _ _ (told s2 ks) HO4.out HO4x.out hown hg9 hat
              rw [List.map_append, List.map_append]
              exact this)
            have HG6 : Hid (Ghost (G ++ [(⟨⟨o.R, cc, false⟩, s, s2, ks, n⟩ : En)]) s2) := hide (ghost_snoc HG.out (.inr ⟨rfl, hsk, HOk2.out, HMf.out, (HFo.out o (by simp)).2, by show o.R.length ≤ _; have := HCs.out; omega, HPk.out.symm, by rw [← HSt.out]; exact HSt2.out, HKs.out.1, by show ks.length ≤ _; have := HKs.out.2; have := HKn.out; omega⟩) (fun _ => rfl) (fun _ => rfl))
            clear hown hg9 hat HAd HXs HS4 HO4 HO4x
            go_roundw
            case rel => exact ⟨1, by omega, by go_num, hide (.inr ⟨rfl, _, HS6, HG6⟩)⟩
            case measure => simp [RowKit.intOf]; omega
          · obtain rfl : q = ml := by omega
            rcases HQ.out with ⟨hq0, hv1, hv2, hv3⟩ | ⟨hq1, e, HSe, HGe⟩
            · subst hv1
              subst hv2
              subst hv3
              have HG3 : Hid (Ghost G s2) := hide (by
                have := stepS_not (s := s) hk2 (by rw [HL1.out, HMl.out]; exact hq0)
                rw [HSt.out] at this
                rw [this]
                exact HG.out)
              clear hq0 HQ
              go_wp2
              go_roundw
              case rel => exact ⟨k + 1, n + cost [o], X2, s2, G, by omega, by go_num, hsk2, hide (by have := HBd.out; have := HCs.out; have := HGl.out; refine ⟨by omega, ?_⟩; omega), HS2, HG3⟩
              case measure => simp [RowKit.intOf]; omega
            · clear hq1 HQ
              go_wp2
              go_roundw
              case rel => exact ⟨k + 1, n + cost [o], X2, s2, G ++ [e], by omega, by go_num, hsk2, hide (by have := HBd.out; have := HCs.out; have := HGl.out; refine ⟨by omega, ?_⟩; rw [List.length_append]; simp only [List.length_cons, List.length_nil]; omega), HSe, HGe⟩
              case measure => simp [RowKit.intOf]; omega
    · obtain rfl : k = m := by omega
      obtain ⟨gl, hgl⟩ : ∃ z, G.length = z := ⟨_, rfl⟩
      have HGl := hide hgl
      obtain ⟨al, cl2, rfl⟩ : ∃ a c, u4 = .slice a gl c := by
        obtain ⟨us, e1, e2, _⟩ := HS.out.ch
        obtain ⟨a, c, h⟩ := own_shape e2
        exact ⟨a, c, by rw [h, List.length_map, hgl]⟩
      obtain ⟨at5, ct5, rfl⟩ : ∃ a c, u5 = .slice a gl c := by
        obtain ⟨us, e1, e2, _⟩ := HS.out.tl
        obtain ⟨a, c, h⟩ := own_shape e2
        exact ⟨a, c, by rw [h, List.length_map, hgl]⟩
      have hglb : gl ≤ 1048576 := by have := HBd.out; have := cost_take os k; omega
      obtain ⟨i3, hi, hz, hs, hb⟩ := info3'
      have HI3 := hide (And.intro hi (And.intro hz (And.intro hs hb)))
      clear hi hz hs hb hgl
      have HBx := hide HS.out.bel
      obtain ⟨wz, hwz⟩ : ∃ z, z = wr := ⟨_, rfl⟩
      subst hwz
      go_upto_region 21 with fail
      go_loopw [10] (fun i wq => ∃ a : Nat, a ≤ gl ∧ i = .int .i64 (a : Nat) ∧ Hid (Below wz.heap.size wz wq)) (fun i _ => gl - (RowKit.intOf i).toNat)
      case atStart => exact ⟨0, by omega, rfl, hide (Below.refl _ _)⟩
      case round =>
        obtain ⟨a, ha, rfl, HBa⟩ := hrel
        by_cases hal : a < gl
        · obtain ⟨e, he⟩ : ∃ e, G[a]? = some e := ⟨G[a]'(by rw [HGl.out]; exact hal), List.getElem?_eq_getElem _⟩
          have HEg := hide he
          have HZr := ready_short HG.out (List.mem_of_getElem? he)
          have HSa := HS.out.below HBa.out
          obtain ⟨x1, u1, cap1, hv, hcp, c0, _, _, hOi, _⟩ := HSa.ch.at (i := a) (c := e.c) (by rw [List.getElem?_map, he]; rfl)
          rw [List.length_map, HGl.out] at hv hcp
          cases hv
          obtain ⟨au, cu, rfl⟩ := own_shape hOi
          obtain ⟨zl, hzl⟩ : ∃ z, e.c.R.length = z := ⟨_, rfl⟩
          have HZl := hide hzl
          rw [hzl] at c0 HZr
          have hai : (a : Int) < gl := by omega
          have hsz := HBa.out.size
          clear hOi he hzl HSa
          go_upto_region 25 with (refine wpList_make_full _ rfl _ _ 28 rfl wz.heap.size 3 i3 (.int .i64 0) 1 Try.underlying28 HI3.out.1 HI3.out.2.1 HI3.out.2.2.1 .i64 .i64 zl zl zl rfl rfl rfl rfl (by rw [HI3.out.2.2.2]; omega) (by unfold maxLen; omega) hsz ?_; intro w1' ho hg)
          have HO0 : Hid (Oi w1' wz.heap.size (.slice (some ⟨wr.heap.size, 0, none⟩) zl zl) (List.replicate zl 0)) := hide (by unfold Oi; rw [made_ints] at ho; simpa using ho)
          have HB1 : Hid (Below wz.heap.size wz w1') := hide (HBa.out.grown hg hsz (fun k hk => by cases hk))
          obtain ⟨gc, hgc⟩ : ∃ z, wr.heap.size = z := ⟨_, rfl⟩
          rw [hgc] at HO0 hsz ⊢
          clear ho hg hgc c0
          go_loopw [12] (fun i wq => ∃ (b : Nat) (C : List Int), a ≤ b ∧ b ≤ gl ∧ i = .int .i64 (b : Nat) ∧ Hid (C.length = zl ∧ (∀ c ∈ C, 0 ≤ c ∧ c ≤ (b : Int) - a)) ∧ Hid (Oi wq wz.heap.size (.slice (some ⟨gc, 0, none⟩) zl zl) C) ∧ Hid (Below wz.heap.size wz wq) ∧ Hid ((b = a ∧ C = List.replicate zl 0) ∨ (∃ (b' : Nat) (p : En) (n : Nat) (cnt : Int → Int), b = b' + 1 ∧ a ≤ b' ∧ G[b']? = some p ∧ p.c.b = false ∧ Meas e.c.R e.s.last n p.t cnt ∧ ∀ i, i < zl → C.getD i 0 = cnt (e.c.R.getD i 0)))) (fun i _ => gl - (RowKit.intOf i).toNat)
          case atStart => exact ⟨a, _, by omega, by omega, rfl, hide ⟨by simp, fun c hc => by have := (List.mem_replicate.1 hc).2; omega⟩, HO0, HB1, hide (.inl ⟨rfl, rfl⟩)⟩
          case round =>
            obtain ⟨b, C, hab, hbl, rfl, HCl, HOc, HBb, HMs⟩ := hrel
            clear HO0 HB1
            rcases Nat.lt_or_ge b gl with hbg | hbg
            · obtain ⟨f, hf⟩ : ∃ f, G[b]? = some f := ⟨G[b]'(by rw [HGl.out]; exact hbg), List.getElem?_eq_getElem _⟩
              have HFg := hide hf
              have HZf := ready_short HG.out (List.mem_of_getElem? hf)
              have HSb := HS.out.below HBb.out
              obtain ⟨xa, ua, capa, hva, hcpa, a0, _, _, hOa, _⟩ := HSb.ch.at (i := a) (c := e.c) (by rw [List.getElem?_map, HEg.out]; rfl)
              obtain ⟨xb, ub, capb, hvb, hcpb, b0, b1, b2, hOb, _⟩ := HSb.ch.at (i := b) (c := f.c) (by rw [List.getElem?_map, hf]; rfl)
              rw [List.length_map, HGl.out] at hva hvb hcpa hcpb
              cases hva
              cases hvb
              obtain ⟨aua, cua, rfl⟩ := own_shape hOa
              obtain ⟨aub, cub, rfl⟩ := own_shape hOb
              obtain ⟨fl, hfl⟩ : ∃ z, f.c.R.length = z := ⟨_, rfl⟩
              have HFl := hide hfl
              rw [HZl.out] at a0
              rw [hfl] at b0
              have hbi : (b : Int) < gl := by omega
              have HRa := hide (hOa.rd.mono (S' := fun _ => True) (fun _ _ => trivial))
              have HRb := hide (hOb.rd.mono (S' := fun _ => True) (fun _ _ => trivial))
              rw [HZl.out] at HRa
              rw [hfl] at HRb
              obtain ⟨fb, hfb⟩ : ∃ q, f.c.b = q := ⟨_, rfl⟩
              have HFb := hide hfb
              rw [hfb] at b2
              obtain ⟨fc, hfc⟩ : ∃ q, f.c.c = q := ⟨_, rfl⟩
              have HFc := hide hfc
              rw [hfc] at b1
              have HSm : Hid (∀ n, Calls Try.prog 16 #[.slice aua zl cua, .slice aub fl cub] (wr.drewN n) fun e' w' => e' = .returned (.bool (sm e.c.R f.c.R)) ∧ w' = wr.drewN n) := hide (fun n => sameSet_any _ _ _ _ _ _ (HRa.out.keep (w' := wr.drewN n) (fun _ _ => rfl)) (HRb.out.keep (w' := wr.drewN n) (fun _ _ => rfl)) (by rw [HZl.out]; exact HZr) HZf)
              obtain ⟨q, hq⟩ : ∃ q, sm e.c.R f.c.R = q := ⟨_, rfl⟩
              have HSq := hide hq
              rw [hq] at HSm
              clear hf hfl hfb hfc hq hOa hOb HSb hab hbl
              cases fb with
              | true =>
                go_upto_region 25 with fail
                go_quiet (fail)
                have HB9 : Hid (Below wz.heap.size wz (wr.drewN nq)) := hide (HBb.out.trans (drewN_below _ _ _))
                go_wp2
                go_roundw
                case rel => exact ⟨a + 1, by omega, by go_num, HB9⟩
                case measure => simp [RowKit.intOf]; omega
              | false =>
                cases q with
                | false =>
                  go_upto_region 25 with fail
                  go_quiet (first | (go_at_call 16; exact Calls.quiet_of_same (HSm.out _)))
                  have HB9 : Hid (Below wz.heap.size wz (wr.drewN nq)) := hide (HBb.out.trans (drewN_below _ _ _))
                  go_wp2
                  go_roundw
                  case rel => exact ⟨a + 1, by omega, by go_num, HB9⟩
                  case measure => simp [RowKit.intOf]; omega
                | true =>
                  go_upto_region 25 with fail
                  go_quiet (first | (go_at_call 16; exact Calls.quiet_of_same (HSm.out _)))
                  have HB9 : Hid (Below wz.heap.size wz (wr.drewN nq)) := hide (HBb.out.trans (drewN_below _ _ _))
                  have HO9 : Hid (Oi (wr.drewN nq) wz.heap.size (.slice (some ⟨gc, 0, none⟩) zl zl) C) := hide (HOc.out.keep1 (fun _ _ => rfl))
                  clear a0 b0 b1 b2 HRa HRb HSm hcpa hcpb
                  go_upto_region 28 with fail
                  go_loopw [13] (fun i wq => ∃ (j : Nat) (D : List Int), j ≤ zl ∧ i = .int .i64 (j : Nat) ∧ Hid (D.length = zl ∧ ∀ y, y < zl → D.getD y 0 = C.getD y 0 + (if y < j ∧ e.c.R.getD y 0 = fc then 1 else 0)) ∧ Hid (Oi wq wz.heap.size (.slice (some ⟨gc, 0, none⟩) zl zl) D) ∧ Hid (Below wz.heap.size wz wq)) (fun i _ => zl - (RowKit.intOf i).toNat)
                  case atStart => exact ⟨0, C, by omega, rfl, hide ⟨HCl.out.1, fun y hy => by simp⟩, HO9, HB9⟩
                  case round =>
                    obtain ⟨j, D, hj, rfl, HD, HOj, HBj⟩ := hrel
                    clear HO9 HB9
                    by_cases hjl : j < zl
                    · have HSj := HS.out.below HBj.out
                      obtain ⟨xa2, ua2, capa2, hva, hcpa, a0, _, _, hOa, _⟩ := HSj.ch.at (i := a) (c := e.c) (by rw [List.getElem?_map, HEg.out]; rfl)
                      obtain ⟨xb2, ub2, capb2, hvb, hcpb, _, b1, _, _, _⟩ := HSj.ch.at (i := b) (c := f.c) (by rw [List.getElem?_map, HFg.out]; rfl)
                      rw [List.length_map, HGl.out] at hva hvb hcpa hcpb
                      cases hva
                      cases hvb
                      obtain ⟨au3, cu3, rfl⟩ := own_shape hOa
                      obtain ⟨y, rfl, _, hy⟩ := hOa.rd.some_of (by rw [HZl.out]; omega)
                      rw [HZl.out] at a0
                      have d0 := hy j (by rw [HZl.out]; omega)
                      rw [HFc.out] at b1
                      have hji : (j : Int) < zl := by omega
                      obtain ⟨k0, k1⟩ := HOj.out.cell (j := j) (by rw [HD.out.1]; exact hjl)
                      have hDj := HD.out.2 j hjl
                      rw [if_neg (by omega), Int.add_zero] at hDj
                      have hCj : C.getD j 0 ∈ C := by
                        rw [List.getD_eq_getElem?_getD, List.getElem?_eq_getElem (by rw [HCl.out.1]; exact hjl), Option.getD_some]
                        exact List.getElem_mem _
                      have hCb := HCl.out.2 _ hCj
                      rw [hDj] at k0
                      have HDj := hide hDj
                      obtain ⟨cj, hcj⟩ : ∃ q, C.getD j 0 = q := ⟨_, rfl⟩
                      have HCj := hide hcj
                      rw [hcj] at k0 hCb
                      obtain ⟨rj, hrj⟩ : ∃ q, e.c.R.getD j 0 = q := ⟨_, rfl⟩
                      have HRj := hide hrj
                      rw [hrj] at d0
                      clear hy hOa HSj hDj hCj hcj hrj
                      by_cases hrc : rj = fc
                      · subst hrc
                        have hwc : IntKind.i64.wrap (cj + 1) = cj + 1 := wi _ (by omega) (by omega)
                        have HO5 : Hid (∀ n, Oi ((wr.drewN n).setCell ⟨gc, j, none⟩ (.int .i64 (cj + 1))) wz.heap.size (.slice (some ⟨gc, 0, none⟩) zl zl) (D.set j (cj + 1))) := hide (fun n => Oi.set (HOj.out.keep1 (w' := wr.drewN n) (fun _ _ => rfl)))
                        have HB5 : Hid (∀ n, Below wz.heap.size wz ((wr.drewN n).setCell ⟨gc, j, none⟩ (.int .i64 (cj + 1)))) := hide (fun n => (HBj.out.trans (drewN_below _ _ n)).setCell (p := ⟨gc, j, none⟩) hsz _)
                        go_upto_region 30 with fail
                        go_quiet (fail)
                        go_wp2
                        go_roundw
                        case rel =>
                          refine ⟨j + 1, D.set j (cj + 1), by omega, by go_num, hide ⟨by rw [List.length_set]; exact HD.out.1, fun y hy => ?_⟩, hide (by first | exact HO5.out _ | simpa using HO5.out _), hide (by first | exact HB5.out _ | simpa using HB5.out _)⟩
                          by_cases hyj : y = j
                          · subst hyj
                            rw [List.getD_eq_getElem?_getD, List.getElem?_set_self (by rw [HD.out.1]; exact hy), Option.getD_some, if_pos ⟨by omega, HRj.out⟩, HCj.out]
                          · rw [List.getD_eq_getElem?_getD, List.getElem?_set_ne (by omega), ← List.getD_eq_getElem?_getD, HD.out.2 y hy]
                            congr 1
                            by_cases h9 : y < j ∧ e.c.R.getD y 0 = rj
                            · rw [if_pos h9, if_pos ⟨by omega, h9.2⟩]
                            · rw [if_neg h9, if_neg (fun h => h9 ⟨by omega, h.2⟩)]
                        case measure => simp [RowKit.intOf]; omega
                      · have hrcb : (rj == fc) = false := by simpa using hrc
                        have HRc := hide hrc
                        clear hrc
                        go_upto_region 30 with fail
                        go_quiet (fail)
                        have HB7 : Hid (Below wz.heap.size wz (wr.drewN nq)) := hide (HBj.out.trans (drewN_below _ _ _))
                        have HO7 : Hid (Oi (wr.drewN nq) wz.heap.size (.slice (some ⟨gc, 0, none⟩) zl zl) D) := hide (HOj.out.keep1 (fun _ _ => rfl))
                        go_wp2
                        go_roundw
                        case rel =>
                          refine ⟨j + 1, D, by omega, by go_num, hide ⟨HD.out.1, fun y hy => ?_⟩, HO7, HB7⟩
                          rw [HD.out.2 y hy]
                          congr 1
                          by_cases h9 : y < j ∧ e.c.R.getD y 0 = fc
                          · rw [if_pos h9, if_pos ⟨by omega, h9.2⟩]
                          · rw [if_neg h9, if_neg (fun h => by
                              by_cases hyj : y = j
                              · subst hyj; exact HRc.out (HRj.out.symm.trans h.2)
                              · exact h9 ⟨by omega, h.2⟩)]
                        case measure => simp [RowKit.intOf]; omega
                    · obtain rfl : j = zl := by omega
                      have HM2 : Hid (∃ (n2 : Nat) (cnt2 : Int → Int), Meas e.c.R e.s.last n2 f.t cnt2 ∧ ∀ y, y < j → D.getD y 0 = cnt2 (e.c.R.getD y 0)) := hide (by
                        rcases HMs.out with ⟨h1, h2⟩ | ⟨b', p, n, cnt, h1, h2, h3, h4, h5, h6⟩
                        · have hfe : f = e := by
                            have h7 := HFg.out
                            rw [h1, HEg.out] at h7
                            exact (Option.some.inj h7).symm
                          refine ⟨_, _, by rw [hfe]; exact meas_at HG.out HEg.out (by rw [← hfe]; exact HFb.out), fun y hy => ?_⟩
                          rw [HD.out.2 y hy, h2, ← hfe, HFc.out]
                          rw [List.getD_eq_getElem?_getD, List.getElem?_replicate, if_pos hy, Option.getD_some]
                          congr 1
                          by_cases h9 : f.c.R.getD y 0 = fc
                          · rw [if_pos ⟨hy, h9⟩, if_pos h9]
                          · rw [if_neg (fun h => h9 h.2), if_neg h9]
                        · refine ⟨_, _, meas_to HG.out h3 (by rw [← h1]; exact HFg.out) h4 HFb.out h5 (sm_in HSq.out), fun y hy => ?_⟩
                          rw [HD.out.2 y hy, h6 y hy, HFc.out]
                          congr 1
                          by_cases h9 : e.c.R.getD y 0 = fc
                          · rw [if_pos ⟨hy, h9⟩, if_pos h9]
                          · rw [if_neg (fun h => h9 h.2), if_neg h9])
                      have hab2 : a ≤ b := by
                        rcases HMs.out with ⟨h1, _⟩ | ⟨b', _, _, _, h1, h2, _⟩ <;> omega
                      have HDb : Hid (∀ c ∈ D, 0 ≤ c ∧ c ≤ ((b + 1 : Nat) : Int) - a) := hide (fun c hcD => by
                        obtain ⟨y, hy, rfl⟩ := List.getElem_of_mem hcD
                        have hy2 : y < j := by rw [← HD.out.1]; exact hy
                        have h7 := HD.out.2 y hy2
                        rw [List.getD_eq_getElem?_getD, List.getElem?_eq_getElem hy, Option.getD_some] at h7
                        have h8 := HCl.out.2 (C.getD y 0) (by
                          rw [List.getD_eq_getElem?_getD, List.getElem?_eq_getElem (by rw [HCl.out.1]; exact hy2), Option.getD_some]
                          exact List.getElem_mem _)
                        rw [h7]
                        split <;> omega)
                      have HSj := HS.out.below HBj.out
                      obtain ⟨xa2, ua2, capa2, hva, hcpa, a0, _, _, hOa, _⟩ := HSj.ch.at (i := a) (c := e.c) (by rw [List.getElem?_map, HEg.out]; rfl)
                      obtain ⟨xt, ut, capt, hvt, hcpt, _, t0, hSh⟩ := HSj.tl.at (i := b) (T := tlE f) (by rw [List.getElem?_map, HFg.out]; rfl)
                      rw [List.length_map, HGl.out] at hva hvt hcpa hcpt
                      cases hva
                      cases hvt
                      obtain ⟨au3, cu3, rfl⟩ := own_shape hOa
                      rw [HZl.out] at a0
                      obtain ⟨ash, csh, rfl, hsh, _⟩ := id hSh
                      have HMe : Hid (∀ n, Calls Try.prog 17 #[.slice au3 j cu3, .slice (some ⟨gc, 0, none⟩) j j, .slice ash (tlE f).length csh] (wr.drewN n) fun e' w' => e' = .returned (.bool true) ∧ ∃ t, w' = (wr.drewN n).drewN t) := hide (fun n => by
                        obtain ⟨n2, cnt2, hm, hD⟩ := HM2.out
                        obtain ⟨l1, l2⟩ := meas_law HG.out HFg.out HFb.out hm (C := D) (by rw [HZl.out]; exact hD)
                        have r1 := (hOa.rd.mono (S' := fun _ => True) (fun _ _ => trivial)).keep (w' := wr.drewN n) (fun _ _ => rfl)
                        rw [HZl.out] at r1
                        have r2 := (HOj.out.rd.mono (S' := fun _ => True) (fun _ _ => trivial)).keep (w' := wr.drewN n) (fun _ _ => rfl)
                        have r3 := (hSh.mono (S' := fun _ => True) (fun _ _ => trivial)).keep (w' := wr.drewN n) (fun _ _ => rfl)
                        exact measured_any (wr.drewN n) (fun _ => True) _ _ _ e.c.R D (tlE f) r1 r2 r3 (by rw [HZl.out]; exact HZr) (by rw [HD.out.1, HZl.out]) (told_short HG.out (List.mem_of_getElem? HFg.out)) l1 (fun c hcD => by have := HDb.out c hcD; omega) l2)
                      generalize (tlE f).length = tn at *
                      clear hSh hOa HSj hsh hcpa hcpt
                      go_upto_region 32 with fail
                      go_quiet (first | (go_at_call 17; refine quiet_of_draws (HMe.out _)))
                      have HB8 : Hid (Below wz.heap.size wz (wr.drewN nq)) := hide (HBj.out.trans (drewN_below _ _ _))
                      have HO8 : Hid (Oi (wr.drewN nq) wz.heap.size (.slice (some ⟨gc, 0, none⟩) j j) D) := hide (HOj.out.keep1 (fun _ _ => rfl))
                      clear HMe a0 t0
                      go_wp2
                      go_roundw
                      case rel => exact ⟨b + 1, D, by omega, by omega, by go_num, hide ⟨HD.out.1, HDb.out⟩, HO8, HB8, hide (.inr (by
                        obtain ⟨n2, cnt2, hm, hD⟩ := HM2.out
                        exact ⟨b, f, n2, cnt2, rfl, hab2, HFg.out, HFb.out, hm, hD⟩))⟩
                      case measure => simp [RowKit.intOf]; omega
            · have hbi : ¬ (b : Int) < gl := by omega
              go_upto_region 25 with fail
              go_quiet (fail)
              have HB9 : Hid (Below wz.heap.size wz (wr.drewN nq)) := hide (HBb.out.trans (drewN_below _ _ _))
              go_wp2
              go_roundw
              case rel => exact ⟨a + 1, by omega, by go_num, HB9⟩
              case measure => simp [RowKit.intOf]; omega
        · obtain rfl : a = gl := by omega
          go_wp2
          go_ret
          exact ⟨rfl, HBx.out.trans (HBa.out.mono HBx.out.size)⟩
end
end Go.Proofs.Ytjkjafbbijdniaa
