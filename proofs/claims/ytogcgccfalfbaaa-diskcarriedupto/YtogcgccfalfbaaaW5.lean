import Derived.Test.YtogcgccfalfbaaaW4
import Derived.Deep.DeepCutAuto
import Derived.BigQuiet
namespace Go.Proofs.Ytogcgccfalfbaaa
open Go.RowKit

set_option maxRecDepth 100000 in
set_option maxHeartbeats 8000000 in
theorem carried_walk (a : Option Addr) (ln cp : Nat) (O : Nat → Opr) (a1 : Option Addr) (len cap : Nat) (Z : Nat → Int × Nat) (a2 : Option Addr) (lnm cpm : Nat) (Y : Nat → Int × Nat) (w : World)
    (hln : ln ≤ 1048576) (hO : IsOps w a ln O) (hlen : len ≤ 1048576) (hZ : IsPuts w a1 len Z) (hlm : lnm ≤ 1048576) (hY : IsPuts w a2 lnm Y) :
    Calls Try.prog 3 #[.slice a ln cp, .slice a1 len cap, .slice a2 lnm cpm] w fun e w' => e = .returned (.bool true) ∧ Below w.heap.size w w' := by
  have HZ := hide hZ
  have HY := hide hY
  clear hZ hY
  go_enter Try.func3, Try.ntmps3
  go_wp2_with fail
  refine (fresh_any a ln cp O w hln hO).mono ?_
  rintro e w1 ⟨B, M, A, rfl, h1, hA⟩
  have h1' : Sys w w1 (DkA B (wait M [] A)) := h1
  obtain ⟨F1, hd1, hF1, hn1⟩ := h1'.call1
  have hb1 := h1'.bel
  clear h1 h1' hO
  go_wp2_with fail
  refine (laid_any hd1 hb1 hF1 a1 len cap Z hlen HZ.out (by omega) (by simp)).mono ?_
  rintro e w2 ⟨rfl, F2, hd2, hx2⟩
  have h2 : Sys w w2 (DkA B (wait M (puts Z len) (A + len))) := hn1 _ _ _ hd2 hx2
  obtain ⟨F3, hd3, hF3, hn3⟩ := h2.call1
  clear hd1 hF1 hn1 hb1 hd2 hx2 h2 F2
  go_wp2_with fail
  refine (flush_ok hd3 rfl (fun h => by cases h) (by show A + len < _; omega)).mono ?_
  rw [flush_wait]
  rintro e w3 ⟨rfl, F4, hd4, hx4⟩
  have h3 := hn3 _ _ _ hd4 hx4
  have HMs : Hid (∀ s, s < 1024 → Sec (play M (puts Z len) s)) := by obtain ⟨_, _, h9, _⟩ := hd4; exact hide h9.ok.m
  generalize play M (puts Z len) = M1 at *
  obtain ⟨A1, hA1⟩ : ∃ A1, A + len + 1 = A1 := ⟨_, rfl⟩
  rw [hA1] at h3
  have H3 := hide h3
  clear hd3 hF3 hn3 hd4 hx4 h3 F4
  have hown : (w3.alloc (.cells #[.int .i64 0, .int .u8 0, .int .i64 1023, .int .u8 0] 30)).ownsRow 0 30 2 (.slice (some ⟨w3.heap.size, 0, none⟩) 2 2) 2 (([(0, 0), (1023, 0)] : List (Int × Nat)).flatMap pr2) := ⟨rfl, .inr ⟨w3.heap.size, 2, _, rfl, Nat.zero_le _, heap_alloc_new _ _, Nat.le_refl _, by unfold maxLen; omega, rfl, rfl⟩⟩
  have hba : Below w3.heap.size w3 (w3.alloc (.cells #[.int .i64 0, .int .u8 0, .int .i64 1023, .int .u8 0] 30)) := (Below.refl _ _).alloc (Nat.le_refl _) _
  have hsrc : ∀ ad, a1 = some ad → ∀ j u, (((List.range len).map Z).flatMap pr2)[j]? = some u → (w3.alloc (.cells #[.int .i64 0, .int .u8 0, .int .i64 1023, .int .u8 0] 30)).cell? (ad.add j) = some u := fun ad ha j u hu => cell_up (H3.out.bel.trans (hba.mono H3.out.bel.size)) (isPuts_cells HZ.out ha j u hu)
  have HOwn := hide hown
  have HSrc := hide hsrc
  have HBa := hide hba
  clear hown hsrc hba
  go_wp2_with (at_builtin; refine wpList_append_puts rfl _ _ rfl (.slice (some ⟨w3.heap.size, 0, none⟩) 2 2) 2 _ rfl HOwn.out a1 len cap ((List.range len).map Z) rfl (by simp) (isPuts_none HZ.out) HSrc.out (by omega) ?_)
  intro v4 w4 hown4 hg4 hloc4
  have hb4 : Below w3.heap.size w3 w4 := HBa.out.grown hg4 HBa.out.size (fun b hb' => by simp [Value.ownBlock] at hb'; omega)
  have h4 : Sys w w4 (star (PutsA v4 ([(0, 0), (1023, 0)] ++ (List.range len).map Z)) (DkA B (wait M1 [] A1))) := by
    refine H3.out.puts (good_dk _ _) ?_ ?_ hb4
    · rw [List.flatMap_append, List.length_append, List.length_map, List.length_range]; exact hown4
    · intro b hb'
      rcases hloc4 with e | e
      · rw [hb'] at e; simp [Value.ownBlock] at e; omega
      · rw [hb'] at e; simp at e; omega
  have hfair1 : Fair (([(0, 0), (1023, 0)] : List (Int × Nat)) ++ (List.range len).map Z) := by
    intro z hz
    rcases List.mem_append.1 hz with h | h
    · simp at h; rcases h with rfl | rfl <;> exact ⟨by decide, by decide, by decide⟩
    · exact fair_puts HZ.out z h
  have hl1 : (([(0, 0), (1023, 0)] : List (Int × Nat)) ++ (List.range len).map Z).length = 2 + len := by simp; omega
  generalize ([(0, 0), (1023, 0)] : List (Int × Nat)) ++ (List.range len).map Z = L1 at *
  obtain ⟨a4, c4, hv4, -⟩ := World.ownsRow.shape hown4
  subst hv4
  have H4 := hide h4
  have HF1 := hide hfair1
  have HL1 := hide hl1
  clear hown4 hg4 hloc4 hb4 h4 hfair1 hl1 HOwn HSrc HBa H3
  go_wp2_with fail
  refine (next_any a1 len cap Z hlen HZ.out H4.out.bel).mono ?_
  rintro e w5 ⟨vn, RN, rfl, hN5, hl5, hb5⟩
  have h5 := (H4.out.new ((good_puts _ _).star (good_dk _ _)) hN5 hl5 hb5).mono (fun _ _ h => star_swap h)
  obtain ⟨an, cn, hvn, hpn⟩ := hN5.puts (nx_in Z len)
  rw [nx_len] at hvn hpn
  subst hvn
  obtain ⟨Zn, hZn⟩ : ∃ Zn : Nat → Int × Nat, (fun k => ((nx Z len).getD k 0, 0)) = Zn := ⟨_, rfl⟩
  rw [hZn] at hpn
  obtain ⟨F5, hX5, -, -⟩ := h5.call ((good_near _ _).star (good_dk _ _))
  have hown5 := hX5.1
  rw [HL1.out] at hown5
  have H5 := hide h5
  have HOwn := hide hown5
  have HPn := hide hpn
  clear hN5 hl5 hb5 h5 hX5 hown5 hpn H4 F5
  go_wp2_with (at_builtin; refine wpList_append_puts rfl _ _ rfl (.slice a4 (2 + len) c4) (2 + len) _ rfl HOwn.out an len cn ((List.range len).map Zn) rfl (by simp) (isPuts_none HPn.out) (fun ad ha => isPuts_cells HPn.out ha) (by omega) ?_)
  intro v6 w6 hown6 hg6 hloc6
  have h6 := ((H5.out.appPuts ((good_near _ _).star (good_dk _ _)) HL1.out (by simp) hown6 hg6 hloc6).mono (fun _ _ h => star_swap h)).drop
  have hfair : Fair (L1 ++ (List.range len).map Zn) := by
    intro z hz
    rcases List.mem_append.1 hz with h | h
    · exact HF1.out z h
    · exact fair_puts HPn.out z h
  have hl6 : (L1 ++ (List.range len).map Zn).length = 2 + len + len := by rw [List.length_append, HL1.out]; simp
  generalize L1 ++ (List.range len).map Zn = L at *
  obtain ⟨a6, c6, hv6, -⟩ := World.ownsRow.shape hown6
  subst hv6
  obtain ⟨La, hLa⟩ : ∃ La, 2 + len + len = La := ⟨_, rfl⟩
  have hLa2 : La ≤ 4194304 := by omega
  rw [hLa] at h6 hl6
  obtain ⟨Hp, Hd, hp6, hd6⟩ := h6.two
  obtain ⟨aq, cq, hvq, hpq⟩ := hp6.puts hfair
  rw [hl6] at hvq hpq
  cases hvq
  obtain ⟨Zq, hZq⟩ : ∃ Zq : Nat → Int × Nat, (fun k => L.getD k (0, 0)) = Zq := ⟨_, rfl⟩
  rw [hZq] at hpq
  have H6 := hide h6
  have HFr := hide hfair
  have HLL := hide hl6
  have HZq := hide hZq
  have HPq := hide hpq
  have HD6 := hide hd6
  clear h6 hown6 hg6 hloc6 hfair hl6 hp6 hd6 hpq H5 HOwn HPn HF1 HL1 hZn hZq
  go_wp2_with fail
  refine (raws_any HD6.out (Below.refl _ _) a6 La c6 Zq hLa2 HPq.out).mono ?_
  rw [show (wait M1 [] A1).M = M1 from rfl]
  rintro e w7 ⟨vb, Rb, rfl, hR7, hl7, hb7⟩
  have h7 := (H6.out.new ((good_puts _ _).star (good_dk _ _)) hR7 hl7 hb7).mono (fun _ _ h => rot3 h)
  obtain ⟨ab, cb, hvb, _⟩ := rows_read hR7
  rw [rawsOf_len] at hvb
  subst hvb
  obtain ⟨F7, hd7, hF7, hn7⟩ := h7.call ((good_rows _ _).star (good_puts _ _))
  have hb7' := h7.bel
  clear hR7 hl7 hb7 h7 H6 HD6 HPq
  go_wp2_with fail
  refine (laid_any hd7 hb7' hF7 a2 lnm cpm Y hlm HY.out (by omega) (by simp)).mono ?_
  rintro e w8 ⟨rfl, F8, hd8, hx8⟩
  have h8 : Sys w w8 (star (DkA B (wait M1 (puts Y lnm) (A1 + lnm))) _) := hn7 _ _ _ hd8 hx8
  have hd8' : DkA B (wait M1 (puts Y lnm) (A1 + lnm)) w8 F8 := hd8
  have H8 := hide h8
  have HD8 := hide hd8'
  clear hd7 hF7 hn7 hb7' hd8 hd8' hx8 h8
  go_wp2_with fail
  refine (medium_any HD8.out).mono ?_
  rw [show (wait M1 (puts Y lnm) (A1 + lnm)).M = M1 from rfl]
  rintro e w9 ⟨r9, cur, rfl, hrow9, hM9, hb9⟩
  have hcl := hM9.len
  have h9 : Sys w w9 (star (BigA r9 cur) (star (DkA B (wait M1 (puts Y lnm) (A1 + lnm))) (star (RowsA (.slice ab La cb) (rawsOf M1 Zq La)) (PutsA (.slice a6 La c6) L)))) := by
    refine H8.out.new ((good_dk _ _).star ((good_rows _ _).star (good_puts _ _))) (X := BigA r9 cur) (Fc := fun b => r9.ownBlock = some b) ⟨by rw [hcl]; exact own_low hrow9, fun _ => Iff.rfl⟩ (fun b hb' => (World.ownsRow.lt hrow9 b hb').1) hb9
  obtain ⟨g9, c9, hr9, hc9, _⟩ := own_some hrow9 (by omega)
  subst hr9
  have H9 := hide h9
  have HM9 := hide hM9
  have HO9 := hide (own_low hrow9)
  obtain ⟨i5, hi, hz, hs, hbb⟩ := info5'
  clear hrow9 hM9 hb9 h9 H8 HD8
  go_wp2_with (at_builtin; refine wpList_append_own_at _ rfl _ _ 34 rfl 0 5 i5 (.int .u8 0) 1 1 Try.underlying34 hi hz hs hbb rfl (by decide) (.slice (some ⟨g9, 0, none⟩) 131072 c9) 131072 cur rfl (HO9.out.alloc _) ⟨w9.heap.size, 0, none⟩ 2 2 [By 165, By 166] rfl rfl ?c1 ?c2 ?c3 ?c4 ?c5 ?_)
  case c1 => exact cell_two_new _ _ _ _
  case c2 => simp [Value.oneCell', By]
  case c3 => unfold maxLen; omega
  case c4 => omega
  case c5 => exact Nat.zero_le _
  intro v10 w10 hown10 hg10 _ hloc10
  have hl2 : (cur ++ [By 165, By 166]).length = 131074 := by rw [List.length_append, hcl]; rfl
  have h10 := H9.out.appBig ((good_dk _ _).star ((good_rows _ _).star (good_puts _ _))) hcl rfl hown10 hg10 hloc10
  obtain ⟨g2, c2, hv10, hc2, hg2⟩ := own_some hown10 (by omega)
  subst hv10
  have HRg : Hid (∀ s, s < 1024 → w10.rangeAt g2 (s * 128) ((M1 s).map By)) := hide (HM9.out.cells (T := [By 165, By 166]) (by rw [hl2]; exact hown10) HMs.out)
  have hq0 : w10.cell? ⟨g2, 131072, none⟩ = some (.int .u8 165) := by rw [hown10.cellAt 131072 (by omega), List.getElem?_append_right (by omega), hcl]; rfl
  have hq1 : w10.cell? ⟨g2, 131073, none⟩ = some (.int .u8 166) := by rw [hown10.cellAt 131073 (by omega), List.getElem?_append_right (by omega), hcl]; rfl
  have HAny : Hid (∀ j, j < 131074 → ∃ z, (cur ++ [By 165, By 166])[j]? = some (.int .u8 z)) := by
    refine hide fun j hj => ?_
    by_cases h : j < 131072
    · have hs9 : j / 128 < 1024 := by omega
      have hsec := HMs.out (j / 128) hs9
      have hlt : j % 128 < ((M1 (j / 128)).map By).length := by rw [List.length_map, hsec.1]; omega
      have h3 := HM9.out.at' (j / 128) hs9 (j % 128) _ (List.getElem?_eq_getElem hlt)
      rw [show j / 128 * 128 + j % 128 = j by omega] at h3
      rw [List.getElem?_append_left (by omega), h3, List.getElem_map]
      exact ⟨_, rfl⟩
    · rw [List.getElem?_append_right (by omega), hcl]
      obtain rfl | rfl : j = 131072 ∨ j = 131073 := by omega
      · exact ⟨165, rfl⟩
      · exact ⟨166, rfl⟩
  generalize cur ++ [By 165, By 166] = cur2 at *
  have H10 := hide h10
  have HL2 := hide hl2
  have hci : (131072 : Int) ≤ (c2 : Int) := by omega
  clear hown10 hg10 hloc10 h10 H9 HM9 HO9 hi hz hs hbb hcl hl2 i5
  go_wp2_with fail
  refine (of_any g2 c2 M1 HMs.out w10 hg2 (by omega) HRg.out).mono ?_
  rintro e w11 ⟨rfl, hd11, hb11⟩
  have h11 := H10.out.new ((good_big _ _).star ((good_dk _ _).star ((good_rows _ _).star (good_puts _ _)))) hd11 (fun b hb' => by omega) hb11
  have HG11 : Hid (g2 < w11.heap.size) := hide (Nat.lt_of_lt_of_le hg2 hb11.size)
  generalize w10.heap.size = U at *
  have hu0 : w11.cell? ⟨g2, 131072, none⟩ = some (.int .u8 165) := (hb11.cell (p := ⟨g2, 131072, none⟩) hg2).trans hq0
  have hu1 : w11.cell? ⟨g2, 131073, none⟩ = some (.int .u8 166) := (hb11.cell (p := ⟨g2, 131073, none⟩) hg2).trans hq1
  have HRg1 : Hid (∀ s, s < 1024 → w11.rangeAt g2 (s * 128) ((M1 s).map By)) := hide fun s hs j v hv => (hb11.cell (p := ⟨g2, s * 128 + j, none⟩) hg2).trans (HRg.out s hs j v hv)
  have H11 := hide h11
  have HD11 := hide hd11
  clear hq0 hq1 HRg h11 hd11 hb11 H10 hg2
  go_wp2_with fail
  refine (down_any HD11.out).mono ?_
  rw [show (cln M1 0).down = false from rfl]
  rintro e w99 ⟨rfl, rfl⟩
  go_wp2_with fail
  refine (acts_any HD11.out).mono ?_
  rw [show (cln M1 0).acts = 0 from rfl]
  rintro e w98 ⟨rfl, rfl⟩
  go_wp2_with fail
  refine (pending_any HD11.out (by show 0 ≤ _; omega)).mono ?_
  rintro e w12 ⟨rp, rfl, hrp, hb12⟩
  obtain ⟨ap, cpp, hap⟩ := OwI.nil hrp
  subst hap
  have h12 := H11.out.below ((good_dk _ _).star ((good_big _ _).star ((good_dk _ _).star ((good_rows _ _).star (good_puts _ _))))) hb12
  have HD12 := hide ((good_dk _ _).below HD11.out hb12)
  have hgl := HG11.out
  have HRg2 : Hid (∀ s, s < 1024 → w12.rangeAt g2 (s * 128) ((M1 s).map By)) := hide fun s hs j v hv => (hb12.cell (p := ⟨g2, s * 128 + j, none⟩) hgl).trans (HRg1.out s hs j v hv)
  have HGl : Hid (g2 < w12.heap.size) := hide (Nat.lt_of_lt_of_le hgl hb12.size)
  have HRP : Hid (∃ HR HP, RowsA (.slice ab La cb) (rawsOf M1 Zq La) w12 HR ∧ PutsA (.slice a6 La c6) L w12 HP) := by
    obtain ⟨_, ⟨_, _, _, ⟨_, _, _, ⟨_, _, _, ⟨HR, HP, h, h', _⟩, _⟩, _⟩, _⟩, _⟩ := h12
    exact hide ⟨HR, HP, h, h'⟩
  obtain ⟨HR, HP, hR12, hP12⟩ := HRP.out
  obtain ⟨ao, co, hvo, hrr⟩ := rows_read hR12
  rw [rawsOf_len] at hvo
  cases hvo
  obtain ⟨aq, cq, hvq, hpq⟩ := hP12.puts HFr.out
  rw [HLL.out] at hvq hpq
  cases hvq
  rw [HZq.out] at hpq
  have HRr := hide hrr
  have HPq := hide hpq
  have H12 := hide h12
  clear h12 hR12 hP12 hrr hpq HRP hu0 hu1 hgl hb12 hrp HRg1 H11 HD11
  go_wp2_with fail
  go_loopw [13] (fun x wr => ∃ k : Nat, k ≤ La ∧ x = .int .i64 (k : Int) ∧ Hid (Below w12.heap.size w12 wr)) (fun x _ => La - (intOf x).toNat)
  case atStart => exact ⟨0, by omega, rfl, Below.refl _ _⟩
  case round =>
  obtain ⟨k, hk, rfl, K1⟩ := hrel
  by_cases hlt : k < La
  · as_aux_lemma =>
      have hki : (k : Int) < (La : Int) := by omega
      obtain ⟨x, hx, _, hp⟩ := HPq.out.at hlt
      subst hx
      obtain ⟨c0, _⟩ := hp _ K1.out
      obtain ⟨gv, rk, hgv, cv0, hrk⟩ := HRr.out k _ (rawsOf_get M1 Zq hlt)
      subst hgv
      generalize (Zq k).1 = zk at *
      obtain ⟨pz, hpz⟩ : ∃ pz, pl zk = pz := ⟨_, rfl⟩
      have hpl := pl_lt zk
      rw [hpz] at hpl hrk
      have HRK := hide hrk
      have HSc := hide (HMs.out pz hpl)
      have HRg3 := hide (HRg2.out pz hpl)
      have hdU := (good_dk _ _).below HD12.out K1.out
      obtain ⟨zs, hzs⟩ : ∃ zs, M1 pz = zs := ⟨_, rfl⟩
      have HDU := hide hdU
      have HMz := hide hzs
      clear hp hrk hdU hzs
      go_wp2_with fail
      refine (place_any zk _).mono ?_
      rw [hpz]
      rintro e w13 ⟨rfl, rfl⟩
      go_wp2_with fail
      refine (raw_ok HDU.out pz hpl).mono ?_
      rw [show (cln M1 0).M = M1 from rfl, HMz.out]
      rintro e w14 ⟨rb, rfl, hrb, hb14⟩
      have hb10 : Below w12.heap.size w12 w14 := K1.out.trans (hb14.mono K1.out.size)
      obtain ⟨o, ho⟩ : ∃ o, pz * 128 = o := ⟨_, rfl⟩
      have hwm := wrap_mul pz o hpl ho
      obtain ⟨p1, hp1⟩ : ∃ p1, pz + 1 = p1 := ⟨_, rfl⟩
      have hw1 : IntKind.i64.wrap ((pz : Int) + 1) = (p1 : Int) := by simp [IntKind.wrap, IntKind.signed, IntKind.bits]; omega
      obtain ⟨o1, ho1⟩ : ∃ o1, p1 * 128 = o1 := ⟨_, rfl⟩
      have hw2 : IntKind.i64.wrap ((p1 : Int) * 128) = (o1 : Int) := by simp [IntKind.wrap, IntKind.signed, IntKind.bits]; omega
      have hs1 : (o : Int) ≤ (o1 : Int) := by omega
      have hs2 : (o1 : Int) ≤ (c2 : Int) := by omega
      have hs3 : o1 - o = 128 := by omega
      have hs4 : ¬ c2 = o := by omega
      have HQ : Hid (∀ W, Below w14.heap.size w14 W → Rd W rb zs ∧ Rd W rk zs ∧ Rd W (.slice (some ⟨g2, o, none⟩) 128 (c2 - o)) zs ∧ W.cell? ⟨gv, k, none⟩ = some rk) := by
        refine hide fun W hW => ?_
        have hbW := hb10.trans (hW.mono hb10.size)
        rw [HMz.out] at HSc HRg3 HRK
        refine ⟨hrb.rd.below hW (Nat.le_refl _), HRK.out.below hbW (Nat.le_refl _), .inr ⟨⟨g2, o, none⟩, c2 - o, by rw [HSc.out.1], fun i u hu => ?_⟩, cell_up hbW cv0⟩
        rw [Addr.add_mid, ← ho]
        exact cell_up hbW (HRg3.out i u hu)
      have HB14 := hide hb10
      clear hrb hb14 hb10 c0 cv0 HRK HDU HRg3 HSc HMz K1
      go_upto_region 23 with fail
      have HT0 : Hid (Below w14.heap.size w14 w14.drew) := hide ⟨rfl, rfl, rfl, Nat.le_refl _, fun _ _ => rfl⟩
      refine wp_region_held_drew (S := fun W => Below w14.heap.size w14 W) (by kernel_rfl) HT0.out (fun _ => ?_)
      generalize w14.drew = wq0 at *
      refine hd_take 0 (o := ⟨some 120, _, _, _, _, _⟩) (.int .i64 0) (by kernel_rfl) (by kernel_rfl) (by kernel_rfl) rfl (by rfl) (fun W hSw => by go_simp) (fun _ _ _ h => h) HT0.out ?_
      simp only [Act.put, List.setIfInBounds_toArray, List.set_cons_zero, List.set_cons_succ]
      refine hd_take 1 (o := ⟨some 121, _, _, _, _, _⟩) (.bool false) (by kernel_rfl) (by kernel_rfl) (by kernel_rfl) rfl (by rfl) (fun W hSw => by go_simp) (fun _ _ _ h => h) HT0.out ?_
      simp only [Act.put, List.setIfInBounds_toArray, List.set_cons_zero, List.set_cons_succ]
      refine hd_take 2 (o := ⟨some 122, _, _, _, _, _⟩) (.bool false) (by kernel_rfl) (by kernel_rfl) (by kernel_rfl) rfl (by rfl) (fun W hSw => by go_simp) (fun _ _ _ h => h) HT0.out ?_
      simp only [Act.put, List.setIfInBounds_toArray, List.set_cons_zero, List.set_cons_succ]
      refine hd_take 3 (o := ⟨some 123, _, _, _, _, _⟩) (rb) (by kernel_rfl) (by kernel_rfl) (by kernel_rfl) rfl (by rfl) (fun W hSw => by go_simp) (fun _ _ _ h => h) HT0.out ?_
      simp only [Act.put, List.setIfInBounds_toArray, List.set_cons_zero, List.set_cons_succ]
      refine hd_take 4 (o := ⟨some 124, _, _, _, _, _⟩) (.slice (some ⟨gv, 0, none⟩) La cb) (by kernel_rfl) (by kernel_rfl) (by kernel_rfl) rfl (by rfl) (fun W hSw => by go_simp) (fun _ _ _ h => h) HT0.out ?_
      simp only [Act.put, List.setIfInBounds_toArray, List.set_cons_zero, List.set_cons_succ]
      refine hd_take 5 (o := ⟨some 125, _, _, _, _, _⟩) (.int .i64 (k : Int)) (by kernel_rfl) (by kernel_rfl) (by kernel_rfl) rfl (by rfl) (fun W hSw => by go_simp) (fun _ _ _ h => h) HT0.out ?_
      simp only [Act.put, List.setIfInBounds_toArray, List.set_cons_zero, List.set_cons_succ]
      refine hd_take 6 (o := ⟨some 126, _, _, _, _, _⟩) (.pointer (some ⟨gv, k, none⟩)) (by kernel_rfl) (by kernel_rfl) (by kernel_rfl) rfl (by rfl) (fun W hSw => by go_simp) (fun _ _ _ h => h) HT0.out ?_
      simp only [Act.put, List.setIfInBounds_toArray, List.set_cons_zero, List.set_cons_succ]
      refine hd_take 7 (o := ⟨some 127, _, _, _, _, _⟩) (rk) (by kernel_rfl) (by kernel_rfl) (by kernel_rfl) rfl (by rfl) (fun W hSw => by obtain ⟨-, -, -, q4⟩ := HQ.out W hSw; go_simp) (fun _ _ _ h => h) HT0.out ?_
      simp only [Act.put, List.setIfInBounds_toArray, List.set_cons_zero, List.set_cons_succ]
      refine hd_call 8 (o := ⟨some 128, _, _, _, _, _⟩) (by kernel_rfl) rfl (by rfl) (fun K hK => ?_)
      go_simp
      go_wp2_with (go_at_call 17; refine (same_eq _ _ _ _ (HQ.out _ HT0.out).1 (HQ.out _ HT0.out).2.1).mono ?_; rintro e1 wq1 ⟨rfl, rfl⟩)
      refine hK _ _ HT0.out ?_
      clear hK K
      try simp only [Act.put, List.setIfInBounds_toArray, List.set_cons_zero, List.set_cons_succ]
      refine hd_take 9 (o := ⟨some 129, _, _, _, _, _⟩) (.bool false) (by kernel_rfl) (by kernel_rfl) (by kernel_rfl) rfl (by rfl) (fun W hSw => by go_simp) (fun _ _ _ h => h) HT0.out ?_
      simp only [Act.put, List.setIfInBounds_toArray, List.set_cons_zero, List.set_cons_succ]
      refine hd_take 10 (o := ⟨some 130, _, _, _, _, _⟩) (.bool false) (by kernel_rfl) (by kernel_rfl) (by kernel_rfl) rfl (by rfl) (fun W hSw => by go_simp) (fun _ _ _ h => h) HT0.out ?_
      simp only [Act.put, List.setIfInBounds_toArray, List.set_cons_zero, List.set_cons_succ]
      refine hd_take 11 (o := ⟨some 131, _, _, _, _, _⟩) (.bool false) (by kernel_rfl) (by kernel_rfl) (by kernel_rfl) rfl (by rfl) (fun W hSw => by go_simp) (fun _ _ _ h => h) HT0.out ?_
      simp only [Act.put, List.setIfInBounds_toArray, List.set_cons_zero, List.set_cons_succ]
      refine hd_take 12 (o := ⟨some 132, _, _, _, _, _⟩) (.slice (some ⟨g2, 0, none⟩) 131074 c2) (by kernel_rfl) (by kernel_rfl) (by kernel_rfl) rfl (by rfl) (fun W hSw => by go_simp) (fun _ _ _ h => h) HT0.out ?_
      simp only [Act.put, List.setIfInBounds_toArray, List.set_cons_zero, List.set_cons_succ]
      refine hd_take 13 (o := ⟨some 133, _, _, _, _, _⟩) (.int .i64 (pz : Int)) (by kernel_rfl) (by kernel_rfl) (by kernel_rfl) rfl (by rfl) (fun W hSw => by go_simp) (fun _ _ _ h => h) HT0.out ?_
      simp only [Act.put, List.setIfInBounds_toArray, List.set_cons_zero, List.set_cons_succ]
      refine hd_take 14 (o := ⟨some 134, _, _, _, _, _⟩) (.int .i64 (o : Int)) (by kernel_rfl) (by kernel_rfl) (by kernel_rfl) rfl (by rfl) (fun W hSw => by go_simp) (fun _ _ _ h => h) HT0.out ?_
      simp only [Act.put, List.setIfInBounds_toArray, List.set_cons_zero, List.set_cons_succ]
      refine hd_take 15 (o := ⟨some 135, _, _, _, _, _⟩) (.int .i64 (pz : Int)) (by kernel_rfl) (by kernel_rfl) (by kernel_rfl) rfl (by rfl) (fun W hSw => by go_simp) (fun _ _ _ h => h) HT0.out ?_
      simp only [Act.put, List.setIfInBounds_toArray, List.set_cons_zero, List.set_cons_succ]
      refine hd_take 16 (o := ⟨some 136, _, _, _, _, _⟩) (.int .i64 (p1 : Int)) (by kernel_rfl) (by kernel_rfl) (by kernel_rfl) rfl (by rfl) (fun W hSw => by go_simp) (fun _ _ _ h => h) HT0.out ?_
      simp only [Act.put, List.setIfInBounds_toArray, List.set_cons_zero, List.set_cons_succ]
      refine hd_take 17 (o := ⟨some 137, _, _, _, _, _⟩) (.int .i64 (o1 : Int)) (by kernel_rfl) (by kernel_rfl) (by kernel_rfl) rfl (by rfl) (fun W hSw => by go_simp) (fun _ _ _ h => h) HT0.out ?_
      simp only [Act.put, List.setIfInBounds_toArray, List.set_cons_zero, List.set_cons_succ]
      refine hd_take 18 (o := ⟨some 138, _, _, _, _, _⟩) (.slice (some ⟨g2, o, none⟩) 128 (c2 - o)) (by kernel_rfl) (by kernel_rfl) (by kernel_rfl) rfl (by rfl) (fun W hSw => by go_simp) (fun _ _ _ h => h) HT0.out ?_
      simp only [Act.put, List.setIfInBounds_toArray, List.set_cons_zero, List.set_cons_succ]
      refine hd_take 19 (o := ⟨some 139, _, _, _, _, _⟩) (.slice (some ⟨gv, 0, none⟩) La cb) (by kernel_rfl) (by kernel_rfl) (by kernel_rfl) rfl (by rfl) (fun W hSw => by go_simp) (fun _ _ _ h => h) HT0.out ?_
      simp only [Act.put, List.setIfInBounds_toArray, List.set_cons_zero, List.set_cons_succ]
      refine hd_take 20 (o := ⟨some 140, _, _, _, _, _⟩) (.int .i64 (k : Int)) (by kernel_rfl) (by kernel_rfl) (by kernel_rfl) rfl (by rfl) (fun W hSw => by go_simp) (fun _ _ _ h => h) HT0.out ?_
      simp only [Act.put, List.setIfInBounds_toArray, List.set_cons_zero, List.set_cons_succ]
      refine hd_take 21 (o := ⟨some 141, _, _, _, _, _⟩) (.pointer (some ⟨gv, k, none⟩)) (by kernel_rfl) (by kernel_rfl) (by kernel_rfl) rfl (by rfl) (fun W hSw => by go_simp) (fun _ _ _ h => h) HT0.out ?_
      simp only [Act.put, List.setIfInBounds_toArray, List.set_cons_zero, List.set_cons_succ]
      refine hd_take 22 (o := ⟨some 142, _, _, _, _, _⟩) (rk) (by kernel_rfl) (by kernel_rfl) (by kernel_rfl) rfl (by rfl) (fun W hSw => by obtain ⟨-, -, -, q4⟩ := HQ.out W hSw; go_simp) (fun _ _ _ h => h) HT0.out ?_
      simp only [Act.put, List.setIfInBounds_toArray, List.set_cons_zero, List.set_cons_succ]
      refine hd_call 23 (o := ⟨some 143, _, _, _, _, _⟩) (by kernel_rfl) rfl (by rfl) (fun K hK => ?_)
      go_simp
      go_wp2_with (go_at_call 17; refine (same_eq _ _ _ _ (HQ.out _ HT0.out).2.2.1 (HQ.out _ HT0.out).2.1).mono ?_; rintro e1 wq2 ⟨rfl, rfl⟩)
      refine hK _ _ HT0.out ?_
      clear hK K
      try simp only [Act.put, List.setIfInBounds_toArray, List.set_cons_zero, List.set_cons_succ]
      refine hd_take 24 (o := ⟨some 144, _, _, _, _, _⟩) (.bool false) (by kernel_rfl) (by kernel_rfl) (by kernel_rfl) rfl (by rfl) (fun W hSw => by go_simp) (fun _ _ _ h => h) HT0.out ?_
      simp only [Act.put, List.setIfInBounds_toArray, List.set_cons_zero, List.set_cons_succ]
      refine hd_take 25 (o := ⟨some 145, _, _, _, _, _⟩) (.bool false) (by kernel_rfl) (by kernel_rfl) (by kernel_rfl) rfl (by rfl) (fun W hSw => by go_simp) (fun _ _ _ h => h) HT0.out ?_
      simp only [Act.put, List.setIfInBounds_toArray, List.set_cons_zero, List.set_cons_succ]
      refine wpAnyH_done (by kernel_rfl) ?_ _
      have HE := hide (HB14.out.trans (HT0.out.mono HB14.out.size))
      go_wp2
      go_roundw
      case rel =>
        first
          | exact ⟨k + 1, by omega, by go_num, HE⟩
          | ((repeat apply Exists.intro); refine ⟨?_, rfl⟩; exact ⟨k + 1, by omega, by go_num, HE⟩)
      case measure => simp [intOf]; omega
  have hd9 : decide ((k : Int) < (La : Int)) = false := by simp; omega
  have hd9n : decide (k < La) = false := by simp; omega
  have hd9o : ¬ k < La := by omega
  have h13 : Sys w wr (star (AnyB g2) (star (DkA U (cln M1 0)) (star (DkA B (wait M1 (puts Y lnm) (A1 + lnm))) (star (RowsA (.slice ab La cb) (rawsOf M1 Zq La)) (PutsA (.slice a6 La c6) L))))) := by
    refine (H12.out.below ((good_dk _ _).star ((good_big _ _).star ((good_dk _ _).star ((good_rows _ _).star (good_puts _ _))))) K1.out).mono (fun W H h => ?_)
    refine star_fst (fun W' H' h' => ?_) (star_swap h)
    have h2 := HL2.out
    exact BigA.any (cap := c2) (cur := cur2) (by rw [h2]; exact h') h2 HAny.out
  have H13 := hide h13
  clear h13 H12 HD12 HRg2 HRr HPq HGl HG11 K1 hk hlt
  go_wp2_with fail
  go_loopw [17] (fun x wr => ∃ j : Nat, j ≤ 131074 ∧ x = .int .i64 (j : Int) ∧ Hid (Sys w wr (star (AnyB g2) (star (DkA U (cln M1 0)) (star (DkA B (wait M1 (puts Y lnm) (A1 + lnm))) (star (RowsA (.slice ab La cb) (rawsOf M1 Zq La)) (PutsA (.slice a6 La c6) L))))))) (fun x _ => 131074 - (intOf x).toNat)
  case atStart => exact ⟨0, by omega, rfl, H13⟩
  case round =>
  clear H13
  obtain ⟨j, hj, rfl, K2⟩ := hrel
  by_cases hlt2 : j < 131074
  · as_aux_lemma =>
      have hd1 : decide ((j : Int) < 131074) = true := by simp; omega
      have hji : (j : Int) < 131074 := by omega
      obtain ⟨F9, hX9, -, -⟩ := K2.out.call ((good_dk _ _).star ((good_dk _ _).star ((good_rows _ _).star (good_puts _ _))))
      obtain ⟨⟨z, hz⟩, hfz⟩ := hX9.cell hlt2
      have HN := hide (fun z => K2.out.setAnyB (j := j) (z := z) ((good_dk _ _).star ((good_dk _ _).star ((good_rows _ _).star (good_puts _ _)))))
      clear hX9 K2
      go_wp2
      go_roundw
      case rel =>
        first
          | exact ⟨j + 1, by omega, by go_num, HN.out _⟩
          | ((repeat apply Exists.intro); refine ⟨?_, rfl⟩; exact ⟨j + 1, by omega, by go_num, HN.out _⟩)
      case measure => simp [intOf]; omega
  have hd10 : decide ((j : Int) < 131074) = false := by simp; omega
  have hd10n : decide (j < 131074) = false := by simp; omega
  have H15 := hide K2.out.drop
  clear K2 hj hlt2
  go_wp2_with fail
  have hfull := full_any 225 wr
  refine hfull.mono ?_
  rintro e w16 ⟨r16, rfl, hr16, hb16⟩
  obtain ⟨F8, hd8, _, hn8⟩ := H15.out.call ((good_dk _ _).star ((good_rows _ _).star (good_puts _ _)))
  have Q9 := hide (And.intro hr16.rd (And.intro ((good_dk _ _).below hd8 hb16) (And.intro (own_farD hr16 hd8) (And.intro hn8 hb16))))
  clear hfull hr16 hd8 hn8 hb16 H15
  go_wp2_with fail
  refine (write_ok Q9.out.2.1 5 r16 _ (by omega) Q9.out.1 (sec_rep _ (by omega)) Q9.out.2.2.1 rfl (fun h => by cases h) (by show 0 < _; omega) (by show 0 < _; omega)).mono ?_
  rintro e w17 ⟨rfl, F17, hd17, hx17⟩
  have h17 : Sys w w17 (star (DkA U (wait M1 [(5, List.replicate 128 225)] 1)) _) := Q9.out.2.2.2.1 _ _ _ hd17 ((Ext.of_below Q9.out.2.2.2.2).trans hx17)
  obtain ⟨F18, hd18, _, hn18⟩ := h17.call ((good_dk _ _).star ((good_rows _ _).star (good_puts _ _)))
  clear Q9 hd17 hx17 h17
  go_wp2_with fail
  refine (flush_ok hd18 rfl (fun h => by cases h) (by show 1 < _; omega)).mono ?_
  rw [flush_wait, play_one]
  rintro e w18 ⟨rfl, F19, hd19, hx19⟩
  have h18 := hn18 _ _ _ hd19 hx19
  have h19 := h18.alloc ((good_dk _ _).star ((good_dk _ _).star ((good_rows _ _).star (good_puts _ _)))) (.cells #[.int .u8 226] 5)
  obtain ⟨F20, hd20, _, hn20⟩ := h19.call ((good_dk _ _).star ((good_rows _ _).star (good_puts _ _)))
  have hrd : Rd (w18.alloc (.cells #[.int .u8 226] 5)) (.slice (some ⟨w18.heap.size, 0, none⟩) 1 1) [226] := .inr ⟨_, 1, rfl, fun i u hu => by
    rw [add0, cell_of_row _ _ _ _ _ _ (heap_alloc_new _ _)]
    match i with
    | 0 => exact hu
    | i + 1 => simp at hu⟩
  have HRd := hide hrd
  have HD20 := hide hd20
  have HN20 := hide hn20
  clear hd18 hn18 hd19 hx19 h18 h19 hd20 hn20 hrd
  go_wp2_with fail
  refine (edit_ok HD20.out 6 0 _ [226] (by omega) HRd.out (fun z hz => by simp at hz; omega) (by simp)).mono ?_
  rintro e w20 ⟨rfl, hd21, hx21⟩
  have h21 : Sys w w20 (star (DkA U (wait (lastM M1) [] 2)) _) := HN20.out _ _ _ hd21 hx21
  obtain ⟨F22, hd22, _, hn22⟩ := (h21.mono (fun _ _ h => star_swap h)).call ((good_dk _ _).star ((good_rows _ _).star (good_puts _ _)))
  clear HD20 HN20 HRd hd21 hx21 h21
  go_wp2_with fail
  refine (pending_any hd22 (by show (puts Y lnm).length ≤ _; rw [puts_len]; omega)).mono ?_
  rintro e w21 ⟨rp, rfl, hrp, hb21⟩
  obtain ⟨ap, cpp2, hap, -⟩ := World.ownsRow.shape hrp
  rw [List.length_map, show (wait M1 (puts Y lnm) (A1 + lnm)).c = puts Y lnm from rfl, puts_len] at hap
  subst hap
  have Q22 := hide (And.intro ((good_dk _ _).below hd22 hb21) (And.intro hn22 hb21))
  clear hd22 hn22 hb21 hrp
  go_wp2_with fail
  refine (crash_nil Q22.out.1).mono ?_
  rw [show (wait M1 (puts Y lnm) (A1 + lnm)).M = M1 from rfl, show (wait M1 (puts Y lnm) (A1 + lnm)).acts = A1 + lnm from rfl]
  rintro e w22 ⟨rfl, F23, hd23, hx23⟩
  have h23 := Q22.out.2.1 _ _ _ hd23 ((Ext.of_below Q22.out.2.2).trans hx23)
  have H23 := hide h23
  clear Q22 hd23 hx23 h23
  obtain ⟨HB, ⟨H1, H2', hdB, ⟨H3', H4', hdU, ⟨HR, HP, hR12, hP12, -⟩, -⟩, -⟩, -, -⟩ := H23.out
  obtain ⟨ao, co, hvo, hrr⟩ := rows_read hR12
  rw [rawsOf_len] at hvo
  cases hvo
  obtain ⟨aq, cq, hvq, hpq⟩ := hP12.puts HFr.out
  rw [HLL.out] at hvq hpq
  cases hvq
  rw [HZq.out] at hpq
  have HRr := hide hrr
  have HPq := hide hpq
  have HDB := hide hdB
  have HDU := hide hdU
  have HBl := hide H23.out.bel
  clear hdB hdU hR12 hP12 hrr hpq H23
  go_wp2_with fail
  go_loopw [18] (fun x wr => ∃ t : Nat, t ≤ La ∧ x = .int .i64 (t : Int) ∧ Hid (Below w22.heap.size w22 wr)) (fun x _ => La - (intOf x).toNat)
  case atStart => exact ⟨0, by omega, rfl, Below.refl _ _⟩
  case round =>
  obtain ⟨t, ht, rfl, K1⟩ := hrel
  by_cases hlt : t < La
  · as_aux_lemma =>
      have hd1 : decide (t < La) = true := by simp; omega
      have hti : (t : Int) < (La : Int) := by omega
      obtain ⟨x, hx, _, hp⟩ := HPq.out.at hlt
      subst hx
      obtain ⟨c0, _⟩ := hp _ K1.out
      obtain ⟨gv, rk, hgv, cv0, hrk⟩ := HRr.out t _ (rawsOf_get M1 Zq hlt)
      subst hgv
      generalize (Zq t).1 = zk at *
      obtain ⟨pz, hpz⟩ : ∃ pz, pl zk = pz := ⟨_, rfl⟩
      have hpl := pl_lt zk
      rw [hpz] at hpl hrk
      have HRK := hide hrk
      clear hp hrk
      go_wp2_with fail
      refine (place_any zk _).mono ?_
      rw [hpz]
      rintro e w23 ⟨rfl, rfl⟩
      go_wp2_with fail
      refine (raw_ok ((good_dk _ _).below HDB.out K1.out) pz hpl).mono ?_
      rw [show (cln M1 (A1 + lnm)).M = M1 from rfl]
      rintro e w24 ⟨rb, rfl, hrb, hb24⟩
      have K2 := hide (K1.out.trans (hb24.mono K1.out.size))
      go_wp2_with fail
      refine (raw_ok ((good_dk _ _).below HDU.out K2.out) pz hpl).mono ?_
      rw [show (wait (lastM M1) [] 2).M = lastM M1 from rfl]
      rintro e w25 ⟨rc, rfl, hrc, hb25⟩
      have K3 := hide (K2.out.trans (hb25.mono K2.out.size))
      have d2 := cell_up K3.out cv0
      have HQ := hide (And.intro (hrb.rd.below hb25 (Nat.le_refl _)) (And.intro (HRK.out.below K3.out (Nat.le_refl _)) hrc.rd))
      clear hrb hrc hb24 hb25 c0 cv0 HRK K1 K2
      go_wp2_with fail
      refine (same_eq _ _ _ _ HQ.out.1 HQ.out.2.1).mono ?_
      rintro e w26 ⟨rfl, rfl⟩
      by_cases h5 : pz = 5
      · subst h5
        clear d2
        go_wp2
        go_roundw
        case rel =>
          first
            | exact ⟨t + 1, by omega, by go_num, K3⟩
            | ((repeat apply Exists.intro); refine ⟨?_, rfl⟩; exact ⟨t + 1, by omega, by go_num, K3⟩)
        case measure => simp [intOf]; omega
      · by_cases h6 : pz = 6
        · subst h6
          clear d2
          go_wp2
          go_roundw
          case rel =>
            first
              | exact ⟨t + 1, by omega, by go_num, K3⟩
              | ((repeat apply Exists.intro); refine ⟨?_, rfl⟩; exact ⟨t + 1, by omega, by go_num, K3⟩)
          case measure => simp [intOf]; omega
        · have e5 : ((pz : Int) == 5) = false := by simp; omega
          have e6 : ((pz : Int) == 6) = false := by simp; omega
          have f5 : ¬ (pz : Int) = 5 := by omega
          have f6 : ¬ (pz : Int) = 6 := by omega
          have HQ3 := HQ.out.2.2
          rw [lastM_far M1 h5 h6] at HQ3
          have HQ4 := hide HQ3
          clear HQ3
          go_wp2_with fail
          refine (same_eq _ _ _ _ HQ4.out HQ.out.2.1).mono ?_
          rintro e w27 ⟨rfl, rfl⟩
          clear d2
          go_wp2
          go_roundw
          case rel =>
            first
              | exact ⟨t + 1, by omega, by go_num, K3⟩
              | ((repeat apply Exists.intro); refine ⟨?_, rfl⟩; exact ⟨t + 1, by omega, by go_num, K3⟩)
          case measure => simp [intOf]; omega
  have hd11 : decide ((t : Int) < (La : Int)) = false := by simp; omega
  have hd11n : decide (t < La) = false := by simp; omega
  have hd11o : ¬ t < La := by omega
  have hdU5 := (good_dk _ _).below HDU.out K1.out
  clear HRr HPq HDB HDU ht hlt
  go_wp2_with fail
  refine (raw_ok hdU5 5 (by omega)).mono ?_
  rw [show (wait (lastM M1) [] 2).M = lastM M1 from rfl, lastM_five]
  rintro e w30 ⟨r30, rfl, hr30, hb30⟩
  have K5 := hide (HBl.out.trans ((K1.out.trans (hb30.mono K1.out.size)).mono HBl.out.size))
  have hfull := full_any 225 w30
  clear hdU5 K1
  go_wp2_with fail
  refine hfull.mono ?_
  rintro e w31 ⟨r31, rfl, hr31, hb31⟩
  have K6 := hide (K5.out.trans (hb31.mono K5.out.size))
  have HQ := hide (And.intro (hr30.rd.below hb31 (Nat.le_refl _)) hr31.rd)
  clear hr30 hr31 hb30 hb31 hfull K5
  go_wp2_with fail
  refine (same_eq _ _ _ _ HQ.out.1 HQ.out.2).mono ?_
  rintro e w32 ⟨rfl, rfl⟩
  go_wp2
  go_ret
  exact ⟨rfl, K6.out⟩
end Go.Proofs.Ytogcgccfalfbaaa
