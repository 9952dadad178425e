import Derived.Test.YteacmcdmdeckmaaGreatR5
namespace Go.Proofs.YteacmcdmdeckmaaGreat
open Go.RowKit

/-- are these rights, and Grant, the record's? -/
def okR (rights : Int) (r : Rc) : Bool := bits .andNot .i64 (bits .or .i64 rights 4) r.r == 0
/-- what Derive does -/
def DeriveR (bk : List (Option Lst)) (e s tgt a rights : Int) (v c : Int) (bk' : List (Option Lst)) : Prop :=
  (look bk tgt = none ∧ v = -1 ∧ c = 83 ∧ bk' = bk) ∨
  ((∃ l, look bk tgt = some l) ∧ atB bk e s = none ∧ v = -1 ∧ c = lcode bk e s ∧ bk' = bk) ∨
  ((∃ l, look bk tgt = some l) ∧ (∃ r, atB bk e s = some r) ∧ (¬ (-1 ≤ a ∧ a < 48) ∨ ¬ (0 ≤ rights ∧ rights ≤ 15)) ∧ v = -1 ∧ c = 1 ∧ bk' = bk) ∨
  ((∃ l, look bk tgt = some l) ∧ (∃ r, atB bk e s = some r ∧ okR rights r = false) ∧ (-1 ≤ a ∧ a < 48) ∧ (0 ≤ rights ∧ rights ≤ 15) ∧ v = -1 ∧ c = 81 ∧ bk' = bk) ∨
  (∃ (i : Nat) (l l' : Lst) (r : Rc), tgt = i ∧ bk[i]? = some (some l) ∧ atB bk e s = some r ∧ okR rights r = true ∧ (-1 ≤ a ∧ a < 48) ∧ (0 ≤ rights ∧ rights ≤ 15) ∧ LayR l a ⟨r.k, r.o, r.s, rights, e, s⟩ v c l' ∧ bk' = bk.set i (some l'))
set_option maxHeartbeats 3200000 in
theorem derive_any (w : World) (F : Nat → Prop) (B : Nat) (bk : List (Option Lst)) (h : Book w F B bk) (e s tgt a rights : Int) :
    Calls Tryz.prog 55 #[.pointer (some ⟨B, 0, none⟩), .int .i64 e, .int .i64 s, .int .i64 tgt, .int .i64 a, .int .i64 rights] w fun x w' => ∃ (v c : Int) (bk' : List (Option Lst)) (F' : Nat → Prop), x = .returned (.tuple #[.int .i64 v, .int .i64 c]) ∧ Book w' F' B bk' ∧ Ext F w F' w' ∧ DeriveR bk e s tgt a rights v c bk' := by
  have HK := hide h
  obtain ⟨T, G, m, fs, hA⟩ := h
  have c0 := hA.cell
  have HG := hide (getL_any _ G T m hA.tab tgt)
  rcases hA.cases tgt with ⟨h1, h2⟩ | ⟨i, b, l, rfl, h1, h2, h3, h4, h5, h6⟩
  · rw [h1] at HG
    simp only [ptr, Option.isSome_none] at HG
    have H2 := hide h2
    clear hA h1 h2
    go_enter Tryz.func55, Tryz.ntmps55
    go_wp2_with fail
    refine HG.out.mono ?_
    rintro e1 w1 ⟨rfl, rfl⟩
    go_wp2
    go_ret2
    exact ⟨_, _, bk, F, rfl, HK.out, Ext.refl _ _, .inl ⟨H2.out, rfl, rfl, rfl⟩⟩
  · rw [h3] at HG
    simp only [ptr, Option.isSome_some] at HG
    have HA := hide hA
    have H1 := hide h1
    have H2 := hide h2
    have H4 := hide h4
    have H5 := hide h5
    have H6 := hide h6
    have HL := hide (look_any w F B bk HK.out e s)
    clear hA h1 h2 h3 h4 h5 h6
    cases hn : atB bk e s with
    | none =>
      have hc : (lcode bk e s != 0) = true := by rcases lcode_none hn with h | h <;> rw [h] <;> decide
      rw [hn] at HL
      have HN := hide hn
      obtain ⟨lc, hlc⟩ : ∃ lc, lcode bk e s = lc := ⟨_, rfl⟩
      rw [hlc] at HL hc
      have HLC := hide hlc
      simp only [Rc.val, Rc.zero, Option.getD_none] at HL
      clear hn hlc
      go_enter Tryz.func55, Tryz.ntmps55
      go_wp2_with fail
      refine HG.out.mono ?_
      rintro e1 w1 ⟨rfl, rfl⟩
      go_wp2_with fail
      refine HL.out.mono ?_
      rintro e1 w2 ⟨rfl, hb2⟩
      have HB2 := hide (hb2.alloc hb2.size (.cells #[.int .i64 0, .int .i64 0, .int .i64 0, .int .i64 0, .int .i64 0, .int .i64 0] 65))
      clear hb2
      go_wp2
      go_ret2
      exact ⟨_, _, bk, F, rfl, HK.out.below HB2.out, Ext.of_below HB2.out, .inr (.inl ⟨⟨l, H4.out⟩, HN.out, rfl, HLC.out.symm, rfl⟩)⟩
    | some r =>
      rw [hn, lcode_some hn] at HL
      simp only [Rc.val, Option.getD_some] at HL
      have HN := hide hn
      have HI := hide (fun W => isAim_any W a)
      have HR := hide (fun W => areRights_any W rights)
      clear hn
      by_cases h7 : -1 ≤ a ∧ a < 48
      · rw [show decide (-1 ≤ a ∧ a < 48) = true by simpa using h7] at HI
        by_cases h8 : 0 ≤ rights ∧ rights ≤ 15
        · rw [show decide (0 ≤ rights ∧ rights ≤ 15) = true by simpa using h8] at HR
          have H7 := hide h7
          have H8 := hide h8
          obtain ⟨ok, hok⟩ : ∃ ok, okR rights r = ok := ⟨_, rfl⟩
          have HH := hide (fun W => has_any W r (bits .or .i64 rights 4))
          have HH2 : Hid (∀ W, Calls Tryz.prog 47 #[.agg #[.int .i64 r.k, .int .i64 r.o, .int .i64 r.s, .int .i64 r.r, .int .i64 r.e, .int .i64 r.t], .int .i64 (bits .or .i64 rights 4)] W fun e w' => e = .returned (.bool ok) ∧ Below W.heap.size W w') := by
            intro W
            have := HH.out W
            unfold okR at hok
            rw [hok] at this
            exact this
          have HOK := hide hok
          clear h7 h8 hok HH
          go_enter Tryz.func55, Tryz.ntmps55
          go_wp2_with fail
          refine HG.out.mono ?_
          rintro e1 w1 ⟨rfl, rfl⟩
          go_wp2_with fail
          refine HL.out.mono ?_
          rintro e1 w2 ⟨rfl, hb2⟩
          have hX2 := heap_alloc_new w2 (.cells #[.int .i64 r.k, .int .i64 r.o, .int .i64 r.s, .int .i64 r.r, .int .i64 r.e, .int .i64 r.t] 65)
          have hb3 := hb2.alloc hb2.size (.cells #[.int .i64 r.k, .int .i64 r.o, .int .i64 r.s, .int .i64 r.r, .int .i64 r.e, .int .i64 r.t] 65)
          go_upto_region 7 with fail
          generalize hgw : w2.alloc (.cells #[.int .i64 r.k, .int .i64 r.o, .int .i64 r.s, .int .i64 r.r, .int .i64 r.e, .int .i64 r.t] 65) = w3 at *
          clear hgw hb2
          generalize w2.heap.size = n2 at *
          obtain ⟨x0, x1, x2, x3, x4, x5, -, -, -, -, -, -⟩ := blk6 hX2
          go_wp2_with fail
          refine (HI.out _).mono ?_
          rintro e1 w4 ⟨rfl, rfl⟩
          go_wp2_with fail
          refine (HR.out _).mono ?_
          rintro e1 w5 ⟨rfl, rfl⟩
          go_wp2_with fail
          refine (HH2.out _).mono ?_
          rintro e1 w6 ⟨rfl, hb6⟩
          have hX6 := (hb6.block n2 (Array.getElem?_eq_some_iff.1 hX2).1).trans hX2
          have hb6' := hb3.trans (hb6.mono hb3.size)
          clear hb6 hX2 hb3 x0 x1 x2 x3 x4 x5 HH2 HI HR HL HG c0
          cases ok
          · have HB6 := hide hb6'
            clear hb6' hX6
            go_wp2
            go_ret2
            exact ⟨_, _, bk, F, rfl, HK.out.below HB6.out, Ext.of_below HB6.out, .inr (.inr (.inr (.inl ⟨⟨l, H4.out⟩, ⟨r, HN.out, HOK.out⟩, H7.out, H8.out, rfl, rfl, rfl⟩)))⟩
          · obtain ⟨x0, x1, x2, x3, x4, x5, -, -, -, -, -, -⟩ := blk6 hX6
            go_upto_region 12 with fail
            have hX7 := heap_alloc_new w6 (.cells #[.int .i64 r.k, .int .i64 r.o, .int .i64 r.s, .int .i64 r.r, .int .i64 e, .int .i64 s] 65)
            have hb7 := hb6'.alloc hb6'.size (.cells #[.int .i64 r.k, .int .i64 r.o, .int .i64 r.s, .int .i64 r.r, .int .i64 e, .int .i64 s] 65)
            have hge : w1.heap.size ≤ w6.heap.size := hb6'.size
            generalize hgw : w6.alloc (.cells #[.int .i64 r.k, .int .i64 r.o, .int .i64 r.s, .int .i64 r.r, .int .i64 e, .int .i64 s] 65) = w7 at *
            clear hgw hb6' hX6 x0 x1 x2 x3 x4 x5
            generalize w6.heap.size = n6 at *
            obtain ⟨-, -, -, d3, -, -, -, -, -, f3, -, -⟩ := blk6 hX7
            go_upto_region 13 with fail
            have hX8 : (w7.setCell ⟨n6, 3, none⟩ (.int .i64 rights)).heap[n6]? = some (.cells #[.int .i64 r.k, .int .i64 r.o, .int .i64 r.s, .int .i64 rights, .int .i64 e, .int .i64 s] 65 (0, 0)) := heap_setCell_same _ n6 3 _ _ _ hX7
            have hb8 := hb7.setCell (p := ⟨n6, 3, none⟩) hge (.int .i64 rights)
            generalize w7.setCell ⟨n6, 3, none⟩ (.int .i64 rights) = w8 at *
            clear hX7 hb7 d3 f3
            obtain ⟨y0, y1, y2, y3, y4, y5, -, -, -, -, -, -⟩ := blk6 hX8
            have HA8 := hide (HA.out.keep hb8.size (fun x hx => hb8.block x (HA.out.lt x hx)))
            have HLY := hide (lay_any w8 (fs i) b l (H6.out.below hb8) a ⟨r.k, r.o, r.s, rights, e, s⟩)
            have HB8 := hide hb8
            simp only [Rc.val] at HLY
            clear hb8 hX8 HA H6
            go_wp2_with fail
            refine HLY.out.mono ?_
            rintro e2 w9 ⟨v, c, l', F', rfl, hT4, hE4, hL4⟩
            have K1 := hide (HA8.out.upd H1.out (hL4.len.trans H5.out) hT4 hE4)
            have K2 := hide ((Ext.of_below (F := F) HB8.out).trans K1.out.2)
            have K3 := hide hL4
            clear hT4 hE4 hL4 HLY HA8 HB8 y0 y1 y2 y3 y4 y5
            go_wp2
            go_ret2
            exact ⟨v, c, _, _, rfl, ⟨_, _, _, _, K1.out.1⟩, K2.out, .inr (.inr (.inr (.inr ⟨i, l, l', r, rfl, H2.out, HN.out, HOK.out, H7.out, H8.out, K3.out, rfl⟩)))⟩
        · rw [show decide (0 ≤ rights ∧ rights ≤ 15) = false by simpa using h8] at HR
          have H8 := hide h8
          clear h7 h8
          go_enter Tryz.func55, Tryz.ntmps55
          go_wp2_with fail
          refine HG.out.mono ?_
          rintro e1 w1 ⟨rfl, rfl⟩
          go_wp2_with fail
          refine HL.out.mono ?_
          rintro e1 w2 ⟨rfl, hb2⟩
          have HB2 := hide (hb2.alloc hb2.size (.cells #[.int .i64 r.k, .int .i64 r.o, .int .i64 r.s, .int .i64 r.r, .int .i64 r.e, .int .i64 r.t] 65))
          clear hb2
          go_upto_region 7 with fail
          generalize hgw : w2.alloc (.cells #[.int .i64 r.k, .int .i64 r.o, .int .i64 r.s, .int .i64 r.r, .int .i64 r.e, .int .i64 r.t] 65) = w3 at *
          clear hgw
          go_wp2_with fail
          refine (HI.out _).mono ?_
          rintro e1 w4 ⟨rfl, rfl⟩
          go_wp2_with fail
          refine (HR.out _).mono ?_
          rintro e1 w5 ⟨rfl, rfl⟩
          go_wp2
          go_ret2
          exact ⟨_, _, bk, F, rfl, HK.out.below HB2.out, Ext.of_below HB2.out, .inr (.inr (.inl ⟨⟨l, H4.out⟩, ⟨r, HN.out⟩, .inr H8.out, rfl, rfl, rfl⟩))⟩
      · rw [show decide (-1 ≤ a ∧ a < 48) = false by simpa using h7] at HI
        have H7 := hide h7
        clear h7
        go_enter Tryz.func55, Tryz.ntmps55
        go_wp2_with fail
        refine HG.out.mono ?_
        rintro e1 w1 ⟨rfl, rfl⟩
        go_wp2_with fail
        refine HL.out.mono ?_
        rintro e1 w2 ⟨rfl, hb2⟩
        have HB2 := hide (hb2.alloc hb2.size (.cells #[.int .i64 r.k, .int .i64 r.o, .int .i64 r.s, .int .i64 r.r, .int .i64 r.e, .int .i64 r.t] 65))
        clear hb2
        go_upto_region 7 with fail
        generalize hgw : w2.alloc (.cells #[.int .i64 r.k, .int .i64 r.o, .int .i64 r.s, .int .i64 r.r, .int .i64 r.e, .int .i64 r.t] 65) = w3 at *
        clear hgw
        go_wp2_with fail
        refine (HI.out _).mono ?_
        rintro e1 w4 ⟨rfl, rfl⟩
        go_wp2
        go_ret2
        exact ⟨_, _, bk, F, rfl, HK.out.below HB2.out, Ext.of_below HB2.out, .inr (.inr (.inl ⟨⟨l, H4.out⟩, ⟨r, HN.out⟩, .inl H7.out, rfl, rfl, rfl⟩))⟩
end Go.Proofs.YteacmcdmdeckmaaGreat
