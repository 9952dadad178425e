import Derived.Test.YtimfgjndgfjjgaaRG
namespace Go.Proofs.Ytimfgjndgfjjgaa
open Go.RowKit Go.Shelf

theorem held_nil (w : World) : HeldAt w (.slice none 0 0) [] := ⟨none, 0, rfl, fun k hk => by cases hk⟩
theorem Ms.cutAll {n0 : Nat} {w : World} {F : Nat → Prop} {Mb B : Nat} {v : Value} {M : List (Nat × Nat)} {bk : List (Option Lst)} (h : Ms n0 w F Mb v M) (hB : Book w F B bk) (hn0 : n0 ≤ w.heap.size) (hn : M.length ≤ 1999) {W : World} {F0 : Nat → Prop} {v0 : Value} (hF : Fr W F0 Mb v0 w F) (vl : Value) (l : List Hd) (hl : HeldAt w vl l) (hlb : ∀ g, vl.ownBlock = some g → g ≠ Mb) (hln : l.length ≤ 768) :
    Calls Try.prog 60 #[.pointer (some ⟨Mb, 0, none⟩), vl] w fun x w' => x = .returned (.tuple #[]) ∧ ∃ v', Book w' F B bk ∧ Ms n0 w' F Mb v' (Go.Proofs.Ytimfgjndgfjjgaa.cutAll M l) ∧ Fr W F0 Mb v0 w' F := by
  refine (cutAll_any w Mb v M h.at_ h.pr (fun g hg => (h.vb g hg).2.2) (by omega) vl l hl hlb hln).mono ?_
  rintro x w' ⟨rfl, v', hm⟩
  obtain ⟨h1, h2⟩ := h.mr hB hn0 hm
  exact ⟨rfl, v', h2, h1, hF.mr hm⟩
theorem Ms.cut {n0 : Nat} {w : World} {F : Nat → Prop} {Mb B : Nat} {v : Value} {M : List (Nat × Nat)} {bk : List (Option Lst)} (h : Ms n0 w F Mb v M) (hB : Book w F B bk) (hn0 : n0 ≤ w.heap.size) (hn : M.length ≤ 1999) {W : World} {F0 : Nat → Prop} {v0 : Value} (hF : Fr W F0 Mb v0 w F) (e s : Int) :
    Calls Try.prog 59 #[.pointer (some ⟨Mb, 0, none⟩), .agg #[.int .i64 e, .int .i64 s]] w fun x w' => x = .returned (.tuple #[]) ∧ ∃ v', Book w' F B bk ∧ Ms n0 w' F Mb v' (cutM M e s) ∧ Fr W F0 Mb v0 w' F := by
  refine (cut_any w Mb v M h.at_ h.pr (fun g hg => (h.vb g hg).2.2) (by omega) e s).mono ?_
  rintro x w' ⟨rfl, v', h1, h2, h3, h4⟩
  have hm : Mr w w' Mb v v' (cutM M e s) := ⟨h1, h2, h3, h4⟩
  obtain ⟨h1, h2⟩ := h.mr hB hn0 hm
  exact ⟨rfl, v', h2, h1, hF.mr hm⟩
theorem fr_ext {w w1 w2 : World} {F F2 : Nat → Prop} {Mb : Nat} {v : Value} (h : Fr w F Mb v w1 F) (hE : Ext F w1 F2 w2) : Fr w F Mb v w2 F2 := by
  refine ⟨⟨hE.mod.os.trans h.mod.os, hE.mod.tape.trans h.mod.tape, hE.mod.output.trans h.mod.output, Nat.le_trans h.mod.size hE.mod.size, fun b hb hf => (hE.mod.block b (Nat.lt_of_lt_of_le hb h.mod.size) (fun h => hf (.inl h))).trans (h.mod.block b hb hf)⟩, fun b hb => ?_⟩
  rcases hE.new b hb with h1 | h1
  · exact .inl h1
  · exact .inr (Nat.le_trans h.mod.size h1)
theorem places_nodup (bk : List (Option Lst)) : ∀ n, ((hl bk n).map (fun y => (y.1, y.2.1))).Nodup
  | 0 => by simp [hl]
  | n + 1 => by
    rw [hl_succ, List.map_append, List.nodup_append]
    refine ⟨places_nodup bk n, ?_, ?_⟩
    · rw [List.map_map]
      refine List.Pairwise.map _ (fun a b h => ?_) (prsL_sorted (lf bk n) 0)
      intro e
      have : a.1 = b.1 := congrArg Prod.snd e
      omega
    · intro a ha b hb e
      obtain ⟨y, hy, rfl⟩ := List.mem_map.1 ha
      obtain ⟨z, hz, rfl⟩ := List.mem_map.1 hb
      obtain ⟨x, hx, rfl⟩ := List.mem_map.1 hz
      obtain ⟨i, hi, e1, _⟩ := mem_hl hy
      have e2 : y.1 = (n : Int) := congrArg Prod.fst e
      omega
theorem sub_len {α : Type} : ∀ {l m : List α}, l.Nodup → (∀ x ∈ l, x ∈ m) → l.length ≤ m.length
  | [], m, _, _ => Nat.zero_le _
  | a :: l, m, hn, hs => by
    obtain ⟨n1, n2⟩ := List.nodup_cons.1 hn
    obtain ⟨s, t, rfl⟩ := List.append_of_mem (hs a (by simp))
    have h1 := sub_len (l := l) (m := s ++ t) n2 (fun x hx => by
      have := hs x (by simp [hx])
      simp only [List.mem_append, List.mem_cons] at this ⊢
      rcases this with h | rfl | h
      · exact .inl h
      · exact (n1 hx).elim
      · exact .inr h)
    simp only [List.length_append, List.length_cons] at h1 ⊢
    omega
theorem plc_le {w : World} {F : Nat → Prop} {B : Nat} {bk : List (Option Lst)} (hB : Book w F B bk) {ps : List (Nat × Nat)} (hn : ps.Nodup) (hex : ∀ p ∈ ps, ∃ r, atB bk (p.1 : Int) (p.2 : Int) = some r) : ps.length ≤ 768 := by
  have h1 : (ps.map (fun p => ((p.1 : Int), p.2))).Nodup := List.Pairwise.map _ (fun a b h e => h (Prod.ext (by have e1 : (a.1 : Int) = (b.1 : Int) := congrArg Prod.fst e; omega) (congrArg Prod.snd (a₁ := ((a.1 : Int), a.2)) (a₂ := ((b.1 : Int), b.2)) e))) hn
  have h2 := sub_len h1 (m := (hl bk 16).map (fun y => (y.1, y.2.1))) (fun x hx => by
    obtain ⟨p, hp, rfl⟩ := List.mem_map.1 hx
    obtain ⟨r, hr⟩ := hex p hp
    obtain ⟨i, j, l, e1, e2, h3, _⟩ := atB_some hr
    have hi : p.1 < 16 := by have := (List.getElem?_eq_some_iff.1 h3).1; have := hB.blen; omega
    exact List.mem_map.2 ⟨_, hl_mem hi hr, rfl⟩)
  have h3 := hl_len hB 16
  simp only [List.length_map] at h2
  omega
theorem perm_le {w : World} {F : Nat → Prop} {B : Nat} {bk : List (Option Lst)} {ps qs : List (Nat × Nat)} (hp : List.Perm ps qs) (hn : qs.Nodup) (hex : ∀ p ∈ ps, ∃ r, atB bk (p.1 : Int) (p.2 : Int) = some r) (hB : Book w F B bk) : ps.length ≤ 768 := plc_le hB (hp.nodup_iff.2 hn) hex
set_option maxRecDepth 16000 in
set_option maxHeartbeats 16000000 in
theorem follow_rest (w : World) (F : Nat → Prop) (B : Nat) (bk : List (Option Lst)) (hB : Book w F B bk) (f : Int → Int → Nat) (hf : Rk bk f) (n0 Mb : Nat) (v : Value) (M : List (Nat × Nat)) (hs : Ms n0 w F Mb v M) (hn0 : n0 ≤ w.heap.size) (hn : M.length ≤ 1999) (o : Opr) (two : Bool) (ia : Option Addr) (il ic : Nat) (k4 : o.q ≠ 4) :
    Calls Try.prog 25 #[.pointer (some ⟨Mb, 0, none⟩), .pointer (some ⟨B, 0, none⟩), o.val two (.slice ia il ic), .agg #[.int .i64 1, .int .i64 40]] w fun x w' => x = .returned (.tuple #[]) ∧ ∃ F' bk' v' M', Book w' F' B bk' ∧ Ms n0 w' F' Mb v' M' ∧ Fol o bk M bk' M' ∧ Fr w F Mb v w' F' := by
  have HRk := hide hf
  clear hf
  obtain ⟨L, hL⟩ : ∃ L, M.length = L := ⟨_, rfl⟩
  have K4 := hide k4
  clear k4
  obtain ⟨a, c0, rfl⟩ := hs.pr.len
  rw [hL] at hs hn ⊢
  have HLM := hide hL
  clear hL
  have hb1 := (Below.refl w.heap.size w).alloc (Nat.le_refl _) (.cells #[.bool two, .int .i64 o.q, .int .i64 o.e, .int .i64 o.s, .int .i64 o.t, .int .i64 o.a, .int .i64 o.r, .int .i64 o.ck, .int .i64 o.co, .int .i64 o.cs, .int .i64 o.cr, .slice ia il ic] 49)
  have hN1 := heap_alloc_new w (.cells #[.bool two, .int .i64 o.q, .int .i64 o.e, .int .i64 o.s, .int .i64 o.t, .int .i64 o.a, .int .i64 o.r, .int .i64 o.ck, .int .i64 o.co, .int .i64 o.cs, .int .i64 o.cr, .slice ia il ic] 49)
  have hb2 := hb1.alloc hb1.size (.cells #[.int .i64 1, .int .i64 40] 28)
  have hN2 := (Below.heap_alloc _ (.cells #[.int .i64 1, .int .i64 40] 28) w.heap.size (Array.getElem?_eq_some_iff.1 hN1).1).trans hN1
  have hW2 := heap_alloc_new (w.alloc (.cells #[.bool two, .int .i64 o.q, .int .i64 o.e, .int .i64 o.s, .int .i64 o.t, .int .i64 o.a, .int .i64 o.r, .int .i64 o.ck, .int .i64 o.co, .int .i64 o.cs, .int .i64 o.cr, .slice ia il ic] 49)) (.cells #[.int .i64 1, .int .i64 40] 28)
  have hsz1 : (w.alloc (.cells #[.bool two, .int .i64 o.q, .int .i64 o.e, .int .i64 o.s, .int .i64 o.t, .int .i64 o.a, .int .i64 o.r, .int .i64 o.ck, .int .i64 o.co, .int .i64 o.cs, .int .i64 o.cr, .slice ia il ic] 49)).heap.size = w.heap.size + 1 := by simp
  rw [hsz1] at hW2
  have HB := hide (hB.below hb2)
  have HS0 := hide (hs.ext (Ext.of_below hb2))
  have HF0 : Hid (Fr w F Mb (.slice a L c0) _ F) := hide (Fr.of_ext (Ext.of_below hb2))
  have HNF : Hid (¬ F w.heap.size ∧ ¬ F (w.heap.size + 1) ∧ w.heap.size ≠ Mb ∧ w.heap.size + 1 ≠ Mb ∧ (Value.slice a L c0).ownBlock ≠ some w.heap.size ∧ (Value.slice a L c0).ownBlock ≠ some (w.heap.size + 1)) := by
    refine hide ⟨fun h => ?_, fun h => ?_, ?_, ?_, fun h => ?_, fun h => ?_⟩
    · have := hB.lt _ h; omega
    · have := hB.lt _ h; omega
    · have := hs.lt; omega
    · have := hs.lt; omega
    · have := hs.pr.lt _ h; omega
    · have := hs.pr.lt _ h; omega
  have HN0 := hide hn0
  clear hB hs hb1 hb2 hN1 hsz1 hn0
  unfold Opr.val
  go_enter Try.func25, Try.ntmps25
  go_upto_region 1 with fail
  generalize (w.alloc (.cells #[.bool two, .int .i64 o.q, .int .i64 o.e, .int .i64 o.s, .int .i64 o.t, .int .i64 o.a, .int .i64 o.r, .int .i64 o.ck, .int .i64 o.co, .int .i64 o.cs, .int .i64 o.cr, .slice ia il ic] 49)).alloc (.cells #[.int .i64 1, .int .i64 40] 28) = w0 at *
  obtain ⟨c1, c2, c3, c4, c5, c6, c7, c8, c9, ca⟩ := cells12 hN2
  have k4 := K4.out
  have HN2 := hide hN2
  have HNs : Hid (n0 ≤ w0.heap.size) := hide (Nat.le_trans HN0.out HF0.out.mod.size)
  have hMlt := HS0.out.lt
  clear hW2 hN2
  by_cases k5 : o.q = 5
  · rw [k5] at c1
    rcases Option.eq_none_or_eq_some (atB bk o.e o.s) with hl | ⟨r, hl⟩
    · have HL := hide (dropNone_any w0 F B bk HB.out o.e o.s hl)
      have hcne := lcode_ne hl
      go_wp2_with fail
      refine HL.out.mono ?_
      rintro e1 w1 ⟨rfl, h2⟩
      have hb2 := h2.alloc h2.size (.cells #[.int .i64 0, .int .i64 0, .int .i64 0, .int .i64 0] 26)
      have HFin := hide (show ∃ F' bk' v' M', Book (w1.alloc (.cells #[.int .i64 0, .int .i64 0, .int .i64 0, .int .i64 0] 26)) F' B bk' ∧ Ms n0 (w1.alloc (.cells #[.int .i64 0, .int .i64 0, .int .i64 0, .int .i64 0] 26)) F' Mb v' M' ∧ Fol o bk M bk' M' ∧ Fr w F Mb (.slice a L c0) (w1.alloc (.cells #[.int .i64 0, .int .i64 0, .int .i64 0, .int .i64 0] 26)) F' from ⟨F, bk, _, M, HB.out.below hb2, HS0.out.ext (Ext.of_below hb2), .drop0 k5 hl, HF0.out.below hb2⟩)
      have hcd : decide (lcode bk o.e o.s = 0) = false := by simp [hcne]
      generalize lcode bk o.e o.s = lc at *
      clear h2 hb2 c1 c2 c3 c4 c5 c6 c7 c8 c9 ca
      simp only [Rc.cap, Rc.zero]
      go_wp2
      go_end0
      exact ⟨rfl, HFin.out⟩
    · obtain ⟨i, j, l, ei, ej, -, -, -⟩ := atB_some hl
      rw [ei, ej] at hl
      have HL := hide (dropSome_any w0 F B bk HB.out i j r hl)
      rw [ei] at c2
      rw [ej] at c3
      go_wp2_with fail
      refine HL.out.mono ?_
      rintro e1 w1 ⟨rfl, bk', h2, h3, h4⟩
      have hN3 := (h3.mod.block w.heap.size (Array.getElem?_eq_some_iff.1 HN2.out).1 HNF.out.1).trans HN2.out
      have hb5 := (Below.refl w1.heap.size w1).alloc (Nat.le_refl _) (.cells #[.int .i64 r.k, .int .i64 r.o, .int .i64 r.s, .int .i64 r.r] 26)
      have hN5 := (hb5.block w.heap.size (Array.getElem?_eq_some_iff.1 hN3).1).trans hN3
      obtain ⟨-, d2, d3, -, -, -, -, -, -, -⟩ := cells12 hN5
      rw [ei] at d2
      rw [ej] at d3
      have HS5 := hide ((HS0.out.ext h3).ext (Ext.of_below hb5))
      have HB5 := hide (h2.below hb5)
      have HF5 : Hid (Fr w F Mb (.slice a L c0) (w1.alloc (.cells #[.int .i64 r.k, .int .i64 r.o, .int .i64 r.s, .int .i64 r.r] 26)) F) := hide (Fr.below (fr_ext HF0.out h3) hb5)
      have HN5 : Hid (n0 ≤ (w1.alloc (.cells #[.int .i64 r.k, .int .i64 r.o, .int .i64 r.s, .int .i64 r.r] 26)).heap.size) := hide (Nat.le_trans HNs.out (Nat.le_trans h3.mod.size (by simp)))
      have HD := hide h4
      clear c1 c2 c3 c4 c5 c6 c7 c8 c9 ca h2 h3 h4 hN3 hb5 hN5
      simp only [Rc.cap]
      go_upto_region 11 with fail
      generalize w1.alloc (.cells #[.int .i64 r.k, .int .i64 r.o, .int .i64 r.s, .int .i64 r.r] 26) = w5 at *
      go_wp2_with fail
      refine (HS5.out.cut HB5.out HN5.out (by rw [HLM.out]; exact hn) HF5.out (i : Int) (j : Int)).mono ?_
      rintro e2 w6 ⟨rfl, v6, h1, h2, h3⟩
      have HFin := hide (show ∃ F' bk' v' M', Book w6 F' B bk' ∧ Ms n0 w6 F' Mb v' M' ∧ Fol o bk M bk' M' ∧ Fr w F Mb (.slice a L c0) w6 F' from ⟨F, bk', v6, _, h1, h2, .drop k5 ei ej hl HD.out, h3⟩)
      clear h1 h2 h3 d2 d3 HS5 HB5 HF5 HN5
      go_wp2
      go_end0
      exact ⟨rfl, HFin.out⟩
  by_cases k6 : o.q = 6
  · rw [k6] at c1
    rcases Option.eq_none_or_eq_some (atB bk o.e o.s) with hl | ⟨r, hl⟩
    · have HL := hide (revokeNone_any w0 F B bk HB.out o.e o.s hl)
      go_wp2_with fail
      refine HL.out.mono ?_
      rintro e1 w1 ⟨rfl, h2⟩
      have HCA := hide ((HS0.out.ext (Ext.of_below h2)).cutAll (HB.out.below h2) (Nat.le_trans HNs.out h2.size) (by rw [HLM.out]; exact hn) (HF0.out.below h2) _ [] (held_nil w1) (fun g hg => by cases hg) (by simp))
      have HL0 := hide hl
      clear h2 c1 c2 c3 c4 c5 c6 c7 c8 c9 ca HL hl
      go_wp2_with fail
      refine HCA.out.mono ?_
      rintro e2 w6 ⟨rfl, v6, h1, h2, h3⟩
      have HFin := hide (show ∃ F' bk' v' M', Book w6 F' B bk' ∧ Ms n0 w6 F' Mb v' M' ∧ Fol o bk M bk' M' ∧ Fr w F Mb (.slice a L c0) w6 F' from ⟨F, bk, v6, M, h1, h2, .revoke0 k6 HL0.out, h3⟩)
      clear h1 h2 h3 HCA
      go_wp2
      go_end0
      exact ⟨rfl, HFin.out⟩
    · obtain ⟨i, j, l, ei, ej, -, -, -⟩ := atB_some hl
      rw [ei, ej] at hl
      have HL := hide (revokeSome_any w0 F B bk HB.out f HRk.out i j r hl)
      rw [ei] at c2
      rw [ej] at c3
      go_wp2_with fail
      refine HL.out.mono ?_
      rintro e1 w1 ⟨vr, ps, n, rfl, h1, h2, h3, h4, h5, h6⟩
      have hex : ∀ p ∈ ps, ∃ r, atB bk (p.1 : Int) (p.2 : Int) = some r := fun p hp => bel_mem n (h3.mem_iff.1 hp)
      rw [encT_held hex] at h4
      have h4' : w1.ownsRow w0.heap.size 54 6 vr (heldOf bk ps).length (encA (heldOf bk ps)) := by simpa [heldOf] using h4
      have hpl : ps.length ≤ 768 := (perm_le h3 (bel_nodup HRk.out n (i, j)) hex HB.out)
      have HCA := hide ((HS0.out.ext h6).cutAll h5 (Nat.le_trans HNs.out h6.mod.size) (by rw [HLM.out]; exact hn) (fr_ext HF0.out h6) vr _ (HeldAt.of_row h4') (fun g hg e => by have := (h4'.lt g hg).1; omega) (by simpa [heldOf] using hpl))
      have HL0 := hide (And.intro hl (And.intro h1 h3))
      obtain ⟨av, cv, hvv⟩ := own_shape h4'
      subst hvv
      clear h1 h2 h3 h4 h4' h5 h6 hex hpl c1 c2 c3 c4 c5 c6 c7 c8 c9 ca HL hl
      go_wp2_with fail
      refine HCA.out.mono ?_
      rintro e2 w6 ⟨rfl, v6, h1, h2, h3⟩
      have HFin := hide (show ∃ F' bk' v' M', Book w6 F' B bk' ∧ Ms n0 w6 F' Mb v' M' ∧ Fol o bk M bk' M' ∧ Fr w F Mb (.slice a L c0) w6 F' from ⟨F, _, v6, _, h1, h2, .revoke k6 ei ej HL0.out.1 HL0.out.2.1 HL0.out.2.2, h3⟩)
      clear h1 h2 h3 HCA
      go_wp2
      go_end0
      exact ⟨rfl, HFin.out⟩
  by_cases k2 : o.q = 2
  · rw [k2] at c1
    rcases Option.eq_none_or_eq_some (look bk o.e) with hl | ⟨l, hl⟩
    · have HL := hide (shut_none w0 F B bk HB.out o.e hl)
      go_wp2_with fail
      refine HL.out.mono ?_
      rintro e1 w1 ⟨rfl, h2⟩
      have HCA := hide ((HS0.out.ext (Ext.of_below h2)).cutAll (HB.out.below h2) (Nat.le_trans HNs.out h2.size) (by rw [HLM.out]; exact hn) (HF0.out.below h2) _ [] (held_nil w1) (fun g hg => by cases hg) (by simp))
      have HL0 := hide hl
      clear h2 c1 c2 c3 c4 c5 c6 c7 c8 c9 ca HL hl
      go_wp2_with fail
      refine HCA.out.mono ?_
      rintro e2 w6 ⟨rfl, v6, h1, h2, h3⟩
      have HFin := hide (show ∃ F' bk' v' M', Book w6 F' B bk' ∧ Ms n0 w6 F' Mb v' M' ∧ Fol o bk M bk' M' ∧ Fr w F Mb (.slice a L c0) w6 F' from ⟨F, bk, v6, M, h1, h2, .shut0 k2 HL0.out, h3⟩)
      clear h1 h2 h3 HCA
      go_wp2
      go_end0
      exact ⟨rfl, HFin.out⟩
    · obtain ⟨i, ei, hi⟩ := look_open hl
      have HL := hide (shut_some w0 F B bk HB.out i l hi)
      rw [ei] at c2
      go_wp2_with fail
      refine HL.out.mono ?_
      rintro e1 w1 ⟨vr, bk', rfl, h1, h2, h3, h4⟩
      rw [encA_hs] at h1
      have h1' : w1.ownsRow w0.heap.size 54 6 vr ((prs l 0).map (fun x => ((i : Int), x))).length (encA ((prs l 0).map (fun x => ((i : Int), x)))) := by simpa using h1
      have hpl : (prs l 0).length ≤ 48 := by rw [prs_len, ← HB.out.l48 hi]; exact count_le
      have HCA := hide ((HS0.out.ext h3).cutAll h2 (Nat.le_trans HNs.out h3.mod.size) (by rw [HLM.out]; exact hn) (fr_ext HF0.out h3) vr _ (HeldAt.of_row h1') (fun g hg e => by have := (h1'.lt g hg).1; omega) (by rw [List.length_map]; omega))
      have HL0 := hide (And.intro hi h4)
      obtain ⟨av, cv, hvv⟩ := own_shape h1'
      obtain ⟨Lr, hLr⟩ : ∃ L, ((prs l 0).map (fun x => ((i : Int), x))).length = L := ⟨_, rfl⟩
      rw [hLr] at hvv
      subst hvv
      clear hLr
      clear h1 h2 h3 h4 h1' hpl c1 c2 c3 c4 c5 c6 c7 c8 c9 ca HL hl hi
      go_wp2_with fail
      refine HCA.out.mono ?_
      rintro e2 w6 ⟨rfl, v6, h1, h2, h3⟩
      have HFin := hide (show ∃ F' bk' v' M', Book w6 F' B bk' ∧ Ms n0 w6 F' Mb v' M' ∧ Fol o bk M bk' M' ∧ Fr w F Mb (.slice a L c0) w6 F' from ⟨F, _, v6, _, h1, h2, .shut k2 ei HL0.out.1 HL0.out.2, h3⟩)
      clear h1 h2 h3 HCA
      go_wp2
      go_end0
      exact ⟨rfl, HFin.out⟩
  have HPl := hide (play_any w0 F B bk HB.out f HRk.out o two (.slice ia il ic))
  have K5 := hide k5
  have K6 := hide k6
  have K2 := hide k2
  have hob : Ob w0 w.heap.size ⟨o, two, ia, il, ic⟩ := ⟨HN2.out⟩
  go_wp2_with (refine loadOp ?lwP _ rfl ⟨w.heap.size, 0, none⟩ ?lxP ⟨o, two, ia, il, ic⟩ ?lcP ?_)
  try (case lxP => rfl)
  case lcP => exact fun j v hv => by first | exact hob.get hv | (rw [add0]; exact hob.get hv)
  refine HPl.out.mono ?_
  rintro e1 w1 ⟨rfl, bk', F', h1, h2, h3⟩
  have HFin := hide (show ∃ F' bk' v' M', Book w1 F' B bk' ∧ Ms n0 w1 F' Mb v' M' ∧ Fol o bk M bk' M' ∧ Fr w F Mb (.slice a L c0) w1 F' from ⟨F', bk', _, M, h1, HS0.out.ext h2, .other K2.out K4.out K5.out K6.out h3, fr_ext HF0.out h2⟩)
  clear h1 h2 h3 c1 c2 c3 c4 c5 c6 c7 c8 c9 ca
  go_wp2
  go_end0
  exact ⟨rfl, HFin.out⟩
end Go.Proofs.Ytimfgjndgfjjgaa
