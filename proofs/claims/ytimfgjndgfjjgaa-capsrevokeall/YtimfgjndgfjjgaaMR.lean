import Derived.Test.YtimfgjndgfjjgaaMQ
namespace Go.Proofs.Ytimfgjndgfjjgaa
open Go.RowKit Go.Shelf

theorem held_nil (w : World) : HeldAt w (.slice none 0 0) [] := ⟨none, 0, rfl, fun k hk => by cases hk⟩
theorem Ms.cutAll {n0 : Nat} {w : World} {F : Nat → Prop} {Mb B : Nat} {v : Value} {M : List (Nat × Nat)} {bk : List (Option Lst)} (h : Ms n0 w F Mb v M) (hB : Book w F B bk) (hn0 : n0 ≤ w.heap.size) (hn : M.length ≤ 1999) {W : World} {F0 : Nat → Prop} {v0 : Value} (hF : Fr W F0 Mb v0 w F) (vl : Value) (l : List Hd) (hl : HeldAt w vl l) (hlb : ∀ g, vl.ownBlock = some g → g ≠ Mb) (hln : l.length ≤ 768) :
    Calls Try.prog 60 #[.pointer (some ⟨Mb, 0, none⟩), vl] w fun x w' => x = .returned (.tuple #[]) ∧ ∃ v', Book w' F B bk ∧ Ms n0 w' F Mb v' (Go.Proofs.Ytimfgjndgfjjgaa.cutAll M l) ∧ Fr W F0 Mb v0 w' F := by
  refine (cutAll_any w Mb v M h.at_ h.pr (fun g hg => (h.vb g hg).2.2) (by omega) vl l hl hlb hln).mono ?_
  rintro x w' ⟨rfl, v', hm⟩
  obtain ⟨h1, h2⟩ := h.mr hB hn0 hm
  exact ⟨rfl, v', h2, h1, hF.mr hm⟩
theorem Ms.cut {n0 : Nat} {w : World} {F : Nat → Prop} {Mb B : Nat} {v : Value} {M : List (Nat × Nat)} {bk : List (Option Lst)} (h : Ms n0 w F Mb v M) (hB : Book w F B bk) (hn0 : n0 ≤ w.heap.size) (hn : M.length ≤ 1999) {W : World} {F0 : Nat → Prop} {v0 : Value} (hF : Fr W F0 Mb v0 w F) (e s : Int) :
    Calls Try.prog 59 #[.pointer (some ⟨Mb, 0, none⟩), .agg #[.int .i64 e, .int .i64 s]] w fun x w' => x = .returned (.tuple #[]) ∧ ∃ v', Book w' F B bk ∧ Ms n0 w' F Mb v' (cutM M e s) ∧ Fr W F0 Mb v0 w' F := by
  refine (cut_any w Mb v M h.at_ h.pr (fun g hg => (h.vb g hg).2.2) (by omega) e s).mono ?_
  rintro x w' ⟨rfl, v', h1, h2, h3, h4⟩
  have hm : Mr w w' Mb v v' (cutM M e s) := ⟨h1, h2, h3, h4⟩
  obtain ⟨h1, h2⟩ := h.mr hB hn0 hm
  exact ⟨rfl, v', h2, h1, hF.mr hm⟩
theorem fr_ext {w w1 w2 : World} {F F2 : Nat → Prop} {Mb : Nat} {v : Value} (h : Fr w F Mb v w1 F) (hE : Ext F w1 F2 w2) : Fr w F Mb v w2 F2 := by
  refine ⟨⟨hE.mod.os.trans h.mod.os, hE.mod.tape.trans h.mod.tape, hE.mod.output.trans h.mod.output, Nat.le_trans h.mod.size hE.mod.size, fun b hb hf => (hE.mod.block b (Nat.lt_of_lt_of_le hb h.mod.size) (fun h => hf (.inl h))).trans (h.mod.block b hb hf)⟩, fun b hb => ?_⟩
  rcases hE.new b hb with h1 | h1
  · exact .inl h1
  · exact .inr (Nat.le_trans h.mod.size h1)
theorem places_nodup (bk : List (Option Lst)) : ∀ n, ((hl bk n).map (fun y => (y.1, y.2.1))).Nodup
  | 0 => by simp [hl]
  | n + 1 => by
    rw [hl_succ, List.map_append, List.nodup_append]
    refine ⟨places_nodup bk n, ?_, ?_⟩
    · rw [List.map_map]
      refine List.Pairwise.map _ (fun a b h => ?_) (prsL_sorted (lf bk n) 0)
      intro e
      have : a.1 = b.1 := congrArg Prod.snd e
      omega
    · intro a ha b hb e
      obtain ⟨y, hy, rfl⟩ := List.mem_map.1 ha
      obtain ⟨z, hz, rfl⟩ := List.mem_map.1 hb
      obtain ⟨x, hx, rfl⟩ := List.mem_map.1 hz
      obtain ⟨i, hi, e1, _⟩ := mem_hl hy
      have e2 : y.1 = (n : Int) := congrArg Prod.fst e
      omega
theorem sub_len {α : Type} : ∀ {l m : List α}, l.Nodup → (∀ x ∈ l, x ∈ m) → l.length ≤ m.length
  | [], m, _, _ => Nat.zero_le _
  | a :: l, m, hn, hs => by
    obtain ⟨n1, n2⟩ := List.nodup_cons.1 hn
    obtain ⟨s, t, rfl⟩ := List.append_of_mem (hs a (by simp))
    have h1 := sub_len (l := l) (m := s ++ t) n2 (fun x hx => by
      have := hs x (by simp [hx])
      simp only [List.mem_append, List.mem_cons] at this ⊢
      rcases this with h | rfl | h
      · exact .inl h
      · exact (n1 hx).elim
      · exact .inr h)
    simp only [List.length_append, List.length_cons] at h1 ⊢
    omega
theorem plc_le {w : World} {F : Nat → Prop} {B : Nat} {bk : List (Option Lst)} (hB : Book w F B bk) {ps : List (Nat × Nat)} (hn : ps.Nodup) (hex : ∀ p ∈ ps, ∃ r, atB bk (p.1 : Int) (p.2 : Int) = some r) : ps.length ≤ 768 := by
  have h1 : (ps.map (fun p => ((p.1 : Int), p.2))).Nodup := List.Pairwise.map _ (fun a b h e => h (Prod.ext (by have e1 : (a.1 : Int) = (b.1 : Int) := congrArg Prod.fst e; omega) (congrArg Prod.snd (a₁ := ((a.1 : Int), a.2)) (a₂ := ((b.1 : Int), b.2)) e))) hn
  have h2 := sub_len h1 (m := (hl bk 16).map (fun y => (y.1, y.2.1))) (fun x hx => by
    obtain ⟨p, hp, rfl⟩ := List.mem_map.1 hx
    obtain ⟨r, hr⟩ := hex p hp
    obtain ⟨i, j, l, e1, e2, h3, _⟩ := atB_some hr
    have hi : p.1 < 16 := by have := (List.getElem?_eq_some_iff.1 h3).1; have := hB.blen; omega
    exact List.mem_map.2 ⟨_, hl_mem hi hr, rfl⟩)
  have h3 := hl_len hB 16
  simp only [List.length_map] at h2
  omega
theorem perm_le {w : World} {F : Nat → Prop} {B : Nat} {bk : List (Option Lst)} {ps qs : List (Nat × Nat)} (hp : List.Perm ps qs) (hn : qs.Nodup) (hex : ∀ p ∈ ps, ∃ r, atB bk (p.1 : Int) (p.2 : Int) = some r) (hB : Book w F B bk) : ps.length ≤ 768 := plc_le hB (hp.nodup_iff.2 hn) hex
set_option maxRecDepth 16000 in
set_option maxHeartbeats 16000000 in
theorem follow_rest (w : World) (F : Nat → Prop) (B : Nat) (bk : List (Option Lst)) (hB : Book w F B bk) (f : Int → Int → Nat) (hf : Rk bk f) (n0 Mb : Nat) (v : Value) (M : List (Nat × Nat)) (hs : Ms n0 w F Mb v M) (hn0 : n0 ≤ w.heap.size) (hn : M.length ≤ 1999) (o : Opr) (two : Bool) (ia : Option Addr) (il ic : Nat) (k4 : o.q ≠ 4) :
    Calls Try.prog 25 #[.pointer (some ⟨Mb, 0, none⟩), .pointer (some ⟨B, 0, none⟩), o.val two (.slice ia il ic), .agg #[.int .i64 1, .int .i64 40]] w fun x w' => x = .returned (.tuple #[]) ∧ ∃ F' bk' v' M', Book w' F' B bk' ∧ Ms n0 w' F' Mb v' M' ∧ Fol o bk M bk' M' ∧ Fr w F Mb v w' F' := by
  have HRk := hide hf
  clear hf
  obtain ⟨L, hL⟩ : ∃ L, M.length = L := ⟨_, rfl⟩
  have K4 := hide k4
  clear k4
  obtain ⟨a, c0, rfl⟩ := hs.pr.len
  rw [hL] at hs hn ⊢
  have HLM := hide hL
  clear hL
  have hb1 := (Below.refl w.heap.size w).alloc (Nat.le_refl _) (.cells #[.bool two, .int .i64 o.q, .int .i64 o.e, .int .i64 o.s, .int .i64 o.t, .int .i64 o.a, .int .i64 o.r, .int .i64 o.ck, .int .i64 o.co, .int .i64 o.cs, .int .i64 o.cr, .slice ia il ic] 49)
  have hN1 := heap_alloc_new w (.cells #[.bool two, .int .i64 o.q, .int .i64 o.e, .int .i64 o.s, .int .i64 o.t, .int .i64 o.a, .int .i64 o.r, .int .i64 o.ck, .int .i64 o.co, .int .i64 o.cs, .int .i64 o.cr, .slice ia il ic] 49)
  have hb2 := hb1.alloc hb1.size (.cells #[.int .i64 1, .int .i64 40] 28)
  have hN2 := (Below.heap_alloc _ (.cells #[.int .i64 1, .int .i64 40] 28) w.heap.size (Array.getElem?_eq_some_iff.1 hN1).1).trans hN1
  have hW2 := heap_alloc_new (w.alloc (.cells #[.bool two, .int .i64 o.q, .int .i64 o.e, .int .i64 o.s, .int .i64 o.t, .int .i64 o.a, .int .i64 o.r, .int .i64 o.ck, .int .i64 o.co, .int .i64 o.cs, .int .i64 o.cr, .slice ia il ic] 49)) (.cells #[.int .i64 1, .int .i64 40] 28)
  have hsz1 : (w.alloc (.cells #[.bool two, .int .i64 o.q, .int .i64 o.e, .int .i64 o.s, .int .i64 o.t, .int .i64 o.a, .int .i64 o.r, .int .i64 o.ck, .int .i64 o.co, .int .i64 o.cs, .int .i64 o.cr, .slice ia il ic] 49)).heap.size = w.heap.size + 1 := by simp
  rw [hsz1] at hW2
  have HB := hide (hB.below hb2)
  have HS0 := hide (hs.ext (Ext.of_below hb2))
  have HF0 : Hid (Fr w F Mb (.slice a L c0) _ F) := hide (Fr.of_ext (Ext.of_below hb2))
  have HNF : Hid (¬ F w.heap.size ∧ ¬ F (w.heap.size + 1) ∧ w.heap.size ≠ Mb ∧ w.heap.size + 1 ≠ Mb ∧ (Value.slice a L c0).ownBlock ≠ some w.heap.size ∧ (Value.slice a L c0).ownBlock ≠ some (w.heap.size + 1)) := by
    refine hide ⟨fun h => ?_, fun h => ?_, ?_, ?_, fun h => ?_, fun h => ?_⟩
    · have := hB.lt _ h; omega
    · have := hB.lt _ h; omega
    · have := hs.lt; omega
    · have := hs.lt; omega
    · have := hs.pr.lt _ h; omega
    · have := hs.pr.lt _ h; omega
  have HN0 := hide hn0
  clear hB hs hb1 hb2 hN1 hsz1 hn0
  unfold Opr.val
  go_enter Try.func25, Try.ntmps25
  go_upto_region 1 with fail
  generalize (w.alloc (.cells #[.bool two, .int .i64 o.q, .int .i64 o.e, .int .i64 o.s, .int .i64 o.t, .int .i64 o.a, .int .i64 o.r, .int .i64 o.ck, .int .i64 o.co, .int .i64 o.cs, .int .i64 o.cr, .slice ia il ic] 49)).alloc (.cells #[.int .i64 1, .int .i64 40] 28) = w0 at *
  obtain ⟨c1, c2, c3, c4, c5, c6, c7, c8, c9, ca⟩ := cells12 hN2
  have k4 := K4.out
  have HN2 := hide hN2
  have HNs : Hid (n0 ≤ w0.heap.size) := hide (Nat.le_trans HN0.out HF0.out.mod.size)
  have hMlt := HS0.out.lt
  clear hW2 hN2
  by_cases k5 : o.q = 5
  · rw [k5] at c1
    rcases Option.eq_none_or_eq_some (atB bk o.e o.s) with hl | ⟨r, hl⟩
    · have HL := hide (dropNone_any w0 F B bk HB.out o.e o.s hl)
      have hcne := lcode_ne hl
      go_wp2_with fail
      refine HL.out.mono ?_
      rintro e1 w1 ⟨rfl, h2⟩
      have hb2 := h2.alloc h2.size (.cells #[.int .i64 0, .int .i64 0, .int .i64 0, .int .i64 0] 26)
      have HFin := hide (show ∃ F' bk' v' M', Book (w1.alloc (.cells #[.int .i64 0, .int .i64 0, .int .i64 0, .int .i64 0] 26)) F' B bk' ∧ Ms n0 (w1.alloc (.cells #[.int .i64 0, .int .i64 0, .int .i64 0, .int .i64 0] 26)) F' Mb v' M' ∧ Fol o bk M bk' M' ∧ Fr w F Mb (.slice a L c0) (w1.alloc (.cells #[.int .i64 0, .int .i64 0, .int .i64 0, .int .i64 0] 26)) F' from ⟨F, bk, _, M, HB.out.below hb2, HS0.out.ext (Ext.of_below hb2), .drop0 k5 hl, HF0.out.below hb2⟩)
      have hcd : decide (lcode bk o.e o.s = 0) = false := by simp [hcne]
      generalize lcode bk o.e o.s = lc at *
      clear h2 hb2 c1 c2 c3 c4 c5 c6 c7 c8 c9 ca
      simp only [Rc.cap, Rc.zero]
      go_wp2
      go_end0
      exact ⟨rfl, HFin.out⟩
    · obtain ⟨i, j, l, ei, ej, -, -, -⟩ := atB_some hl
      rw [ei, ej] at hl
      have HL := hide (dropSome_any w0 F B bk HB.out i j r hl)
      rw [ei] at c2
      rw [ej] at c3
      go_wp2_with fail
      refine HL.out.mono ?_
      rintro e1 w1 ⟨rfl, bk', h2, h3, h4⟩
      have hN3 := (h3.mod.block w.heap.size (Array.getElem?_eq_some_iff.1 HN2.out).1 HNF.out.1).trans HN2.out
      have hb5 := (Below.refl w1.heap.size w1).alloc (Nat.le_refl _) (.cells #[.int .i64 r.k, .int .i64 r.o, .int .i64 r.s, .int .i64 r.r] 26)
      have hN5 := (hb5.block w.heap.size (Array.getElem?_eq_some_iff.1 hN3).1).trans hN3
      obtain ⟨-, d2, d3, -, -, -, -, -, -, -⟩ := cells12 hN5
      rw [ei] at d2
      rw [ej] at d3
      have HS5 := hide ((HS0.out.ext h3).ext (Ext.of_below hb5))
      have HB5 := hide (h2.below hb5)
      have HF5 : Hid (Fr w F Mb (.slice a L c0) (w1.alloc (.cells #[.int .i64 r.k, .int .i64 r.o, .int .i64 r.s, .int .i64 r.r] 26)) F) := hide (Fr.below (fr_ext HF0.out h3) hb5)
      have HN5 : Hid (n0 ≤ (w1.alloc (.cells #[.int .i64 r.k, .int .i64 r.o, .int .i64 r.s, .int .i64 r.r] 26)).heap.size) := hide (Nat.le_trans HNs.out (Nat.le_trans h3.mod.size (by simp)))
      have HD := hide h4
      clear c1 c2 c3 c4 c5 c6 c7 c8 c9 ca h2 h3 h4 hN3 hb5 hN5
      simp only [Rc.cap]
      go_upto_region 11 with fail
      generalize w1.alloc (.cells #[.int .i64 r.k, .int .i64 r.o, .int .i64 r.s, .int .i64 r.r] 26) = w5 at *
      go_wp2_with fail
      refine (HS5.out.cut HB5.out HN5.out (by rw [HLM.out]; exact hn) HF5.out (i : Int) (j : Int)).mono ?_
      rintro e2 w6 ⟨rfl, v6, h1, h2, h3⟩
      have HFin := hide (show ∃ F' bk' v' M', Book w6 F' B bk' ∧ Ms n0 w6 F' Mb v' M' ∧ Fol o bk M bk' M' ∧ Fr w F Mb (.slice a L c0) w6 F' from ⟨F, bk', v6, _, h1, h2, .drop k5 ei ej hl HD.out, h3⟩)
      clear h1 h2 h3 d2 d3 HS5 HB5 HF5 HN5
      go_wp2
      go_end0
      exact ⟨rfl, HFin.out⟩
  by_cases k6 : o.q = 6
  · rw [k6] at c1
    rcases Option.eq_none_or_eq_some (atB bk o.e o.s) with hl | ⟨r, hl⟩
    · have HL := hide (revokeNone_any w0 F B bk HB.out o.e o.s hl)
      go_wp2_with fail
      refine HL.out.mono ?_
      rintro e1 w1 ⟨rfl, h2⟩
      have HCA := hide ((HS0.out.ext (Ext.of_below h2)).cutAll (HB.out.below h2) (Nat.le_trans HNs.out h2.size) (by rw [HLM.out]; exact hn) (HF0.out.below h2) _ [] (held_nil w1) (fun g hg => by cases hg) (by simp))
      have HL0 := hide hl
      clear h2 c1 c2 c3 c4 c5 c6 c7 c8 c9 ca HL hl
      go_wp2_with fail
      refine HCA.out.mono ?_
      rintro e2 w6 ⟨rfl, v6, h1, h2, h3⟩
      have HFin := hide (show ∃ F' bk' v' M', Book w6 F' B bk' ∧ Ms n0 w6 F' Mb v' M' ∧ Fol o bk M bk' M' ∧ Fr w F Mb (.slice a L c0) w6 F' from ⟨F, bk, v6, M, h1, h2, .revoke0 k6 HL0.out, h3⟩)
      clear h1 h2 h3 HCA
      go_wp2
      go_end0
      exact ⟨rfl, HFin.out⟩
    · obtain ⟨i, j, l, ei, ej, -, -, -⟩ := atB_some hl
      rw [ei, ej] at hl
      have HL := hide (revokeSome_any w0 F B bk HB.out f HRk.out i j r hl)
      rw [ei] at c2
      rw [ej] at c3
      go_wp2_with fail
      refine HL.out.mono ?_
      rintro e1 w1 ⟨vr, ps, n, rfl, h1, h2, h3, h4, h5, h6⟩
      have hex : ∀ p ∈ ps, ∃ r, atB bk (p.1 : Int) (p.2 : Int) = some r := fun p hp => bel_mem n (h3.mem_iff.1 hp)
      rw [encT_held hex] at h4
      have h4' : w1.ownsRow w0.heap.size 54 6 vr (heldOf bk ps).length (encA (heldOf bk ps)) := by simpa [heldOf] using h4
      have hpl : ps.length ≤ 768 := (perm_le h3 (bel_nodup HRk.out n (i, j)) hex HB.out)
      have HCA := hide ((HS0.out.ext h6).cutAll h5 (Nat.le_trans HNs.out h6.mod.size) (by rw [HLM.out]; exact hn) (fr_ext HF0.out h6) vr _ (HeldAt.of_row h4') (fun g hg e => by have := (h4'.lt g hg).1; omega) (by simpa [heldOf] using hpl))
      have HL0 := hide (And.intro hl (And.intro h1 h3))
      obtain ⟨av, cv, hvv⟩ := own_shape h4'
      subst hvv
      clear h1 h2 h3 h4 h4' h5 h6 hex hpl c1 c2 c3 c4 c5 c6 c7 c8 c9 ca HL hl
      go_wp2_with fail
      refine HCA.out.mono ?_
      rintro e2 w6 ⟨rfl, v6, h1, h2, h3⟩
      have HFin := hide (show ∃ F' bk' v' M', Book w6 F' B bk' ∧ Ms n0 w6 F' Mb v' M' ∧ Fol o bk M bk' M' ∧ Fr w F Mb (.slice a L c0) w6 F' from ⟨F, _, v6, _, h1, h2, .revoke k6 ei ej HL0.out.1 HL0.out.2.1 HL0.out.2.2, h3⟩)
      clear h1 h2 h3 HCA
      go_wp2
      go_end0
      exact ⟨rfl, HFin.out⟩
  by_cases k2 : o.q = 2
  · rw [k2] at c1
    rcases Option.eq_none_or_eq_some (look bk o.e) with hl | ⟨l, hl⟩
    · have HL := hide (shut_none w0 F B bk HB.out o.e hl)
      go_wp2_with fail
      refine HL.out.mono ?_
      rintro e1 w1 ⟨rfl, h2⟩
      have HCA := hide ((HS0.out.ext (Ext.of_below h2)).cutAll (HB.out.below h2) (Nat.le_trans HNs.out h2.size) (by rw [HLM.out]; exact hn) (HF0.out.below h2) _ [] (held_nil w1) (fun g hg => by cases hg) (by simp))
      have HL0 := hide hl
      clear h2 c1 c2 c3 c4 c5 c6 c7 c8 c9 ca HL hl
      go_wp2_with fail
      refine HCA.out.mono ?_
      rintro e2 w6 ⟨rfl, v6, h1, h2, h3⟩
      have HFin := hide (show ∃ F' bk' v' M', Book w6 F' B bk' ∧ Ms n0 w6 F' Mb v' M' ∧ Fol o bk M bk' M' ∧ Fr w F Mb (.slice a L c0) w6 F' from ⟨F, bk, v6, M, h1, h2, .shut0 k2 HL0.out, h3⟩)
      clear h1 h2 h3 HCA
      go_wp2
      go_end0
      exact ⟨rfl, HFin.out⟩
    · obtain ⟨i, ei, hi⟩ := look_open hl
      have HL := hide (shut_some w0 F B bk HB.out i l hi)
      rw [ei] at c2
      go_wp2_with fail
      refine HL.out.mono ?_
      rintro e1 w1 ⟨vr, bk', rfl, h1, h2, h3, h4⟩
      rw [encA_hs] at h1
      have h1' : w1.ownsRow w0.heap.size 54 6 vr ((prs l 0).map (fun x => ((i : Int), x))).length (encA ((prs l 0).map (fun x => ((i : Int), x)))) := by simpa using h1
      have hpl : (prs l 0).length ≤ 48 := by rw [prs_len, ← HB.out.l48 hi]; exact count_le
      have HCA := hide ((HS0.out.ext h3).cutAll h2 (Nat.le_trans HNs.out h3.mod.size) (by rw [HLM.out]; exact hn) (fr_ext HF0.out h3) vr _ (HeldAt.of_row h1') (fun g hg e => by have := (h1'.lt g hg).1; omega) (by rw [List.length_map]; omega))
      have HL0 := hide (And.intro hi h4)
      obtain ⟨av, cv, hvv⟩ := own_shape h1'
      obtain ⟨Lr, hLr⟩ : ∃ L, ((prs l 0).map (fun x => ((i : Int), x))).length = L := ⟨_, rfl⟩
      rw [hLr] at hvv
      subst hvv
      clear hLr
      clear h1 h2 h3 h4 h1' hpl c1 c2 c3 c4 c5 c6 c7 c8 c9 ca HL hl hi
      go_wp2_with fail
      refine HCA.out.mono ?_
      rintro e2 w6 ⟨rfl, v6, h1, h2, h3⟩
      have HFin := hide (show ∃ F' bk' v' M', Book w6 F' B bk' ∧ Ms n0 w6 F' Mb v' M' ∧ Fol o bk M bk' M' ∧ Fr w F Mb (.slice a L c0) w6 F' from ⟨F, _, v6, _, h1, h2, .shut k2 ei HL0.out.1 HL0.out.2, h3⟩)
      clear h1 h2 h3 HCA
      go_wp2
      go_end0
      exact ⟨rfl, HFin.out⟩
  have HPl := hide (play_any w0 F B bk HB.out f HRk.out o two (.slice ia il ic))
  have K5 := hide k5
  have K6 := hide k6
  have K2 := hide k2
  have hob : Ob w0 w.heap.size ⟨o, two, ia, il, ic⟩ := ⟨HN2.out⟩
  go_wp2_with (refine loadOp ?lwP _ rfl ⟨w.heap.size, 0, none⟩ ?lxP ⟨o, two, ia, il, ic⟩ ?lcP ?_)
  try (case lxP => rfl)
  case lcP => exact fun j v hv => by first | exact hob.get hv | (rw [add0]; exact hob.get hv)
  refine HPl.out.mono ?_
  rintro e1 w1 ⟨rfl, bk', F', h1, h2, h3⟩
  have HFin := hide (show ∃ F' bk' v' M', Book w1 F' B bk' ∧ Ms n0 w1 F' Mb v' M' ∧ Fol o bk M bk' M' ∧ Fr w F Mb (.slice a L c0) w1 F' from ⟨F', bk', _, M, h1, HS0.out.ext h2, .other K2.out K4.out K5.out K6.out h3, fr_ext HF0.out h2⟩)
  clear h1 h2 h3 c1 c2 c3 c4 c5 c6 c7 c8 c9 ca
  go_wp2
  go_end0
  exact ⟨rfl, HFin.out⟩
end Go.Proofs.Ytimfgjndgfjjgaa

namespace Go.Proofs.Ytimfgjndgfjjgaa
open Go.RowKit Go.Shelf

theorem follow_any (w : World) (F : Nat → Prop) (B : Nat) (bk : List (Option Lst)) (hB : Book w F B bk) (f : Int → Int → Nat) (hf : Rk bk f) (n0 Mb : Nat) (v : Value) (M : List (Nat × Nat)) (hs : Ms n0 w F Mb v M) (hn0 : n0 ≤ w.heap.size) (hn : M.length ≤ 1999) (o : Ov) :
    Calls Try.prog 25 #[.pointer (some ⟨Mb, 0, none⟩), .pointer (some ⟨B, 0, none⟩), .agg o.cells.toArray, .agg #[.int .i64 1, .int .i64 40]] w fun x w' => x = .returned (.tuple #[]) ∧ ∃ F' bk' v' M', Book w' F' B bk' ∧ Ms n0 w' F' Mb v' M' ∧ Fol o.o bk M bk' M' ∧ Fr w F Mb v w' F' := by
  rw [ov_val]
  by_cases k4 : o.o.q = 4
  · exact follow_derive w F B bk hB n0 Mb v M hs hn0 hn o.o o.two _ k4
  · exact follow_rest w F B bk hB f hf n0 Mb v M hs hn0 hn o.o o.two o.ia o.il o.ic k4
/-- the root, and the four lists -/
def Rt0 (bk : List (Option Lst)) : Prop := atB bk 0 0 = some ⟨1, 5, 7, 15, -1, -1⟩ ∧ (∀ x : Nat, x < 4 → (look bk (x : Int)).isSome = true)
theorem rt0_lay {bk bk' : List (Option Lst)} {r : Rc} (h : Rt0 bk) {i k : Nat} (hsh : Shape bk bk') (hf : atB bk (i : Int) (k : Int) = none) (hv : ∀ x y : Nat, atB bk' (x : Int) (y : Int) = if x = i ∧ y = k then some r else atB bk (x : Int) (y : Int)) : Rt0 bk' := by
  refine ⟨?_, fun x hx => (hsh x).trans (h.2 x hx)⟩
  have h1 := hv 0 0
  rw [show ((0 : Nat) : Int) = 0 from rfl] at h1
  rw [h1, if_neg]
  · exact h.1
  · rintro ⟨rfl, rfl⟩
    rw [show ((0 : Nat) : Int) = 0 from rfl, h.1] at hf; cases hf
theorem rt0_step {o : Opr} {bk bk' : List (Option Lst)} (h48 : ∀ (i : Nat) (l : Lst), bk[i]? = some (some l) → l.length = 48) (h : Rt0 bk) (hS : Step o bk bk') (hq : o.q = 4 ∨ o.q = 3) : Rt0 bk' := by
  cases hS using Step.ind with
  | none => exact h
  | opn h1 => omega
  | shut0 h1 => omega
  | shut h1 => omega
  | mint _ hm =>
    rcases hm with ⟨_, _, _, rfl⟩ | ⟨_, _, _, _, rfl⟩ | ⟨i, l, l', _, hl, _, hb, hy, rfl⟩
    · exact h
    · exact h
    · rcases lay_view hl (h48 i l hl) hy with ⟨k, _, _, _, hfr, _, _, hsh, hv⟩ | ⟨_, _, e, _⟩
      · exact rt0_lay h hsh hfr hv
      · rw [e]; exact h
  | @derive v c _ _ hm =>
    by_cases hc : c = 0
    · subst hc
      obtain ⟨i, k, p, _, _, _, _, _, _, hsh, hfr, hv⟩ := derive_lay h48 hm
      exact rt0_lay h hsh hfr hv
    · rw [derive_no h48 hm hc]; exact h
  | drop0 h1 => omega
  | drop h1 => omega
  | revoke0 h1 => omega
  | revoke h1 => omega
  | purge h1 => omega
theorem begun_rt0 {bk : List (Option Lst)} (h : Begun bk 1 5 7 15) : Rt0 bk := by
  refine ⟨?_, fun x hx => by rw [h.four]; simpa using hx⟩
  have := h.at0 0 0
  simpa using this
/-- the watched one is laid, or its slot is taken -/
theorem first_derive {bk bk' : List (Option Lst)} {f : Int → Int → Nat} {v c : Int} (h : Rt0 bk) (hs : Snd bk f) (h48 : ∀ (i : Nat) (l : Lst), bk[i]? = some (some l) → l.length = 48) (hD : DeriveR bk 0 0 1 40 15 v c bk') :
    c = 31 ∨ (v = 40 ∧ c = 0 ∧ Rt0 bk' ∧ (∃ f', Snd bk' f') ∧ atB bk' 1 40 = some ⟨1, 5, 7, 15, 0, 0⟩ ∧ ∀ q, ¬ Desc bk' (1, 40) q) := by
  have hok : okR 15 ⟨1, 5, 7, 15, -1, -1⟩ = true := by decide
  obtain ⟨l1, hl1, hlk⟩ := look_len (i := 1) (h.2 1 (by omega))
  rw [show ((1 : Nat) : Int) = 1 from rfl] at hlk
  by_cases hc : c = 0
  · subst hc
    obtain ⟨i, k, p, e1, e2, hp, hokp, r0, r1, hsh, hfr, hv⟩ := derive_lay h48 hD
    obtain rfl : i = 1 := by omega
    rw [h.1] at hp
    cases hp
    have hk : k = 40 := by
      rcases hD with ⟨h1, _⟩ | ⟨_, h1, _⟩ | ⟨_, _, h1, _⟩ | ⟨_, ⟨q, h1, h2⟩, _⟩ | ⟨i, l, l', q, hi, h3, h4, _, _, _, h6, _⟩
      · rw [hlk] at h1; cases h1
      · rw [h.1] at h1; cases h1
      · omega
      · rw [h.1] at h1; cases h1; rw [hok] at h2; cases h2
      · obtain rfl : 1 = i := by omega
        rcases lay_view h3 (h48 1 l h3) h6 with ⟨k', _, h7, _, _, _, h8, _⟩ | ⟨h7, _⟩
        · have := h8 (by omega); omega
        · omega
    subst hk
    refine .inr ⟨by omega, rfl, rt0_lay h hsh hfr hv, ?_, ?_, fun q hq => ?_⟩
    · exact (Step.derive (o := ⟨4, 0, 0, 1, 40, 15, 0, 0, 0, 0⟩) rfl hD).snd hs h48
    · have := hv 1 40
      simpa using this
    · rw [desc_lay hs hfr hv (.inr ⟨_, h.1⟩)] at hq
      have hno : ∀ q, ¬ Desc bk (1, 40) q := by
        intro q hq
        induction hq using Desc.ind with
        | child h1 h2 h3 =>
          rcases (hs _ _ _ h1).2 with h4 | ⟨y, h4, _⟩
          · simp at h2; omega
          · rw [h2, h3] at h4
            simp only at h4
            rw [hfr] at h4; cases h4
        | step _ _ _ _ ih => exact ih
      rcases hq with hq | ⟨_, ⟨hq, _⟩ | ⟨q', hq, _⟩⟩
      · exact hno q hq
      · simp at hq
      · exact hno q' hq
  · left
    rcases hD with ⟨h1, _⟩ | ⟨_, h1, _⟩ | ⟨_, _, h1, _⟩ | ⟨_, ⟨q, h1, h2⟩, _⟩ | ⟨i, l, l', q, hi, h3, h4, _, _, _, h6, _⟩
    · rw [hlk] at h1; cases h1
    · rw [h.1] at h1; cases h1
    · omega
    · rw [h.1] at h1; cases h1; rw [hok] at h2; cases h2
    · have h48' := h48 i l h3
      rcases h6 with ⟨k, _, _, _, h7, _⟩ | ⟨_, _, h7⟩
      · exact (hc h7).elim
      · rcases h7 with ⟨h8, _⟩ | ⟨h8, h9, h10⟩ | ⟨_, _, h10⟩
        · omega
        · omega
        · exact h10
/-- its first child is laid, or there is no room -/
theorem second_derive {bk bk' : List (Option Lst)} {f : Int → Int → Nat} {v c : Int} (h : Rt0 bk) (hs : Snd bk f) (h48 : ∀ (i : Nat) (l : Lst), bk[i]? = some (some l) → l.length = 48) (hw : atB bk 1 40 = some ⟨1, 5, 7, 15, 0, 0⟩) (hno : ∀ q, ¬ Desc bk (1, 40) q) (hD : DeriveR bk 1 40 2 (-1) 7 v c bk') :
    c = 2 ∨ (c = 0 ∧ ∃ k : Nat, v = k ∧ MInv bk' [(2, k)] ∧ (look bk' 1).isSome = true ∧ ∃ r, atB bk' 1 40 = some r) := by
  have hok : okR 7 ⟨1, 5, 7, 15, 0, 0⟩ = true := by decide
  obtain ⟨l1, hl1, hlk⟩ := look_len (i := 2) (h.2 2 (by omega))
  rw [show ((2 : Nat) : Int) = 2 from rfl] at hlk
  by_cases hc : c = 0
  · subst hc
    obtain ⟨i, k, p, e1, e2, hp, hokp, r0, r1, hsh, hfr, hv⟩ := derive_lay h48 hD
    obtain rfl : i = 2 := by omega
    refine .inr ⟨rfl, k, e2, ⟨?_, by simp, fun q => ?_⟩, ?_, ?_⟩
    · exact (Step.derive (o := ⟨4, 1, 40, 2, -1, 7, 0, 0, 0, 0⟩) rfl hD).snd hs h48
    · rw [desc_lay hs hfr hv (.inr ⟨p, hp⟩)]
      constructor
      · intro hq
        simp at hq
        exact .inr ⟨hq, .inl ⟨rfl, rfl⟩⟩
      · rintro (hq | ⟨rfl, _⟩)
        · exact (hno q hq).elim
        · simp
    · exact (hsh 1).trans (h.2 1 (by omega))
    · have := hv 1 40
      rw [show ((1 : Nat) : Int) = 1 from rfl, show ((40 : Nat) : Int) = 40 from rfl, if_neg (by omega), hw] at this
      exact ⟨_, this⟩
  · left
    rcases hD with ⟨h1, _⟩ | ⟨_, h1, _⟩ | ⟨_, _, h1, _⟩ | ⟨_, ⟨q, h1, h2⟩, _⟩ | ⟨i, l, l', q, hi, h3, h4, _, _, _, h6, _⟩
    · rw [hlk] at h1; cases h1
    · rw [hw] at h1; cases h1
    · omega
    · rw [hw] at h1; cases h1; rw [hok] at h2; cases h2
    · rcases h6 with ⟨k, _, _, _, h7, _⟩ | ⟨_, _, h7⟩
      · exact (hc h7).elim
      · rcases h7 with ⟨_, _, h10⟩ | ⟨h8, _⟩ | ⟨h8, _⟩
        · exact h10
        · omega
        · omega
/-- what the lists hold behind a revoking -/
theorem hl_rmv {bk : List (Option Lst)} {ps : List (Nat × Nat)} (hb : bk.length = 16) (hn : ps.Nodup) (hex : ∀ p ∈ ps, ∃ r, atB bk (p.1 : Int) (p.2 : Int) = some r) : (hl (rmv bk ps) 16).length + ps.length = (hl bk 16).length ∧ ∀ y ∈ hl (rmv bk ps) 16, ∃ i : Nat, y.1 = i ∧ atB bk (i : Int) (y.2.1 : Int) = some y.2.2 ∧ (i, y.2.1) ∉ ps := by
  obtain ⟨_, hat⟩ := rmv_at ps bk hn hex
  have hmem : ∀ y ∈ hl (rmv bk ps) 16, ∃ i : Nat, i < 16 ∧ y.1 = i ∧ atB bk (i : Int) (y.2.1 : Int) = some y.2.2 ∧ (i, y.2.1) ∉ ps := by
    intro y hy
    obtain ⟨i, hi, e1, e2⟩ := mem_hl hy
    rw [hat] at e2
    split at e2
    · cases e2
    · rename_i h; exact ⟨i, hi, e1, e2, h⟩
  refine ⟨?_, fun y hy => by obtain ⟨i, _, h1, h2, h3⟩ := hmem y hy; exact ⟨i, h1, h2, h3⟩⟩
  have hnd : ∀ b : List (Option Lst), (hl b 16).Nodup := fun b => (List.nodup_iff_pairwise_ne.2 ((List.pairwise_map.1 (List.nodup_iff_pairwise_ne.1 (places_nodup b 16))).imp (fun h e => h (by rw [e]))))
  have hperm : List.Perm (hl (rmv bk ps) 16 ++ heldOf bk ps) (hl bk 16) := by
    refine (List.perm_ext_iff_of_nodup ?_ (hnd bk)).2 fun y => ?_
    · rw [List.nodup_append]
      refine ⟨hnd _, ?_, fun a ha b hb' e => ?_⟩
      · unfold heldOf
        refine List.Pairwise.map _ (fun a b h e => h ?_) hn
        have e1 : (a.1 : Int) = (b.1 : Int) := congrArg Prod.fst e
        have e2 : a.2 = b.2 := congrArg (fun z : Hd => z.2.1) e
        exact Prod.ext (by omega) e2
      · subst e
        obtain ⟨i, _, h1, _, h3⟩ := hmem a ha
        obtain ⟨p, hp, rfl⟩ := List.mem_map.1 hb'
        have h1' : (p.1 : Int) = (i : Int) := h1
        exact h3 (by rw [show (i, p.2) = p from Prod.ext (by show i = p.1; omega) rfl]; exact hp)
    · rw [List.mem_append]
      constructor
      · rintro (h | h)
        · obtain ⟨i, hi, h1, h2, _⟩ := hmem y h
          have := hl_mem hi h2
          rw [← h1] at this
          exact this
        · obtain ⟨p, hp, rfl⟩ := List.mem_map.1 h
          obtain ⟨r, hr⟩ := hex p hp
          obtain ⟨i, j, l, e1, e2, h3, _⟩ := atB_some hr
          have hi : p.1 < 16 := by have := (List.getElem?_eq_some_iff.1 h3).1; omega
          have := hl_mem hi hr
          rw [hr]; exact this
      · intro h
        obtain ⟨i, hi, e1, e2⟩ := mem_hl h
        by_cases hin : (i, y.2.1) ∈ ps
        · refine .inr (List.mem_map.2 ⟨_, hin, ?_⟩)
          simp only
          rw [e2]
          exact Prod.ext e1.symm rfl
        · left
          have := hl_mem (bk := rmv bk ps) hi (j := y.2.1) (r := y.2.2) (by rw [hat, if_neg hin]; exact e2)
          rw [← e1] at this
          exact this
  have := hperm.length_eq
  rw [List.length_append] at this
  simpa [heldOf] using this
theorem mlen {bk : List (Option Lst)} {M ps : List (Nat × Nat)} {n : Nat} (h : MInv bk M) (hd : Dep n bk (1, 40)) (hp : List.Perm ps (bel n bk (1, 40))) : ps.Nodup ∧ ps.length = M.length ∧ ∀ q, q ∈ ps ↔ q ∈ M := by
  obtain ⟨f, hf⟩ := h.snd
  have hn := hp.nodup_iff.2 (bel_nodup hf.rk n (1, 40))
  have hm : ∀ q, q ∈ ps ↔ q ∈ M := fun q => by
    rw [hp.mem_iff, h.mem]
    exact ⟨bel_desc n, desc_bel hd⟩
  exact ⟨hn, ((List.perm_ext_iff_of_nodup hn h.nd).2 hm).length_eq, hm⟩
end Go.Proofs.Ytimfgjndgfjjgaa

namespace Go.Proofs.Ytimfgjndgfjjgaa
open Go.RowKit Go.Shelf

/-- the book stays sound -/
theorem Fol.sndd {o : Opr} {bk bk' : List (Option Lst)} {M M' : List (Nat × Nat)} {f : Int → Int → Nat} (hf : Snd bk f) (h48 : ∀ (i : Nat) (l : Lst), bk[i]? = some (some l) → l.length = 48) (hF : Fol o bk M bk' M') : ∃ f', Snd bk' f' := by
  cases hF using Fol.ind with
  | derive0 hq hD => exact (Step.derive hq hD).snd hf h48
  | derive hq hD => exact (Step.derive hq hD).snd hf h48
  | drop0 => exact ⟨f, hf⟩
  | drop _ _ _ hr hD => exact ⟨f, hf.drop hr hD⟩
  | revoke0 => exact ⟨f, hf⟩
  | revoke _ _ _ _ hD hp => exact ⟨f, hf.revoke hD hp⟩
  | shut0 => exact ⟨f, hf⟩
  | shut _ _ hl hD => exact ⟨f, (hf.drops hD).congr (shut_view hl hD)⟩
  | other _ _ _ _ hS => exact hS.snd hf h48
/-- the law's world in its second loop: the book, the marks, the watched place -/
structure RsAt (w wr : World) (B Mb Wb : Nat) (F : Nat → Prop) (bk : List (Option Lst)) (v : Value) (M : List (Nat × Nat)) : Prop where
  book : Book wr F B bk
  snd : ∃ f, Snd bk f
  imp : (∃ r, atB bk 1 40 = some r) → MInv bk M
  opn : (look bk 1).isSome = true
  ms : Ms (Wb + 1) wr F Mb v M
  wb : wr.heap[Wb]? = some (.cells #[.int .i64 1, .int .i64 40] 28 (0, 0))
  nf : ¬ F Wb
  wlo : w.heap.size ≤ Wb
  lo : ∀ b, F b → w.heap.size ≤ b
  bel : Below w.heap.size w wr
section
variable {w wr w' : World} {B Mb Wb : Nat} {F F' : Nat → Prop} {bk : List (Option Lst)} {v : Value} {M : List (Nat × Nat)}
theorem RsAt.wlt (h : RsAt w wr B Mb Wb F bk v M) : Wb < wr.heap.size := (Array.getElem?_eq_some_iff.1 h.wb).1
theorem RsAt.below (h : RsAt w wr B Mb Wb F bk v M) (hb : Below wr.heap.size wr w') : RsAt w w' B Mb Wb F bk v M :=
  ⟨h.book.below hb, h.snd, h.imp, h.opn, h.ms.ext (Ext.of_below hb), (hb.block Wb h.wlt).trans h.wb, h.nf, h.wlo, h.lo, h.bel.trans (hb.mono h.bel.size)⟩
theorem RsAt.follow (h : RsAt w wr B Mb Wb F bk v M) (hw : ∃ r, atB bk 1 40 = some r) (hn : M.length ≤ 1999) (o : Ov) (x7 : o.o.q ≠ 7) (x5 : ¬ (o.o.q = 5 ∧ o.o.e = 1 ∧ o.o.s = 40)) (x2 : ¬ (o.o.q = 2 ∧ o.o.e = 1)) :
    Calls Try.prog 25 #[.pointer (some ⟨Mb, 0, none⟩), .pointer (some ⟨B, 0, none⟩), .agg o.cells.toArray, .agg #[.int .i64 1, .int .i64 40]] wr fun x w' => x = .returned (.tuple #[]) ∧ ∃ F' bk' v' M', RsAt w w' B Mb Wb F' bk' v' M' ∧ M'.length ≤ M.length + 1 := by
  obtain ⟨f, hf⟩ := h.snd
  have hI := h.imp hw
  refine (follow_any wr F B bk h.book f hf.rk (Wb + 1) Mb v M h.ms h.wlt hn o).mono ?_
  rintro x w' ⟨rfl, F', bk', v', M', h1, h2, h3, h4⟩
  obtain ⟨i1, i2, i3⟩ := Fol.inv hI (fun i l hl => h.book.l48 hl) h.opn h3 x7 x5 x2
  have hsn : ∃ f', Snd bk' f' := Fol.sndd hf (fun i l hl => h.book.l48 hl) h3
  have hWn : ¬ (F Wb ∨ Wb = Mb ∨ v.ownBlock = some Wb) := by
    rintro (e | e | e)
    · exact h.nf e
    · have := h.ms.lo; omega
    · have := (h.ms.vb Wb e).1; omega
  refine ⟨rfl, F', bk', v', M', ⟨h1, hsn, i2, i1, h2, (h4.mod.block Wb h.wlt hWn).trans h.wb, fun hf => ?_, h.wlo, fun b hb => ?_, ?_⟩, i3⟩
  · rcases h4.new Wb hf with e | e
    · exact h.nf e
    · have := h.wlt; omega
  · rcases h4.new b hb with e | e
    · exact h.lo b e
    · exact Nat.le_trans h.bel.size e
  · refine h.bel.trans (h4.mod.below (fun b hb => ?_) h.bel.size)
    rcases hb with e | e | e
    · exact h.lo b e
    · have := h.ms.lo; have := h.wlo; omega
    · have := (h.ms.vb b e).1; have := h.wlo; omega
end
end Go.Proofs.Ytimfgjndgfjjgaa

namespace Go.Proofs.Ytimfgjndgfjjgaa
open Go.RowKit Go.Shelf

theorem ix_in {M : List (Nat × Nat)} {e s : Int} (h : ∃ q ∈ M, isP e s q = true) : ∃ j : Nat, ixM M e s = (j : Int) := by
  unfold ixM
  cases hf : M.findIdx? (isP e s) with
  | some j => exact ⟨j, rfl⟩
  | none =>
    obtain ⟨q, h1, h2⟩ := h
    rw [List.findIdx?_eq_none_iff.1 hf q h1] at h2; cases h2
theorem ix_out {M : List (Nat × Nat)} {e s : Int} (h : ∀ q ∈ M, isP e s q = false) : ixM M e s = -1 := by
  unfold ixM
  rw [List.findIdx?_eq_none_iff.2 h]
theorem heldOf_len (bk : List (Option Lst)) (ps : List (Nat × Nat)) : (heldOf bk ps).length = ps.length := by simp [heldOf]
/-- behind the last Revoke -/
structure Rv (w wr w' : World) (B Mb : Nat) (F : Nat → Prop) (bk : List (Option Lst)) (v : Value) (M : List (Nat × Nat)) (vg : Value) (ps : List (Nat × Nat)) : Prop where
  book : Book w' F B (rmv bk ps)
  ext : Ext F wr F w'
  at_ : w'.heap[Mb]? = some (.cells #[v] 65 (0, 0))
  pr : PR w' v M
  held : HeldAt w' vg (heldOf bk ps)
  len : ps.length = M.length
  mem : ∀ q, q ∈ ps ↔ q ∈ M
  le : ps.length ≤ 768
  hlen : (hl (rmv bk ps) 16).length + ps.length = (hl bk 16).length
  aft : ∀ y ∈ hl (rmv bk ps) 16, ∃ i : Nat, y.1 = i ∧ atB bk (i : Int) (y.2.1 : Int) = some y.2.2 ∧ (i, y.2.1) ∉ ps
  bel : Below w.heap.size w w'
theorem RsAt.revoke {w wr : World} {B Mb Wb : Nat} {F : Nat → Prop} {bk : List (Option Lst)} {v : Value} {M : List (Nat × Nat)} (h : RsAt w wr B Mb Wb F bk v M) (hw : ∃ r, atB bk 1 40 = some r) :
    Calls Try.prog 23 #[.pointer (some ⟨B, 0, none⟩), .int .i64 1, .int .i64 40] wr fun x w' => ∃ vg ps, x = .returned (.tuple #[vg, .int .i64 0]) ∧ Rv w wr w' B Mb F bk v M vg ps := by
  obtain ⟨r, hr⟩ := hw
  obtain ⟨f, hf⟩ := h.snd
  have hI := h.imp ⟨r, hr⟩
  refine (revokeSome_any wr F B bk h.book f hf.rk 1 40 r hr).mono ?_
  rintro x w' ⟨vg, ps, n, rfl, h1, _, h3, h4, h5, h6⟩
  obtain ⟨m1, m2, m3⟩ := mlen hI h1 h3
  have hex : ∀ p ∈ ps, ∃ r, atB bk (p.1 : Int) (p.2 : Int) = some r := fun p hp => bel_mem n (h3.mem_iff.1 hp)
  rw [encT_held hex] at h4
  have h4' : w'.ownsRow wr.heap.size 54 6 vg (heldOf bk ps).length (encA (heldOf bk ps)) := by rw [heldOf_len]; exact h4
  obtain ⟨q1, q2⟩ := hl_rmv h.book.blen m1 hex
  have hms := h.ms.ext h6
  exact ⟨vg, ps, rfl, h5, h6, hms.at_, hms.pr, HeldAt.of_row h4', m2, m3, plc_le h.book m1 hex, q1, q2, h.bel.trans (h6.mod.below h.lo h.bel.size)⟩
theorem Rv.before {w wr w' : World} {B Mb : Nat} {F : Nat → Prop} {bk : List (Option Lst)} {v : Value} {M : List (Nat × Nat)} {vg : Value} {ps : List (Nat × Nat)} (h : Rv w wr w' B Mb F bk v M vg ps) {vb : Value} {l : List Hd} (hh : HeldAt wr vb l) (hn : ∀ g, vb.ownBlock = some g → ¬ F g) : HeldAt w' vb l := by
  obtain ⟨a, c, rfl, hc⟩ := hh
  refine ⟨a, c, rfl, fun k hk => ?_⟩
  obtain ⟨g, rfl, h2, h3, h4, h5, h6, h7, h8⟩ := hc k hk
  have hq : ∀ j, w'.cell? ⟨g, j, none⟩ = wr.cell? ⟨g, j, none⟩ := fun j => by
    unfold World.cell?
    rw [h.ext.mod.block g h2 (hn g rfl)]
  exact ⟨g, rfl, Nat.lt_of_lt_of_le h2 h.ext.mod.size, by rw [hq]; exact h3, by rw [hq]; exact h4, by rw [hq]; exact h5, by rw [hq]; exact h6, by rw [hq]; exact h7, by rw [hq]; exact h8⟩
theorem heldOf_get {bk : List (Option Lst)} {ps : List (Nat × Nat)} {k : Nat} (hk : k < (heldOf bk ps).length) : (heldOf bk ps)[k].1 = ((ps[k]'(by rw [heldOf_len] at hk; exact hk)).1 : Int) ∧ (heldOf bk ps)[k].2.1 = (ps[k]'(by rw [heldOf_len] at hk; exact hk)).2 := by simp [heldOf]
end Go.Proofs.Ytimfgjndgfjjgaa
