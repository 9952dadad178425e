import Derived.Test.YtbfagiofhakjnaaDoorMA07
import Derived.Test.YtbfagiofhakjnaaDoorMA19
namespace Go.Proofs.YtbfagiofhakjnaaDoor
open Go.RowKit
theorem info_dlz : ∃ i, Tryd.prog.info? 42 = some i ∧ i.zero = some (.agg (dlL dl0 none 0).toArray) ∧ i.size = 6 ∧ i.bytes = 80 := info_parts (by kernel_rfl)
theorem add_off2 (g o j : Nat) : (⟨g, o, none⟩ : Addr).add j = ⟨g, o + j, none⟩ := by unfold Addr.add; split <;> simp_all
/-- lines, one behind the other, each with the place of its fields -/
def dcs (es : List (Dl × Option Addr × Nat)) : List Value := es.flatMap fun e => dlL e.1 e.2.1 e.2.2
theorem dcs_snoc (es : List (Dl × Option Addr × Nat)) (e : Dl × Option Addr × Nat) : dcs (es ++ [e]) = dcs es ++ dlL e.1 e.2.1 e.2.2 := by simp [dcs]
theorem dcs_at {es : List (Dl × Option Addr × Nat)} {k : Nat} (hk : k < es.length) {j : Nat} (hj : j < 6) : (dcs es)[k * 6 + j]? = (dlL es[k].1 es[k].2.1 es[k].2.2)[j]? := by
  induction es generalizing k with
  | nil => simp at hk
  | cons l r ih =>
    cases k with
    | zero =>
      simp only [dcs, List.flatMap_cons, Nat.zero_mul, Nat.zero_add, List.getElem_cons_zero]
      rw [List.getElem?_append_left (by simpa [dlL] using hj)]
    | succ k =>
      simp only [dcs, List.flatMap_cons, List.getElem_cons_succ]
      rw [List.getElem?_append_right (by simp [dlL]; omega)]
      have e : (k + 1) * 6 + j - (dlL l.1 l.2.1 l.2.2).length = k * 6 + j := by simp [dlL]; omega
      rw [e]
      exact ih (by simpa using hk)
theorem dlL_one (d : Dl) (fo : Option Addr) (c : Nat) : ∀ u ∈ dlL d fo c, u.oneCell' = true := by
  intro u hu
  simp [dlL] at hu
  rcases hu with rfl | rfl | rfl | rfl | rfl | rfl <;> rfl
/-- two rows of other kinds lie apart -/
theorem own_own {w : World} {b1 b2 e1 e2 s1 s2 n1 n2 : Nat} {v1 v2 : Value} {x1 x2 : List Value} (h1 : w.ownsRow b1 e1 s1 v1 n1 x1) (h2 : w.ownsRow b2 e2 s2 v2 n2 x2) (hne : e1 ≠ e2) : v1.ownBlock = none ∨ v1.ownBlock ≠ v2.ownBlock := by
  rcases h1.2 with ⟨hv, _⟩ | ⟨g, cap, cur, hv, _, h4, _⟩
  · rw [hv]; exact .inl rfl
  · rw [hv]; exact .inr (own_apart h2 h4 hne)
/-- the fields of all lines -/
def Fds (w : World) (base : Nat) (es : List (Dl × Option Addr × Nat)) : Prop := ∀ e ∈ es, w.ownsRow base 9 1 (.slice e.2.1 e.1.fields.length e.2.2) e.1.fields.length (strs e.1.fields)
theorem Fds.keep {w w' : World} {base : Nat} {es : List (Dl × Option Addr × Nat)} (h : Fds w base es) (hb : Below w.heap.size w w') : Fds w' base es := fun e he => own_keep (h e he) hb
theorem Fds.grown {w w' : World} {base b2 n : Nat} {v : Value} {xs : List Value} {es : List (Dl × Option Addr × Nat)} (h : Fds w base es) (ho : w.ownsRow b2 42 6 v n xs) (hg : w.grownBy w' v.ownBlock) : Fds w' base es := fun e he => (h e he).kept hg (own_own (h e he) ho (by decide))
theorem Fds.snoc {w : World} {base : Nat} {es : List (Dl × Option Addr × Nat)} {e : Dl × Option Addr × Nat} (h : Fds w base es) (he : w.ownsRow base 9 1 (.slice e.2.1 e.1.fields.length e.2.2) e.1.fields.length (strs e.1.fields)) : Fds w base (es ++ [e]) := fun x hx => by
  rcases List.mem_append.1 hx with hx | hx
  · exact h x hx
  · rw [List.mem_singleton] at hx; subst hx; exact he
theorem own_DRow {w : World} {b1 b2 n c : Nat} {ao : Option Addr} {es : List (Dl × Option Addr × Nat)} {ds : List Dl} (h : w.ownsRow b1 42 6 (.slice ao n c) n (dcs es)) (hF : Fds w b2 es) (hm : es.map Prod.fst = ds) (hn : n = es.length) : DRow w ao ds := by
  subst hm
  intro k hk
  have hk' : k < es.length := by simpa using hk
  have hl := h.1
  rcases h.2 with ⟨_, h2⟩ | ⟨g, cap, cur, h1, h2, h3, _, _, _, h7⟩
  · omega
  · simp only [Value.slice.injEq] at h1
    refine ⟨_, es[k].2.1, es[k].2.2, h1.1, fun j v hv => ?_, ?_⟩
    · have hj : j < 6 := by
        have := (List.getElem?_eq_some_iff.1 hv).1
        simpa [dlL] using this
      rw [add0, add_off2, Lib.cell_of_heap h3]
      have e : (cur.toList.take (n * 6))[k * 6 + j]? = some v := by
        rw [h7, dcs_at hk' hj, ← hv]
        simp
      rw [List.getElem?_take] at e
      split at e
      · simpa using e
      · cases e
    · have := own_SR (hF es[k] (List.getElem_mem hk'))
      simpa using this
theorem line_fields (t : Tx) : (∀ f ∈ (lineD t).fields, f.length ≤ t.length) ∧ (lineD t).fields.length ≤ t.length + 1 := by
  have k : ∀ u : Tx, u.length ≤ t.length → (∀ f ∈ (stD u).fields, f.length ≤ t.length) ∧ (stD u).fields.length ≤ t.length + 1 := by
    intro u hu
    unfold stD
    split
    · exact ⟨by simp [dl0], by simp [dl0]⟩
    · have h1 := cut_len [32, 9] u
      refine ⟨fun f hf => ?_, ?_⟩
      · have := sf_len _ f hf
        omega
      · have := sf_count ((cutT [32, 9] u).getD (u, [])).2
        simp only
        omega
  unfold lineD
  have h9 := cut_len [59] t
  have h0 := trimT_len ((cutT [59] t).getD (t, [])).1
  generalize trimT ((cutT [59] t).getD (t, [])).1 = v at *
  cases h58 : cutT [58] v with
  | none => exact k v (by omega)
  | some p =>
    obtain ⟨a, b⟩ := p
    have hb : b.length ≤ v.length := by rw [cut_split h58]; simp; omega
    have h2 := trimT_len b
    simp only
    cases isLbl a with
    | true => exact k (trimT b) (by omega)
    | false => exact ⟨by simp [dl0], by simp [dl0]⟩
section
variable (ts : List Tx)
theorem dl_bad {j : Nat} {ds : List Dl} {d : Dl} {a : Int} (h : fltD ds d j a = 0) : d.bad = false := (flt_fine h).1
theorem fault_at {k : Nat} (hk : k < ts.length) (hf : ∀ j (h : j < ts.length), j < k → fltD (ts.map lineD) (lineD ts[j]) j (ahdD (ts.map lineD) j) = 0) (h : fltD (ts.map lineD) (lineD ts[k]) k (ahdD (ts.map lineD) k) ≠ 0) : asmL (lbs (ts.map lineT) (ts.map lineT).length) (ts.map lineT) 0 [] = ([], k + 1, fltD (ts.map lineD) (lineD ts[k]) k (ahdD (ts.map lineD) k)) := by
  have hw : ∀ l ∈ ts.map lineT, 0 ≤ l.words := fun l hl => by obtain ⟨p, _, rfl⟩ := List.mem_map.1 hl; exact (lineT_ok p).w0
  have ha : ∀ j, j ≤ k → ahd (ts.map lineT) j = ahdD (ts.map lineD) j := fun j hj => ahd_eq ts j (by omega) (fun i hi h2 => dl_bad (hf i hi (by omega)))
  have hk' : k < (ts.map lineT).length := by simpa using hk
  have := asm_fault (ps := lbs (ts.map lineT) (ts.map lineT).length) hw hk' (fun j hj h2 => by
    rw [List.getElem_map, ← flt_eq ts (by simpa using hj), ha j (by omega)]
    exact hf j (by simpa using hj) h2) (by
    rw [List.getElem_map, ← flt_eq ts hk, ha k (by omega)]
    exact h)
  rw [this, List.getElem_map, ← flt_eq ts hk, ha k (by omega)]
theorem fine_all (hf : ∀ j (h : j < ts.length), fltD (ts.map lineD) (lineD ts[j]) j (ahdD (ts.map lineD) j) = 0) : asmL (lbs (ts.map lineT) (ts.map lineT).length) (ts.map lineT) 0 [] = (wsU (lbs (ts.map lineT) (ts.map lineT).length) (ts.map lineT) ts.length, 0, 0) ∧ (∀ k (hk : k < ts.length), wsU (lbs (ts.map lineT) (ts.map lineT).length) (ts.map lineT) (k + 1) = wsU (lbs (ts.map lineT) (ts.map lineT).length) (ts.map lineT) k ++ List.replicate (lineD ts[k]).words.toNat (wD (adrD (ts.map lineD)) (lineD ts[k]).name (lineD ts[k]).fields ((wsU (lbs (ts.map lineT) (ts.map lineT).length) (ts.map lineT) k).length : Nat))) ∧ ∀ k, k ≤ ts.length → (wsU (lbs (ts.map lineT) (ts.map lineT).length) (ts.map lineT) k).length ≤ 512 := by
  have hw : ∀ l ∈ ts.map lineT, 0 ≤ l.words := fun l hl => by obtain ⟨p, _, rfl⟩ := List.mem_map.1 hl; exact (lineT_ok p).w0
  have hb : ∀ j (h : j < ts.length), (lineD ts[j]).bad = false := fun j h => dl_bad (hf j h)
  have ha : ∀ j, j ≤ ts.length → ahd (ts.map lineT) j = ahdD (ts.map lineD) j := fun j hj => ahd_eq ts j hj (fun i hi _ => hb i hi)
  refine ⟨?_, fun k hk => ?_, fun k hk => ?_⟩
  · have := asm_fine (ps := lbs (ts.map lineT) (ts.map lineT).length) hw (fun j hj => by
      have hj' : j < ts.length := by simpa using hj
      rw [List.getElem_map, ← flt_eq ts hj', ha j (by omega)]
      exact hf j hj')
    rw [this, List.length_map]
  · rw [wsU_step (by simpa using hk), List.getElem_map, word_eq ts hb hk (flt_fine (hf k hk)).2.1, (line_rel ts[k]).words (hb k hk)]
  · have h1 := wsU_len (ps := lbs (ts.map lineT) (ts.map lineT).length) hw k (by simpa using hk)
    rw [ha k hk] at h1
    cases k with
    | zero => simp [wsU]
    | succ k =>
      have h2 := (flt_fine (hf k hk)).2.2
      rw [ahdD_step (by rw [List.length_map]; exact hk), List.getElem_map] at h1
      omega
end
end Go.Proofs.YtbfagiofhakjnaaDoor

namespace Go.Proofs.YtbfagiofhakjnaaDoor
open Go.RowKit
theorem own_baseW {w1 : World} {base base' n : Nat} {v : Value} {xs : List Value} (ho : w1.ownsRow base' 46 1 v n xs) (h : base ≤ base') : w1.ownsRow base 46 1 v n xs := by
  obtain ⟨h1, h2 | ⟨k, cap, cur, h2, h3, h4⟩⟩ := ho
  · exact ⟨h1, .inl h2⟩
  · exact ⟨h1, .inr ⟨k, cap, cur, h2, Nat.le_trans h h3, h4⟩⟩
section
variable (w : World)
set_option maxRecDepth 100000 in
set_option maxHeartbeats 8000000 in
theorem asmD_any (s : Tx) (hss : s.length ≤ 9223372036854775807) (hNm : Nms w) : Calls Tryd.prog 5 #[.string ⟨s.toArray⟩] w fun e w' => ∃ v, e = .returned (.tuple #[v, .int .i64 ((asmT s).2.1 : Nat), .int .i64 (asmT s).2.2]) ∧ w'.ownsRow w.heap.size 46 1 v (asmT s).1.length (wds (asmT s).1) ∧ Below w.heap.size w w' := by
  by_cases hs : 16384 < s.length
  · have HV : Hid (asmT s = ([], 0, 41)) := hide (by unfold asmT; rw [if_pos hs])
    have hsI : (16384 : Int) < (s.length : Int) := by omega
    go_enter Tryd.func5, Tryd.ntmps5
    go_wp2
    go_ret3
    exact ⟨_, by rw [HV.out]; rfl, by rw [HV.out]; exact ⟨rfl, .inl ⟨rfl, rfl⟩⟩, Below.refl _ _⟩
  · have HV : Hid (asmT s = asmL (lbs (linesT s) (linesT s).length) (linesT s) 0 []) := hide (by unfold asmT; rw [if_neg hs])
    have hsI : ¬ (16384 : Int) < (s.length : Int) := by omega
    have HPc := hide (pieces_any w s 10 (by omega))
    have hcnt := split_count 10 s
    have HPl : Hid (∀ p ∈ splitT 10 s, p.length ≤ 16384) := hide (fun p hp => by have := split_len 10 s p hp; omega)
    have HNm := hide hNm
    clear hNm
    unfold linesT at HV
    generalize asmT s = R at *
    go_enter Tryd.func5, Tryd.ntmps5
    go_wp2_with fail
    refine HPc.out.mono ?_
    rintro e w1 ⟨v, rfl, hP, hb1⟩
    obtain ⟨ap, cp, rfl⟩ := own_shape hP
    have HSp := hide (own_SR hP)
    have HB1 := hide hb1
    have hs1 := hb1.size
    generalize splitT 10 s = ts at *
    have hcn2 : ts.length ≤ 16385 := by omega
    clear hP hb1 HPc hcnt hss hs hsI
    obtain ⟨i9, hi9, hz9, hsz9, hb9⟩ := info_dlz
    go_upto_region 6 with fail
    go_loopw [6, 7] (fun v u wr => ∃ (j : Nat) (es : List (Dl × Option Addr × Nat)), u = .int .i64 (j : Int) ∧ j ≤ ts.length ∧ Hid (es.map Prod.fst = (ts.take j).map lineD) ∧ Hid (wr.ownsRow w1.heap.size 42 6 v j (dcs es)) ∧ Hid (Fds wr w1.heap.size es) ∧ Hid (Below w1.heap.size w1 wr)) (fun _ u _ => ts.length - (intOf u).toNat)
    case atStart => exact ⟨0, [], rfl, by omega, hide rfl, hide ⟨rfl, .inl ⟨rfl, rfl⟩⟩, hide (fun e he => by simp at he), hide (Below.refl _ _)⟩
    case round =>
    obtain ⟨j, es, rfl, hj, HEs, HOw, HFd, HBw⟩ := hrel
    obtain ⟨au, cu, hsh⟩ := own_shape HOw.out
    subst hsh
    have hsw := HBw.out.size
    by_cases hlt : j < ts.length
    · obtain ⟨x, hx, cx⟩ := HSp.out j hlt
      subst hx
      have hcx : wr.cell? (x.add j) = some (.string ⟨ts[j].toArray⟩) := by rw [HBw.out.cell (cell_blk cx)]; exact cx
      have HPr := hide (parsed_any wr ts[j] (HPl.out _ (List.getElem_mem hlt)) ((HNm.out.below HB1.out).below HBw.out))
      have HE : Hid ((ts.take (j + 1)).map lineD = (ts.take j).map lineD ++ [lineD ts[j]]) := hide (by rw [List.take_succ_eq_append_getElem hlt, List.map_append]; rfl)
      have hd : (j : Int) < (ts.length : Int) := by omega
      generalize ts[j] = p at *
      generalize lineD p = D at *
      clear cx
      go_wp2_with fail
      refine HPr.out.mono ?_
      rintro e w2 ⟨fo, c, rfl, hf2, hb2⟩
      have HO2 := hide (own_keep HOw.out hb2)
      have HF2 := hide ((HFd.out.keep hb2).snoc (e := (D, fo, c)) (own_base hf2 hsw))
      have HB2 := hide (HBw.out.trans (hb2.mono hsw))
      have hs2 := hb2.size
      clear hf2 hb2 HOw HFd HBw HPr hcx
      simp only [dlL]
      go_upto_region 7 with (at_builtin; refine wpList_append_own _ rfl _ _ 40 rfl w1.heap.size 42 i9 (.agg (dlL dl0 none 0).toArray) 6 80 Tryd.underlying40 hi9 hz9 hsz9 hb9 rfl (by decide) _ _ _ rfl (HO2.out.alloc _) ⟨_, 0, none⟩ 1 1 (dlL D fo c) rfl rfl (cells_new _ _ _) (dlL_one D fo c) (by unfold maxLen; omega) (by omega) (by simp; omega) ?_; intro v3 w3 ho3 hg3 _; obtain ⟨a3, c3, rfl⟩ := own_shape ho3)
      have HF3 := hide ((HF2.out.keep (bel1 _ (.cells (dlL D fo c).toArray 42))).grown (HO2.out.alloc _) hg3)
      have HB3 := hide ((HB2.out.alloc (by omega) _).grown hg3 (by simp; omega) (fun k hk => (HO2.out.lt k hk).1))
      have HO3 : Hid (w3.ownsRow w1.heap.size 42 6 (.slice a3 (j + 1) c3) (j + 1) (dcs (es ++ [(D, fo, c)]))) := hide (by rw [dcs_snoc]; exact ho3)
      have HE3 : Hid ((es ++ [(D, fo, c)]).map Prod.fst = (ts.take (j + 1)).map lineD) := hide (by rw [HE.out, List.map_append, HEs.out]; rfl)
      clear ho3 hg3 HO2 HF2 HB2 HE HEs
      go_wp2
      refine ⟨⟨j + 1, es ++ [(D, fo, c)], by simp, by omega, HE3, HO3, HF3, HB3⟩, ?_⟩
      simp [intOf]
      omega
    · have hd : ¬ (j : Int) < (ts.length : Int) := by omega
      obtain rfl : j = ts.length := by omega
      rw [List.take_length] at HEs
      have hel : es.length = ts.length := by have := congrArg List.length HEs.out; simpa using this
      have hdr := own_DRow HOw.out HFd.out HEs.out hel.symm
      have HBa := hide (HB1.out.trans (HBw.out.mono hs1))
      have HNw := hide (HNm.out.below HBa.out)
      have hw : ∀ k, k ≤ (ts.map lineD).length → 0 ≤ ahdD (ts.map lineD) k ∧ ahdD (ts.map lineD) k ≤ 512 * k := fun k hk => ahdD_bound ts k (by simpa using hk)
      obtain ⟨ds, hds⟩ : ∃ ds, ds = ts.map lineD := ⟨_, rfl⟩
      have hdl : ds.length = ts.length := by rw [hds]; simp
      have HDg : Hid (∀ k (h : k < ts.length) (h2 : k < ds.length), ds[k] = lineD ts[k]) := hide (fun k h h2 => by subst hds; simp)
      have HFt := hide (fun k (hk : k < ts.length) => fault_at ts hk)
      have HFa := hide (fine_all ts)
      rw [← hds] at hdr hw HFt HFa
      have HDr := hide hdr
      have HW := hide hw
      have HLf : Hid (∀ k (h : k < ts.length), (∀ f ∈ (lineD ts[k]).fields, f.length ≤ 16384) ∧ (lineD ts[k]).fields.length ≤ 16385 ∧ 0 ≤ (lineD ts[k]).words ∧ (lineD ts[k]).words ≤ 512) := hide (fun k h => by
        have h1 := line_fields ts[k]
        have h2 := HPl.out _ (List.getElem_mem h)
        have h3 := line_words ts[k]
        exact ⟨fun f hf => by have := h1.1 f hf; omega, by omega, h3.1, h3.2⟩)
      have HFr := hide (fun k (h : k < ts.length) => line_frm ts[k])
      clear hdr hw HSp HEs HOw HFd HB1 HBw HNm HPl hds
      generalize lbs (ts.map lineT) (ts.map lineT).length = ps at *
      obtain ⟨W, hW⟩ : ∃ W, wr = W := ⟨_, rfl⟩
      rw [hW] at HDr HNw HBa ⊢
      clear hW
      have hsW : w.heap.size ≤ W.heap.size := HBa.out.size
      go_upto_region 11 with fail
      go_loopw [8, 9] (fun v u wr => ∃ k : Nat, v = .int .i64 (ahdD ds k) ∧ u = .int .i64 (k : Int) ∧ k ≤ ts.length ∧ Hid (∀ j (h : j < ts.length), j < k → fltD ds (lineD ts[j]) j (ahdD ds j) = 0) ∧ Hid (Below W.heap.size W wr)) (fun _ u _ => ts.length - (intOf u).toNat)
      case atStart => exact ⟨0, rfl, rfl, by omega, hide (fun j _ h => by omega), hide (Below.refl _ _)⟩
      case round =>
      obtain ⟨k, rfl, rfl, hk, HFk, HBk⟩ := hrel
      have hsk := HBk.out.size
      by_cases hlt : k < ts.length
      · have hltD : k < ds.length := by omega
        have hd : (k : Int) < (ts.length : Int) := by omega
        obtain ⟨a, fo, c, ha, hq, hsr⟩ := (HDr.out.below HBk.out) k hltD
        subst ha
        have q4 := hq 4 _ rfl
        rw [addr4] at q4
        have hEk := HDg.out k hlt hltD
        have hb0 := HW.out k (by omega)
        have hb1 := HW.out (k + 1) (by omega)
        have HSt := hide (ahdD_step hltD)
        have hlf := HLf.out k hlt
        have HFc := hide (faultD_any wr ds (some a) cu k (ahdD ds k) hltD hb0.1 (by omega) (by rw [hEk]; exact hlf.2.2) (by omega) HW.out (HDr.out.below HBk.out) (by rw [hEk]; exact hlf.1) (by rw [hEk]; exact hlf.2.1) (HNw.out.below HBk.out))
        have HR1 : Hid (fltD ds (lineD ts[k]) k (ahdD ds k) ≠ 0 → R = ([], k + 1, fltD ds (lineD ts[k]) k (ahdD ds k))) := hide (fun h => by rw [HV.out]; exact HFt.out k hlt HFk.out h)
        have HF2 : Hid (fltD ds (lineD ts[k]) k (ahdD ds k) = 0 → ∀ j (h : j < ts.length), j < k + 1 → fltD ds (lineD ts[j]) j (ahdD ds j) = 0) := hide (fun h0 j h h2 => by
          by_cases e : j = k
          · subst e; exact h0
          · exact HFk.out j h (by omega))
        rw [hEk] at HFc HSt q4
        rw [HSt.out] at hb1
        clear hq hsr HFk hltD hEk
        rw [hdl] at HFc
        generalize hz : fltD ds (lineD ts[k]) k (ahdD ds k) = z at *
        clear hz
        generalize hwd : (lineD ts[k]).words = wd at *
        clear hwd
        generalize ahdD ds k = ad at *
        go_wp2_with fail
        refine HFc.out.mono ?_
        rintro e w5 ⟨rfl, hb5⟩
        have q5 : w5.cell? ⟨(a.add (k * 6)).block, (a.add (k * 6)).off + 4, none⟩ = some (.int .i64 wd) := by rw [hb5.cell (cell_blk q4)]; exact q4
        have HB5 := hide (HBk.out.trans (hb5.mono hsk))
        clear hb5 HBk HFc q4
        by_cases h0 : z = 0
        · have HF3 := hide (HF2.out h0)
          subst h0
          clear HR1 HF2 HFt HFa HDg HLf HFr HV
          go_wp2
          refine ⟨⟨k + 1, by rw [HSt.out], by simp, by omega, HF3, HB5⟩, ?_⟩
          simp [intOf]
          omega
        · have HV2 := hide (HR1.out h0)
          have hz0 : (z == 0) = false := by rw [beq_eq_false_iff_ne]; exact h0
          clear HR1 HF2 HFt HFa HDg HLf HFr HV HSt h0
          go_wp2
          go_ret3
          exact ⟨_, by rw [HV2.out]; rfl, by rw [HV2.out]; exact ⟨rfl, .inl ⟨rfl, rfl⟩⟩, HBa.out.trans (HB5.out.mono hsW)⟩
      · have hd : ¬ (k : Int) < (ts.length : Int) := by omega
        obtain rfl : k = ts.length := by omega
        obtain ⟨hR, hstep, hlen⟩ := HFa.out (fun j h => HFk.out j h h)
        have HR2 := hide (HV.out.trans hR)
        have HSp := hide hstep
        have HLn := hide hlen
        have HDx := hide (HDr.out.below HBk.out)
        have HNx := hide (HNw.out.below HBk.out)
        have HBx := hide (HBa.out.trans (HBk.out.mono hsW))
        have HBad : Hid (∀ k (h : k < ts.length), (lineD ts[k]).bad = false) := hide (fun k h => (flt_fine (HFk.out k h h)).1)
        clear hR hstep hlen HV HFa HFk HFt HDr HNw HBa HBk
        obtain ⟨X, hX⟩ : ∃ X, wr = X := ⟨_, rfl⟩
        rw [hX] at HDx HNx HBx ⊢
        clear hX
        have hsX := HBx.out.size
        have HU0 : Hid (wsU ps (ts.map lineT) 0 = []) := hide rfl
        generalize hu : wsU ps (ts.map lineT) = U at *
        clear hu
        go_upto_region 19 with fail
        go_loopw [11, 12] (fun v u wr => ∃ k : Nat, u = .int .i64 (k : Int) ∧ k ≤ ts.length ∧ Hid (wr.ownsRow X.heap.size 46 1 v (U k).length (wds (U k))) ∧ Hid (Below X.heap.size X wr)) (fun _ u _ => ts.length - (intOf u).toNat)
        case atStart => exact ⟨0, rfl, by omega, hide (by rw [HU0.out]; exact ⟨rfl, .inl ⟨rfl, rfl⟩⟩), hide (Below.refl _ _)⟩
        case round =>
        obtain ⟨k, rfl, hk, HOk, HBk⟩ := hrel
        obtain ⟨av, cv, hsh⟩ := own_shape HOk.out
        subst hsh
        have hsk := HBk.out.size
        by_cases hlt : k < ts.length
        · have hltD : k < ds.length := by omega
          have hd : (k : Int) < (ts.length : Int) := by omega
          obtain ⟨a, fo, c, ha, hq, hsr⟩ := (HDx.out.below HBk.out) k hltD
          subst ha
          have hEk := HDg.out k hlt hltD
          rw [hEk] at hq hsr
          have hlf := HLf.out k hlt
          have hUl := HLn.out k (by omega)
          have HPt := hide (put_any wr ds (some a) cu (lineD ts[k]) fo c (U k) (.slice av (U k).length cv) X.heap.size ((U k).length : Int) (HFr.out k hlt (HBad.out k hlt)) hlf.1 (by omega) hUl (by omega) HW.out (HDx.out.below HBk.out) hsr (HNx.out.below HBk.out) HOk.out hsk)
          rw [← HSp.out k hlt, hdl] at HPt
          have HA := hide hq
          clear hq hsr hEk hltD hlf
          generalize lineD ts[k] = D at *
          obtain ⟨label, lab, name, fields, words, bad⟩ := D
          simp only [dlL] at HA HPt
          go_wp2_with (refine loadT Tryd.underlying42 rfl [.string ⟨label.toArray⟩, .bool lab, .string ⟨name.toArray⟩, .slice fo fields.length c, .int .i64 words, .bool bad] (by kernel_rfl) rfl _ rfl (a.add (k * 6)) rfl HA.out ?_)
          refine HPt.out.mono ?_
          rintro e w6 ⟨v6, rfl, ho6, hb6⟩
          have HO6 := hide ho6
          have HB6 := hide (HBk.out.trans hb6)
          clear ho6 hb6 HOk HBk HPt HA
          go_wp2
          refine ⟨⟨k + 1, by simp, by omega, HO6, HB6⟩, ?_⟩
          simp [intOf]
          omega
        · have hd : ¬ (k : Int) < (ts.length : Int) := by omega
          obtain rfl : k = ts.length := by omega
          go_wp2
          go_ret3
          exact ⟨_, by rw [HR2.out]; rfl, by rw [HR2.out]; exact own_baseW HOk.out hsX, HBx.out.trans (HBk.out.mono hsX)⟩
end
end Go.Proofs.YtbfagiofhakjnaaDoor

namespace Go.Proofs.YtbfagiofhakjnaaDoor
open Go.RowKit
def Wd (W : World) (ao : Option Addr) (ns : List Nat) : Prop := ∀ j (h : j < ns.length), ∃ a : Addr, ao = some a ∧ W.cell? (a.add j) = some (.int .u32 (ns[j] : Nat))
theorem addr_lt {w : World} {a : Addr} {v : Value} (h : w.cell? a = some v) : a.block < w.heap.size := by
  by_cases hb : a.block < w.heap.size
  · exact hb
  · have e : w.heap[a.block]? = none := Array.getElem?_eq_none (by omega)
    simp [World.cell?, e] at h
theorem Wd.below {W W' : World} {ao : Option Addr} {ns : List Nat} (h : Wd W ao ns) (hb : Below W.heap.size W W') : Wd W' ao ns := fun j hj => by
  obtain ⟨a, h1, h2⟩ := h j hj
  exact ⟨a, h1, by rw [hb.cell (addr_lt h2)]; exact h2⟩
end Go.Proofs.YtbfagiofhakjnaaDoor
