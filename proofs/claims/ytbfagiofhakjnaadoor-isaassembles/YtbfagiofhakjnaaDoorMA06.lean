import Derived.Test.YtbfagiofhakjnaaDoorMA05
namespace Go.Proofs.YtbfagiofhakjnaaDoor
open Go.RowKit
theorem info_str : ∃ i, Tryd.prog.info? 9 = some i ∧ i.zero = some (.string ⟨#[]⟩) ∧ i.size = 1 ∧ i.bytes = 16 := info_parts (by kernel_rfl)
def strs (ps : List Tx) : List Value := ps.map fun p => .string ⟨p.toArray⟩
theorem it_under {W W' : World} {B g : Nat} {s : ByteArray} {pos : Nat} (h : It W g s pos) (hb : Below B W W') (hg : g < B) : It W' g s pos := by
  show W'.heap[g]? = _
  rw [hb.block g hg]
  exact h
theorem ownTo {w : World} {base g : Nat} {e : TypeId} {v : Value} {n : Nat} {xs : List Value} {s : ByteArray} (q : Nat) (h : w.ownsRow base e 1 v n xs) (hg : g < base) : (World.itTo w g s q).ownsRow base e 1 v n xs := by
  obtain ⟨h1, h2 | ⟨k, cap, cur, h2, h3, h4, h5⟩⟩ := h
  · exact ⟨h1, .inl h2⟩
  · refine ⟨h1, .inr ⟨k, cap, cur, h2, h3, ?_, h5⟩⟩
    show (w.heap.setIfInBounds g _)[k]? = _
    rw [Array.getElem?_setIfInBounds, if_neg (by omega)]
    exact h4
/-- the piece between two places -/
theorem piece_eq {l : Tx} {f pos : Nat} (hf : f ≤ pos) (hp : pos < l.length) : l.drop f = ((l.take pos).drop f) ++ l[pos] :: l.drop (pos + 1) := by
  rw [← List.drop_eq_getElem_cons hp]
  conv => lhs; rw [← List.take_append_drop pos l]
  rw [List.drop_append]
  have : f - (l.take pos).length = 0 := by simp; omega
  rw [this, List.drop_zero]
theorem piece_no {l : Tx} {f pos : Nat} {m : UInt8} (h : ∀ j (hj : j < l.length), f ≤ j → j < pos → (l[j] == m) = false) : ∀ x ∈ (l.take pos).drop f, (x == m) = false := by
  intro x hx
  obtain ⟨k, hk, rfl⟩ := List.getElem_of_mem hx
  simp only [List.length_drop, List.length_take] at hk
  have := h (f + k) (by omega) (by omega) (by omega)
  simpa using this
section
variable (w : World)
set_option maxRecDepth 100000 in
set_option maxHeartbeats 1000000 in
theorem cutAll_any (l : Tx) (m : UInt8) (hm : m.toNat < 128) (hl : l.length ≤ 16384) : Calls Tryd.prog 15 #[.string ⟨l.toArray⟩, .int .i32 (m.toNat : Nat)] w fun e w' => ∃ v, e = .returned v ∧ w'.ownsRow (w.heap.size + 1) 9 1 v (splitT m l).length (strs (splitT m l)) ∧ Below w.heap.size w w' := by
  obtain ⟨i9, hi, hz, hs, hb⟩ := info_str
  go_enter Tryd.func15, Tryd.ntmps15
  go_upto_region 4 with fail
  go_loopw [5, 6] (fun v u wr => ∃ (pos f : Nat) (ps : List Tx), u = .int .i64 (f : Int) ∧ f ≤ pos ∧ pos ≤ l.length ∧ ps.length ≤ f ∧ splitT m l = ps ++ splitT m (l.drop f) ∧ (∀ j (hj : j < l.length), f ≤ j → j < pos → (l[j] == m) = false) ∧ wr.ownsRow (w.heap.size + 1) 9 1 v ps.length (strs ps) ∧ It wr w.heap.size ⟨l.toArray⟩ pos ∧ Below w.heap.size w wr ∧ w.heap.size + 1 ≤ wr.heap.size) (fun _ _ wr => l.length - itPos wr w.heap.size)
  case atStart => exact ⟨0, 0, [], rfl, by omega, by omega, by simp, rfl, fun j _ _ h => by omega, ⟨rfl, .inl ⟨rfl, rfl⟩⟩, heap_alloc_last _ _, bel1 _ _, by simp [World.iter]⟩
  case round =>
  obtain ⟨pos, f, ps, rfl, hf, hp, hpl, hsp, hno, hO, hI, hB, hsz⟩ := hrel
  obtain ⟨au, cu, rfl⟩ := own_shape hO
  by_cases hlt : pos < l.length
  · obtain ⟨c, q, nx, hq, hql, hc⟩ := it_step (P := Tryd.prog) hI hlt
    have HI := hide (it_to hI q)
    have HB := hide (it_below (s := ⟨l.toArray⟩) hB (Nat.le_refl _) q)
    have HO := hide (ownTo (s := ⟨l.toArray⟩) q hO (Nat.lt_succ_self _))
    have HP := hide (it_pos hI)
    have HN := hide hno
    have HSp := hide hsp
    have hsz2 : w.heap.size + 1 ≤ (World.itTo wr w.heap.size ⟨l.toArray⟩ q).heap.size := by rw [itTo_size]; exact hsz
    have HC := hide hc
    clear hc hI hB hno hO hsp
    generalize World.itTo wr w.heap.size ⟨l.toArray⟩ q = W at *
    by_cases hcm : c = m.toNat
    · have HQ : Hid (q = pos + 1 ∧ l[pos] = m) := hide (by
        rcases HC.out with ⟨_, h1, h2⟩ | ⟨h1, _⟩
        · exact ⟨h2, UInt8.toNat_inj.1 (h1.symm.trans hcm)⟩
        · omega)
      have HP2 : Hid (splitT m l = (ps ++ [(l.take pos).drop f]) ++ splitT m (l.drop (pos + 1))) := hide (by
        rw [HSp.out, piece_eq hf hlt, HQ.out.2, split_mark m _ _ (piece_no HN.out)]
        simp)
      have e1 := ext_mk l f pos
      have hcm2 : ((c : Int) == (m.toNat : Int)) = true := by simp; omega
      clear HC HSp hcm
      go_upto_region 8 with (at_builtin; refine wpList_append_own _ rfl _ _ 38 rfl (w.heap.size + 1) 9 i9 (.string ⟨#[]⟩) 1 16 Tryd.underlying38 hi hz hs hb rfl (by decide) _ _ _ rfl (HO.out.alloc _) ⟨_, 0, none⟩ 1 1 [.string ⟨((l.take pos).drop f).toArray⟩] rfl rfl (cell_one_new _ _ _) (by simp [Value.oneCell']) (by unfold maxLen; omega) (by omega) (by simp; omega) ?_; intro v2 w2 ho2 hg2 _; obtain ⟨a2, c2, rfl⟩ := own_shape ho2)
      have HO2 : Hid (w2.ownsRow (w.heap.size + 1) 9 1 (.slice a2 (ps.length + 1) c2) (ps ++ [(l.take pos).drop f]).length (strs (ps ++ [(l.take pos).drop f]))) := hide (by simpa [strs] using ho2)
      have HBx : Hid (Below (w.heap.size + 1) W w2) := hide (((Below.refl _ W).alloc hsz2 _).grown hg2 (by simp; omega) (fun j hj => (HO.out.lt j hj).1))
      have HI2 := hide (it_under HI.out HBx.out (Nat.lt_succ_self _))
      have HB2 := hide (HB.out.trans (HBx.out.mono (Nat.le_succ _)))
      have hsz3 := Nat.le_trans hsz2 HBx.out.size
      clear ho2 hg2 HO HI HB HBx
      go_wp2
      refine ⟨⟨q, pos + 1, ps ++ [(l.take pos).drop f], by simp, by have := HQ.out.1; omega, hql, by simp; omega, HP2.out, fun j hj h1 h2 => by have := HQ.out.1; omega, HO2.out, HI2.out, HB2.out, hsz3⟩, ?_⟩
      rw [it_pos HI2.out, HP.out]
      omega
    · have hcm2 : ((c : Int) == (m.toNat : Int)) = false := by simp; omega
      have HN2 : Hid (∀ j (hj : j < l.length), f ≤ j → j < q → (l[j] == m) = false) := hide (fun j hj h1 h2 => by
        by_cases hjp : j < pos
        · exact HN.out j hj h1 hjp
        · rcases HC.out with ⟨_, h3, h4⟩ | ⟨_, _, h3⟩
          · obtain rfl : j = pos := by omega
            rw [beq_eq_false_iff_ne]
            intro e
            exact hcm (by rw [h3, e])
          · have h5 := h3 j hj (by omega) h2
            rw [beq_eq_false_iff_ne]
            intro e
            rw [e] at h5
            omega)
      clear HC HN hcm
      go_wp2
      refine ⟨⟨q, f, ps, rfl, by omega, hql, hpl, HSp.out, HN2.out, HO.out, HI.out, HB.out, hsz2⟩, ?_⟩
      rw [it_pos HI.out, HP.out]
      omega
  · have nx := it_stop (P := Tryd.prog) hI hlt
    obtain rfl : pos = l.length := by omega
    have HB := hide hB
    have HO := hide hO
    have HSe : Hid (splitT m l = ps ++ [l.drop f]) := hide (by
      rw [hsp, split_end m (l.drop f) (fun x hx => by
        have := piece_no (l := l) (f := f) (pos := l.length) hno
        rw [List.take_length] at this
        exact this x hx)])
    have e1 := ext_mk l f l.length
    rw [List.take_length] at e1
    clear hI hB hno hO hsp
    go_wp2_with (at_builtin; refine wpList_append_own _ rfl _ _ 38 rfl (w.heap.size + 1) 9 i9 (.string ⟨#[]⟩) 1 16 Tryd.underlying38 hi hz hs hb rfl (by decide) _ _ _ rfl (HO.out.alloc _) ⟨_, 0, none⟩ 1 1 [.string ⟨(l.drop f).toArray⟩] rfl rfl (cell_one_new _ _ _) (by simp [Value.oneCell']) (by unfold maxLen; omega) (by omega) (by simp; omega) ?_; intro v2 w2 ho2 hg2 _; obtain ⟨a2, c2, rfl⟩ := own_shape ho2)
    have HO2 : Hid (w2.ownsRow (w.heap.size + 1) 9 1 (.slice a2 (ps.length + 1) c2) (splitT m l).length (strs (splitT m l))) := hide (by rw [HSe.out]; simpa [strs] using ho2)
    have HBx : Hid (Below (w.heap.size + 1) wr w2) := hide (((Below.refl _ wr).alloc hsz _).grown hg2 (by simp; omega) (fun j hj => (HO.out.lt j hj).1))
    have HB2 := hide (HB.out.trans (HBx.out.mono (Nat.le_succ _)))
    clear ho2 hg2 HO HB HBx
    go_wp2
    go_ret
    exact ⟨_, rfl, HO2.out, HB2.out⟩
end
end Go.Proofs.YtbfagiofhakjnaaDoor

namespace Go.Proofs.YtbfagiofhakjnaaDoor
open Go.RowKit
theorem own_mono {w : World} {base base' : Nat} {e : TypeId} {size : Nat} {v : Value} {n : Nat} {xs : List Value} (h : w.ownsRow base e size v n xs) (hb : base' ≤ base) : w.ownsRow base' e size v n xs := by
  obtain ⟨h1, h2 | ⟨g, cap, cur, h2, h3, h4⟩⟩ := h
  · exact ⟨h1, .inl h2⟩
  · exact ⟨h1, .inr ⟨g, cap, cur, h2, by omega, h4⟩⟩
/-- an own row that holds something: its block, and what a store at one place does -/
theorem own_block {w : World} {base : Nat} {e : TypeId} {v : Value} {n : Nat} {xs : List Value} (h : w.ownsRow base e 1 v n xs) (hn : 0 < n) : ∃ g cap, v = .slice (some ⟨g, 0, none⟩) n cap ∧ base ≤ g ∧ g < w.heap.size ∧ (∀ j x, xs[j]? = some x → w.cell? ⟨g, j, none⟩ = some x) ∧ (∀ j, w.frozen? ⟨g, j, none⟩ = false) ∧
    ∀ j x, j < n → (w.setCell ⟨g, j, none⟩ x).ownsRow base e 1 v n (xs.set j x) := by
  obtain ⟨h1, ⟨_, h2⟩ | ⟨g, cap, cur, h2, h3, h4, h5, h6, h7, h8⟩⟩ := h
  · omega
  · refine ⟨g, cap, h2, h3, (Array.getElem?_eq_some_iff.1 h4).1, fun j x hx => ?_, fun j => Lib.frozen_of_heap h4 j, fun j x hj => ⟨by simpa using h1, .inr ⟨g, cap, cur.setIfInBounds j x, h2, h3, heap_setCell_same w g j _ _ x h4, h5, h6, by simpa using h7, ?_⟩⟩⟩
    · rw [Lib.cell_of_heap h4]
      rw [← h8, List.getElem?_take] at hx
      split at hx
      · rw [← Array.getElem?_toList]; exact hx
      · simp at hx
    · rw [Array.toList_setIfInBounds, List.take_set, h8]
theorem own_keep {w w' : World} {base : Nat} {e : TypeId} {size : Nat} {v : Value} {n : Nat} {xs : List Value} (h : w.ownsRow base e size v n xs) (hb : Below w.heap.size w w') : w'.ownsRow base e size v n xs := by
  obtain ⟨h1, h2 | ⟨g, cap, cur, h2, h3, h4, h5⟩⟩ := h
  · exact ⟨h1, .inl h2⟩
  · exact ⟨h1, .inr ⟨g, cap, cur, h2, h3, (hb.block g (Array.getElem?_eq_some_iff.1 h4).1).trans h4, h5⟩⟩
theorem set_mid : ∀ (A B : List Value) (x y : Value) (j : Nat), A.length = j → (A ++ x :: B).set j y = A ++ y :: B
  | [], B, x, y, j, h => by subst h; rfl
  | a :: A, B, x, y, j, h => by
    subst h
    simp only [List.length_cons, List.cons_append, List.set_cons_succ]
    rw [set_mid A B x y A.length rfl]
theorem strs_mid (A R : List Tx) (p : Tx) : strs (A ++ p :: R) = strs A ++ .string ⟨p.toArray⟩ :: strs R := by simp [strs]
theorem trimT_len (s : Tx) : (trimT s).length ≤ s.length := by
  unfold trimT Lib.trimS Lib.trimLeftS Lib.trimRightS
  have h1 := (List.dropWhile_sublist (l := ((s.reverse.dropWhile (([32, 9] : Tx).contains ·)).reverse)) (p := (([32, 9] : Tx).contains ·))).length_le
  have h2 := (List.dropWhile_sublist (l := s.reverse) (p := (([32, 9] : Tx).contains ·))).length_le
  simp only [List.length_reverse] at h1 h2
  omega
theorem split_len (m : UInt8) : ∀ (s p : Tx), p ∈ splitT m s → p.length ≤ s.length
  | [], p, h => by simp [splitT] at h; subst h; simp
  | c :: r, p, h => by
    simp only [splitT] at h
    split at h
    · rcases List.mem_cons.1 h with e | e
      · subst e; simp
      · have := split_len m r p e; simp; omega
    · split at h
      · next e => exact absurd e (split_ne m r)
      · next q qs e =>
        rcases List.mem_cons.1 h with e2 | e2
        · subst e2
          have := split_len m r q (by rw [e]; simp)
          simp; omega
        · have := split_len m r p (by rw [e]; simp [e2])
          simp; omega
theorem split_count (m : UInt8) : ∀ (s : Tx), (splitT m s).length ≤ s.length + 1
  | [] => by simp [splitT]
  | c :: r => by
    have ih := split_count m r
    simp only [splitT]
    split
    · simp; omega
    · split
      · simp
      · next q qs e => rw [e] at ih; simp at ih ⊢; omega
section
variable (w : World)
theorem trim_any (l : Tx) (hl : l.length ≤ 16384) : Calls Tryd.prog 30 #[.string ⟨l.toArray⟩, .string ⟨#[32, 9]⟩] w fun e w' => e = .returned (.string ⟨(trimT l).toArray⟩) ∧ Below w.heap.size w w' := Tryd.trims l w (by omega)
set_option maxRecDepth 100000 in
set_option maxHeartbeats 1000000 in
theorem sf_any (l : Tx) (hl : l.length ≤ 16384) : Calls Tryd.prog 49 #[.string ⟨l.toArray⟩] w fun e w' => ∃ v, e = .returned v ∧ w'.ownsRow w.heap.size 9 1 v (sfT l).length (strs (sfT l)) ∧ Below w.heap.size w w' := by
  have hT := trim_any w l hl
  have hl2 := trimT_len l
  by_cases h0 : trimT l = []
  · have HV : Hid (sfT l = []) := hide (by simp [sfT, h0])
    rw [h0] at hT
    have HT := hide hT
    clear hT h0 hl2
    go_enter Tryd.func49, Tryd.ntmps49
    go_wp2_with fail
    refine HT.out.mono ?_
    rintro e w1 ⟨rfl, hb⟩
    go_wp2
    go_ret
    exact ⟨_, rfl, by rw [HV.out]; exact ⟨rfl, .inl ⟨rfl, rfl⟩⟩, hb⟩
  · have HV : Hid (sfT l = (splitT 44 (trimT l)).map trimT) := hide (by simp [sfT, h0])
    have he : List.isEmpty (trimT l) = false := by simpa using h0
    have HT := hide hT
    clear hT h0
    generalize trimT l = t at *
    go_enter Tryd.func49, Tryd.ntmps49
    go_wp2_with fail
    refine HT.out.mono ?_
    rintro e w1 ⟨rfl, hb1⟩
    go_wp2_with fail
    refine (cutAll_any w1 t 44 (by decide) (by omega)).mono ?_
    rintro e w2 ⟨v, rfl, hO, hb2⟩
    have hlen := split_count 44 t
    have hne : 0 < (splitT 44 t).length := List.length_pos_iff.2 (split_ne 44 t)
    have HPl : Hid (∀ p ∈ splitT 44 t, p.length ≤ 16384) := hide (fun p hp => by have := split_len 44 t p hp; omega)
    have hs1 := hb1.size
    have HO := hide (own_mono hO (by omega : w.heap.size ≤ w1.heap.size + 1))
    have HB := hide (hb1.trans (hb2.mono hs1))
    obtain ⟨au, cu, rfl⟩ := own_shape hO
    clear hO hb1 hb2 HT
    generalize splitT 44 t = ps at *
    go_upto_region 6 with fail
    go_loopw [14] (fun u wr => ∃ j : Nat, u = .int .i64 (j : Int) ∧ j ≤ ps.length ∧ wr.ownsRow w.heap.size 9 1 (.slice au ps.length cu) ps.length (strs ((ps.take j).map trimT ++ ps.drop j)) ∧ Below w.heap.size w wr) (fun u _ => ps.length - (intOf u).toNat)
    case atStart => exact ⟨0, rfl, by omega, HO.out, HB.out⟩
    case round =>
    obtain ⟨j, rfl, hj, hO, hB⟩ := hrel
    clear HO HB
    by_cases hlt : j < ps.length
    · obtain ⟨g, cap, ev, hg, hgs, hcell, hfz, hset⟩ := own_block hO (by omega)
      cases ev
      have hd : (j : Int) < (ps.length : Int) := by omega
      have c0 := hcell j (.string ⟨ps[j].toArray⟩) (by
        unfold strs
        rw [List.getElem?_map, List.getElem?_append_right (by simp; omega)]
        simp [hlt, Nat.min_eq_left hj])
      have hpl := HPl.out ps[j] (List.getElem_mem hlt)
      have HE : Hid ((strs ((ps.take j).map trimT ++ ps.drop j)).set j (.string ⟨(trimT ps[j]).toArray⟩) = strs ((ps.take (j + 1)).map trimT ++ ps.drop (j + 1))) := hide (by
        rw [List.drop_eq_getElem_cons hlt, strs_mid, set_mid _ _ _ _ j (by simp [strs]; omega), ← strs_mid, List.take_succ_eq_append_getElem hlt, List.map_append, List.append_assoc]
        rfl)
      have HB := hide hB
      have hsz := hB.size
      clear hB hcell
      generalize ps[j] = p at *
      go_wp2_with fail
      refine (trim_any _ p hpl).mono ?_
      rintro e w3 ⟨rfl, hb3⟩
      have hO3 := own_keep hO hb3
      obtain ⟨g', cap', ev', hg', hgs', hcell', hfz', hset'⟩ := own_block hO3 (by omega)
      cases ev'
      obtain ⟨x0, c3⟩ : ∃ x, w3.cell? ⟨g, j, none⟩ = some x := ⟨_, by rw [hb3.cell (p := ⟨g, j, none⟩) hgs]; exact c0⟩
      have f3 := hfz' j
      have HO4 := hide (hset' j (.string ⟨(trimT p).toArray⟩) hlt)
      rw [HE.out] at HO4
      have HB4 := hide ((HB.out.trans (hb3.mono hsz)).setCell (p := ⟨g, j, none⟩) hg (.string ⟨(trimT p).toArray⟩))
      clear hb3 hO3 hcell' hfz' hset' hO hset HB HE c0 hfz
      go_wp2
      refine ⟨⟨j + 1, by simp, by omega, HO4.out, HB4.out⟩, ?_⟩
      simp [intOf]
      omega
    · obtain rfl : j = ps.length := by omega
      rw [List.take_length, List.drop_length, List.append_nil] at hO
      have HO := hide hO
      have HB := hide hB
      clear hO hB
      go_wp2
      go_ret
      exact ⟨_, rfl, by rw [HV.out, List.length_map]; exact HO.out, HB.out⟩
end
end Go.Proofs.YtbfagiofhakjnaaDoor

namespace Go.Proofs.YtbfagiofhakjnaaDoor
open Go.RowKit
/-- a line's cells -/
def lnC (l : Ln) : Array Value := #[.bool l.wrong, .string ⟨l.label.toArray⟩, .int .i64 l.i.op, .int .i64 l.i.a, .int .i64 l.i.b, .int .i64 l.i.imm, .string ⟨l.name.toArray⟩, .int .i64 l.words]
/-- a line lies in a block -/
def LnAt (w : World) (g : Nat) (l : Ln) : Prop := w.heap[g]? = some (.cells (lnC l) 35 (0, 0))
theorem LnAt.lt {w : World} {g : Nat} {l : Ln} (h : LnAt w g l) : g < w.heap.size := (Array.getElem?_eq_some_iff.1 h).1
theorem LnAt.frz {w : World} {g : Nat} {l : Ln} (h : LnAt w g l) (j : Nat) : w.frozen? ⟨g, j, none⟩ = false := Lib.frozen_of_heap h j
theorem LnAt.cells {w : World} {g : Nat} {l : Ln} (h : LnAt w g l) : w.cell? ⟨g, 0, none⟩ = some (.bool l.wrong) ∧ w.cell? ⟨g, 1, none⟩ = some (.string ⟨l.label.toArray⟩) ∧ w.cell? ⟨g, 2, none⟩ = some (.int .i64 l.i.op) ∧ w.cell? ⟨g, 3, none⟩ = some (.int .i64 l.i.a) ∧ w.cell? ⟨g, 4, none⟩ = some (.int .i64 l.i.b) ∧ w.cell? ⟨g, 5, none⟩ = some (.int .i64 l.i.imm) ∧ w.cell? ⟨g, 6, none⟩ = some (.string ⟨l.name.toArray⟩) ∧ w.cell? ⟨g, 7, none⟩ = some (.int .i64 l.words) := by
  refine ⟨?_, ?_, ?_, ?_, ?_, ?_, ?_, ?_⟩ <;> (rw [Lib.cell_of_heap h]; rfl)
theorem LnAt.keep {w w' : World} {g : Nat} {l : Ln} (h : LnAt w g l) (hb : Below w.heap.size w w') : LnAt w' g l := by
  show w'.heap[g]? = _
  rw [hb.block g h.lt]
  exact h
theorem LnAt.op {w : World} {g : Nat} {l : Ln} (h : LnAt w g l) (z : Int) : LnAt (w.setCell ⟨g, 2, none⟩ (.int .i64 z)) g { l with i := { l.i with op := z } } := heap_setCell_same w g 2 _ _ _ h
theorem LnAt.a {w : World} {g : Nat} {l : Ln} (h : LnAt w g l) (z : Int) : LnAt (w.setCell ⟨g, 3, none⟩ (.int .i64 z)) g { l with i := { l.i with a := z } } := heap_setCell_same w g 3 _ _ _ h
theorem LnAt.b {w : World} {g : Nat} {l : Ln} (h : LnAt w g l) (z : Int) : LnAt (w.setCell ⟨g, 4, none⟩ (.int .i64 z)) g { l with i := { l.i with b := z } } := heap_setCell_same w g 4 _ _ _ h
theorem LnAt.imm {w : World} {g : Nat} {l : Ln} (h : LnAt w g l) (z : Int) : LnAt (w.setCell ⟨g, 5, none⟩ (.int .i64 z)) g { l with i := { l.i with imm := z } } := heap_setCell_same w g 5 _ _ _ h
theorem LnAt.name {w : World} {g : Nat} {l : Ln} (h : LnAt w g l) (s : Tx) : LnAt (w.setCell ⟨g, 6, none⟩ (.string ⟨s.toArray⟩)) g { l with name := s } := heap_setCell_same w g 6 _ _ _ h
theorem LnAt.words {w : World} {g : Nat} {l : Ln} (h : LnAt w g l) (z : Int) : LnAt (w.setCell ⟨g, 7, none⟩ (.int .i64 z)) g { l with words := z } := heap_setCell_same w g 7 _ _ _ h
theorem LnAt.label {w : World} {g : Nat} {l : Ln} (h : LnAt w g l) (s : Tx) : LnAt (w.setCell ⟨g, 1, none⟩ (.string ⟨s.toArray⟩)) g { l with label := s } := heap_setCell_same w g 1 _ _ _ h
/-- all stays but one block, and what is new -/
structure Kp (g : Nat) (w w' : World) : Prop where
  os : w'.os = w.os
  tape : w'.tape = w.tape
  output : w'.output = w.output
  size : w.heap.size ≤ w'.heap.size
  block : ∀ k, k < w.heap.size → k ≠ g → w'.heap[k]? = w.heap[k]?
theorem Kp.of {g : Nat} {w w' : World} (h : Below w.heap.size w w') : Kp g w w' := ⟨h.os, h.tape, h.output, h.size, fun k hk _ => h.block k hk⟩
theorem Kp.refl (g : Nat) (w : World) : Kp g w w := ⟨rfl, rfl, rfl, Nat.le_refl _, fun _ _ _ => rfl⟩
theorem Kp.trans {g : Nat} {a b c : World} (h : Kp g a b) (h2 : Kp g b c) : Kp g a c := ⟨h2.os.trans h.os, h2.tape.trans h.tape, h2.output.trans h.output, Nat.le_trans h.size h2.size, fun k hk hn => (h2.block k (Nat.lt_of_lt_of_le hk h.size) hn).trans (h.block k hk hn)⟩
theorem Kp.set {g j : Nat} {a b : World} (h : Kp g a b) (v : Value) : Kp g a (b.setCell ⟨g, j, none⟩ v) :=
  ⟨h.os, h.tape, h.output, by rw [World.size_setCell]; exact h.size, fun k hk hn => by rw [heap_setCell_other b ⟨g, j, none⟩ k v hn]; exact h.block k hk hn⟩
theorem Kp.below {g B : Nat} {a b c : World} (h : Below B a b) (h2 : Kp g b c) (hB : B ≤ b.heap.size) (hg : B ≤ g) : Below B a c := ⟨h2.os.trans h.os, h2.tape.trans h.tape, h2.output.trans h.output, Nat.le_trans h.size h2.size, fun k hk => (h2.block k (by omega) (by omega)).trans (h.block k hk)⟩
section
variable (w : World)
set_option maxRecDepth 100000 in
set_option maxHeartbeats 1000000 in
theorem readImm_any (g : Nat) (l : Ln) (f : Tx) (lo hi : Int) (hf : f.length ≤ 16384) (hL : LnAt w g l) : Calls Tryd.prog 59 #[.pointer (some ⟨g, 0, none⟩), .string ⟨f.toArray⟩, .int .i64 lo, .int .i64 hi] w fun e w' => e = .returned (.bool (immT l f lo hi).isSome) ∧ (∀ l', immT l f lo hi = some l' → LnAt w' g l') ∧ (∃ l', LnAt w' g l') ∧ Kp g w w' := by
  have hI := isLabel_any w f hf
  cases hx : isLbl f with
  | true =>
    rw [hx] at hI
    have HV : Hid (immT l f lo hi = some { l with name := f }) := hide (by simp [immT, hx])
    have HI := hide hI
    clear hI hx
    go_enter Tryd.func59, Tryd.ntmps59
    go_wp2_with fail
    refine HI.out.mono ?_
    rintro e w1 ⟨rfl, hb⟩
    have hL1 := hL.keep hb
    have c6 := hL1.cells.2.2.2.2.2.2.1
    have f6 := hL1.frz 6
    have HN := hide (hL1.name f)
    have HK := hide (Kp.set (j := 6) (Kp.of (g := g) hb) (.string ⟨f.toArray⟩))
    clear hb hL1 hL HI
    go_wp2
    go_ret
    exact ⟨by rw [HV.out]; rfl, fun l' e => by rw [HV.out] at e; cases e; exact HN.out, ⟨_, HN.out⟩, HK.out⟩
  | false =>
    rw [hx] at hI
    have HI := hide hI
    have HV : Hid (immT l f lo hi = match numT f with | some n => if lo ≤ n ∧ n ≤ hi then some { l with i := { l.i with imm := n } } else none | none => none) := hide (by unfold immT; rw [hx]; rfl)
    clear hI hx
    cases hn : numT f with
    | none =>
      rw [hn] at HV
      have HM := hide (fun W => number_any' W f hf)
      rw [hn] at HM
      clear hn
      go_enter Tryd.func59, Tryd.ntmps59
      go_wp2_with fail
      refine HI.out.mono ?_
      rintro e w1 ⟨rfl, hb⟩
      go_wp2_with fail
      refine (HM.out _).mono ?_
      rintro e w2 ⟨rfl, hb2⟩
      have hb3 := hb.trans (hb2.mono hb.size)
      have hL1 := hL.keep hb3
      have c5 := hL1.cells.2.2.2.2.2.1
      have f5 := hL1.frz 5
      have HN := hide (hL1.imm 0)
      have HK := hide (Kp.set (j := 5) (Kp.of (g := g) hb3) (.int .i64 0))
      clear hb hb2 hb3 hL1 hL HI HM
      go_wp2
      go_ret
      exact ⟨by rw [HV.out]; rfl, fun l' e => (by rw [HV.out] at e; cases e), ⟨_, HN.out⟩, HK.out⟩
    | some n =>
      rw [hn] at HV
      have HM := hide (fun W => number_any' W f hf)
      rw [hn] at HM
      clear hn
      by_cases h1 : lo ≤ n
      · by_cases h2 : n ≤ hi
        · have HV2 : Hid (immT l f lo hi = some { l with i := { l.i with imm := n } }) := hide (by rw [HV.out]; simp [h1, h2])
          clear HV
          go_enter Tryd.func59, Tryd.ntmps59
          go_wp2_with fail
          refine HI.out.mono ?_
          rintro e w1 ⟨rfl, hb⟩
          go_wp2_with fail
          refine (HM.out _).mono ?_
          rintro e w2 ⟨rfl, hb2⟩
          have hb3 := hb.trans (hb2.mono hb.size)
          have hL1 := hL.keep hb3
          have c5 := hL1.cells.2.2.2.2.2.1
          have f5 := hL1.frz 5
          have HN := hide (hL1.imm n)
          have HK := hide (Kp.set (j := 5) (Kp.of (g := g) hb3) (.int .i64 n))
          clear hb hb2 hb3 hL1 hL HI HM
          go_wp2
          go_ret
          exact ⟨by rw [HV2.out]; rfl, fun l' e => by rw [HV2.out] at e; cases e; exact HN.out, ⟨_, HN.out⟩, HK.out⟩
        · have HV2 : Hid (immT l f lo hi = none) := hide (by rw [HV.out]; simp [h2])
          have d2 : decide (n ≤ hi) = false := by simpa using h2
          clear HV h2
          go_enter Tryd.func59, Tryd.ntmps59
          go_wp2_with fail
          refine HI.out.mono ?_
          rintro e w1 ⟨rfl, hb⟩
          go_wp2_with fail
          refine (HM.out _).mono ?_
          rintro e w2 ⟨rfl, hb2⟩
          have hb3 := hb.trans (hb2.mono hb.size)
          have hL1 := hL.keep hb3
          have c5 := hL1.cells.2.2.2.2.2.1
          have f5 := hL1.frz 5
          have HN := hide (hL1.imm n)
          have HK := hide (Kp.set (j := 5) (Kp.of (g := g) hb3) (.int .i64 n))
          clear hb hb2 hb3 hL1 hL HI HM
          go_wp2
          go_ret
          exact ⟨by rw [HV2.out]; rfl, fun l' e => (by rw [HV2.out] at e; cases e), ⟨_, HN.out⟩, HK.out⟩
      · have HV2 : Hid (immT l f lo hi = none) := hide (by rw [HV.out]; simp [h1])
        have d1 : decide (lo ≤ n) = false := by simpa using h1
        clear HV h1
        go_enter Tryd.func59, Tryd.ntmps59
        go_wp2_with fail
        refine HI.out.mono ?_
        rintro e w1 ⟨rfl, hb⟩
        go_wp2_with fail
        refine (HM.out _).mono ?_
        rintro e w2 ⟨rfl, hb2⟩
        have hb3 := hb.trans (hb2.mono hb.size)
        have hL1 := hL.keep hb3
        have c5 := hL1.cells.2.2.2.2.2.1
        have f5 := hL1.frz 5
        have HN := hide (hL1.imm n)
        have HK := hide (Kp.set (j := 5) (Kp.of (g := g) hb3) (.int .i64 n))
        clear hb hb2 hb3 hL1 hL HI HM
        go_wp2
        go_ret
        exact ⟨by rw [HV2.out]; rfl, fun l' e => (by rw [HV2.out] at e; cases e), ⟨_, HN.out⟩, HK.out⟩
/-- how many words, as a line -/
def cntT (l : Ln) (f : Tx) : Option Ln :=
  match numT f with
  | some n => if 0 ≤ n ∧ n ≤ 512 then some { l with words := n } else none
  | none => none
set_option maxRecDepth 100000 in
set_option maxHeartbeats 1000000 in
theorem readCount_any (g : Nat) (l : Ln) (f : Tx) (hf : f.length ≤ 16384) (hL : LnAt w g l) : Calls Tryd.prog 60 #[.pointer (some ⟨g, 0, none⟩), .string ⟨f.toArray⟩] w fun e w' => e = .returned (.bool (cntT l f).isSome) ∧ (∀ l', cntT l f = some l' → LnAt w' g l') ∧ (∃ l', LnAt w' g l') ∧ Kp g w w' := by
  have HM := hide (number_any' w f hf)
  cases hn : numT f with
  | none =>
    have HV2 : Hid (cntT l f = none) := hide (by simp [cntT, hn])
    rw [hn] at HM
    clear hn
    go_enter Tryd.func60, Tryd.ntmps60
    go_wp2_with fail
    refine HM.out.mono ?_
    rintro e w2 ⟨rfl, hb3⟩
    have hL1 := hL.keep hb3
    have c7 := hL1.cells.2.2.2.2.2.2.2
    have f7 := hL1.frz 7
    have HN := hide (hL1.words 0)
    have HK := hide (Kp.set (j := 7) (Kp.of (g := g) hb3) (.int .i64 0))
    clear hb3 hL1 hL HM
    go_wp2
    go_ret
    exact ⟨by rw [HV2.out]; rfl, fun l' e => (by rw [HV2.out] at e; cases e), ⟨_, HN.out⟩, HK.out⟩
  | some n =>
    rw [hn] at HM
    have HV : Hid (cntT l f = if 0 ≤ n ∧ n ≤ 512 then some { l with words := n } else none) := hide (by simp [cntT, hn])
    clear hn
    by_cases h1 : 0 ≤ n
    · by_cases h2 : n ≤ 512
      · have HV2 : Hid (cntT l f = some { l with words := n }) := hide (by rw [HV.out]; simp [h1, h2])
        clear HV
        go_enter Tryd.func60, Tryd.ntmps60
        go_wp2_with fail
        refine HM.out.mono ?_
        rintro e w2 ⟨rfl, hb3⟩
        have hL1 := hL.keep hb3
        have c7 := hL1.cells.2.2.2.2.2.2.2
        have f7 := hL1.frz 7
        have HN := hide (hL1.words n)
        have HK := hide (Kp.set (j := 7) (Kp.of (g := g) hb3) (.int .i64 n))
        clear hb3 hL1 hL HM
        go_wp2
        go_ret
        exact ⟨by rw [HV2.out]; rfl, fun l' e => by rw [HV2.out] at e; cases e; exact HN.out, ⟨_, HN.out⟩, HK.out⟩
      · have HV2 : Hid (cntT l f = none) := hide (by rw [HV.out]; simp [h2])
        have d2 : decide (n ≤ 512) = false := by simpa using h2
        clear HV h2
        go_enter Tryd.func60, Tryd.ntmps60
        go_wp2_with fail
        refine HM.out.mono ?_
        rintro e w2 ⟨rfl, hb3⟩
        have hL1 := hL.keep hb3
        have c7 := hL1.cells.2.2.2.2.2.2.2
        have f7 := hL1.frz 7
        have HN := hide (hL1.words n)
        have HK := hide (Kp.set (j := 7) (Kp.of (g := g) hb3) (.int .i64 n))
        clear hb3 hL1 hL HM
        go_wp2
        go_ret
        exact ⟨by rw [HV2.out]; rfl, fun l' e => (by rw [HV2.out] at e; cases e), ⟨_, HN.out⟩, HK.out⟩
    · have HV2 : Hid (cntT l f = none) := hide (by rw [HV.out]; simp [h1])
      have d1 : decide (0 ≤ n) = false := by simpa using h1
      clear HV h1
      go_enter Tryd.func60, Tryd.ntmps60
      go_wp2_with fail
      refine HM.out.mono ?_
      rintro e w2 ⟨rfl, hb3⟩
      have hL1 := hL.keep hb3
      have c7 := hL1.cells.2.2.2.2.2.2.2
      have f7 := hL1.frz 7
      have HN := hide (hL1.words n)
      have HK := hide (Kp.set (j := 7) (Kp.of (g := g) hb3) (.int .i64 n))
      clear hb3 hL1 hL HM
      go_wp2
      go_ret
      exact ⟨by rw [HV2.out]; rfl, fun l' e => (by rw [HV2.out] at e; cases e), ⟨_, HN.out⟩, HK.out⟩
end
end Go.Proofs.YtbfagiofhakjnaaDoor
