import Derived.Test.YtncbbllmhohnkaaDoorUJ
namespace Go.Proofs.YtncbbllmhohnkaaDoor
open Go.RowKit
theorem own_mono {w : World} {base base' : Nat} {e : TypeId} {size : Nat} {v : Value} {n : Nat} {xs : List Value} (h : w.ownsRow base e size v n xs) (hb : base' ≤ base) : w.ownsRow base' e size v n xs := by
  obtain ⟨h1, h2 | ⟨g, cap, cur, h2, h3, h4⟩⟩ := h
  · exact ⟨h1, .inl h2⟩
  · exact ⟨h1, .inr ⟨g, cap, cur, h2, by omega, h4⟩⟩
/-- an own row that holds something: its block, and what a store at one place does -/
theorem own_block {w : World} {base : Nat} {e : TypeId} {v : Value} {n : Nat} {xs : List Value} (h : w.ownsRow base e 1 v n xs) (hn : 0 < n) : ∃ g cap, v = .slice (some ⟨g, 0, none⟩) n cap ∧ base ≤ g ∧ g < w.heap.size ∧ (∀ j x, xs[j]? = some x → w.cell? ⟨g, j, none⟩ = some x) ∧ (∀ j, w.frozen? ⟨g, j, none⟩ = false) ∧
    ∀ j x, j < n → (w.setCell ⟨g, j, none⟩ x).ownsRow base e 1 v n (xs.set j x) := by
  obtain ⟨h1, ⟨_, h2⟩ | ⟨g, cap, cur, h2, h3, h4, h5, h6, h7, h8⟩⟩ := h
  · omega
  · refine ⟨g, cap, h2, h3, (Array.getElem?_eq_some_iff.1 h4).1, fun j x hx => ?_, fun j => Lib.frozen_of_heap h4 j, fun j x hj => ⟨by simpa using h1, .inr ⟨g, cap, cur.setIfInBounds j x, h2, h3, heap_setCell_same w g j _ _ x h4, h5, h6, by simpa using h7, ?_⟩⟩⟩
    · rw [Lib.cell_of_heap h4]
      rw [← h8, List.getElem?_take] at hx
      split at hx
      · rw [← Array.getElem?_toList]; exact hx
      · simp at hx
    · rw [Array.toList_setIfInBounds, List.take_set, h8]
theorem own_keep {w w' : World} {base : Nat} {e : TypeId} {size : Nat} {v : Value} {n : Nat} {xs : List Value} (h : w.ownsRow base e size v n xs) (hb : Below w.heap.size w w') : w'.ownsRow base e size v n xs := by
  obtain ⟨h1, h2 | ⟨g, cap, cur, h2, h3, h4, h5⟩⟩ := h
  · exact ⟨h1, .inl h2⟩
  · exact ⟨h1, .inr ⟨g, cap, cur, h2, h3, (hb.block g (Array.getElem?_eq_some_iff.1 h4).1).trans h4, h5⟩⟩
theorem set_mid : ∀ (A B : List Value) (x y : Value) (j : Nat), A.length = j → (A ++ x :: B).set j y = A ++ y :: B
  | [], B, x, y, j, h => by subst h; rfl
  | a :: A, B, x, y, j, h => by
    subst h
    simp only [List.length_cons, List.cons_append, List.set_cons_succ]
    rw [set_mid A B x y A.length rfl]
theorem strs_mid (A R : List Tx) (p : Tx) : strs (A ++ p :: R) = strs A ++ .string ⟨p.toArray⟩ :: strs R := by simp [strs]
theorem trimT_len (s : Tx) : (trimT s).length ≤ s.length := by
  unfold trimT Lib.trimS Lib.trimLeftS Lib.trimRightS
  have h1 := (List.dropWhile_sublist (l := ((s.reverse.dropWhile (([32, 9] : Tx).contains ·)).reverse)) (p := (([32, 9] : Tx).contains ·))).length_le
  have h2 := (List.dropWhile_sublist (l := s.reverse) (p := (([32, 9] : Tx).contains ·))).length_le
  simp only [List.length_reverse] at h1 h2
  omega
theorem split_len (m : UInt8) : ∀ (s p : Tx), p ∈ splitT m s → p.length ≤ s.length
  | [], p, h => by simp [splitT] at h; subst h; simp
  | c :: r, p, h => by
    simp only [splitT] at h
    split at h
    · rcases List.mem_cons.1 h with e | e
      · subst e; simp
      · have := split_len m r p e; simp; omega
    · split at h
      · next e => exact absurd e (split_ne m r)
      · next q qs e =>
        rcases List.mem_cons.1 h with e2 | e2
        · subst e2
          have := split_len m r q (by rw [e]; simp)
          simp; omega
        · have := split_len m r p (by rw [e]; simp [e2])
          simp; omega
theorem split_count (m : UInt8) : ∀ (s : Tx), (splitT m s).length ≤ s.length + 1
  | [] => by simp [splitT]
  | c :: r => by
    have ih := split_count m r
    simp only [splitT]
    split
    · simp; omega
    · split
      · simp
      · next q qs e => rw [e] at ih; simp at ih ⊢; omega
section
variable (w : World)
theorem trim_any (l : Tx) (hl : l.length ≤ 16384) : Calls Tryd.prog 54 #[.string ⟨l.toArray⟩, .string ⟨#[32, 9]⟩] w fun e w' => e = .returned (.string ⟨(trimT l).toArray⟩) ∧ Below w.heap.size w w' := Tryd.trims l w (by omega)
set_option maxRecDepth 100000 in
set_option maxHeartbeats 1000000 in
theorem sf_any (l : Tx) (hl : l.length ≤ 16384) : Calls Tryd.prog 79 #[.string ⟨l.toArray⟩] w fun e w' => ∃ v, e = .returned v ∧ w'.ownsRow w.heap.size 9 1 v (sfT l).length (strs (sfT l)) ∧ Below w.heap.size w w' := by
  have hT := trim_any w l hl
  have hl2 := trimT_len l
  by_cases h0 : trimT l = []
  · have HV : Hid (sfT l = []) := hide (by simp [sfT, h0])
    rw [h0] at hT
    have HT := hide hT
    clear hT h0 hl2
    go_enter Tryd.func79, Tryd.ntmps79
    go_wp2_with fail
    refine HT.out.mono ?_
    rintro e w1 ⟨rfl, hb⟩
    go_wp2
    go_ret
    exact ⟨_, rfl, by rw [HV.out]; exact ⟨rfl, .inl ⟨rfl, rfl⟩⟩, hb⟩
  · have HV : Hid (sfT l = (splitT 44 (trimT l)).map trimT) := hide (by simp [sfT, h0])
    have he : List.isEmpty (trimT l) = false := by simpa using h0
    have HT := hide hT
    clear hT h0
    generalize trimT l = t at *
    go_enter Tryd.func79, Tryd.ntmps79
    go_wp2_with fail
    refine HT.out.mono ?_
    rintro e w1 ⟨rfl, hb1⟩
    go_wp2_with fail
    refine (cutAll_any w1 t 44 (by decide) (by omega)).mono ?_
    rintro e w2 ⟨v, rfl, hO, hb2⟩
    have hlen := split_count 44 t
    have hne : 0 < (splitT 44 t).length := List.length_pos_iff.2 (split_ne 44 t)
    have HPl : Hid (∀ p ∈ splitT 44 t, p.length ≤ 16384) := hide (fun p hp => by have := split_len 44 t p hp; omega)
    have hs1 := hb1.size
    have HO := hide (own_mono hO (by omega : w.heap.size ≤ w1.heap.size + 1))
    have HB := hide (hb1.trans (hb2.mono hs1))
    obtain ⟨au, cu, rfl⟩ := own_shape hO
    clear hO hb1 hb2 HT
    generalize splitT 44 t = ps at *
    go_upto_region 6 with fail
    go_loopw [14] (fun u wr => ∃ j : Nat, u = .int .i64 (j : Int) ∧ j ≤ ps.length ∧ wr.ownsRow w.heap.size 9 1 (.slice au ps.length cu) ps.length (strs ((ps.take j).map trimT ++ ps.drop j)) ∧ Below w.heap.size w wr) (fun u _ => ps.length - (intOf u).toNat)
    case atStart => exact ⟨0, rfl, by omega, HO.out, HB.out⟩
    case round =>
    obtain ⟨j, rfl, hj, hO, hB⟩ := hrel
    clear HO HB
    by_cases hlt : j < ps.length
    · obtain ⟨g, cap, ev, hg, hgs, hcell, hfz, hset⟩ := own_block hO (by omega)
      cases ev
      have hd : (j : Int) < (ps.length : Int) := by omega
      have c0 := hcell j (.string ⟨ps[j].toArray⟩) (by
        unfold strs
        rw [List.getElem?_map, List.getElem?_append_right (by simp; omega)]
        simp [hlt, Nat.min_eq_left hj])
      have hpl := HPl.out ps[j] (List.getElem_mem hlt)
      have HE : Hid ((strs ((ps.take j).map trimT ++ ps.drop j)).set j (.string ⟨(trimT ps[j]).toArray⟩) = strs ((ps.take (j + 1)).map trimT ++ ps.drop (j + 1))) := hide (by
        rw [List.drop_eq_getElem_cons hlt, strs_mid, set_mid _ _ _ _ j (by simp [strs]; omega), ← strs_mid, List.take_succ_eq_append_getElem hlt, List.map_append, List.append_assoc]
        rfl)
      have HB := hide hB
      have hsz := hB.size
      clear hB hcell
      generalize ps[j] = p at *
      go_wp2_with fail
      refine (trim_any _ p hpl).mono ?_
      rintro e w3 ⟨rfl, hb3⟩
      have hO3 := own_keep hO hb3
      obtain ⟨g', cap', ev', hg', hgs', hcell', hfz', hset'⟩ := own_block hO3 (by omega)
      cases ev'
      obtain ⟨x0, c3⟩ : ∃ x, w3.cell? ⟨g, j, none⟩ = some x := ⟨_, by rw [hb3.cell (p := ⟨g, j, none⟩) hgs]; exact c0⟩
      have f3 := hfz' j
      have HO4 := hide (hset' j (.string ⟨(trimT p).toArray⟩) hlt)
      rw [HE.out] at HO4
      have HB4 := hide ((HB.out.trans (hb3.mono hsz)).setCell (p := ⟨g, j, none⟩) hg (.string ⟨(trimT p).toArray⟩))
      clear hb3 hO3 hcell' hfz' hset' hO hset HB HE c0 hfz
      go_wp2
      refine ⟨⟨j + 1, by simp, by omega, HO4.out, HB4.out⟩, ?_⟩
      simp [intOf]
      omega
    · obtain rfl : j = ps.length := by omega
      rw [List.take_length, List.drop_length, List.append_nil] at hO
      have HO := hide hO
      have HB := hide hB
      clear hO hB
      go_wp2
      go_ret
      exact ⟨_, rfl, by rw [HV.out, List.length_map]; exact HO.out, HB.out⟩
end
end Go.Proofs.YtncbbllmhohnkaaDoor
