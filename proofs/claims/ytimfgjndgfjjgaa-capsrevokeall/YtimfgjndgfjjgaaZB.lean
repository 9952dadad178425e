import Derived.Test.YtimfgjndgfjjgaaZA
namespace Go.Proofs.Ytimfgjndgfjjgaa
open Go.RowKit Go.Shelf

abbrev Hd := Int × (Nat × Rc)
theorem encA_hs (e : Int) (m : List (Nat × Rc)) : encHs e m = encA (m.map (fun x => (e, x))) := by simp [encA, encHs, List.flatMap_map]
theorem encT_of {bk : List (Option Lst)} {R : Nat × Nat → Rc} {ps : List (Nat × Nat)} (h : ∀ p ∈ ps, atB bk (p.1 : Int) (p.2 : Int) = some (R p)) : encT bk ps = encA (ps.map (fun p => ((p.1 : Int), (p.2, R p)))) := by
  induction ps with
  | nil => rfl
  | cons p t ih =>
    have h1 := h p (by simp)
    have h2 := ih (fun q hq => h q (by simp [hq]))
    simp only [encT, encA, List.flatMap_cons, List.map_cons] at h2 ⊢
    rw [h2, h1]
/-- slots that bear numbers from f on -/
def Bears (f : Nat) (l : List Hd) : Prop := ∀ i (hi : i < l.length), l[i].2.1 = f + i
/-- a row of the law's own, apart from the book -/
structure Rw (n0 : Nat) (wr : World) (F : Nat → Prop) (v : Value) (l : List Hd) : Prop where
  row : wr.ownsRow n0 54 6 v l.length (encA l)
  nf : ∀ g, v.ownBlock = some g → ¬ F g
section
variable {n0 : Nat} {w w' : World} {F F' : Nat → Prop} {v : Value} {l : List Hd}
theorem Rw.ext (h : Rw n0 w F v l) (hE : Ext F w F' w') : Rw n0 w' F' v l := by
  refine ⟨?_, fun g hg hf => ?_⟩
  · obtain ⟨h1, h2 | ⟨g, cap, cur, h2, h3, h4, h5⟩⟩ := h.row
    · exact ⟨h1, .inl h2⟩
    · exact ⟨h1, .inr ⟨g, cap, cur, h2, h3, (hE.mod.block g (Array.getElem?_eq_some_iff.1 h4).1 (h.nf g (by rw [h2]; rfl))).trans h4, h5⟩⟩
  · rcases hE.new g hf with h1 | h1
    · exact h.nf g hg h1
    · have := (h.row.lt g hg).2; omega
theorem Rw.held (h : Rw n0 w F v l) : HeldAt w v l := HeldAt.of_row h.row
/-- another row was written -/
theorem Rw.kept (h : Rw n0 w F v l) {r : Option Nat} (hg : w.grownBy w' r) (hne : ∀ g, v.ownBlock = some g → r ≠ some g) : Rw n0 w' F v l := by
  refine ⟨h.row.kept hg ?_, h.nf⟩
  cases hv : v.ownBlock with
  | none => exact .inl rfl
  | some g => exact .inr (fun e => hne g hv e.symm)
theorem book_kept {B : Nat} {bk : List (Option Lst)} (hb : Book w F B bk) (hr : Rw n0 w F v l) (hg : w.grownBy w' v.ownBlock) : Book w' F B bk :=
  hb.keep hg.size (fun b hf => hg.block b (hb.lt b hf) (fun e => hr.nf b e.symm hf))
end
theorem encA_set {l : List Hd} {k : Nat} (hk : k < l.length) (z : Nat) : (encA l).set (k * 6 + 1) (.int .i64 (z : Int)) = encA (l.set k (l[k].1, (z, l[k].2.2))) := by
  apply List.ext_getElem?
  intro j
  have hlen := encA_len l
  have hlen2 := encA_len (l.set k (l[k].1, (z, l[k].2.2)))
  rw [List.length_set] at hlen2
  by_cases hj : j < l.length * 6
  · obtain ⟨q, i, hi, rfl⟩ : ∃ q i, i < 6 ∧ j = q * 6 + i := ⟨j / 6, j % 6, Nat.mod_lt _ (by omega), by omega⟩
    have hq : q < l.length := by omega
    rw [encA_at (l := l.set k (l[k].1, (z, l[k].2.2))) (by rw [List.length_set]; exact hq) i hi, List.getElem?_set]
    by_cases e : k = q
    · subst e
      rw [List.getElem_set_self]
      by_cases e2 : i = 1
      · subst e2; rw [if_pos rfl, if_pos (by omega)]; rfl
      · rw [if_neg (by omega), encA_at hk i hi]
        have : i = 0 ∨ i = 2 ∨ i = 3 ∨ i = 4 ∨ i = 5 := by omega
        rcases this with rfl | rfl | rfl | rfl | rfl <;> rfl
    · rw [if_neg (by omega), encA_at hq i hi, List.getElem_set_ne e]
  · rw [List.getElem?_eq_none (by rw [List.length_set]; omega), List.getElem?_eq_none (by omega)]
set_option maxRecDepth 8000 in
set_option maxHeartbeats 3200000 in
theorem mark_any (w : World) (n0 : Nat) (v : Value) (l : List Hd) (f : Nat) (h : w.ownsRow n0 54 6 v l.length (encA l)) (hn : l.length ≤ 768) (hf : f ≤ 1000) :
    Calls Try.prog 56 #[v, .int .i64 (f : Int)] w fun x w' => x = .returned (.tuple #[]) ∧ ∃ l' : List Hd, l'.length = l.length ∧ Bears f l' ∧ w'.ownsRow n0 54 6 v l'.length (encA l') ∧ w.grownBy w' v.ownBlock := by
  obtain ⟨L, hL⟩ : ∃ L, l.length = L := ⟨_, rfl⟩
  obtain ⟨a, c, rfl⟩ := own_shape h
  rw [hL] at hn h ⊢
  have HH := hide h
  have HL := hide hL
  clear h hL
  go_enter Try.func56, Try.ntmps56
  go_wp2_with fail
  go_loopw [4] (fun x wr => ∃ (k : Nat) (l' : List Hd), k ≤ L ∧ x = .int .i64 (k : Int) ∧ Hid (l'.length = L ∧ (∀ i (hi : i < l'.length), i < k → l'[i].2.1 = f + i) ∧ wr.ownsRow n0 54 6 (.slice a L c) L (encA l') ∧ w.grownBy wr (Value.slice a L c).ownBlock)) (fun x _ => L - (intOf x).toNat)
  case atStart => exact ⟨0, l, by omega, rfl, hide ⟨HL.out, fun i hi h0 => by omega, HH.out, ⟨rfl, rfl, rfl, Nat.le_refl _, fun _ _ _ => rfl⟩⟩⟩
  case round =>
  obtain ⟨k, l', hk, rfl, K1⟩ := hrel
  by_cases hlt : k < L
  · obtain ⟨e1, e2, e3, e4⟩ := K1.out
    obtain ⟨g, rfl⟩ : ∃ g, a = some ⟨g, 0, none⟩ := by
      obtain ⟨_, ⟨h0, h00⟩ | ⟨g0, cap, cur, hv0, _⟩⟩ := e3
      · omega
      · cases hv0; exact ⟨_, rfl⟩
    have hlt' : k < l'.length := by rw [e1]; exact hlt
    have hc : wr.cell? ⟨g, k * 6 + 1, none⟩ = some (.int .i64 (l'[k].2.1 : Int)) := by rw [e3.cellAt (k * 6 + 1) (by omega), encA_at hlt' 1 (by omega)]; rfl
    have hfz := e3.frozenAt (k * 6 + 1)
    have hst := e3.stored (k * 6 + 1) (.int .i64 ((f + k : Nat) : Int))
    rw [encA_set hlt'] at hst
    have HK : Hid (∃ l2 : List Hd, l2.length = L ∧ (∀ i (hi : i < l2.length), i < k + 1 → l2[i].2.1 = f + i) ∧ (wr.setCell ⟨g, k * 6 + 1, none⟩ (.int .i64 ((f + k : Nat) : Int))).ownsRow n0 54 6 (.slice (some ⟨g, 0, none⟩) L c) L (encA l2) ∧ w.grownBy (wr.setCell ⟨g, k * 6 + 1, none⟩ (.int .i64 ((f + k : Nat) : Int))) (some g)) := by
      refine hide ⟨_, by rw [List.length_set]; exact e1, fun i hi hik => ?_, hst.1, ?_⟩
      · rw [List.getElem_set]
        split
        · rename_i e; subst e; rfl
        · rename_i e
          exact e2 i (by rw [List.length_set] at hi; exact hi) (by omega)
      · have h1 := e4
        have h2 := hst.2
        exact ⟨h2.os.trans h1.os, h2.tape.trans h1.tape, h2.output.trans h1.output, Nat.le_trans h1.size h2.size, fun b hb hne => (h2.block b (Nat.lt_of_lt_of_le hb h1.size) hne).trans (h1.block b hb hne)⟩
    have hfk : ((f + k : Nat) : Int) = (f : Int) + (k : Int) := by omega
    rw [hfk] at HK
    have hkl : (k : Int) < (L : Int) := by omega
    have hwk : k * 6 + 5 < L * 6 := by omega
    clear e1 e2 e3 e4 hst K1 hfk
    go_wp2
    go_roundw
    case rel =>
      obtain ⟨l2, q1, q2, q3, q4⟩ := HK.out
      first
        | exact ⟨k + 1, l2, by omega, by go_num, hide ⟨q1, q2, q3, q4⟩⟩
        | ((repeat apply Exists.intro); refine ⟨?_, rfl⟩; exact ⟨k + 1, l2, by omega, by go_num, hide ⟨q1, q2, q3, q4⟩⟩)
    case measure => simp [intOf]; omega
  · have hd : decide ((k : Int) < (L : Int)) = false := by simp; omega
    have HK : Hid (∃ l2 : List Hd, l2.length = L ∧ Bears f l2 ∧ wr.ownsRow n0 54 6 (.slice a L c) l2.length (encA l2) ∧ w.grownBy wr (Value.slice a L c).ownBlock) := by
      obtain ⟨e1, e2, e3, e4⟩ := K1.out
      exact hide ⟨l', e1, fun i hi => e2 i hi (by omega), by rw [e1]; exact e3, e4⟩
    clear K1
    go_wp2
    go_end0
    exact ⟨rfl, HK.out⟩
set_option maxRecDepth 8000 in
set_option maxHeartbeats 3200000 in
theorem bears_any (w : World) (v : Value) (l : List Hd) (f : Nat) (h : HeldAt w v l) (hn : l.length ≤ 768) (h0 : 0 < l.length) (hf : f ≤ 1000) (hb : Bears f l) :
    Calls Try.prog 58 #[v, .int .i64 (f : Int)] w fun x w' => x = .returned (.bool true) ∧ w' = w := by
  obtain ⟨L, hL⟩ : ∃ L, l.length = L := ⟨_, rfl⟩
  obtain ⟨a, c, rfl, hc⟩ := h
  rw [hL] at hn h0 ⊢
  have HC := hide hc
  have HB := hide hb
  have HL := hide hL
  clear hc hb hL
  go_enter Try.func58, Try.ntmps58
  go_wp2_with fail
  go_loopw [5] (fun x wr => wr = w ∧ ∃ k : Nat, k ≤ L ∧ x = .int .i64 (k : Int)) (fun x _ => L - (intOf x).toNat)
  case atStart => exact ⟨rfl, 0, by omega, rfl⟩
  case round =>
  obtain ⟨rfl, k, hk, rfl⟩ := hrel
  by_cases hlt : k < L
  · have hlt' : k < l.length := by rw [HL.out]; exact hlt
    obtain ⟨g, rfl, _, _, q1, _, _, _, _⟩ := HC.out k hlt'
    rw [HB.out k hlt'] at q1
    have hkl : (k : Int) < (L : Int) := by omega
    have hwk : k * 6 + 5 < L * 6 := by omega
    have hfk : ((f + k : Nat) : Int) = (f : Int) + (k : Int) := by omega
    rw [hfk] at q1
    go_wp2
    go_roundw
    case rel =>
      exact ⟨by first | rfl | trivial, k + 1, by omega, by go_num⟩
    case measure => simp [intOf]; omega
  · have hd : decide ((k : Int) < (L : Int)) = false := by simp; omega
    have hd2 : decide (0 < (L : Int)) = true := by simp; omega
    go_wp2
    go_ret
    exact ⟨rfl, rfl⟩
set_option maxRecDepth 8000 in
set_option maxHeartbeats 3200000 in
theorem refilled_any (w : World) (F : Nat → Prop) (B : Nat) (bk : List (Option Lst)) (h : Book w F B bk) (s : Int) (c : Nat → Nat) (o : Nat → Bool) (hk : Kp bk (some s) c o) (x n : Nat) (hx : x ≠ 0) (ho : o x = true) (hc : c x + n ≤ 48) :
    Calls Try.prog 57 #[.pointer (some ⟨B, 0, none⟩), .int .i64 (x : Int), .int .i64 (n : Int)] w fun e w' => e = .returned (.bool true) ∧ ∃ F' bk', Book w' F' B bk' ∧ Ext F w F' w' ∧ Kp bk' (some s) (fun y => if y = x then c x + n else c y) o := by
  have H0 : Hid (∃ F' bk', Book w F' B bk' ∧ Ext F w F' w ∧ Kp bk' (some s) (fun y => if y = x then c x + 0 else c y) o) := hide ⟨F, bk, h, Ext.refl _ _, by
    have : (fun y => if y = x then c x + 0 else c y) = c := by funext y; split <;> simp_all
    rw [this]; exact hk⟩
  clear h hk
  go_enter Try.func57, Try.ntmps57
  go_wp2_with fail
  go_loopw [7] (fun u wr => ∃ k : Nat, k ≤ n ∧ u = .int .i64 (k : Int) ∧ Hid (∃ F' bk', Book wr F' B bk' ∧ Ext F w F' wr ∧ Kp bk' (some s) (fun y => if y = x then c x + k else c y) o)) (fun u _ => n - (intOf u).toNat)
  case atStart => exact ⟨0, by omega, rfl, H0⟩
  case round =>
  clear H0
  obtain ⟨k, hkn, rfl, K1⟩ := hrel
  by_cases hlt : k < n
  · obtain ⟨F1, bk1, h1, h2, h3⟩ := K1.out
    have HD := hide (derive_any wr F1 B bk1 h1 0 0 x (-1) 5)
    have HK := hide (And.intro h1 (And.intro h2 h3))
    have hkl : (k : Int) < (n : Int) := by omega
    clear h1 h2 h3 K1
    go_wp2_with fail
    refine HD.out.mono ?_
    rintro e w2 ⟨v, cc, bk2, F2, rfl, hB2, hE2, hD2⟩
    obtain ⟨h1, h2, h3⟩ := HK.out
    obtain ⟨rfl, rfl, hK2⟩ := h3.derive (fun i l hl => h1.l48 hl) hx ho (by simp only [if_true]; omega) hD2
    have HK2 : Hid (∃ F' bk', Book w2 F' B bk' ∧ Ext F w F' w2 ∧ Kp bk' (some s) (fun y => if y = x then c x + (k + 1) else c y) o) := by
      refine hide ⟨F2, bk2, hB2, h2.trans hE2, ?_⟩
      have : (fun y => if y = x then c x + (k + 1) else c y) = (fun y => if y = x then (if x = x then c x + k else c x) + 1 else (if y = x then c x + k else c y)) := by
        funext y; by_cases e : y = x
        · simp [e]; omega
        · simp [e]
      rw [this]; exact hK2
    clear h1 h2 h3 hB2 hE2 hD2 hK2 HD HK
    go_wp2
    go_roundw
    case rel =>
      first
        | exact ⟨k + 1, by omega, by go_num, HK2⟩
        | ((repeat apply Exists.intro); refine ⟨?_, rfl⟩; exact ⟨k + 1, by omega, by go_num, HK2⟩)
    case measure => simp [intOf]; omega
  · have hd : decide ((k : Int) < (n : Int)) = false := by simp; omega
    obtain rfl : k = n := by omega
    go_wp2
    go_ret
    exact ⟨rfl, K1.out⟩
end Go.Proofs.Ytimfgjndgfjjgaa
