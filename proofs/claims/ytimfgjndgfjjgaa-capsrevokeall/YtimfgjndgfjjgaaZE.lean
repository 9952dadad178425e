import Derived.Test.YtimfgjndgfjjgaaZD
import Derived.ArgAppend
namespace Go.Proofs.Ytimfgjndgfjjgaa
open Go.RowKit Go.Shelf

theorem encA_set5 {l : List Hd} {k : Nat} (hk : k < l.length) (z : Int) : (encA l).set (k * 6 + 5) (.int .i64 z) = encA (l.set k (l[k].1, (l[k].2.1, { l[k].2.2 with r := z }))) := by
  apply List.ext_getElem?
  intro j
  have hlen := encA_len l
  have hlen2 := encA_len (l.set k (l[k].1, (l[k].2.1, { l[k].2.2 with r := z })))
  rw [List.length_set] at hlen2
  by_cases hj : j < l.length * 6
  · obtain ⟨q, i, hi, rfl⟩ : ∃ q i, i < 6 ∧ j = q * 6 + i := ⟨j / 6, j % 6, Nat.mod_lt _ (by omega), by omega⟩
    have hq : q < l.length := by omega
    rw [encA_at (l := l.set k (l[k].1, (l[k].2.1, { l[k].2.2 with r := z }))) (by rw [List.length_set]; exact hq) i hi, List.getElem?_set]
    by_cases e : k = q
    · subst e
      rw [List.getElem_set_self]
      by_cases e2 : i = 5
      · subst e2; rw [if_pos rfl, if_pos (by omega)]; rfl
      · rw [if_neg (by omega), encA_at hk i hi]
        have : i = 0 ∨ i = 1 ∨ i = 2 ∨ i = 3 ∨ i = 4 := by omega
        rcases this with rfl | rfl | rfl | rfl | rfl <;> rfl
    · rw [if_neg (by omega), encA_at hq i hi, List.getElem_set_ne e]
  · rw [List.getElem?_eq_none (by rw [List.length_set]; omega), List.getElem?_eq_none (by omega)]
/-- a slice that is read alone, apart from the book -/
structure Hf (wr : World) (F : Nat → Prop) (v : Value) (l : List Hd) : Prop where
  held : HeldAt wr v l
  nf : ∀ g, v.ownBlock = some g → ¬ F g
theorem Hf.ext {w w' : World} {F F' : Nat → Prop} {v : Value} {l : List Hd} (h : Hf w F v l) (hE : Ext F w F' w') (h0 : 0 < l.length) : Hf w' F' v l := by
  obtain ⟨a, c, rfl, hc⟩ := h.held
  refine ⟨⟨a, c, rfl, fun k hk => ?_⟩, fun g hg hf => ?_⟩
  · obtain ⟨g, rfl, h2, h3, h4, h5, h6, h7, h8⟩ := hc k hk
    have hq : ∀ j, w'.cell? ⟨g, j, none⟩ = w.cell? ⟨g, j, none⟩ := fun j => by
      unfold World.cell?
      rw [hE.mod.block g h2 (h.nf g rfl)]
    exact ⟨g, rfl, Nat.lt_of_lt_of_le h2 hE.mod.size, by rw [hq]; exact h3, by rw [hq]; exact h4, by rw [hq]; exact h5, by rw [hq]; exact h6, by rw [hq]; exact h7, by rw [hq]; exact h8⟩
  · obtain ⟨g', rfl, h2, _⟩ := hc 0 h0
    cases hg
    rcases hE.new _ hf with h1 | h1
    · exact h.nf _ rfl h1
    · have h1' : w.heap.size ≤ g' := h1
      omega
theorem Rw.hf {n0 : Nat} {w : World} {F : Nat → Prop} {v : Value} {l : List Hd} (h : Rw n0 w F v l) : Hf w F v l := ⟨h.held, h.nf⟩
theorem encA_snoc (l : List Hd) (y : Hd) : encA (l ++ [y]) = encA l ++ (cel y).toList := by simp [encA, encH, cel]
theorem encA_one (l : List Hd) : ∀ u ∈ encA l, u.oneCell' = true := by
  intro u hu
  obtain ⟨y, _, hy⟩ := List.mem_flatMap.1 hu
  simp [encH] at hy
  rcases hy with rfl | rfl | rfl | rfl | rfl | rfl <;> rfl
set_option maxHeartbeats 1600000 in
/-- append of one to a row of the call's own: what lay in the old slice still lies there -/
theorem append_keep {ops : Array Oper} {rest : List Oper} {o : Oper} {a : Act} {Q : Exit → Act → World → Prop} (w : World) (hgd : o.guard = none) (s x : Operand)
    (hop : o.op = Op.call { callee := Callee.builtin Builtin.append, args := #[s, x], argTypes := #[51, 51] }) (base b n cap : Nat) (l : List Hd) (hs : a.eval s = .slice (some ⟨b, 0, none⟩) n cap) (hn : l.length = n)
    (hrow : w.ownsRow base 54 6 (.slice (some ⟨b, 0, none⟩) n cap) n (encA l)) (y : Hd) (N c : Nat) (hx : a.eval x = .slice (some ⟨N, 0, none⟩) 1 c) (hN : w.heap[N]? = some (.cells (cel y) 54 (0, 0))) (hle : n ≤ 768)
    (hK : ∀ gg cap' w', w'.ownsRow base 54 6 (.slice (some ⟨gg, 0, none⟩) (n + 1) cap') (n + 1) (encA (l ++ [y])) → (gg = b ∨ w.heap.size ≤ gg) → HeldAt w' (.slice (some ⟨b, 0, none⟩) n cap) l → w.grownBy w' (some b) → wpList Try.prog ops Q rest (a.put o.dst (.slice (some ⟨gg, 0, none⟩) (n + 1) cap')) w') :
    wpList Try.prog ops Q (o :: rest) a w := by
  obtain ⟨i54, hi, hz, hsz, hby⟩ := info54'
  have hrow' := hrow
  obtain ⟨q1, ⟨h0, h00⟩ | ⟨g1, cap1, cur, hv1, hgb, hg1, hnc, hcm, hcs, htk⟩⟩ := hrow
  · cases h0
  cases hv1
  have hlt : b < w.heap.size := (Array.getElem?_eq_some_iff.1 hg1).1
  have hcell : ∀ j u, (encA l)[j]? = some u → w.cell? ⟨b, 0 + j, none⟩ = some u := by
    intro j u hu
    have hj : j < n * 6 := by have := (List.getElem?_eq_some_iff.1 hu).1; rw [encA_len, hn] at this; exact this
    rw [Nat.zero_add, hrow'.cellAt j hj]; exact hu
  have hheld : HeldAt w (.slice (some ⟨b, 0, none⟩) n cap) l := by subst hn; exact HeldAt.of_row hrow'
  refine wpList_append_arg w hgd s x 51 hop 54 i54 (.agg #[.int .i64 0, .int .i64 0, .int .i64 0, .int .i64 0, .int .i64 0, .int .i64 0]) 6 48 Try.underlying51 hi hz hsz hby rfl (by decide) b 0 n cap (encA l) hs (by rw [encA_len, hn]) hcell ⟨N, 0, none⟩ 1 c (cel y).toList hx rfl (fun j u hu => by rw [add0, cell_of_row _ _ _ _ _ _ hN]; simpa using hu) (fun u hu => by simp [cel] at hu; rcases hu with rfl | rfl | rfl | rfl | rfl | rfl <;> rfl) (fun hr j hj => ?_) (by unfold maxLen; omega) (by omega) (fun hr => ?_) (fun hr v' w' ho hg => ?_)
  · refine ⟨?_, frozen_of_row _ _ _ _ _ hg1⟩
    rw [cell_of_row _ _ _ _ _ _ hg1]
    have : j < 6 := hj
    rw [Array.getElem?_eq_getElem (by rw [hcs]; omega)]; rfl
  · obtain ⟨cs', h1, h2, h3⟩ := heap_setCells b 54 (cel y).toList (0 + n * 6) w cur hg1
    have hcl : (cel y).toList.length = 6 := rfl
    have hold : ∀ j, j < n * 6 → cs'[j]? = cur[j]? := fun j hj => by rw [h3 j (by rw [hcs]; omega), if_neg (by omega)]
    obtain ⟨r1, r2, r3, r4⟩ := setCells_rest b (cel y).toList (0 + n * 6) w
    have hgr : w.grownBy (w.setCells b (0 + n * 6) (cel y).toList) (some b) := ⟨r1, r2, r3, by rw [r4]; exact Nat.le_refl _, fun k _ hk => heap_setCells_other b k (fun e => hk (by rw [e])) _ _ _⟩
    refine hK b cap _ ⟨by rw [encA_len, List.length_append, hn]; rfl, .inr ⟨b, cap, cs', rfl, hgb, h1, hr, hcm, by rw [h2, hcs], ?_⟩⟩ (.inl rfl) ?_ hgr
    · apply List.ext_getElem?
      intro j
      rw [encA_snoc]
      by_cases hj : j < (n + 1) * 6
      · rw [List.getElem?_take_of_lt hj, Array.getElem?_toList]
        by_cases hj2 : j < n * 6
        · rw [hold j hj2, List.getElem?_append_left (by rw [encA_len, hn]; exact hj2)]
          have := congrArg (fun z => z[j]?) htk
          simp only [List.getElem?_take_of_lt hj2, Array.getElem?_toList] at this
          exact this
        · rw [h3 j (by rw [hcs]; omega), if_pos (by omega), List.getElem?_append_right (by rw [encA_len, hn]; omega), encA_len, hn, show j - (0 + n * 6) = j - n * 6 by omega]
      · rw [List.getElem?_eq_none (by rw [List.length_take]; omega), List.getElem?_eq_none (by rw [List.length_append, encA_len, hn, hcl]; omega)]
    · obtain ⟨a', c', hv, hc⟩ := hheld
      refine ⟨some ⟨b, 0, none⟩, cap, by rw [hn], fun k hk => ?_⟩
      obtain ⟨g, e, _, k1, k2, k3, k4, k5, k6⟩ := hc k hk
      rw [hn] at hv hk
      cases hv
      cases e
      have hq : ∀ j, j < n * 6 → (w.setCells b (0 + n * 6) (cel y).toList).cell? ⟨b, j, none⟩ = w.cell? ⟨b, j, none⟩ := fun j hj => by
        rw [cell_of_row _ _ _ _ _ _ h1, cell_of_row _ _ _ _ _ _ hg1, hold j hj]
      exact ⟨b, rfl, by rw [r4]; exact hlt, by rw [hq _ (by omega)]; exact k1, by rw [hq _ (by omega)]; exact k2, by rw [hq _ (by omega)]; exact k3, by rw [hq _ (by omega)]; exact k4, by rw [hq _ (by omega)]; exact k5, by rw [hq _ (by omega)]; exact k6⟩
  · obtain ⟨e1, ⟨e2, e3⟩ | ⟨gg, cap', cur', rfl, hgb', hrest⟩⟩ := ho
    · omega
    · have hgr : w.grownBy w' (some b) := ⟨hg.os, hg.tape, hg.output, hg.size, fun k hk _ => hg.block k hk (by simp)⟩
      refine hK gg cap' w' ⟨by rw [encA_len, List.length_append, hn]; rfl, .inr ⟨gg, cap', cur', rfl, by omega, ?_⟩⟩ (.inr hgb') ?_ hgr
      · rw [encA_snoc]; exact hrest
      · refine hheld.below ⟨hg.os, hg.tape, hg.output, hg.size, fun k hk => hg.block k hk (by simp)⟩
section
variable {W wr w' : World} {B : Nat} {F F' : Nat → Prop} {bk bk' : List (Option Lst)} {c c' : Nat → Nat} {o o' : Nat → Bool}
theorem Gs.derive {s : Int} (h : Gs W wr B F bk (some s) c o) (x : Nat) (hx : x ≠ 0) (ho : o x = true) (hc : c x < 48) (xi : Int) (hxi : xi = (x : Int)) :
    Calls Try.prog 10 #[.pointer (some ⟨B, 0, none⟩), .int .i64 0, .int .i64 0, .int .i64 xi, .int .i64 (-1), .int .i64 5] wr fun e w' => ∃ v, e = .returned (.tuple #[.int .i64 v, .int .i64 0]) ∧ ∃ F' bk', Gs W w' B F' bk' (some s) (fun y => if y = x then c x + 1 else c y) o ∧ Ext F wr F' w' := by
  subst hxi
  refine (derive_any wr F B bk h.book 0 0 x (-1) 5).mono ?_
  rintro e w' ⟨v, k, bk', F', rfl, h1, h2, h3⟩
  obtain ⟨_, rfl, hk⟩ := h.kp.derive (fun i l hl => h.book.l48 hl) hx ho hc h3
  exact ⟨v, rfl, F', bk', h.ext h1 h2 hk, h2⟩
theorem Gs.up {s : Int} (h : Gs W wr B F bk (some s) c o) (hc : 0 < c 1) (J : Nat) (h0 : wr.cell? ⟨J, 0, none⟩ = some (.int .i64 5)) (h1 : wr.cell? ⟨J, 1, none⟩ = some (.int .i64 0)) (h2 : wr.cell? ⟨J, 2, none⟩ = some (.int .i64 0)) (h3 : wr.cell? ⟨J, 3, none⟩ = some (.int .i64 99)) :
    Calls Try.prog 13 #[.pointer (some ⟨B, 0, none⟩), .int .i64 1, .int .i64 0, .slice (some ⟨J, 0, none⟩) 4 4] wr fun e w' => e = .returned (.tuple #[.agg #[.int .i64 0, .int .i64 0], .int .i64 0]) ∧ Below wr.heap.size wr w' := by
  have hat : atB bk 1 0 = some (childC s) := by have := h.kp.at_ 1 0; simpa [hc] using this
  have hr0 : atB bk 0 0 = some (rootC s) := by have := h.kp.at_ 0 0; simpa using this
  let Z : Nat → Int := fun k => if k = 0 then 5 else if k = 3 then 99 else 0
  refine (upSome_any wr F B bk h.book _ h.kp.rk 1 0 _ hat (some ⟨J, 0, none⟩) 4 4 Z (by unfold maxLen; omega) ?_).mono ?_
  · intro k hk
    refine ⟨_, rfl, ?_⟩
    rw [add0]
    rcases (by omega : k = 0 ∨ k = 1 ∨ k = 2 ∨ k = 3) with rfl | rfl | rfl | rfl
    · exact h0
    · exact h1
    · exact h2
    · exact h3
  · rintro x w' ⟨p, q, rfl, hu, hb⟩
    have hin : insF Z 4 0 = true := by
      unfold insF
      rw [show ((0 : Int).toNat) = 0 from rfl, insB_get Z 4 0 (by omega)]
      have : ((List.range 4).any (fun j => decide ((if j = 0 then (5 : Int) else if j = 3 then 99 else 0) = ((0 : Nat) : Int)))) = true := by decide
      exact this
    have hu' : Ups bk (insF Z 4) 0 0 p q := hu
    cases hu' with
    | here => exact ⟨rfl, hb⟩
    | up _ _ _ _ _ _ hf => rw [hin] at hf; cases hf
end
end Go.Proofs.Ytimfgjndgfjjgaa
