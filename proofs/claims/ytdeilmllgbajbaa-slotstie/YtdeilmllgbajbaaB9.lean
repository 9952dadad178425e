import Derived.Test.YtdeilmllgbajbaaB8
namespace Go.Proofs.Ytdeilmllgbajbaa
open Go.RowKit

set_option maxHeartbeats 800000 in
theorem right_any (w : World) (F : Nat → Prop) (J : Nat) (L : List (Int × Int)) (h : Rb w F J L) (hL : L.length ≤ 4398046511104) (a : Int) :
    Calls Try.prog 37 #[.pointer (some ⟨J, 0, none⟩), .int .i64 a] w fun x w' => (∃ q : Int, x = .returned (.int .i64 q) ∧ ((q = -1 ∧ ∀ p ∈ L, p.2 ≠ a) ∨ ∃ (i : Nat) (b : Int), q = i ∧ L[i]? = some (b, a))) ∧ w' = w := by
  obtain ⟨v, h⟩ := h
  obtain ⟨ao, cap, rfl⟩ := own_shape h.row
  have c0 := h.cell.1
  have HA : Hid (∀ (k : Nat) (p : Int × Int), L[k]? = some p → ∃ g, ao = some ⟨g, 0, none⟩ ∧ w.cell? ⟨g, k * 2 + 1, none⟩ = some (.int .i64 p.2)) := hide (fun k p hk => by
    obtain ⟨g, c, hv, h1, h2⟩ := h.at hk
    cases hv; exact ⟨g, rfl, h2⟩)
  have HL : Hid (∀ k, k < L.length → ∃ p, L[k]? = some p) := hide (fun k hk => ⟨_, List.getElem?_eq_getElem hk⟩)
  have HE : Hid (∀ k, (∀ (j : Nat) (p : Int × Int), j < k → L[j]? = some p → p.2 ≠ a) → L.length ≤ k → ∀ p ∈ L, p.2 ≠ a) := hide (fun k hj hk p hp => by
    obtain ⟨j, hj2⟩ := List.getElem?_of_mem hp
    exact hj j p (by have := (List.getElem?_eq_some_iff.1 hj2).1; omega) hj2)
  clear h
  generalize L.length = n at *
  go_enter Try.func37, Try.ntmps37
  go_wp2
  go_loopw [5] (fun i wr => ∃ k : Nat, k ≤ n ∧ i = .int .i64 k ∧ wr = w ∧ Hid (∀ (j : Nat) (p : Int × Int), j < k → L[j]? = some p → p.2 ≠ a)) (fun i _ => n - (intOf i).toNat)
  case atStart => exact ⟨0, by omega, rfl, rfl, fun j p h2 => by omega⟩
  case round =>
    obtain ⟨k, hk, rfl, rfl, hH⟩ := hrel
    by_cases hlt : k < n
    · obtain ⟨p, hp⟩ := HL.out k hlt
      obtain ⟨g, rfl, c2⟩ := HA.out k p hp
      have HP := hide hp
      clear hp
      by_cases hpa : p.2 = a
      · have hd : (p.2 == a) = true := by simp [hpa]
        have HPA := hide hpa
        clear hpa
        go_wp2
        go_ret
        exact ⟨⟨_, rfl, .inr ⟨k, p.1, rfl, by rw [HP.out, ← HPA.out]⟩⟩, rfl⟩
      · have hd : (p.2 == a) = false := by simp [hpa]
        have HPA := hide hpa
        clear hpa
        go_wp2
        go_roundw
        case rel => exact ⟨k + 1, by omega, by go_num, by first | rfl | trivial, fun j q h1 h2 => by
            rcases Nat.lt_or_ge j k with h3 | h3
            · exact hH j q h3 h2
            · obtain rfl : j = k := by omega
              rw [HP.out] at h2; cases h2; exact HPA.out⟩
        case measure => simp [intOf]; omega
    · have HF := hide (HE.out k hH (by omega))
      go_wp2
      go_ret
      exact ⟨⟨_, rfl, .inl ⟨rfl, HF.out⟩⟩, rfl⟩
theorem left_at {L : List (Int × Int)} (ht : Tight L) {a q : Int} (h : (q = -1 ∧ ∀ p ∈ L, p.1 ≠ a) ∨ ∃ (i : Nat) (b : Int), q = i ∧ L[i]? = some (a, b)) : (q = -1 ∧ atI L a = none) ∨ ∃ (i : Nat) (b : Int), q = i ∧ L[i]? = some (a, b) ∧ atI L a = some b := by
  rcases h with ⟨rfl, h⟩ | ⟨i, b, rfl, h⟩
  · refine .inl ⟨rfl, ?_⟩
    cases hq : atI L a with
    | none => rfl
    | some b => exact absurd rfl (h _ (atK_some key_int hq))
  · exact .inr ⟨i, b, rfl, h, (idx_at ht.a h).1⟩
theorem right_at {L : List (Int × Int)} (ht : Tight L) {a q : Int} (h : (q = -1 ∧ ∀ p ∈ L, p.2 ≠ a) ∨ ∃ (i : Nat) (b : Int), q = i ∧ L[i]? = some (b, a)) : (q = -1 ∧ atI (sw L) a = none) ∨ ∃ (i : Nat) (b : Int), q = i ∧ L[i]? = some (b, a) ∧ atI (sw L) a = some b := by
  rcases h with ⟨rfl, h⟩ | ⟨i, b, rfl, h⟩
  · refine .inl ⟨rfl, ?_⟩
    cases hq : atI (sw L) a with
    | none => rfl
    | some b =>
      have := atK_some key_int hq
      unfold sw at this
      obtain ⟨p, hp, e⟩ := List.mem_map.1 this
      exact absurd (congrArg Prod.fst e) (h p hp)
  · exact .inr ⟨i, b, rfl, h, (idx_at ht.sw.a (sw_at.2 h)).1⟩
set_option maxHeartbeats 800000 in
theorem toRb_any (w : World) (F : Nat → Prop) (J : Nat) (L : List (Int × Int)) (h : Rb w F J L) (ht : Tight L) (hL : L.length ≤ 4398046511104) (a : Int) :
    Calls Try.prog 29 #[.pointer (some ⟨J, 0, none⟩), .int .i64 a] w fun x w' => x = .returned (.tuple #[.int .i64 ((atI L a).getD 0), .bool (atI L a).isSome]) ∧ w' = w := by
  have HF := hide (left_any w F J L h hL a)
  obtain ⟨v, h⟩ := h
  have c0 := h.cell.1
  have HT := hide ht
  have HA : Hid (∀ (k : Nat) (p : Int × Int), L[k]? = some p → ∃ g cap, v = .slice (some ⟨g, 0, none⟩) L.length cap ∧ w.cell? ⟨g, k * 2, none⟩ = some (.int .i64 p.1) ∧ w.cell? ⟨g, k * 2 + 1, none⟩ = some (.int .i64 p.2) ∧ k < L.length) := hide (fun k p hk => by
    obtain ⟨g, c, hv, h1, h2⟩ := h.at hk
    exact ⟨g, c, hv, h1, h2, (List.getElem?_eq_some_iff.1 hk).1⟩)
  clear h ht
  generalize L.length = n at *
  go_enter Try.func29, Try.ntmps29
  go_wp2_with fail
  refine HF.out.mono ?_
  rintro e w1 ⟨⟨q, rfl, hq⟩, rfl⟩
  rcases left_at HT.out hq with ⟨rfl, hn⟩ | ⟨k, b, rfl, hk, hn⟩
  · have HN := hide hn
    clear hn hq
    go_wp2
    go_ret2
    exact ⟨by rw [HN.out]; rfl, rfl⟩
  · have HN := hide hn
    obtain ⟨g, cap, rfl, h1, h2, h3⟩ := HA.out k _ hk
    have h4 : ¬ (k : Int) < 0 := by omega
    clear hn hk hq
    go_wp2
    go_ret2
    exact ⟨by rw [HN.out]; rfl, rfl⟩
set_option maxHeartbeats 800000 in
theorem backRb_any (w : World) (F : Nat → Prop) (J : Nat) (L : List (Int × Int)) (h : Rb w F J L) (ht : Tight L) (hL : L.length ≤ 4398046511104) (a : Int) :
    Calls Try.prog 32 #[.pointer (some ⟨J, 0, none⟩), .int .i64 a] w fun x w' => x = .returned (.tuple #[.int .i64 ((atI (sw L) a).getD 0), .bool (atI (sw L) a).isSome]) ∧ w' = w := by
  have HF := hide (right_any w F J L h hL a)
  obtain ⟨v, h⟩ := h
  have c0 := h.cell.1
  have HT := hide ht
  have HA : Hid (∀ (k : Nat) (p : Int × Int), L[k]? = some p → ∃ g cap, v = .slice (some ⟨g, 0, none⟩) L.length cap ∧ w.cell? ⟨g, k * 2, none⟩ = some (.int .i64 p.1) ∧ w.cell? ⟨g, k * 2 + 1, none⟩ = some (.int .i64 p.2) ∧ k < L.length) := hide (fun k p hk => by
    obtain ⟨g, c, hv, h1, h2⟩ := h.at hk
    exact ⟨g, c, hv, h1, h2, (List.getElem?_eq_some_iff.1 hk).1⟩)
  clear h ht
  generalize L.length = n at *
  go_enter Try.func32, Try.ntmps32
  go_wp2_with fail
  refine HF.out.mono ?_
  rintro e w1 ⟨⟨q, rfl, hq⟩, rfl⟩
  rcases right_at HT.out hq with ⟨rfl, hn⟩ | ⟨k, b, rfl, hk, hn⟩
  · have HN := hide hn
    clear hn hq
    go_wp2
    go_ret2
    exact ⟨by rw [HN.out]; rfl, rfl⟩
  · have HN := hide hn
    obtain ⟨g, cap, rfl, h1, h2, h3⟩ := HA.out k _ hk
    have h4 : ¬ (k : Int) < 0 := by omega
    clear hn hk hq
    go_wp2
    go_ret2
    exact ⟨by rw [HN.out]; rfl, rfl⟩
theorem ownsRow_succ' {W : World} {base : Nat} {e : TypeId} {size : Nat} {v : Value} {k : Nat} {xs : List Value} (h : W.ownsRow base e size v (k + 1) xs) : ∃ g cap, v = .slice (some ⟨g, 0, none⟩) (k + 1) cap := by
  obtain ⟨_, ⟨_, h0⟩ | ⟨g, cap, cur, rfl, _⟩⟩ := h
  · omega
  · exact ⟨g, cap, rfl⟩
theorem infoP : ∃ i, Try.prog.info? 71 = some i ∧ i.zero = some (.agg #[.int .i64 0, .int .i64 0]) ∧ i.size = 2 ∧ i.bytes = 16 := info_parts (by kernel_rfl)
theorem blk2 {w1 : World} {b : Nat} {x0 x1 : Value} {t : TypeId} (h : w1.heap[b]? = some (.cells #[x0, x1] t (0, 0))) : w1.cell? ⟨b, 0, none⟩ = some x0 ∧ w1.cell? ⟨b, 1, none⟩ = some x1 :=
  ⟨by rw [cell_of_row _ _ _ _ _ _ h]; rfl, by rw [cell_of_row _ _ _ _ _ _ h]; rfl⟩
theorem cell_two_new (w : World) (a b : Value) (t : TypeId) : ∀ j u, [a, b][j]? = some u → (w.alloc (.cells #[a, b] t)).cell? ((⟨w.heap.size, 0, none⟩ : Addr).add j) = some u := by
  intro j u hj
  obtain ⟨c0, c1⟩ := blk2 (heap_alloc_new w (.cells #[a, b] t))
  rw [add0]
  match j, hj with
  | 0, hj => simp at hj; subst hj; exact c0
  | 1, hj => simp at hj; subst hj; exact c1
  | j + 2, hj => simp at hj
/-- the row behind an append, laid into the tie -/
theorem RbAt.app {w W W' : World} {F : Nat → Prop} {J : Nat} {v v' : Value} {L L' : List (Int × Int)} (h : RbAt w F J v L) (hb : Below w.heap.size w W) (hg : W.grownBy W' v.ownBlock) (hloc : v'.ownBlock = v.ownBlock ∨ v'.ownBlock = some W.heap.size) (hown : W'.ownsRow 0 71 2 v' L'.length (encP L')) :
    RbAt (W'.setCell ⟨J, 0, none⟩ v') (fun b => F b ∨ v'.ownBlock = some b) J v' L' ∧ Ext F w (fun b => F b ∨ v'.ownBlock = some b) (W'.setCell ⟨J, 0, none⟩ v') := by
  have hJ := h.lt J h.fJ
  have s1 := hb.size
  have s2 := hg.size
  have nJ : v'.ownBlock ≠ some J := fun e => by
    rcases hloc with h1 | h1
    · exact h.nJ (by rw [← h1, e])
    · rw [e] at h1; simp at h1; omega
  have tJ : W'.heap[J]? = some (.cells #[v] 45 (0, 0)) := by
    rw [hg.block J (by omega) (fun e => h.nJ e.symm), hb.block J hJ]; exact h.top
  refine ⟨⟨?_, ownsRow_keep hown (fun b e => heap_setCell_other _ _ _ _ (fun e' => nJ (by rw [← show b = J from e']; exact e))), nJ, .inl h.fJ, fun b e => .inr e, ?_⟩, ⟨⟨?_, ?_, ?_, ?_, ?_⟩, ?_⟩⟩
  · rw [heap_setCell_same _ J 0 _ _ _ tJ]; rfl
  · rintro b (hb' | e)
    · have := h.lt b hb'; simp [World.setCell]; omega
    · have := ownsRow_lt hown e; simpa [World.setCell] using this
  · exact hg.os.trans hb.os
  · exact hg.tape.trans hb.tape
  · exact hg.output.trans hb.output
  · simp [World.setCell]; omega
  · intro b hb' hf
    rw [heap_setCell_other _ _ _ _ (fun e => hf (by rw [show b = J from e]; exact h.fJ)), hg.block b (by omega) (fun e => hf (h.fv b e.symm))]
    exact hb.block b hb'
  · rintro b (hb' | e)
    · exact .inl hb'
    · rcases hloc with h1 | h1
      · exact .inl (h.fv b (by rw [← h1, e]))
      · rw [e] at h1; simp at h1; exact .inr (by omega)
set_option maxHeartbeats 1600000 in
theorem tieRb_any (w : World) (F : Nat → Prop) (J : Nat) (L : List (Int × Int)) (h : Rb w F J L) (ht : Tight L) (hL : L.length < 4398046511104) (a b : Int) :
    Calls Try.prog 25 #[.pointer (some ⟨J, 0, none⟩), .int .i64 a, .int .i64 b] w fun x w' => ∃ F', x = .returned (.bool (tieR L a b)) ∧ Rb w' F' J (tieL L a b) ∧ Ext F w F' w' := by
  obtain ⟨i3, hi, hz, hs3, hb3⟩ := infoP
  have HF := hide (left_any w F J L h (Nat.le_of_lt hL) a)
  have HG := hide (right_any w F J L h (Nat.le_of_lt hL) b)
  have HR := hide h
  obtain ⟨v, h⟩ := h
  obtain ⟨c0, f0⟩ := h.cell
  have HH := hide h
  have HT := hide ht
  obtain ⟨ao, cap, rfl⟩ := own_shape h.row
  have hJl := h.lt J h.fJ
  clear h ht
  go_enter Try.func25, Try.ntmps25
  go_wp2_with fail
  refine HF.out.mono ?_
  rintro e w1 ⟨⟨q, rfl, hq⟩, rfl⟩
  go_wp2_with fail
  refine HG.out.mono ?_
  rintro e w2 ⟨⟨r, rfl, hr⟩, rfl⟩
  rcases left_at HT.out hq with ⟨rfl, hn⟩ | ⟨k, b', rfl, hk, hn⟩
  · rcases right_at HT.out hr with ⟨rfl, hn2⟩ | ⟨k2, a', rfl, hk2, hn2⟩
    · obtain ⟨e1, e2⟩ := tieL_yes hn hn2
      have HE := hide (And.intro e1 e2)
      have HRw := hide HH.out.row
      clear hq hr hn hn2 e1 e2
      obtain ⟨n, hnn⟩ : ∃ n, L.length = n := ⟨_, rfl⟩
      have HNN := hide hnn
      rw [hnn] at hL HRw c0
      clear hnn
      go_upto_region 6 with (at_builtin; refine wpList_append_own_at _ rfl _ _ 43 rfl 0 71 i3 (.agg #[.int .i64 0, .int .i64 0]) 2 16 Try.underlying43 hi hz hs3 hb3 rfl (by decide) (.slice ao n cap) n (encP L) rfl (HRw.out.alloc _) ⟨w2.heap.size, 0, none⟩ 1 1 [.int .i64 a, .int .i64 b] rfl rfl (cell_two_new _ _ _ _) (by simp [Value.oneCell']) (by unfold maxLen; omega) (by omega) (by omega) ?_; intro v2 w8 ho8 hg8 _ hl8; have tJ := (hg8.block J (by simp; omega) (fun e => HH.out.nJ (by rw [HNN.out]; exact e.symm))).trans ((Below.heap_alloc _ _ _ hJl).trans HH.out.top); have c8 : w8.cell? ⟨J, 0, none⟩ = some (.slice ao L.length cap) := (cell_of_row _ _ 0 _ _ _ tJ); obtain ⟨g2, k2, rfl⟩ := ownsRow_succ' ho8; have f8 := frozen_of_row _ J 0 _ _ tJ; have HO8 := hide (And.intro ho8 (And.intro hg8 hl8)); clear ho8 hg8 hl8 tJ)
      have HA := hide (HH.out.app (L' := L ++ [(a, b)]) ((Below.refl w2.heap.size w2).alloc (Nat.le_refl _) (.cells #[.int .i64 a, .int .i64 b] 71)) (by rw [HNN.out]; exact HO8.out.2.1) (by rw [HNN.out]; exact HO8.out.2.2) (by rw [encP_snoc, List.length_append, HNN.out]; exact HO8.out.1))
      clear HO8 c8 f8 c0 f0 HRw
      go_wp2
      go_ret
      exact ⟨_, by rw [HE.out.2]; rfl, by rw [HE.out.1]; exact ⟨_, HA.out.1⟩, HA.out.2⟩
    · have hb1 := tieL_b hn hn2
      have HE := hide hb1
      have h4 : ¬ ((k2 : Nat) : Int) < 0 := by omega
      have h5 : ((-1 : Int) == (k2 : Int)) = false := by simp
      clear hq hr hn hn2 hb1 hk2
      go_wp2
      go_ret
      exact ⟨F, by rw [HE.out.2]; rfl, by rw [HE.out.1]; exact HR.out, Ext.refl _ _⟩
  · have HE := hide (tieL_a (b := b) hn)
    have hd : (((k : Nat) : Int) == r) = (b' == b) := by
      rcases right_at HT.out hr with ⟨rfl, hn2⟩ | ⟨k2, a', rfl, hk2, hn2⟩
      · have : b' ≠ b := fun e => by
          subst e
          have := (idx_at HT.out.sw.a (sw_at.2 hk)).1
          rw [hn2] at this; cases this
        rw [show (b' == b) = false by simp [this]]
        simp
      · by_cases hbb : b' = b
        · subst hbb
          have h1 := (idx_at HT.out.sw.a (sw_at.2 hk)).2
          have h2 := (idx_at HT.out.sw.a (sw_at.2 hk2)).2
          rw [h1] at h2; cases h2
          simp
        · have : k ≠ k2 := fun e => by subst e; rw [hk] at hk2; cases hk2; exact hbb rfl
          rw [show (b' == b) = false by simp [hbb]]
          simp; omega
    have h4 : ¬ ((k : Nat) : Int) < 0 := by omega
    clear hq hr hn hk
    generalize (b' == b) = bb at *
    go_wp2
    go_ret
    exact ⟨F, by rw [HE.out.2]; rfl, by rw [HE.out.1]; exact HR.out, Ext.refl _ _⟩
end Go.Proofs.Ytdeilmllgbajbaa
