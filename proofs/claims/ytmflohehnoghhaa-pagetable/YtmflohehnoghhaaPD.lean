import Derived.Test.YtmflohehnoghhaaPC
namespace Go.Proofs.Ytmflohehnoghhaa
open Go.RowKit

abbrev rp' (R : Nat) : Value := .pointer (some ⟨R, 0, none⟩)
section
variable {w : World} {R : Nat} {L : List Mp} {m : Nat → E} {F : Nat → Prop}
theorem newR_any (w : World) : Calls Try.prog 6 #[] w fun e w' => e = .returned (rp' w.heap.size) ∧ RtA w.heap.size [] w' (fun b => b = w.heap.size) ∧ Below w.heap.size w w' := by
  go_enter Try.func6, Try.ntmps6
  go_wp2
  go_ret
  exact ⟨rfl, ⟨.slice none 0 0, ⟨heap_alloc_new _ _, OwM.nil _ _, by simp [Value.ownBlock]⟩, fun b => by simp [Value.ownBlock]⟩, (Below.refl _ _).alloc (Nat.le_refl _) _⟩
theorem slice_of {w : World} {base e size n : Nat} {v : Value} {xs : List Value} (h : w.ownsRow base e size v n xs) : ∃ a c, v = .slice a n c := by
  rcases h.2 with ⟨h1, h2⟩ | ⟨g, cap, cur, h1, _⟩
  · exact ⟨none, 0, by rw [h1, h2]⟩
  · exact ⟨_, _, h1⟩
/-- append to the table's own list -/
theorem RtAt.app {va r2 : Value} {w3 : World} {o : Obj} {z : Mp} {t : Nat} (hR : RtAt w R va L) (he : ∀ b, F b ↔ b = R ∨ va.ownBlock = some b) (ht : L.length = t) (hown : w3.ownsRow 0 64 3 r2 (t + 1) (mcs L ++ z.cells)) (hg : (w.alloc o).grownBy w3 va.ownBlock) (hloc : r2.ownBlock = va.ownBlock ∨ r2.ownBlock = some (w.heap.size + 1)) :
    (w3.frozen? ⟨R, 0, none⟩ = false ∧ w3.cell? ⟨R, 0, none⟩ = some va) ∧ ∃ F', RtA R (L ++ [z]) (w3.setCell ⟨R, 0, none⟩ r2) F' ∧ Ext F w F' (w3.setCell ⟨R, 0, none⟩ r2) := by
  have hb : Below w.heap.size w (w.alloc o) := (Below.refl _ _).alloc (Nat.le_refl _) o
  have h3 : w3.heap[R]? = w.heap[R]? := by rw [hg.block R (Nat.lt_of_lt_of_le hR.lt hb.size) (fun e => hR.ne e.symm), hb.block R hR.lt]
  refine ⟨⟨by rw [World.frozen?_of_block (a := ⟨R, 0, none⟩) h3]; exact hR.frz, by rw [World.cell?_of_block (a := ⟨R, 0, none⟩) h3]; exact hR.cell⟩, ?_⟩
  refine hR.turn he (base := 0) ⟨by rw [List.length_append, ht, mcs_snoc]; exact hown⟩ ?_ ?_ ?_ h3
  · rcases hloc with e | e
    · rw [e]; exact hR.ne
    · rw [e]; have := hR.lt; intro e2; cases e2; omega
  · refine ⟨hg.os.trans hb.os, hg.tape.trans hb.tape, hg.output.trans hb.output, Nat.le_trans hb.size hg.size, fun k hk hf => ?_⟩
    rw [hg.block k (Nat.lt_of_lt_of_le hk hb.size) (fun e => hf ((he k).2 (.inr e.symm))), hb.block k hk]
  · intro b hb'
    rcases hloc with e | e
    · exact .inl ((he b).2 (.inr (by rw [← e, hb'])))
    · rw [hb'] at e; cases e; right; omega
/-- a new list in the place of the old one -/
theorem RtAt.fresh {va r2 : Value} {w3 : World} {K : List Mp} (hR : RtAt w R va L) (he : ∀ b, F b ↔ b = R ∨ va.ownBlock = some b) (hown : OwM w3 w.heap.size r2 K) (hb : Below w.heap.size w w3) :
    (w3.frozen? ⟨R, 0, none⟩ = false ∧ w3.cell? ⟨R, 0, none⟩ = some va) ∧ ∃ F', RtA R K (w3.setCell ⟨R, 0, none⟩ r2) F' ∧ Ext F w F' (w3.setCell ⟨R, 0, none⟩ r2) := by
  have h3 : w3.heap[R]? = w.heap[R]? := hb.block R hR.lt
  refine ⟨⟨by rw [World.frozen?_of_block (a := ⟨R, 0, none⟩) h3]; exact hR.frz, by rw [World.cell?_of_block (a := ⟨R, 0, none⟩) h3]; exact hR.cell⟩, ?_⟩
  refine hR.turn he hown (fun e => by have := (hown.blk e).1; have := hR.lt; omega) (Mod.of_below hb) (fun b e => .inr (hown.blk e).1) h3
/-- Map, where nothing changes -/
theorem mapR_page (v s : Int) (b : Bool) (hv : NoPage v) : Calls Try.prog 19 #[rp' R, .int .i64 v, .int .i64 s, .bool b] w fun e w' => e = .returned (.int .i64 60) ∧ w' = w := by
  rcases hv with hv | hv
  · have d1 : decide (v < 0) = true := by simp; omega
    go_enter Try.func19, Try.ntmps19
    go_wp2
    go_ret
    exact ⟨rfl, rfl⟩
  · have d1 : decide (v < 0) = false := by simp; omega
    have d2 : decide (16 ≤ v) = true := by simp; omega
    go_enter Try.func19, Try.ntmps19
    go_wp2
    go_ret
    exact ⟨rfl, rfl⟩
theorem mapR_slot (v : Nat) (hv : v < 16) (s : Int) (b : Bool) (hs : NoSlot s) : Calls Try.prog 19 #[rp' R, .int .i64 (v : Int), .int .i64 s, .bool b] w fun e w' => e = .returned (.int .i64 30) ∧ w' = w := by
  have d0 : decide ((v : Int) < 0) = false := by simp
  have d00 : decide (16 ≤ (v : Int)) = false := by simp; omega
  rcases hs with hs | hs
  · have d1 : decide (s < 0) = true := by simp; omega
    go_enter Try.func19, Try.ntmps19
    go_wp2
    go_ret
    exact ⟨rfl, rfl⟩
  · have d1 : decide (s < 0) = false := by simp; omega
    have d2 : decide (48 ≤ s) = true := by simp; omega
    go_enter Try.func19, Try.ntmps19
    go_wp2
    go_ret
    exact ⟨rfl, rfl⟩
theorem mapR_there (h : RtA R L w F) (hg : Ag m L) (v s : Nat) (b : Bool) (hv : v < 16) (hs : s < 48) (hm : (m v).isSome = true) : Calls Try.prog 19 #[rp' R, .int .i64 (v : Int), .int .i64 (s : Int), .bool b] w fun e w' => e = .returned (.int .i64 61) ∧ w' = w := by
  obtain ⟨⟨s', b'⟩, hm⟩ := Option.isSome_iff_exists.1 hm
  obtain ⟨i, hi⟩ := hg.hit hv hm
  obtain ⟨va, hR, _⟩ := h
  have c0 := hR.cell
  have d0 : decide ((v : Int) < 0) = false := by simp
  have d00 : decide (16 ≤ (v : Int)) = false := by simp; omega
  have d1 : decide ((s : Int) < 0) = false := by simp
  have d2 : decide (48 ≤ (s : Int)) = false := by simp; omega
  have HA := hide (at_hit hR.row (by have := hg.len; omega) hg.ne hi (v := (v : Int)) rfl)
  go_enter Try.func19, Try.ntmps19
  go_wp2_with fail
  refine HA.out.mono ?_
  rintro e w1 ⟨rfl, rfl⟩
  have d3 : decide (0 ≤ (i : Int)) = true := by simp
  go_wp2
  go_ret
  exact ⟨rfl, rfl⟩
theorem mapR_ok (h : RtA R L w F) (hg : Ag m L) (v s : Nat) (b : Bool) (hv : v < 16) (hs : s < 48) (hm : m v = none) : Calls Try.prog 19 #[rp' R, .int .i64 (v : Int), .int .i64 (s : Int), .bool b] w fun e w' => e = .returned (.int .i64 0) ∧ ∃ F', RtA R (L ++ [⟨(v : Int), (s : Int), b⟩]) w' F' ∧ Ext F w F' w' := by
  obtain ⟨va, hR, he⟩ := h
  obtain ⟨i50, hi, hz0, hsz, hby⟩ := info50'
  have c0 := hR.cell
  have f0 := hR.frz
  have hlen := hg.len
  have HA := hide (at_miss hR.row (by omega) (hg.no hv hm))
  have d0 : decide ((v : Int) < 0) = false := by simp
  have d00 : decide (16 ≤ (v : Int)) = false := by simp; omega
  have d1 : decide ((s : Int) < 0) = false := by simp
  have d2 : decide (48 ≤ (s : Int)) = false := by simp; omega
  obtain ⟨a2, c2, hva⟩ := hR.row.len
  obtain ⟨t, ht⟩ : ∃ t, L.length = t := ⟨_, rfl⟩
  rw [ht] at hva hlen
  subst hva
  have HO2 : Hid (w.ownsRow 0 64 3 (.slice a2 t c2) t (mcs L)) := hide (by have := hR.row.out; rw [ht] at this; exact this)
  have HR := hide hR
  have HE := hide he
  have HT := hide ht
  clear hR he hg ht
  go_enter Try.func19, Try.ntmps19
  go_wp2_with fail
  refine HA.out.mono ?_
  rintro e w1 ⟨rfl, hw1⟩
  rw [hw1]
  clear hw1 w1 HA
  go_wp2_with (at_builtin; refine wpList_append_own_at _ rfl _ _ 32 rfl 0 64 i50 (.agg #[.int .i64 0, .int .i64 0, .bool false]) 3 24 Try.underlying32 hi hz0 hsz hby rfl (by decide) _ t (mcs L) rfl (HO2.out.alloc _) ⟨w.heap.size, 0, none⟩ 1 1 (Mp.cells ⟨(v : Int), (s : Int), b⟩) rfl rfl ?c1 (cells_one _) ?c3 ?c4 ?c5 ?_)
  case c1 => exact cells_new w ⟨(v : Int), (s : Int), b⟩
  case c3 => unfold maxLen; omega
  case c4 => omega
  case c5 => exact Nat.zero_le _
  intro r2 w3 hown hg3 _ hloc
  obtain ⟨⟨f3, c3⟩, F', h1, h2⟩ := HR.out.app HE.out HT.out hown hg3 hloc
  obtain ⟨a5, c5, hr5⟩ := slice_of hown
  subst hr5
  have HF := hide (And.intro h1 h2)
  clear h1 h2 hown hg3 hloc f0 c0
  go_wp2
  go_ret
  exact ⟨rfl, F', HF.out.1, HF.out.2⟩
theorem unmapR_no (v : Int) (hv : NoPage v) : Calls Try.prog 21 #[rp' R, .int .i64 v] w fun e w' => e = .returned (.int .i64 60) ∧ w' = w := by
  rcases hv with hv | hv
  · have d1 : decide (v < 0) = true := by simp; omega
    go_enter Try.func21, Try.ntmps21
    go_wp2
    go_ret
    exact ⟨rfl, rfl⟩
  · have d1 : decide (v < 0) = false := by simp; omega
    have d2 : decide (16 ≤ v) = true := by simp; omega
    go_enter Try.func21, Try.ntmps21
    go_wp2
    go_ret
    exact ⟨rfl, rfl⟩
theorem unmapR_un (h : RtA R L w F) (hg : Ag m L) (v : Nat) (hv : v < 16) (hm : m v = none) : Calls Try.prog 21 #[rp' R, .int .i64 (v : Int)] w fun e w' => e = .returned (.int .i64 62) ∧ w' = w := by
  obtain ⟨va, hR, _⟩ := h
  have c0 := hR.cell
  have d0 : decide ((v : Int) < 0) = false := by simp
  have d00 : decide (16 ≤ (v : Int)) = false := by simp; omega
  have HA := hide (at_miss hR.row (by have := hg.len; omega) (hg.no hv hm))
  go_enter Try.func21, Try.ntmps21
  go_wp2_with fail
  refine HA.out.mono ?_
  rintro e w1 ⟨rfl, rfl⟩
  have d9 : decide ((-1 : Int) < 0) = true := rfl
  go_wp2
  go_ret
  exact ⟨rfl, rfl⟩
theorem unmapR_ok (h : RtA R L w F) (hg : Ag m L) (v s : Nat) (b : Bool) (hv : v < 16) (hm : m v = some (s, b)) : Calls Try.prog 21 #[rp' R, .int .i64 (v : Int)] w fun e w' => e = .returned (.int .i64 0) ∧ ∃ K F', Ag (upd m v none) K ∧ RtA R K w' F' ∧ Ext F w F' w' := by
  obtain ⟨va, hR, he⟩ := h
  obtain ⟨i, hi⟩ := hg.hit hv hm
  have c0 := hR.cell
  have d0 : decide ((v : Int) < 0) = false := by simp
  have d00 : decide (16 ≤ (v : Int)) = false := by simp; omega
  have HA := hide (at_hit hR.row (by have := hg.len; omega) hg.ne hi (v := (v : Int)) rfl)
  have HW := hide (without_any w va L 0 hR.row (by have := hg.len; omega) i)
  have HC := hide (hg.cut hv hi rfl)
  have HR := hide hR
  have HE := hide he
  have d3 : decide ((i : Int) < 0) = false := by simp
  clear hR he hg
  go_enter Try.func21, Try.ntmps21
  go_wp2_with fail
  refine HA.out.mono ?_
  rintro e w1 ⟨rfl, hw1⟩
  rw [hw1]
  clear hw1 w1 HA
  go_wp2_with fail
  refine HW.out.mono ?_
  rintro e w2 ⟨r, rfl, hr, hb⟩
  obtain ⟨⟨f3, c3⟩, F', h1, h2⟩ := HR.out.fresh HE.out hr hb
  obtain ⟨a5, c5, hr5⟩ := hr.len
  subst hr5
  have HF := hide (And.intro h1 h2)
  clear h1 h2 hr hb c0
  go_wp2
  go_ret
  exact ⟨rfl, _, F', HC.out, HF.out.1, HF.out.2⟩
theorem protR_no (v : Int) (b : Bool) (hv : NoPage v) : Calls Try.prog 23 #[rp' R, .int .i64 v, .bool b] w fun e w' => e = .returned (.int .i64 60) ∧ w' = w := by
  rcases hv with hv | hv
  · have d1 : decide (v < 0) = true := by simp; omega
    go_enter Try.func23, Try.ntmps23
    go_wp2
    go_ret
    exact ⟨rfl, rfl⟩
  · have d1 : decide (v < 0) = false := by simp; omega
    have d2 : decide (16 ≤ v) = true := by simp; omega
    go_enter Try.func23, Try.ntmps23
    go_wp2
    go_ret
    exact ⟨rfl, rfl⟩
theorem protR_un (h : RtA R L w F) (hg : Ag m L) (v : Nat) (b : Bool) (hv : v < 16) (hm : m v = none) : Calls Try.prog 23 #[rp' R, .int .i64 (v : Int), .bool b] w fun e w' => e = .returned (.int .i64 62) ∧ w' = w := by
  obtain ⟨va, hR, _⟩ := h
  have c0 := hR.cell
  have d0 : decide ((v : Int) < 0) = false := by simp
  have d00 : decide (16 ≤ (v : Int)) = false := by simp; omega
  have HA := hide (at_miss hR.row (by have := hg.len; omega) (hg.no hv hm))
  go_enter Try.func23, Try.ntmps23
  go_wp2_with fail
  refine HA.out.mono ?_
  rintro e w1 ⟨rfl, rfl⟩
  have d9 : decide ((-1 : Int) < 0) = true := rfl
  go_wp2
  go_ret
  exact ⟨rfl, rfl⟩
theorem RtAt.setW {g cap n i : Nat} {z y : Mp} (hR : RtAt w R (.slice (some ⟨g, 0, none⟩) n cap) L) (he : ∀ b, F b ↔ b = R ∨ (Value.slice (some ⟨g, 0, none⟩) n cap).ownBlock = some b) (hi : L[i]? = some z) (hy : y = ⟨z.v, z.s, y.b⟩) :
    RtA R (L.set i y) (w.setCell ⟨g, i * 3 + 2, none⟩ (.bool y.b)) F ∧ Ext F w F (w.setCell ⟨g, i * 3 + 2, none⟩ (.bool y.b)) := by
  have hne : g ≠ R := fun e => hR.ne (by simp [Value.ownBlock, e])
  have hil : i < L.length := (List.getElem?_eq_some_iff.1 hi).1
  have hrow := hR.row
  obtain ⟨hl, ⟨h0, _⟩ | ⟨g', cap', cur, hv, hb, hgg, hn, hm, hs, ht⟩⟩ := hrow.out
  · cases h0
  · cases hv
    refine ⟨⟨_, ⟨(heap_setCell_other _ _ _ _ (fun e => hne e.symm)).trans hR.top, ⟨⟨?_, .inr ⟨g, cap, _, by rw [List.length_set], Nat.zero_le _, heap_setCell_same w g (i * 3 + 2) cur _ (.bool y.b) hgg, by rw [List.length_set]; exact hn, hm, by rw [Array.size_setIfInBounds]; exact hs, ?_⟩⟩⟩, hR.ne⟩, he⟩, (Mod.refl _ _).setCell (.inl ((he g).2 (.inr rfl))) _, fun _ h => .inl h⟩
    · rw [mcs_len, List.length_set]
    · apply List.ext_getElem?
      intro j
      rw [List.length_set, mcs_set L hil]
      have h1 : (cur.toList.take (L.length * 3))[j]? = (mcs L)[j]? := by rw [ht]
      by_cases hj : j < L.length * 3
      · rw [List.getElem?_take_of_lt hj] at h1 ⊢
        rw [Array.toList_setIfInBounds, List.getElem?_set]
        by_cases hj2 : i * 3 ≤ j ∧ j < i * 3 + 3
        · rw [if_pos hj2]
          have h2 := mcs_get L hi (j := j - i * 3) (by omega)
          rw [show i * 3 + (j - i * 3) = j by omega, ← h1] at h2
          by_cases e : i * 3 + 2 = j
          · rw [if_pos e, if_pos (by rw [Array.length_toList, hs]; omega), hy, show j - i * 3 = 2 by omega]; rfl
          · rw [if_neg e, h2, hy]
            obtain e3 | e3 : j - i * 3 = 0 ∨ j - i * 3 = 1 := by omega
            · rw [e3]; rfl
            · rw [e3]; rfl
        · rw [if_neg hj2, if_neg (by omega)]; exact h1
      · rw [List.getElem?_eq_none (by rw [List.length_take]; omega), if_neg (by omega), List.getElem?_eq_none (by rw [mcs_len]; omega)]
theorem protR_ok (h : RtA R L w F) (hg : Ag m L) (v s : Nat) (c b : Bool) (hv : v < 16) (hm : m v = some (s, c)) : Calls Try.prog 23 #[rp' R, .int .i64 (v : Int), .bool b] w fun e w' => e = .returned (.int .i64 0) ∧ ∃ K F', Ag (upd m v (some (s, b))) K ∧ RtA R K w' F' ∧ Ext F w F' w' := by
  obtain ⟨va, hR, he⟩ := h
  obtain ⟨i, hi⟩ := hg.hit hv hm
  have hil : i < L.length := (List.getElem?_eq_some_iff.1 hi).1
  have d0 : decide ((v : Int) < 0) = false := by simp
  have d00 : decide (16 ≤ (v : Int)) = false := by simp; omega
  have HA := hide (at_hit hR.row (by have := hg.len; omega) hg.ne hi (v := (v : Int)) rfl)
  have HC := hide (hg.prot (b := b) hv hm hi)
  obtain ⟨g, cp, hva, -, -, hfz⟩ := hR.row.some_of (by omega)
  obtain ⟨t, ht⟩ : ∃ t, L.length = t := ⟨_, rfl⟩
  rw [ht] at hva hil
  subst hva
  have c0 := hR.cell
  obtain ⟨q0, q1, q2⟩ := hR.row.cell hi
  have HS := hide (hR.setW he hi (y := ⟨(v : Int), (s : Int), b⟩) rfl)
  have hfz2 := hfz (i * 3 + 2)
  have d3 : decide ((i : Int) < 0) = false := by simp
  have hil2 : (i : Int) < (t : Int) := by omega
  clear hR he hg hfz ht
  go_enter Try.func23, Try.ntmps23
  go_wp2_with fail
  refine HA.out.mono ?_
  rintro e w1 ⟨rfl, hw1⟩
  rw [hw1]
  clear hw1 w1 HA
  go_wp2
  go_ret
  exact ⟨rfl, _, F, HC.out, HS.out.1, HS.out.2⟩
end
end Go.Proofs.Ytmflohehnoghhaa
