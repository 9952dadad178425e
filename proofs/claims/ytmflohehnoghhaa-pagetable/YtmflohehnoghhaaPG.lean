import Derived.Test.YtmflohehnoghhaaPF
namespace Go.Proofs.Ytmflohehnoghhaa
open Go.RowKit

/-- what does not lead to a slot -/
def offS (s : Int) (L : List Mp) : List Mp := L.filter (fun z => decide (z.s ≠ s))
def onS (s : Int) (L : List Mp) : Nat := L.countP (fun z => decide (z.s = s))
theorem offS_step {s : Int} {L : List Mp} {k : Nat} {z : Mp} (hk : L[k]? = some z) : offS s (L.take (k + 1)) = if z.s = s then offS s (L.take k) else offS s (L.take k) ++ [z] := by
  unfold offS
  rw [List.take_add_one, hk, List.filter_append]
  by_cases e : z.s = s <;> simp [e]
theorem onS_step {s : Int} {L : List Mp} {k : Nat} {z : Mp} (hk : L[k]? = some z) : onS s (L.take (k + 1)) = if z.s = s then onS s (L.take k) + 1 else onS s (L.take k) := by
  unfold onS
  rw [List.take_add_one, hk, List.countP_append]
  by_cases e : z.s = s <;> simp [e]
theorem offS_len {s : Int} {L : List Mp} {k : Nat} : (offS s (L.take k)).length ≤ L.length := by
  refine Nat.le_trans (List.length_filter_le _ _) ?_
  rw [List.length_take]; omega
section
variable {w : World} {R : Nat} {L : List Mp} {m : Nat → E} {F : Nat → Prop}
set_option maxHeartbeats 2000000 in
theorem forgetR_any (h : RtA R L w F) (hl : L.length ≤ 16) (s : Int) : Calls Try.prog 25 #[rp' R, .int .i64 s] w fun e w' => e = .returned (.int .i64 ((onS s L : Nat) : Int)) ∧ ∃ F', RtA R (offS s L) w' F' ∧ Ext F w F' w' := by
  obtain ⟨i50, hi, hz0, hsz, hby⟩ := info50'
  obtain ⟨va, hR, he⟩ := h
  obtain ⟨ao, cap, hva⟩ := hR.row.len
  obtain ⟨n, hn⟩ : ∃ n, L.length = n := ⟨_, rfl⟩
  rw [hn] at hva hl
  subst hva
  have HR := hide hR
  have HE := hide he
  have HN := hide hn
  clear hR he hn
  go_enter Try.func25, Try.ntmps25
  go_wp2_with fail
  go_loopw [7, 5, 6] (fun x y v wr => ∃ k : Nat, k ≤ n ∧ x = .int .i64 (k : Int) ∧ y = .int .i64 ((onS s (L.take k) : Nat) : Int) ∧ Hid (OwM wr w.heap.size v (offS s (L.take k))) ∧ Hid (Below w.heap.size w wr)) (fun x _ _ _ => n - (intOf x).toNat)
  case atStart => exact ⟨0, by omega, rfl, by simp [onS], hide (by simpa [offS] using OwM.nil w w.heap.size), Below.refl _ _⟩
  case round =>
  obtain ⟨k, hk, rfl, rfl, K1, K2⟩ := hrel
  have hRr := HR.out.below K2.out
  have c0 := hRr.cell
  by_cases hlt : k < n
  · have hd : decide (k < n) = true := by simp; omega
    have hki : (k : Int) < (n : Int) := by omega
    obtain ⟨g, cp, hv, -, -, -⟩ := HR.out.row.some_of (by rw [HN.out]; omega)
    rw [HN.out] at hv
    cases hv
    obtain ⟨z, hz⟩ : ∃ z, L[k]? = some z := ⟨_, List.getElem?_eq_getElem (by rw [HN.out]; exact hlt)⟩
    obtain ⟨q0, q1, q2⟩ := hRr.row.cell hz
    have hcn : onS s (L.take k) ≤ 16 := by
      refine Nat.le_trans List.countP_le_length ?_
      rw [List.length_take]; omega
    have hlen := offS_len (s := s) (L := L) (k := k)
    rw [HN.out] at hlen
    have HS1 := hide (offS_step (s := s) hz)
    have HS2 := hide (onS_step (s := s) hz)
    by_cases e : z.s = s
    · have hb : (z.s == s) = true := by simp [e]
      rw [if_pos e] at HS1 HS2
      rw [← HS1.out] at K1
      generalize onS s (L.take k) = cn at *
      clear hRr hz HS1
      go_wp2
      go_roundw
      case rel =>
        first
          | exact ⟨k + 1, by omega, by go_num, by rw [HS2.out]; go_num, K1, K2⟩
          | ((repeat apply Exists.intro); refine ⟨?_, rfl⟩; exact ⟨k + 1, by omega, by go_num, by rw [HS2.out]; go_num, K1, K2⟩)
      case measure => simp [intOf]; omega
    · have hb : (z.s == s) = false := by simp [e]
      rw [if_neg e] at HS1 HS2
      rw [← HS2.out]
      generalize offS s (L.take k) = X at *
      obtain ⟨a2, c2, he2⟩ := K1.out.len
      obtain ⟨t, ht⟩ : ∃ t, X.length = t := ⟨_, rfl⟩
      rw [ht] at he2 hlen
      subst he2
      have HC := hide (hRr.row.isMaps hz)
      have HO2 : Hid (wr.ownsRow w.heap.size 64 3 (.slice a2 t c2) t (mcs X)) := hide (by have := K1.out.out; rw [ht] at this; exact this)
      have HT := hide ht
      clear hz ht K1 hRr HS2
      go_wp2_with (first
        | refine load_st 64 _ Try.underlying64 rfl [.int .i64 z.v, .int .i64 z.s, .bool z.b] info50 rfl _ rfl ⟨g, k * 3, none⟩ rfl HC.out ?_
        | (at_builtin; refine wpList_append_own _ rfl _ _ 32 rfl w.heap.size 64 i50 (.agg #[.int .i64 0, .int .i64 0, .bool false]) 3 24 Try.underlying32 hi hz0 hsz hby rfl (by decide) _ t (mcs X) rfl (HO2.out.alloc _) ⟨wr.heap.size, 0, none⟩ 1 1 z.cells rfl rfl ?c1 (cells_one _) ?c3 ?c4 ?c5 ?_))
      case c1 => exact cells_new wr z
      case c3 => unfold maxLen; omega
      case c4 => omega
      case c5 => simp; have := K2.out.size; omega
      intro r2 w3 hown hg3 _
      have H2 : Hid (OwM w3 w.heap.size r2 (offS s (L.take (k + 1)))) := hide ⟨by rw [HS1.out, List.length_append, HT.out, mcs_snoc]; exact hown⟩
      have HB2 := hide (below_own K2.out HO2.out hg3 K2.out.size)
      clear hown hg3 c0
      go_wp2
      go_roundw
      case rel =>
        first
          | exact ⟨k + 1, by omega, by go_num, rfl, H2, HB2⟩
          | ((repeat apply Exists.intro); refine ⟨?_, rfl⟩; exact ⟨k + 1, by omega, by go_num, rfl, H2, HB2⟩)
      case measure => simp [intOf]; omega
  · obtain rfl : k = n := by omega
    have hta : L.take k = L := List.take_of_length_le (by rw [HN.out]; exact Nat.le_refl _)
    rw [hta] at K1
    rw [hta]
    obtain ⟨⟨f3, c3⟩, F', h1, h2⟩ := HR.out.fresh HE.out K1.out K2.out
    obtain ⟨a5, c5, hr5⟩ := K1.out.len
    subst hr5
    have HF := hide (And.intro h1 h2)
    clear h1 h2 K1 K2 hRr
    go_wp2
    go_ret
    exact ⟨rfl, F', HF.out.1, HF.out.2⟩
set_option maxHeartbeats 2000000 in
theorem entriesR_any (h : RtA R L w F) (hg : Ag m L) : Calls Try.prog 15 #[rp' R] w fun e w' => ∃ r, e = .returned r ∧ OwM w' w.heap.size r (ents m 16) ∧ Below w.heap.size w w' := by
  obtain ⟨i50, hi, hz0, hsz, hby⟩ := info50'
  obtain ⟨va, hR, he⟩ := h
  have HR := hide hR
  have HG := hide hg
  clear hR he hg
  go_enter Try.func15, Try.ntmps15
  go_wp2_with fail
  go_loopw [4, 3] (fun x v wr => ∃ k : Nat, k ≤ 16 ∧ x = .int .i64 (k : Int) ∧ Hid (OwM wr w.heap.size v (ents m k)) ∧ Hid (Below w.heap.size w wr)) (fun x _ _ => 16 - (intOf x).toNat)
  case atStart => exact ⟨0, by omega, rfl, OwM.nil _ _, Below.refl _ _⟩
  case round =>
  obtain ⟨k, hk, rfl, K1, K2⟩ := hrel
  have hRr := HR.out.below K2.out
  have c0 := hRr.cell
  by_cases hlt : k < 16
  · have hd : decide ((k : Int) < 16) = true := by simp; omega
    have hlen := ents_len m k
    cases hm : m k with
    | none =>
      have HA := hide (at_miss hRr.row (by have := HG.out.len; omega) (HG.out.no hlt hm))
      rw [← ents_none hm] at K1
      clear hRr hm hlen
      go_wp2_with fail
      refine HA.out.mono ?_
      rintro e w1 ⟨rfl, hw9⟩
      rw [hw9]
      clear hw9 w1 HA
      go_wp2
      go_roundw
      case rel =>
        first
          | exact ⟨k + 1, by omega, by go_num, K1, K2⟩
          | ((repeat apply Exists.intro); refine ⟨?_, rfl⟩; exact ⟨k + 1, by omega, by go_num, K1, K2⟩)
      case measure => simp [intOf]; omega
    | some x =>
      obtain ⟨s, b⟩ := x
      obtain ⟨i, hi9⟩ := HG.out.hit hlt hm
      have hil : i < L.length := (List.getElem?_eq_some_iff.1 hi9).1
      have HA := hide (at_hit hRr.row (by have := HG.out.len; omega) HG.out.ne hi9 (v := (k : Int)) rfl)
      obtain ⟨g, cp, hva, -, -, -⟩ := hRr.row.some_of (by omega)
      obtain ⟨t, ht⟩ : ∃ t, L.length = t := ⟨_, rfl⟩
      rw [ht] at hva hil
      subst hva
      have HC := hide (hRr.row.isMaps hi9)
      have hil2 : (i : Int) < (t : Int) := by omega
      have d3 : decide (0 ≤ (i : Int)) = true := by simp
      have HS := hide (ents_some hm)
      generalize ents m k = X at *
      obtain ⟨a2, c2, he2⟩ := K1.out.len
      obtain ⟨u, hu⟩ : ∃ u, X.length = u := ⟨_, rfl⟩
      rw [hu] at he2 hlen
      subst he2
      have HO2 : Hid (wr.ownsRow w.heap.size 64 3 (.slice a2 u c2) u (mcs X)) := hide (by have := K1.out.out; rw [hu] at this; exact this)
      have HU := hide hu
      clear hRr hm ht hu K1 hi9
      go_wp2_with fail
      refine HA.out.mono ?_
      rintro e w1 ⟨rfl, hw9⟩
      rw [hw9]
      clear hw9 w1 HA
      go_wp2_with (first
        | refine load_st 64 _ Try.underlying64 rfl [.int .i64 (k : Int), .int .i64 (s : Int), .bool b] info50 rfl _ rfl ⟨g, i * 3, none⟩ rfl HC.out ?_
        | (at_builtin; refine wpList_append_own _ rfl _ _ 32 rfl w.heap.size 64 i50 (.agg #[.int .i64 0, .int .i64 0, .bool false]) 3 24 Try.underlying32 hi hz0 hsz hby rfl (by decide) _ u (mcs X) rfl (HO2.out.alloc _) ⟨wr.heap.size, 0, none⟩ 1 1 (Mp.cells ⟨(k : Int), (s : Int), b⟩) rfl rfl ?c1 (cells_one _) ?c3 ?c4 ?c5 ?_))
      case c1 => exact cells_new wr ⟨(k : Int), (s : Int), b⟩
      case c3 => unfold maxLen; omega
      case c4 => omega
      case c5 => simp; have := K2.out.size; omega
      intro r2 w3 hown hg3 _
      have H2 : Hid (OwM w3 w.heap.size r2 (ents m (k + 1))) := hide ⟨by rw [HS.out, List.length_append, HU.out, mcs_snoc]; exact hown⟩
      have HB2 := hide (below_own K2.out HO2.out hg3 K2.out.size)
      clear hown hg3 c0
      go_wp2
      go_roundw
      case rel =>
        first
          | exact ⟨k + 1, by omega, by go_num, H2, HB2⟩
          | ((repeat apply Exists.intro); refine ⟨?_, rfl⟩; exact ⟨k + 1, by omega, by go_num, H2, HB2⟩)
      case measure => simp [intOf]; omega
  · obtain rfl : k = 16 := by omega
    clear c0 hRr
    go_wp2
    go_ret
    exact ⟨_, rfl, K1.out, K2.out⟩
end
end Go.Proofs.Ytmflohehnoghhaa
