import Derived.Test.YtnpklhjndominaaQ9
namespace Go.Proofs.Ytnpklhjndominaa
open Go.RowKit

/-- the sectors of the first k that wait -/
def pnd (D : Dsk) (k : Nat) : List Value := ((D.c.map (·.1)).take k).map IV
theorem pnd_succ {D : Dsk} {k : Nat} {x : Nat × List Nat} (hx : D.c[k]? = some x) : pnd D (k + 1) = pnd D k ++ [IV x.1] := by
  have h1 : (D.c.map (·.1))[k]? = some x.1 := by simp [hx]
  obtain ⟨h2, h3⟩ := List.getElem?_eq_some_iff.1 h1
  unfold pnd
  rw [List.take_succ_eq_append_getElem h2, h3, List.map_append]; rfl
theorem pnd_all {D : Dsk} {k : Nat} (h : D.c.length = k) : pnd D k = (D.c.map (·.1)).map IV := by unfold pnd; rw [List.take_of_length_le (by simp [h])]
section
variable {w : World} {R N : Nat} {D : Dsk} {F : Nat → Prop}
theorem downR_any (h : RkA R D N w F) : Calls Try.prog 44 #[tp R] w fun e w' => e = .returned (.bool D.down) ∧ w' = w := by
  obtain ⟨lv, wv, rl, ds, es, G, h, _, he⟩ := h
  have c4 := h.cells.2.2.2.1
  clear h
  go_enter Try.func44, Try.ntmps44
  go_wp2
  go_ret
  exact ⟨rfl, rfl⟩
theorem RkA.below {w' : World} (h : RkA R D N w F) (hb : Below w.heap.size w w') : RkA R D N w' F :=
  (good_rk R D N).keep h hb.size (fun b hf => hb.block b ((good_rk R D N).lt h b hf))
set_option maxHeartbeats 1600000 in
theorem pendingR_any (h : RkA R D N w F) (hc : D.c.length ≤ 2000000) : Calls Try.prog 41 #[tp R] w fun e w' => ∃ r, e = .returned r ∧ OwI w' w.heap.size r (D.c.map (·.1)) ∧ Below w.heap.size w w' := by
  obtain ⟨lv, wv, rl, ds, es, G, h, hnn, he⟩ := h
  obtain ⟨i3, hi, hz, hs, hb⟩ := info3'
  have HK : Hid (∀ wr, Below w.heap.size w wr → RkAt wr R lv wv rl ds es G D) := hide (fun wr hbb => h.keep hbb.size (fun b hb' => hbb.block b ((good_rk R D N).lt (H := F) ⟨lv, wv, rl, ds, es, G, h, hnn, he⟩ b ((he b).2 hb'))))
  obtain ⟨aw, cw, hwv⟩ := own_shape h.wai.row
  obtain ⟨L, hL⟩ : ∃ L, D.c.length = L := ⟨_, rfl⟩
  rw [lf_len, hL] at hwv
  rw [hL] at hc
  have HL := hide hL
  subst hwv
  clear h hnn he hL
  go_enter Try.func41, Try.ntmps41
  go_wp2
  go_loopw [3, 4] (fun v i wr => ∃ k : Nat, k ≤ L ∧ i = .int .i64 (k : Int) ∧ wr.ownsRow w.heap.size 3 1 v k (pnd D k) ∧ Below w.heap.size w wr) (fun _ i _ => L - (intOf i).toNat)
  case atStart => exact ⟨0, Nat.zero_le _, rfl, World.ownsRow_nil _ _ _ _, Below.refl _ _⟩
  case round =>
    obtain ⟨k, hk, rfl, hown, hbel⟩ := hrel
    have hR := HK.out wr hbel
    have c1 := hR.cells.2.1
    by_cases hlt : k < L
    · have hd1 : decide ((k : Int) < (L : Int)) = true := by simp; omega
      have hd2 : (k : Int) < (L : Int) := by omega
      obtain ⟨x, hx⟩ : ∃ x, D.c[k]? = some x := ⟨_, List.getElem?_eq_getElem (by rw [HL.out]; exact hlt)⟩
      obtain ⟨gl, cl, ax, cd, hv, e0, _, _, _⟩ := hR.wai.at (lf_get hx)
      rw [lf_len, HL.out] at hv
      cases hv
      have hTk := pnd_succ hx
      obtain ⟨a2, c2, rfl⟩ := own_shape hown
      have HO := hide (And.intro hown (And.intro hbel hTk))
      clear hR hTk hx hown hbel
      generalize x.1 = sx at *
      go_wp2_with (at_builtin; refine wpList_append_own _ rfl _ _ 67 rfl w.heap.size 3 i3 (.int .i64 0) 1 8 Try.underlying67 hi hz hs hb rfl (by decide) _ k (pnd D k) rfl (HO.out.1.alloc _) ⟨wr.heap.size, 0, none⟩ 1 1 [IV sx] rfl rfl ?c1 ?c2 ?c3 ?c4 ?c5 ?_)
      case c1 => first | exact cell_one_new _ _ _ | exact fun _ _ h => h
      case c2 => simp [IV, Value.oneCell']
      case c3 => unfold maxLen; omega
      case c4 => omega
      case c5 => have := HO.out.2.1.size; simp; omega
      intro r2 w2 hown2 hg _
      have H2 : Hid (w2.ownsRow w.heap.size 3 1 r2 (k + 1) (pnd D (k + 1))) := hide (by rw [HO.out.2.2]; exact hown2)
      have HB : Hid (Below w.heap.size w w2) := hide (below_own HO.out.2.1 HO.out.1 hg HO.out.2.1.size)
      clear hown2 hg HO c1 e0
      go_wp2
      go_roundw
      case rel => exact ⟨k + 1, by omega, by go_num, H2.out, HB.out⟩
      case measure => simp [intOf]; omega
    · obtain rfl : k = L := by omega
      have hd1 : decide ((k : Int) < (k : Int)) = false := by simp
      obtain ⟨a2, c2, rfl⟩ := own_shape hown
      have HO : Hid (OwI wr w.heap.size (.slice a2 k c2) (D.c.map (·.1))) := hide (by
        unfold OwI
        rw [List.length_map, HL.out, ← pnd_all HL.out]
        exact hown)
      clear hR hown
      go_wp2
      go_ret
      exact ⟨_, rfl, HO.out, hbel⟩
end
end Go.Proofs.Ytnpklhjndominaa
