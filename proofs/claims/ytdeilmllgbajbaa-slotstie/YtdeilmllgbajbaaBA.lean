import Derived.Test.YtdeilmllgbajbaaB9
namespace Go.Proofs.Ytdeilmllgbajbaa
open Go.RowKit

def er (L : List (Int × Int)) (k i : Nat) : List (Int × Int) := (L.take i).eraseIdx k
theorem er_0 (L : List (Int × Int)) (k : Nat) : er L k 0 = [] := by simp [er]
theorem er_skip {L : List (Int × Int)} {k : Nat} (hk : k < L.length) : er L k (k + 1) = er L k k := by
  unfold er
  rw [List.take_add_one, List.getElem?_eq_getElem hk, List.eraseIdx_append_of_length_le (by simp; omega)]
  rw [List.eraseIdx_of_length_le (l := L.take k) (by simp; omega)]
  simp [Nat.min_eq_left (Nat.le_of_lt hk)]
theorem er_next {L : List (Int × Int)} {k i : Nat} {p : Int × Int} (hi : L[i]? = some p) (hne : i ≠ k) : er L k (i + 1) = er L k i ++ [p] := by
  have hil := (List.getElem?_eq_some_iff.1 hi).1
  unfold er
  rw [List.take_add_one, hi]
  rcases Nat.lt_or_ge k i with h | h
  · rw [List.eraseIdx_append_of_lt_length (by simp; omega)]; rfl
  · rw [List.eraseIdx_of_length_le (by simp; omega), List.eraseIdx_of_length_le (by simp; omega)]; rfl
theorem er_all (L : List (Int × Int)) (k i : Nat) (h : L.length ≤ i) : er L k i = L.eraseIdx k := by unfold er; rw [List.take_of_length_le h]
theorem er_len (L : List (Int × Int)) (k i : Nat) : (er L k i).length ≤ i := by
  unfold er; rw [List.length_eraseIdx]; have := List.length_take_le i L; split <;> omega
theorem RbAt.put {w W : World} {F : Nat → Prop} {J : Nat} {v v' : Value} {L L' : List (Int × Int)} (h : RbAt w F J v L) (hb : Below w.heap.size w W) (hown : W.ownsRow w.heap.size 71 2 v' L'.length (encP L')) :
    RbAt (W.setCell ⟨J, 0, none⟩ v') (fun b => F b ∨ v'.ownBlock = some b) J v' L' ∧ Ext F w (fun b => F b ∨ v'.ownBlock = some b) (W.setCell ⟨J, 0, none⟩ v') := by
  have hJ := h.lt J h.fJ
  have s1 := hb.size
  have lo : ∀ b, v'.ownBlock = some b → w.heap.size ≤ b ∧ b < W.heap.size := fun b e => World.ownsRow.lt hown b e
  have nJ : v'.ownBlock ≠ some J := fun e => by have := (lo J e).1; omega
  have tJ : W.heap[J]? = some (.cells #[v] 45 (0, 0)) := by rw [hb.block J hJ]; exact h.top
  have hown0 : W.ownsRow 0 71 2 v' L'.length (encP L') := by
    obtain ⟨hl, h1 | ⟨g, cap, cur, h1, h2, r⟩⟩ := hown
    · exact ⟨hl, .inl h1⟩
    · exact ⟨hl, .inr ⟨g, cap, cur, h1, Nat.zero_le _, r⟩⟩
  refine ⟨⟨?_, ownsRow_keep hown0 (fun b e => heap_setCell_other _ _ _ _ (fun e' => nJ (by rw [← show b = J from e']; exact e))), nJ, .inl h.fJ, fun b e => .inr e, ?_⟩, ⟨⟨hb.os, hb.tape, hb.output, ?_, ?_⟩, ?_⟩⟩
  · rw [heap_setCell_same _ J 0 _ _ _ tJ]; rfl
  · rintro b (hb' | e)
    · have := h.lt b hb'; simp [World.setCell]; omega
    · have := (lo b e).2; simpa [World.setCell] using this
  · simp [World.setCell]; omega
  · intro b hb' hf
    rw [heap_setCell_other _ _ _ _ (fun e => hf (by rw [show b = J from e]; exact h.fJ))]
    exact hb.block b hb'
  · rintro b (hb' | e)
    · exact .inl hb'
    · exact .inr (lo b e).1
set_option maxRecDepth 8000 in
set_option maxHeartbeats 1600000 in
theorem cutRb_any (w : World) (F : Nat → Prop) (J : Nat) (L : List (Int × Int)) (h : Rb w F J L) (ht : Tight L) (hL : L.length ≤ 4398046511104) (a : Int) :
    Calls Try.prog 27 #[.pointer (some ⟨J, 0, none⟩), .int .i64 a] w fun x w' => ∃ F', x = .returned (.bool (atI L a).isSome) ∧ Rb w' F' J (cutL L a) ∧ Ext F w F' w' := by
  obtain ⟨i3, hi, hz, hs3, hb3⟩ := infoP
  have HF := hide (left_any w F J L h hL a)
  have HR := hide h
  obtain ⟨v, h⟩ := h
  have HH := hide h
  have HT := hide ht
  obtain ⟨ao, cap, rfl⟩ := own_shape h.row
  have HKp : Hid (∀ W, Below w.heap.size w W → RbAt W F J (.slice ao L.length cap) L) := hide (fun W hW => h.keep hW.size (fun b hf => hW.block b (h.lt b hf)))
  clear h ht
  go_enter Try.func27, Try.ntmps27
  go_wp2_with fail
  refine HF.out.mono ?_
  rintro e w1 ⟨⟨q, rfl, hq⟩, rfl⟩
  rcases left_at HT.out hq with ⟨rfl, hn⟩ | ⟨k, b, rfl, hk, hn⟩
  · have HE := hide (cutL_no hn)
    have HN := hide hn
    clear hq hn
    go_wp2
    go_ret
    exact ⟨F, by rw [HN.out]; rfl, by rw [HE.out]; exact HR.out, Ext.refl _ _⟩
  · have HE := hide (cutL_yes HT.out.a hk)
    have HN := hide hn
    have HKL := hide (List.getElem?_eq_some_iff.1 hk).1
    have hk0 : ¬ (k : Int) < 0 := by omega
    clear hq hn hk
    obtain ⟨n, hnn⟩ : ∃ n, L.length = n := ⟨_, rfl⟩
    have HNN := hide hnn
    rw [hnn] at hL HKp HKL
    clear hnn
    go_wp2
    go_loopw [6, 7] (fun u i wr => ∃ (j m : Nat) (au : Option Addr) (cu : Nat), j ≤ n ∧ i = .int .i64 j ∧ u = .slice au m cu ∧ m ≤ j ∧ Hid (m = (er L k j).length) ∧ Hid (wr.ownsRow w1.heap.size 71 2 (.slice au m cu) m (encP (er L k j))) ∧ Hid (Below w1.heap.size w1 wr)) (fun _ i _ => n - (intOf i).toNat)
    case atStart => exact ⟨0, 0, none, 0, by omega, rfl, rfl, by omega, by rw [er_0]; rfl, by rw [er_0]; exact hide ⟨rfl, .inl ⟨rfl, rfl⟩⟩, hide (Below.refl _ _)⟩
    case round =>
      obtain ⟨j, m, au, cu, hj, rfl, rfl, hmj, HM, HO, HB⟩ := hrel
      have hA := HKp.out _ HB.out
      have c0 := hA.cell.1
      by_cases hlt : j < n
      · obtain ⟨p, hp⟩ : ∃ p, L[j]? = some p := ⟨_, List.getElem?_eq_getElem (by rw [HNN.out]; exact hlt)⟩
        by_cases hjk : j = k
        · have hd : ((j : Int) == (k : Int)) = true := by simp [hjk]
          have HS : Hid (er L k (j + 1) = er L k j) := hide (by rw [hjk]; exact er_skip (by rw [HNN.out]; exact HKL.out))
          clear hA hp hjk
          go_wp2
          go_roundw
          case rel => exact ⟨j + 1, m, au, cu, by omega, by go_num, rfl, by omega, by rw [HS.out]; exact HM, by rw [HS.out]; exact HO, HB⟩
          case measure => simp [intOf]; omega
        · have hd : ((j : Int) == (k : Int)) = false := by simp; omega
          have HS := hide (er_next (k := k) hp hjk)
          obtain ⟨g, cp, hv, h1, h2⟩ := hA.at hp
          cases hv
          clear hA hp hjk
          go_upto_region 7 with (at_builtin; refine wpList_append_own_at _ rfl _ _ 43 rfl w1.heap.size 71 i3 (.agg #[.int .i64 0, .int .i64 0]) 2 16 Try.underlying43 hi hz hs3 hb3 rfl (by decide) (.slice au m cu) m (encP (er L k j)) rfl (HO.out.alloc _) ⟨wr.heap.size, 0, none⟩ 1 1 [.int .i64 p.1, .int .i64 p.2] rfl rfl (cell_two_new _ _ _ _) (by simp [Value.oneCell']) (by unfold maxLen; omega) (by omega) (by have := HB.out.size; simp; omega) ?_; intro v2 w8 ho8 hg8 _ hl8; obtain ⟨g2, k2, rfl⟩ := ownsRow_succ' ho8; have HO8 := hide ho8; have HB8 : Hid (Below w1.heap.size w1 w8) := hide ((HB.out.alloc HB.out.size _).grown hg8 (Nat.le_trans HB.out.size (by simp)) (fun x e => (World.ownsRow.lt HO.out x e).1)); clear ho8 hg8 hl8)
          clear c0 h1 h2 HO HB
          go_wp2
          go_roundw
          case rel => exact ⟨j + 1, m + 1, _, k2, by omega, by go_num, rfl, by omega, by rw [HS.out, List.length_append, ← HM.out]; rfl, by rw [HS.out]; exact hide (by rw [encP_snoc]; exact HO8.out), HB8⟩
          case measure => simp [intOf]; omega
      · have HZ := hide (er_all L k j (by rw [HNN.out]; omega))
        have hA2 := HH.out.put (L' := cutL L a) HB.out (by rw [HE.out, ← HZ.out, ← HM.out]; exact HO.out)
        have HP := hide hA2
        have f0 := hA.cell.2
        clear hA hA2
        go_wp2
        go_ret
        exact ⟨_, by rw [HN.out]; rfl, ⟨_, HP.out.1⟩, HP.out.2⟩
end Go.Proofs.Ytdeilmllgbajbaa
