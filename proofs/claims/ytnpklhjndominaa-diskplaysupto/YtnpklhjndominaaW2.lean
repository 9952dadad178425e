import Derived.Test.YtnpklhjndominaaW1
namespace Go.Proofs.Ytnpklhjndominaa
open Go.RowKit

/-- the medium so far -/
def ofM (M : Nat → List Nat) (k : Nat) : Nat → List Nat := fun s => if s < k then M s else List.replicate 128 0
theorem ofM_next (M : Nat → List Nat) (k : Nat) : upd (ofM M k) k (M k) = ofM M (k + 1) := by
  funext s
  unfold upd ofM
  by_cases h : s = k
  · subst h; rw [if_pos rfl, if_pos (by omega)]
  · rw [if_neg h]
    by_cases h2 : s < k
    · rw [if_pos h2, if_pos (by omega)]
    · rw [if_neg h2, if_neg (by omega)]
theorem ofM_sec {M : Nat → List Nat} (hM : ∀ s, s < 1024 → Sec (M s)) (k : Nat) : ∀ s, s < 1024 → Sec (ofM M k s) := by
  intro s hs
  unfold ofM
  split
  · exact hM s hs
  · exact ⟨by simp, fun x hx => by rw [(List.mem_replicate.1 hx).2]; omega⟩
theorem DkA.congrM {B : Nat} {D : Dsk} {w : World} {F : Nat → Prop} (h : DkA B D w F) (M : Nat → List Nat) (hm : ∀ s, s < 1024 → D.M s = M s) : DkA B { D with M := M } w F := by
  obtain ⟨cs, cv, h, he⟩ := h
  exact ⟨cs, cv, ⟨h.top, ⟨h.inn.size, fun s hs j v hv => h.inn.med s hs j v (by rw [hm s hs]; exact hv), h.inn.cch, h.inn.act, h.inn.arm, h.inn.lft, h.inn.dwn⟩, h.row, h.ne, ⟨fun s hs => by show Sec (M s); rw [← hm s hs]; exact h.ok.m s hs, h.ok.c, h.ok.l⟩⟩, he⟩
theorem splice_sect {cs : Array Value} {k : Nat} {zs : List Nat} (hc : cs.size = 131077) (hz : zs.length = 128) (hk : k < 1024) : k * 128 + (zs.map By).length ≤ cs.toList.length := by
  rw [List.length_map, hz, Array.length_toList, hc]; omega
theorem DkAt.sect {w w' : World} {B : Nat} {cs : Array Value} {cv : Value} {D : Dsk} (h : DkAt w B cs cv D) {k : Nat} {zs : List Nat} (hk : k < 1024) (hz : Sec zs) (ht : w'.heap[B]? = some (.cells (splice cs.toList (k * 128) (zs.map By)).toArray 45 (0, 0))) (ho : cv.ownBlock = none) :
    DkAt w' B (splice cs.toList (k * 128) (zs.map By)).toArray cv (D.edit k zs) := by
  have hfit := splice_sect h.inn.size hz.1 hk
  have hfit2 : k * 128 + 0 + (zs.map By).length ≤ cs.toList.length := hfit
  have hc := h.inn.setMed h.ok (cs' := (splice cs.toList (k * 128) (zs.map By)).toArray) (s := k) (a := 0) (zs := zs) (b := zs) hk (by rw [hz.1]; omega)
    (by rw [splice_full (by rw [(h.ok.m k hk).1, hz.1])])
    (by have := length_splice cs.toList (k * 128) (zs.map By) hfit; rw [List.size_toArray, this]; simp)
    (fun j _ => by
      rw [List.getElem?_toArray]
      have := splice_get cs.toList (zs.map By) (k * 128) j hfit
      rw [List.length_map] at this
      unfold splice
      rw [List.length_map, this]; simp)
  refine ⟨ht, hc, ?_, h.ne, h.ok.edit hz⟩
  exact ownsRow_keep h.row (fun b hb => by rw [ho] at hb; cases hb)
theorem min_fit3 {M : List Nat} {q : Nat} (h : M.length = 128) (hk : 128 ≤ q) : (M.map By).length = Nat.min q 128 := by
  rw [List.length_map, h]; exact (Nat.min_eq_right hk).symm
set_option maxRecDepth 100000 in
set_option maxHeartbeats 2000000 in
theorem of_any (g cap : Nat) (M : Nat → List Nat) (hM : ∀ s, s < 1024 → Sec (M s)) (w : World) (hg : g < w.heap.size) (hcap : 131072 ≤ cap) (hr : ∀ s, s < 1024 → w.rangeAt g (s * 128) ((M s).map By)) :
    Calls Try.prog 6 #[.slice (some ⟨g, 0, none⟩) 131072 cap] w fun e w' => e = .returned (.tuple #[dp w.heap.size, .int .i64 0]) ∧ DkA w.heap.size (cln M 0) w' (fun b => b = w.heap.size) ∧ Below w.heap.size w w' := by
  have HR := hide hr
  have HM := hide hM
  clear hr hM
  go_enter Try.func6, Try.ntmps6
  go_wp2_with fail
  refine (new_any w).mono ?_
  rintro e w1 ⟨rfl, hd, hb⟩
  have HD : Hid (DkA w.heap.size (cln (ofM M 0) 0) w1 (fun b => b = w.heap.size)) := hide (hd.congrM (ofM M 0) (fun s _ => by unfold ofM; rw [if_neg (by omega)]; rfl))
  have HB := hide hb
  clear hd hb
  go_wp2_with fail
  go_loopw [10] (fun i wr => ∃ k : Nat, k ≤ 1024 ∧ i = .int .i64 (k : Int) ∧ Hid (DkA w.heap.size (cln (ofM M k) 0) wr (fun b => b = w.heap.size)) ∧ Hid (Below w.heap.size w wr)) (fun i _ => room1 i)
  case atStart => exact ⟨0, by omega, rfl, HD, HB⟩
  case round =>
    clear HD HB
    obtain ⟨k, hk, rfl, K1, K2⟩ := hrel
    by_cases hlt : k < 1024
    · have hd2 : decide ((k : Int) < 1024) = true := by simp; omega
      obtain ⟨o, ho⟩ : ∃ o, k * 128 = o := ⟨_, rfl⟩
      have hwm := wrap_mul k o hlt ho
      have hno : ¬ 131072 = o := by omega
      have hle : (o : Int) ≤ 131072 := by omega
      have hki : (k : Int) < 1024 := by omega
      obtain ⟨q, hq⟩ : ∃ q, 131072 - o = q := ⟨_, rfl⟩
      obtain ⟨q2, hq2⟩ : ∃ q2, cap - o = q2 := ⟨_, rfl⟩
      have hlc : (131072 : Int) ≤ (cap : Int) := by omega
      have HQ0 : Hid (128 ≤ q) := by show _ ≤ _; omega
      obtain ⟨cs, cv, h, he⟩ := K1.out
      have hcv : cv.ownBlock = none := by
        cases hx : cv.ownBlock with
        | none => rfl
        | some b => exact (h.ne (by rw [hx, (he b).2 (.inr hx)])).elim
      have HH := hide h
      have HSc := hide (HM.out k hlt)
      have HCv := hide hcv
      have HSrc : Hid (wr.rangeAt g (k * 128) ((M k).map By)) := hide fun j v hv => by
        rw [K2.out.cell (p := ⟨g, k * 128 + j, none⟩) hg]
        exact HR.out k hlt j v hv
      have HO := hide ho
      have HT := hide h.top
      have hnz : w.heap.size ≤ w.heap.size := Nat.le_refl _
      clear h he hcv K1 ho
      go_wp2
      go_region_law (refine step_copy_splice rfl (.tmp 18) (.tmp 22) 27 27 rfl 5 Try.underlying27 size5 (some ⟨w.heap.size, k * 128, none⟩) (some ⟨g, o, none⟩) 128 128 q q2 (by simp [Act.eval, Act.put]) (by simp [Act.eval, Act.put]; intro h9; omega) w.heap.size (k * 128) cs.toList 45 (by rw [Array.toArray_toList]; exact HT.out) ((M k).map By) (min_fit3 HSc.out.1 HQ0.out) (fun _ => ⟨rfl, _, rfl, fun j v hv => by rw [Addr.add_mid, ← HO.out]; exact HSrc.out j v hv⟩) (splice_sect HH.out.inn.size HSc.out.1 hlt) (By_one _) w.heap.size w K2.out.drew (Nat.le_refl _) ?_; intro w4 hg4 hb4)
      all_goals
        have HN : Hid (DkA w.heap.size (cln (ofM M (k + 1)) 0) w4 (fun b => b = w.heap.size)) := by
          have h9 := HH.out.sect hlt HSc.out hg4.out HCv.out
          rw [show (cln (ofM M k) 0).edit k (M k) = cln (ofM M (k + 1)) 0 from by unfold Dsk.edit cln; rw [ofM_next]] at h9
          exact hide ⟨_, cv, h9, fun b => by rw [HCv.out]; simp⟩
      all_goals clear hwm hno hle hq hq2 hg4
      all_goals go_wp2
      all_goals go_roundw
      all_goals first
        | exact ⟨k + 1, by omega, by go_num, HN, hb4⟩
        | (simp [room1, intOf]; omega)
    · obtain rfl : k = 1024 := by omega
      have hd1 : decide ((1024 : Int) < 1024) = false := by simp
      have HF : Hid (DkA w.heap.size (cln M 0) wr (fun b => b = w.heap.size)) := hide (K1.out.congrM M (fun s hs => by show ofM M 1024 s = M s; unfold ofM; rw [if_pos hs]))
      clear K1
      go_wp2
      go_returns
      exact ⟨rfl, HF.out, K2.out⟩
end Go.Proofs.Ytnpklhjndominaa
