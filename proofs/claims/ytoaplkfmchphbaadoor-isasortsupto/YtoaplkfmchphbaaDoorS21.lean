import Derived.Test.YtoaplkfmchphbaaDoorS18
import Derived.Test.YtoaplkfmchphbaaDoorS19
import Derived.Test.YtoaplkfmchphbaaDoorS20
namespace Go.Proofs.YtoaplkfmchphbaaDoor
open Go.RowKit
def mc0 : Mc := ⟨fun _ => 0, fun _ => 0, 0, false⟩
/-- a machine with words from address 0 on -/
def mcW (ws : List Nat) : Mc := ⟨fun i => ws.getD i 0, fun _ => 0, 0, false⟩
set_option maxRecDepth 100000 in
theorem zeroM (w : World) : (zeroValue 48).run Tryd.prog w = .ok (.agg (mc mc0).toArray) w := by
  unfold zeroValue
  rw [Sem.run_bind, Tryd.typeInfo48]
  have e : Tryd.t48.zero = some (.agg (mc mc0).toArray) := by kernel_rfl
  simp [e]
theorem blk_add' (b : Addr) (i : Nat) : (b.add i).block = b.block := by unfold Addr.add; split <;> simp_all
theorem wd_set {W : World} {b : Addr} {ws : List Nat} {N i : Nat} {v : Value} (h : Wd W (some b) ws) (hN : b.block ≠ N) : Wd (W.setCell ⟨N, i, none⟩ v) (some b) ws := fun j hj => by
  obtain ⟨a, e, hc⟩ := h j hj
  cases e
  exact ⟨b, rfl, by rw [World.cell?_setCell_other _ _ _ _ (fun e => hN (by rw [← blk_add' b j]; exact (congrArg Addr.block e).symm))]; exact hc⟩
def mcP (ws : List Nat) (i : Nat) : Mc := ⟨fun j => if j < i then ws.getD j 0 else 0, fun _ => 0, 0, false⟩
theorem mcP_zero (ws : List Nat) : mcP ws 0 = mc0 := rfl
theorem mcP_end (ws : List Nat) : mcP ws ws.length = mcW ws := by
  unfold mcP mcW
  congr 1
  funext j
  split
  · rfl
  · rw [List.getD_eq_getElem?_getD, List.getElem?_eq_none (by omega)]; rfl
theorem mcP_step (ws : List Nat) {i : Nat} (h : i < ws.length) : { mcP ws i with m := put (mcP ws i).m i ws[i] } = mcP ws (i + 1) := by
  have e : put (mcP ws i).m i ws[i] = (mcP ws (i + 1)).m := by
    funext j
    show (if j = i then ws[i] else if j < i then ws.getD j 0 else 0) = if j < i + 1 then ws.getD j 0 else 0
    by_cases e : j = i
    · subst e; simp [h]
    · rw [if_neg e]
      by_cases h2 : j < i
      · rw [if_pos h2, if_pos (by omega)]
      · rw [if_neg h2, if_neg (by omega)]
  rw [e]
  rfl

set_option maxRecDepth 100000 in
set_option maxHeartbeats 2000000 in
theorem loaded_any (w : World) (t : Tx) (ws : List Nat) (ht : t.length ≤ 1000000) (hA : asmT t = (ws, 0, 0)) (hl : ws.length ≤ 512) (hO : Ops w) : Calls Tryd.prog 17 #[.string ⟨t.toArray⟩] w fun e w' => ∃ N, e = .returned (.tuple #[.pointer (some ⟨N, 0, none⟩), .bool true]) ∧ w.heap.size ≤ N ∧ Mb w' N (mcW ws) ∧ Below w.heap.size w w' := by
  have HA := hide (asm_any w t (by omega) hO)
  rw [hA] at HA
  have hz := zeroM
  obtain ⟨Z, hZ⟩ : ∃ Z, (mc mc0).toArray = Z := ⟨_, rfl⟩
  have hsz : Z.size = 522 := by rw [← hZ]; simp [mc_len]
  have hne : ¬ Z = #[] := by intro e; rw [e] at hsz; simp at hsz
  have HZ := hide hZ
  rw [hZ] at hz
  clear hZ hA
  obtain ⟨n, hn⟩ : ∃ n, ws.length = n := ⟨_, rfl⟩
  have HN := hide hn
  rw [hn] at hl
  have hlI : ¬ (512 : Int) < (n : Int) := by omega
  rw [show (ws, (0 : Nat), (0 : Int)).1.length = n from hn] at HA
  clear hn
  go_enter Tryd.func17, Tryd.ntmps17
  go_wp2_with fail
  refine HA.out.mono ?_
  rintro e w1 ⟨v, rfl, hO1, hb1⟩
  obtain ⟨mo, cm, rfl, hW1⟩ : ∃ ao c, v = .slice ao n c ∧ Wd w1 ao ws := by have h := HN.out; subst h; exact Wd.of hO1
  have HW1 := hide hW1
  have HB1 := hide hb1
  have HMB : Hid (∀ b, mo = some b → 0 < n → b.block < w1.heap.size) := hide (fun b e h0 => by
    obtain ⟨a, e2, hc⟩ := hW1 0 (by rw [HN.out]; exact h0)
    rw [e] at e2
    cases e2
    have := cell_blk hc
    rwa [blk_add'] at this)
  clear hb1 hW1 hO1 HA
  go_upto_region 6 with fail
  have q := heap_alloc_last w1 (.cells Z 48)
  have hb := bel1 w1 (.cells Z 48)
  obtain ⟨N, hNN⟩ : ∃ N, w1.heap.size = N := ⟨_, rfl⟩
  have HNB : Hid (w.heap.size ≤ N) := hide (by rw [← hNN]; exact HB1.out.size)
  generalize w1.alloc (.cells Z 48) = w2 at *
  have HM2 : Hid (Mb w2 N (mcP ws 0)) := hide ⟨by rw [mcP_zero, ← hNN, HZ.out]; exact q⟩
  have HB2 := hide (HB1.out.trans (hb.mono HB1.out.size))
  have HW2 := hide (HW1.out.below hb)
  have HMB2 : Hid (∀ b, mo = some b → 0 < n → b.block ≠ N) := hide (fun b e h0 => by have := HMB.out b e h0; omega)
  rw [hNN]
  clear q hb HW1 HB1 HMB hNN hz hne hsz
  go_loopw [8] (fun iv wr => ∃ i : Nat, iv = .int .i64 (i : Int) ∧ i ≤ n ∧ Hid (Mb wr N (mcP ws i)) ∧ Hid (Wd wr mo ws) ∧ Hid (Below w.heap.size w wr)) (fun iv _ => n - (intOf iv).toNat)
  case atStart => exact ⟨0, rfl, by omega, HM2, HW2, HB2⟩
  case round =>
    obtain ⟨i, rfl, hi, HMr, HWr, HBr⟩ := hrel
    clear HM2 HW2 HB2
    by_cases hlt : i < n
    · have hltI : (i : Int) < (n : Int) := by omega
      have hi5 : i < 512 := by omega
      have hi5I : (i : Int) < 512 := by omega
      obtain ⟨b, rfl, hc1⟩ := HWr.out i (by rw [HN.out]; exact hlt)
      have HBN := hide (HMB2.out b rfl (by omega))
      obtain ⟨u, hu⟩ : ∃ u, ws[i]'(by rw [HN.out]; exact hlt) = u := ⟨_, rfl⟩
      rw [hu] at hc1
      have HU := hide hu
      clear hu
      go_upto_region 8 with fail
      obtain ⟨w0, hwD⟩ : ∃ wD, wD = wr.drew := ⟨_, rfl⟩
      have HM0 : Hid (Mb w0 N (mcP ws i)) := by rw [hwD]; exact hide (HMr.out.below (Below.refl _ _).drew)
      have HC0 : Hid (w0.cell? (b.add i) = some (.int .u32 (u : Nat))) := by rw [hwD]; exact hide hc1
      have HB0 : Hid (Below w.heap.size w w0) := by rw [hwD]; exact hide HBr.out.drew
      have HW0 : Hid (Wd w0 (some b) ws) := by rw [hwD]; exact hide (HWr.out.below (Below.refl _ _).drew)
      refine wp_region_held_drew (S := fun W => W.cell? (b.add i) = some (.int .u32 (u : Nat))) (by kernel_rfl) (by rw [← hwD]; exact HC0.out) (fun hHeld => ?_)
      rw [← hwD]
      clear hwD hHeld hc1 HMr HWr HBr
      refine hd_take 0 (o := ⟨some 31, _, _, _, _, _⟩) (.pointer (some ⟨N, 0, none⟩)) (by kernel_rfl) (by kernel_rfl) (by kernel_rfl) rfl (by rfl) (fun W hSw => by go_simp) (fun _ _ _ h => h) HC0.out ?_
      simp only [Act.put, List.setIfInBounds_toArray, List.set_cons_zero, List.set_cons_succ]
      refine hd_take 1 (o := ⟨some 32, _, _, _, _, _⟩) (.int .i64 (i : Int)) (by kernel_rfl) (by kernel_rfl) (by kernel_rfl) rfl (by rfl) (fun W hSw => by go_simp) (fun _ _ _ h => h) HC0.out ?_
      simp only [Act.put, List.setIfInBounds_toArray, List.set_cons_zero, List.set_cons_succ]
      refine hd_take 2 (o := ⟨some 33, _, _, _, _, _⟩) (.slice (some b) n cm) (by kernel_rfl) (by kernel_rfl) (by kernel_rfl) rfl (by rfl) (fun W hSw => by go_simp) (fun _ _ _ h => h) HC0.out ?_
      simp only [Act.put, List.setIfInBounds_toArray, List.set_cons_zero, List.set_cons_succ]
      refine hd_take 3 (o := ⟨some 34, _, _, _, _, _⟩) (.int .i64 (i : Int)) (by kernel_rfl) (by kernel_rfl) (by kernel_rfl) rfl (by rfl) (fun W hSw => by go_simp) (fun _ _ _ h => h) HC0.out ?_
      simp only [Act.put, List.setIfInBounds_toArray, List.set_cons_zero, List.set_cons_succ]
      refine hd_take 4 (o := ⟨some 35, _, _, _, _, _⟩) (.pointer (some (b.add i))) (by kernel_rfl) (by kernel_rfl) (by kernel_rfl) rfl (by rfl) (fun W hSw => by go_simp) (fun _ _ _ h => h) HC0.out ?_
      simp only [Act.put, List.setIfInBounds_toArray, List.set_cons_zero, List.set_cons_succ]
      refine hd_take 5 (o := ⟨some 36, _, _, _, _, _⟩) (.int .u32 (u : Nat)) (by kernel_rfl) (by kernel_rfl) (by kernel_rfl) rfl (by rfl) (fun W hSw => by have c : W.cell? (b.add i) = some (.int .u32 (u : Nat)) := hSw; go_simp) (fun _ _ _ h => h) HC0.out ?_
      simp only [Act.put, List.setIfInBounds_toArray, List.set_cons_zero, List.set_cons_succ]
      refine hd_take 6 (o := ⟨some 37, _, _, _, _, _⟩) (.pointer (some ⟨N, 0, none⟩)) (by kernel_rfl) (by kernel_rfl) (by kernel_rfl) rfl (by rfl) (fun W hSw => by go_simp) (fun _ _ _ h => h) HC0.out ?_
      simp only [Act.put, List.setIfInBounds_toArray, List.set_cons_zero, List.set_cons_succ]
      refine hd_take 7 (o := ⟨some 38, _, _, _, _, _⟩) (.pointer (some ⟨N, 0, none⟩)) (by kernel_rfl) (by kernel_rfl) (by kernel_rfl) rfl (by rfl) (fun W hSw => by go_simp) (fun _ _ _ h => h) HC0.out ?_
      simp only [Act.put, List.setIfInBounds_toArray, List.set_cons_zero, List.set_cons_succ]
      refine hd_take 8 (o := ⟨some 39, _, _, _, _, _⟩) (.pointer (some ⟨N, i, none⟩)) (by kernel_rfl) (by kernel_rfl) (by kernel_rfl) rfl (by rfl) (fun W hSw => by go_simp) (fun _ _ _ h => h) HC0.out ?_
      simp only [Act.put, List.setIfInBounds_toArray, List.set_cons_zero, List.set_cons_succ]
      refine hd_call 9 (o := ⟨none, _, _, _, _, _⟩) (by kernel_rfl) rfl (by rfl) (fun K' hK => ?_)
      have c := HM0.out.m hi5
      have f := HM0.out.frz
      have HM1 := hide (HM0.out.set_m hi5 u)
      have HB1 : Hid (Below w.heap.size w (w0.setCell ⟨N, i, none⟩ (.int .u32 (u : Nat)))) := hide (HB0.out.setCell HNB.out _)
      have HC1 : Hid ((w0.setCell ⟨N, i, none⟩ (.int .u32 (u : Nat))).cell? (b.add i) = some (.int .u32 (u : Nat))) := hide (by rw [World.cell?_setCell_other _ _ _ _ (fun e => HBN.out (by rw [← blk_add' b i]; exact (congrArg Addr.block e).symm))]; exact HC0.out)
      have HW1 : Hid (Wd (w0.setCell ⟨N, i, none⟩ (.int .u32 (u : Nat))) (some b) ws) := hide (wd_set HW0.out HBN.out)
      go_simp
      clear c f
      generalize w0.setCell ⟨N, i, none⟩ (.int .u32 (u : Nat)) = w1 at *
      refine hK _ _ HC1.out ?_
      clear hK K'
      try simp only [Act.put]
      refine wpAnyH_done (by kernel_rfl) ?_ _
      have HM3 : Hid (Mb w1 N (mcP ws (i + 1))) := hide (by
        rw [← mcP_step ws (by rw [HN.out]; exact hlt), HU.out]
        exact HM1.out)
      clear HC0 HC1 HM0 HB0 HW0 HM1
      go_wp2
      refine ⟨⟨i + 1, by simp, by omega, HM3, HW1, HB1⟩, ?_⟩
      simp [intOf]
      omega
    · have hltI : ¬ (i : Int) < (n : Int) := by omega
      obtain rfl : i = n := by omega
      go_wp2
      go_ret2
      refine ⟨N, rfl, HNB.out, ?_, HBr.out⟩
      have h := HMr.out
      rw [← HN.out, mcP_end] at h
      exact h
end Go.Proofs.YtoaplkfmchphbaaDoor

namespace Go.Proofs.YtoaplkfmchphbaaDoor
open Go.RowKit
/-- the registers 1 to 7 -/
def qq (a1 a2 a3 a4 a5 a6 a7 : Nat) : Nat → Nat := fun j => if j = 1 then a1 else if j = 2 then a2 else if j = 3 then a3 else if j = 4 then a4 else if j = 5 then a5 else if j = 6 then a6 else if j = 7 then a7 else 0
theorem qq1 (a1 a2 a3 a4 a5 a6 a7 v : Nat) : put (qq a1 a2 a3 a4 a5 a6 a7) 1 v = qq v a2 a3 a4 a5 a6 a7 := by
  funext j; unfold put qq
  by_cases h : j = 1
  · subst h; simp
  · simp [h]
theorem qq2 (a1 a2 a3 a4 a5 a6 a7 v : Nat) : put (qq a1 a2 a3 a4 a5 a6 a7) 2 v = qq a1 v a3 a4 a5 a6 a7 := by
  funext j; unfold put qq
  by_cases h : j = 2
  · subst h; simp
  · simp [h]
theorem qq3 (a1 a2 a3 a4 a5 a6 a7 v : Nat) : put (qq a1 a2 a3 a4 a5 a6 a7) 3 v = qq a1 a2 v a4 a5 a6 a7 := by
  funext j; unfold put qq
  by_cases h : j = 3
  · subst h; simp
  · simp [h]
theorem qq4 (a1 a2 a3 a4 a5 a6 a7 v : Nat) : put (qq a1 a2 a3 a4 a5 a6 a7) 4 v = qq a1 a2 a3 v a5 a6 a7 := by
  funext j; unfold put qq
  by_cases h : j = 4
  · subst h; simp
  · simp [h]
theorem qq5 (a1 a2 a3 a4 a5 a6 a7 v : Nat) : put (qq a1 a2 a3 a4 a5 a6 a7) 5 v = qq a1 a2 a3 a4 v a6 a7 := by
  funext j; unfold put qq
  by_cases h : j = 5
  · subst h; simp
  · simp [h]
theorem qq6 (a1 a2 a3 a4 a5 a6 a7 v : Nat) : put (qq a1 a2 a3 a4 a5 a6 a7) 6 v = qq a1 a2 a3 a4 a5 v a7 := by
  funext j; unfold put qq
  by_cases h : j = 6
  · subst h; simp
  · simp [h]
theorem qq7 (a1 a2 a3 a4 a5 a6 a7 v : Nat) : put (qq a1 a2 a3 a4 a5 a6 a7) 7 v = qq a1 a2 a3 a4 a5 a6 v := by
  funext j; unfold put qq
  by_cases h : j = 7
  · subst h; simp
  · simp [h]
theorem qq0 (a1 a2 a3 a4 a5 a6 a7 : Nat) : put (qq a1 a2 a3 a4 a5 a6 a7) 0 0 = qq a1 a2 a3 a4 a5 a6 a7 := by
  funext j; unfold put qq
  by_cases h : j = 0
  · subst h; simp
  · simp [h]
def sIs : List I := [⟨2, 7, 0, 26⟩, ⟨2, 6, 0, 1⟩, ⟨19, 5, 0, 25⟩, ⟨15, 6, 5, 0⟩, ⟨22, 6, 0, 18⟩, ⟨19, 6, 0, 24⟩, ⟨4, 4, 7, 0⟩, ⟨5, 4, 6, 0⟩, ⟨19, 1, 4, 0⟩, ⟨4, 2, 4, 0⟩, ⟨6, 2, 7, 0⟩, ⟨22, 2, 0, 7⟩, ⟨19, 3, 4, -1⟩, ⟨4, 2, 1, 0⟩, ⟨15, 2, 3, 0⟩, ⟨22, 2, 0, 3⟩, ⟨20, 3, 4, 0⟩, ⟨18, 4, 0, -1⟩, ⟨21, 0, 0, -10⟩, ⟨20, 1, 4, 0⟩, ⟨18, 6, 0, 1⟩, ⟨20, 6, 0, 24⟩, ⟨21, 0, 0, -21⟩, ⟨26, 0, 0, 1⟩]
/-- the words of the sorting program -/
def sWs (n i : Nat) (L : List Nat) : List Nat := sIs.map word ++ ([i, n] ++ (L ++ [77]))
def sM (n i : Nat) (L : List Nat) : Nat → Nat := fun j => (sWs n i L).getD j 0
theorem sI_len : (sIs.map word).length = 24 := rfl
theorem sWs_len (n i : Nat) (L : List Nat) : (sWs n i L).length = 27 + L.length := by
  unfold sWs
  rw [List.length_append, sI_len]
  simp
  omega
theorem sM_at (n i : Nat) (L : List Nat) {k : Nat} {c : I} (h : sIs[k]? = some c) : sM n i L k = word c := by
  have hk : k < sIs.length := (List.getElem?_eq_some_iff.1 h).1
  unfold sM sWs
  rw [List.getD_eq_getElem?_getD, List.getElem?_append_left (by simpa using hk), List.getElem?_map, h]
  rfl
theorem sW_hi (n i : Nat) (L : List Nat) (j : Nat) : (sWs n i L)[24 + j]? = ([i, n] ++ (L ++ [77]))[j]? := by
  unfold sWs
  rw [List.getElem?_append_right (by rw [sI_len]; omega), sI_len, show 24 + j - 24 = j by omega]
theorem sM_i (n i : Nat) (L : List Nat) : sM n i L 24 = i := by unfold sM; rw [List.getD_eq_getElem?_getD, sW_hi n i L 0]; rfl
theorem sM_n (n i : Nat) (L : List Nat) : sM n i L 25 = n := by unfold sM; rw [List.getD_eq_getElem?_getD, sW_hi n i L 1]; rfl
theorem sM_l (n i : Nat) (L : List Nat) {j : Nat} (h : j < L.length) : sM n i L (26 + j) = L.getD j 0 := by
  unfold sM
  rw [List.getD_eq_getElem?_getD, show 26 + j = 24 + (j + 2) by omega, sW_hi, List.getElem?_append_right (by simp), List.getElem?_append_left (by simpa using h)]
  simp
theorem sM_77 (n i : Nat) (L : List Nat) : sM n i L (26 + L.length) = 77 := by
  unfold sM
  rw [List.getD_eq_getElem?_getD, show 26 + L.length = 24 + (L.length + 2) by omega, sW_hi, List.getElem?_append_right (by simp), List.getElem?_append_right (by simp)]
  simp
theorem put_getD (l : List Nat) {j : Nat} (h : j < l.length) (v : Nat) : put (fun k => l.getD k 0) j v = fun k => (l.set j v).getD k 0 := by
  funext k
  unfold put
  simp only [List.getD_eq_getElem?_getD, List.getElem?_set]
  by_cases e : k = j
  · subst e; simp [h]
  · rw [if_neg e, if_neg (fun e2 => e e2.symm)]
theorem sM_puti (n i : Nat) (L : List Nat) (v : Nat) : put (sM n i L) 24 v = sM n v L := by
  have e : (sWs n i L).set 24 v = sWs n v L := by
    unfold sWs
    rw [List.set_append_right _ _ (by rw [sI_len]; omega), sI_len]
    rfl
  unfold sM
  rw [put_getD _ (by rw [sWs_len]; omega), e]
theorem sM_putl (n i : Nat) (L : List Nat) {j : Nat} (h : j < L.length) (v : Nat) : put (sM n i L) (26 + j) v = sM n i (L.set j v) := by
  have e : (sWs n i L).set (26 + j) v = sWs n i (L.set j v) := by
    unfold sWs
    rw [List.set_append_right _ _ (by rw [sI_len]; omega), sI_len, show 26 + j - 24 = j + 2 by omega]
    rw [List.set_append_right _ _ (by simp)]
    simp only [List.length_cons, List.length_nil]
    rw [show j + 2 - (0 + 1 + 1) = j by omega, List.set_append_left _ _ h]
  unfold sM
  rw [put_getD _ (by rw [sWs_len]; omega), e]
def sS (n i : Nat) (L : List Nat) (a1 a2 a3 a4 a5 a6 a7 pc : Nat) : Mc := ⟨sM n i L, qq a1 a2 a3 a4 a5 a6 a7, pc, false⟩
section
variable (n i : Nat) (L : List Nat) (a1 a2 a3 a4 a5 a6 a7 : Nat)
theorem s0 : stp (sS n i L a1 a2 a3 a4 a5 a6 a7 0) = some (sS n i L a1 a2 a3 a4 a5 a6 26 1) := by
  refine stp_at (i := ⟨2, 7, 0, 26⟩) (by show 0 < 512; decide) (sM_at n i L (k := 0) rfl) (by decide) ?_
  simp [stpI, sS, show isI ⟨2, 7, 0, 26⟩ = true by decide, res, tgt, nx, im, qq7]
theorem s1 : stp (sS n i L a1 a2 a3 a4 a5 a6 a7 1) = some (sS n i L a1 a2 a3 a4 a5 1 a7 2) := by
  refine stp_at (i := ⟨2, 6, 0, 1⟩) (by show 1 < 512; decide) (sM_at n i L (k := 1) rfl) (by decide) ?_
  simp [stpI, sS, show isI ⟨2, 6, 0, 1⟩ = true by decide, res, tgt, nx, im, qq6]
theorem s2 : stp (sS n i L a1 a2 a3 a4 a5 a6 a7 2) = some (sS n i L a1 a2 a3 a4 n a6 a7 3) := by
  refine stp_at (i := ⟨19, 5, 0, 25⟩) (by show 2 < 512; decide) (sM_at n i L (k := 2) rfl) (by decide) ?_
  have e : adr (qq a1 a2 a3 a4 a5 a6 a7) 0 25 = 25 := by simp [adr, qq]
  simp [stpI, sS, show isI ⟨19, 5, 0, 25⟩ = true by decide, nx, qq5, e, sM_n]
theorem s3 : stp (sS n i L a1 a2 a3 a4 a5 a6 a7 3) = some (sS n i L a1 a2 a3 a4 a5 (if a6 < a5 then 1 else 0) a7 4) := by
  refine stp_at (i := ⟨15, 6, 5, 0⟩) (by show 3 < 512; decide) (sM_at n i L (k := 3) rfl) (by decide) ?_
  have q5 : qq a1 a2 a3 a4 a5 a6 a7 5 = a5 := rfl
  have q6 : qq a1 a2 a3 a4 a5 a6 a7 6 = a6 := rfl
  simp [stpI, sS, show isI ⟨15, 6, 5, 0⟩ = true by decide, res, tgt, nx, qq6, q5, q6]
theorem s4 (h : a6 ≠ 0) : stp (sS n i L a1 a2 a3 a4 a5 a6 a7 4) = some (sS n i L a1 a2 a3 a4 a5 a6 a7 5) := by
  refine stp_at (i := ⟨22, 6, 0, 18⟩) (by show 4 < 512; decide) (sM_at n i L (k := 4) rfl) (by decide) ?_
  have q6 : qq a1 a2 a3 a4 a5 a6 a7 6 = a6 := rfl
  simp [stpI, sS, show isI ⟨22, 6, 0, 18⟩ = true by decide, res, tgt, nx, qq6, q6, h]
theorem s4' (h : a6 = 0) : stp (sS n i L a1 a2 a3 a4 a5 a6 a7 4) = some (sS n i L a1 a2 a3 a4 a5 a6 a7 23) := by
  refine stp_at (i := ⟨22, 6, 0, 18⟩) (by show 4 < 512; decide) (sM_at n i L (k := 4) rfl) (by decide) ?_
  subst h
  have q6 : qq a1 a2 a3 a4 a5 0 a7 6 = 0 := rfl
  simp [stpI, sS, show isI ⟨22, 6, 0, 18⟩ = true by decide, res, tgt, nx, im, qq6, q6]
theorem s5 : stp (sS n i L a1 a2 a3 a4 a5 a6 a7 5) = some (sS n i L a1 a2 a3 a4 a5 i a7 6) := by
  refine stp_at (i := ⟨19, 6, 0, 24⟩) (by show 5 < 512; decide) (sM_at n i L (k := 5) rfl) (by decide) ?_
  have e : adr (qq a1 a2 a3 a4 a5 a6 a7) 0 24 = 24 := by simp [adr, qq]
  simp [stpI, sS, show isI ⟨19, 6, 0, 24⟩ = true by decide, nx, qq6, e, sM_i]
theorem s6 : stp (sS n i L a1 a2 a3 a4 a5 a6 a7 6) = some (sS n i L a1 a2 a3 a7 a5 a6 a7 7) := by
  refine stp_at (i := ⟨4, 4, 7, 0⟩) (by show 6 < 512; decide) (sM_at n i L (k := 6) rfl) (by decide) ?_
  have q7 : qq a1 a2 a3 a4 a5 a6 a7 7 = a7 := rfl
  simp [stpI, sS, show isI ⟨4, 4, 7, 0⟩ = true by decide, res, tgt, nx, qq4, q7]
theorem s7 (h : a4 + a6 < 4294967296) : stp (sS n i L a1 a2 a3 a4 a5 a6 a7 7) = some (sS n i L a1 a2 a3 (a4 + a6) a5 a6 a7 8) := by
  refine stp_at (i := ⟨5, 4, 6, 0⟩) (by show 7 < 512; decide) (sM_at n i L (k := 7) rfl) (by decide) ?_
  have q4 : qq a1 a2 a3 a4 a5 a6 a7 4 = a4 := rfl
  have q6 : qq a1 a2 a3 a4 a5 a6 a7 6 = a6 := rfl
  simp [stpI, sS, show isI ⟨5, 4, 6, 0⟩ = true by decide, res, tgt, nx, qq4, q4, q6, Nat.mod_eq_of_lt h]
theorem s8 {j : Nat} (hj : j < L.length) (h4 : L.length ≤ 40) : stp (sS n i L a1 a2 a3 (26 + j) a5 a6 a7 8) = some (sS n i L (L.getD j 0) a2 a3 (26 + j) a5 a6 a7 9) := by
  refine stp_at (i := ⟨19, 1, 4, 0⟩) (by show 8 < 512; decide) (sM_at n i L (k := 8) rfl) (by decide) ?_
  have e : adr (qq a1 a2 a3 (26 + j) a5 a6 a7) 4 0 = 26 + j := by simp [adr, qq]; omega
  have hl : 26 + j < 512 := by omega
  simp [stpI, sS, show isI ⟨19, 1, 4, 0⟩ = true by decide, nx, qq1, e, hl, sM_l n i L hj]
theorem s9 : stp (sS n i L a1 a2 a3 a4 a5 a6 a7 9) = some (sS n i L a1 a4 a3 a4 a5 a6 a7 10) := by
  refine stp_at (i := ⟨4, 2, 4, 0⟩) (by show 9 < 512; decide) (sM_at n i L (k := 9) rfl) (by decide) ?_
  have q4 : qq a1 a2 a3 a4 a5 a6 a7 4 = a4 := rfl
  simp [stpI, sS, show isI ⟨4, 2, 4, 0⟩ = true by decide, res, tgt, nx, qq2, q4]
theorem s10 (h : a7 ≤ a2) (h2 : a2 < 4294967296) : stp (sS n i L a1 a2 a3 a4 a5 a6 a7 10) = some (sS n i L a1 (a2 - a7) a3 a4 a5 a6 a7 11) := by
  refine stp_at (i := ⟨6, 2, 7, 0⟩) (by show 10 < 512; decide) (sM_at n i L (k := 10) rfl) (by decide) ?_
  have q2 : qq a1 a2 a3 a4 a5 a6 a7 2 = a2 := rfl
  have q7 : qq a1 a2 a3 a4 a5 a6 a7 7 = a7 := rfl
  have e : (((a2 : Int) - (a7 : Int)) % 4294967296).toNat = a2 - a7 := by omega
  simp [stpI, sS, show isI ⟨6, 2, 7, 0⟩ = true by decide, res, tgt, nx, qq2, q2, q7, e]
theorem s11 (h : a2 ≠ 0) : stp (sS n i L a1 a2 a3 a4 a5 a6 a7 11) = some (sS n i L a1 a2 a3 a4 a5 a6 a7 12) := by
  refine stp_at (i := ⟨22, 2, 0, 7⟩) (by show 11 < 512; decide) (sM_at n i L (k := 11) rfl) (by decide) ?_
  have q2 : qq a1 a2 a3 a4 a5 a6 a7 2 = a2 := rfl
  simp [stpI, sS, show isI ⟨22, 2, 0, 7⟩ = true by decide, res, tgt, nx, qq2, q2, h]
theorem s11' : stp (sS n i L a1 0 a3 a4 a5 a6 a7 11) = some (sS n i L a1 0 a3 a4 a5 a6 a7 19) := by
  refine stp_at (i := ⟨22, 2, 0, 7⟩) (by show 11 < 512; decide) (sM_at n i L (k := 11) rfl) (by decide) ?_
  have q2 : qq a1 0 a3 a4 a5 a6 a7 2 = 0 := rfl
  simp [stpI, sS, show isI ⟨22, 2, 0, 7⟩ = true by decide, res, tgt, nx, im, qq2, q2]
theorem s12 {j : Nat} (hj : j < L.length) (h4 : L.length ≤ 40) : stp (sS n i L a1 a2 a3 (26 + (j + 1)) a5 a6 a7 12) = some (sS n i L a1 a2 (L.getD j 0) (26 + (j + 1)) a5 a6 a7 13) := by
  refine stp_at (i := ⟨19, 3, 4, -1⟩) (by show 12 < 512; decide) (sM_at n i L (k := 12) rfl) (by decide) ?_
  have e : adr (qq a1 a2 a3 (26 + (j + 1)) a5 a6 a7) 4 (-1) = 26 + j := by simp [adr, qq]; omega
  have hl : 26 + j < 512 := by omega
  simp [stpI, sS, show isI ⟨19, 3, 4, -1⟩ = true by decide, nx, qq3, e, hl, sM_l n i L hj]
theorem s13 : stp (sS n i L a1 a2 a3 a4 a5 a6 a7 13) = some (sS n i L a1 a1 a3 a4 a5 a6 a7 14) := by
  refine stp_at (i := ⟨4, 2, 1, 0⟩) (by show 13 < 512; decide) (sM_at n i L (k := 13) rfl) (by decide) ?_
  have q1 : qq a1 a2 a3 a4 a5 a6 a7 1 = a1 := rfl
  simp [stpI, sS, show isI ⟨4, 2, 1, 0⟩ = true by decide, res, tgt, nx, qq2, q1]
theorem s14 : stp (sS n i L a1 a2 a3 a4 a5 a6 a7 14) = some (sS n i L a1 (if a2 < a3 then 1 else 0) a3 a4 a5 a6 a7 15) := by
  refine stp_at (i := ⟨15, 2, 3, 0⟩) (by show 14 < 512; decide) (sM_at n i L (k := 14) rfl) (by decide) ?_
  have q2 : qq a1 a2 a3 a4 a5 a6 a7 2 = a2 := rfl
  have q3 : qq a1 a2 a3 a4 a5 a6 a7 3 = a3 := rfl
  simp [stpI, sS, show isI ⟨15, 2, 3, 0⟩ = true by decide, res, tgt, nx, qq2, q2, q3]
theorem s15 (h : a2 ≠ 0) : stp (sS n i L a1 a2 a3 a4 a5 a6 a7 15) = some (sS n i L a1 a2 a3 a4 a5 a6 a7 16) := by
  refine stp_at (i := ⟨22, 2, 0, 3⟩) (by show 15 < 512; decide) (sM_at n i L (k := 15) rfl) (by decide) ?_
  have q2 : qq a1 a2 a3 a4 a5 a6 a7 2 = a2 := rfl
  simp [stpI, sS, show isI ⟨22, 2, 0, 3⟩ = true by decide, res, tgt, nx, qq2, q2, h]
theorem s15' : stp (sS n i L a1 0 a3 a4 a5 a6 a7 15) = some (sS n i L a1 0 a3 a4 a5 a6 a7 19) := by
  refine stp_at (i := ⟨22, 2, 0, 3⟩) (by show 15 < 512; decide) (sM_at n i L (k := 15) rfl) (by decide) ?_
  have q2 : qq a1 0 a3 a4 a5 a6 a7 2 = 0 := rfl
  simp [stpI, sS, show isI ⟨22, 2, 0, 3⟩ = true by decide, res, tgt, nx, im, qq2, q2]
theorem s16 {j : Nat} (hj : j < L.length) (h4 : L.length ≤ 40) : stp (sS n i L a1 a2 a3 (26 + j) a5 a6 a7 16) = some (sS n i (L.set j a3) a1 a2 a3 (26 + j) a5 a6 a7 17) := by
  refine stp_at (i := ⟨20, 3, 4, 0⟩) (by show 16 < 512; decide) (sM_at n i L (k := 16) rfl) (by decide) ?_
  have e : adr (qq a1 a2 a3 (26 + j) a5 a6 a7) 4 0 = 26 + j := by simp [adr, qq]; omega
  have hl : 26 + j < 512 := by omega
  have q3 : qq a1 a2 a3 (26 + j) a5 a6 a7 3 = a3 := rfl
  simp [stpI, sS, show isI ⟨20, 3, 4, 0⟩ = true by decide, nx, e, hl, q3, sM_putl n i L hj]
theorem s17 {j : Nat} (h : j < 100) : stp (sS n i L a1 a2 a3 (26 + (j + 1)) a5 a6 a7 17) = some (sS n i L a1 a2 a3 (26 + j) a5 a6 a7 18) := by
  refine stp_at (i := ⟨18, 4, 0, -1⟩) (by show 17 < 512; decide) (sM_at n i L (k := 17) rfl) (by decide) ?_
  have q4 : qq a1 a2 a3 (26 + (j + 1)) a5 a6 a7 4 = 26 + (j + 1) := rfl
  have e : (26 + (j + 1) + 4294967295) % 4294967296 = 26 + j := by omega
  simp [stpI, sS, show isI ⟨18, 4, 0, -1⟩ = true by decide, res, tgt, nx, im, qq4, q4, e]
theorem s18 : stp (sS n i L a1 a2 a3 a4 a5 a6 a7 18) = some (sS n i L a1 a2 a3 a4 a5 a6 a7 9) := by
  refine stp_at (i := ⟨21, 0, 0, -10⟩) (by show 18 < 512; decide) (sM_at n i L (k := 18) rfl) (by decide) ?_
  have q0 : qq a1 a2 a3 a4 a5 a6 a7 0 = 0 := rfl
  simp [stpI, sS, show isI ⟨21, 0, 0, -10⟩ = true by decide, res, tgt, nx, im, q0, qq0]
theorem s19 {j : Nat} (hj : j < L.length) (h4 : L.length ≤ 40) : stp (sS n i L a1 a2 a3 (26 + j) a5 a6 a7 19) = some (sS n i (L.set j a1) a1 a2 a3 (26 + j) a5 a6 a7 20) := by
  refine stp_at (i := ⟨20, 1, 4, 0⟩) (by show 19 < 512; decide) (sM_at n i L (k := 19) rfl) (by decide) ?_
  have e : adr (qq a1 a2 a3 (26 + j) a5 a6 a7) 4 0 = 26 + j := by simp [adr, qq]; omega
  have hl : 26 + j < 512 := by omega
  have q1 : qq a1 a2 a3 (26 + j) a5 a6 a7 1 = a1 := rfl
  simp [stpI, sS, show isI ⟨20, 1, 4, 0⟩ = true by decide, nx, e, hl, q1, sM_putl n i L hj]
theorem s20 (h : a6 < 100) : stp (sS n i L a1 a2 a3 a4 a5 a6 a7 20) = some (sS n i L a1 a2 a3 a4 a5 (a6 + 1) a7 21) := by
  refine stp_at (i := ⟨18, 6, 0, 1⟩) (by show 20 < 512; decide) (sM_at n i L (k := 20) rfl) (by decide) ?_
  have q6 : qq a1 a2 a3 a4 a5 a6 a7 6 = a6 := rfl
  have e : (a6 + 1) % 4294967296 = a6 + 1 := by omega
  simp [stpI, sS, show isI ⟨18, 6, 0, 1⟩ = true by decide, res, tgt, nx, im, qq6, q6, e]
theorem s21 : stp (sS n i L a1 a2 a3 a4 a5 a6 a7 21) = some (sS n a6 L a1 a2 a3 a4 a5 a6 a7 22) := by
  refine stp_at (i := ⟨20, 6, 0, 24⟩) (by show 21 < 512; decide) (sM_at n i L (k := 21) rfl) (by decide) ?_
  have e : adr (qq a1 a2 a3 a4 a5 a6 a7) 0 24 = 24 := by simp [adr, qq]
  have q6 : qq a1 a2 a3 a4 a5 a6 a7 6 = a6 := rfl
  simp [stpI, sS, show isI ⟨20, 6, 0, 24⟩ = true by decide, nx, e, q6, sM_puti]
theorem s22 : stp (sS n i L a1 a2 a3 a4 a5 a6 a7 22) = some (sS n i L a1 a2 a3 a4 a5 a6 a7 2) := by
  refine stp_at (i := ⟨21, 0, 0, -21⟩) (by show 22 < 512; decide) (sM_at n i L (k := 22) rfl) (by decide) ?_
  have q0 : qq a1 a2 a3 a4 a5 a6 a7 0 = 0 := rfl
  simp [stpI, sS, show isI ⟨21, 0, 0, -21⟩ = true by decide, res, tgt, nx, im, q0, qq0]
theorem s23 : stp (sS n i L a1 a2 a3 a4 a5 a6 a7 23) = some ⟨sM n i L, qq a1 a2 a3 a4 a5 a6 a7, 24, true⟩ := by
  refine stp_at (i := ⟨26, 0, 0, 1⟩) (by show 23 < 512; decide) (sM_at n i L (k := 23) rfl) (by decide) ?_
  simp [stpI, sS, show isI ⟨26, 0, 0, 1⟩ = true by decide, nx]
end
end Go.Proofs.YtoaplkfmchphbaaDoor

namespace Go.Proofs.YtoaplkfmchphbaaDoor
open Go.RowKit
section
variable (n i : Nat) (L : List Nat) (a1 a2 a3 a4 a5 a6 a7 : Nat)
/-- a new word is taken up -/
theorem m_head (hi : i < n) (hn : n = L.length) (h4 : L.length ≤ 40) : ∃ b2 b3, Sts 7 (sS n i L a1 a2 a3 a4 a5 i 26 2) (sS n i L (L.getD i 0) b2 b3 (26 + i) n i 26 9) := by
  refine ⟨a2, a3, ?_⟩
  have h1 : (if i < n then 1 else 0) = 1 := if_pos hi
  have t := (((Sts.one rfl (s2 n i L a1 a2 a3 a4 a5 i 26)).then1 rfl (s3 n i L a1 a2 a3 a4 n i 26)))
  rw [h1] at t
  have t2 := ((((t.then1 rfl (s4 n i L a1 a2 a3 a4 n 1 26 (by decide))).then1 rfl (s5 n i L a1 a2 a3 a4 n 1 26)).then1 rfl (s6 n i L a1 a2 a3 a4 n i 26)).then1 rfl (s7 n i L a1 a2 a3 26 n i 26 (by omega)))
  exact t2.then1 rfl (s8 n i L a1 a2 a3 n i 26 (j := i) (by omega) h4)
/-- all are sorted -/
theorem m_end (hi : ¬ i < n) : Sts 4 (sS n i L a1 a2 a3 a4 a5 i 26 2) ⟨sM n i L, qq a1 a2 a3 a4 n 0 26, 24, true⟩ := by
  have h1 : (if i < n then 1 else 0) = 0 := if_neg hi
  have t := (((Sts.one rfl (s2 n i L a1 a2 a3 a4 a5 i 26)).then1 rfl (s3 n i L a1 a2 a3 a4 n i 26)))
  rw [h1] at t
  exact (t.then1 rfl (s4' n i L a1 a2 a3 a4 n 0 26 rfl)).then1 rfl (s23 n i L a1 a2 a3 a4 n 0 26)
/-- at the list's beginning -/
theorem m_first : Sts 3 (sS n i L a1 a2 a3 (26 + 0) a5 a6 26 9) (sS n i L a1 0 a3 (26 + 0) a5 a6 26 19) := by
  exact ((Sts.one rfl (s9 n i L a1 a2 a3 (26 + 0) a5 a6 26)).then1 rfl (s10 n i L a1 (26 + 0) a3 (26 + 0) a5 a6 26 (by omega) (by omega))).then1 rfl (s11' n i L a1 a3 (26 + 0) a5 a6 26)
/-- to the word ahead -/
theorem m_look {j : Nat} (hj : j + 1 < L.length) (h4 : L.length ≤ 40) : Sts 6 (sS n i L a1 a2 a3 (26 + (j + 1)) a5 a6 26 9) (sS n i L a1 (if a1 < L.getD j 0 then 1 else 0) (L.getD j 0) (26 + (j + 1)) a5 a6 26 15) := by
  have t := ((((Sts.one rfl (s9 n i L a1 a2 a3 (26 + (j + 1)) a5 a6 26)).then1 rfl (s10 n i L a1 (26 + (j + 1)) a3 (26 + (j + 1)) a5 a6 26 (by omega) (by omega))).then1 rfl (s11 n i L a1 (26 + (j + 1) - 26) a3 (26 + (j + 1)) a5 a6 26 (by omega))).then1 rfl (s12 n i L a1 (26 + (j + 1) - 26) a3 a5 a6 26 (j := j) (by omega) h4))
  exact (t.then1 rfl (s13 n i L a1 (26 + (j + 1) - 26) (L.getD j 0) (26 + (j + 1)) a5 a6 26)).then1 rfl (s14 n i L a1 a1 (L.getD j 0) (26 + (j + 1)) a5 a6 26)
/-- it stays where it is -/
theorem m_stay {j : Nat} (hj : j + 1 < L.length) (h4 : L.length ≤ 40) (hv : ¬ a1 < L.getD j 0) : Sts 7 (sS n i L a1 a2 a3 (26 + (j + 1)) a5 a6 26 9) (sS n i L a1 0 (L.getD j 0) (26 + (j + 1)) a5 a6 26 19) := by
  have t := m_look n i L a1 a2 a3 a5 a6 hj h4
  rw [if_neg hv] at t
  exact t.then1 rfl (s15' n i L a1 (L.getD j 0) (26 + (j + 1)) a5 a6 26)
/-- the word ahead is brought up -/
theorem m_shift {j : Nat} (hj : j + 1 < L.length) (h4 : L.length ≤ 40) (hv : a1 < L.getD j 0) : Sts 10 (sS n i L a1 a2 a3 (26 + (j + 1)) a5 a6 26 9) (sS n i (L.set (j + 1) (L.getD j 0)) a1 1 (L.getD j 0) (26 + j) a5 a6 26 9) := by
  have t := m_look n i L a1 a2 a3 a5 a6 hj h4
  rw [if_pos hv] at t
  exact (((t.then1 rfl (s15 n i L a1 1 (L.getD j 0) (26 + (j + 1)) a5 a6 26 (by decide))).then1 rfl (s16 n i L a1 1 (L.getD j 0) a5 a6 26 hj h4)).then1 rfl (s17 n i (L.set (j + 1) (L.getD j 0)) a1 1 (L.getD j 0) a5 a6 26 (j := j) (by omega))).then1 rfl (s18 n i (L.set (j + 1) (L.getD j 0)) a1 1 (L.getD j 0) (26 + j) a5 a6 26)
/-- it is laid down -/
theorem m_place {j : Nat} (hj : j < L.length) (h4 : L.length ≤ 40) (h6 : a6 < 100) : Sts 4 (sS n i L a1 a2 a3 (26 + j) a5 a6 a7 19) (sS n (a6 + 1) (L.set j a1) a1 a2 a3 (26 + j) a5 (a6 + 1) a7 2) := by
  exact (((Sts.one rfl (s19 n i L a1 a2 a3 a5 a6 a7 hj h4)).then1 rfl (s20 n i (L.set j a1) a1 a2 a3 (26 + j) a5 a6 a7 h6)).then1 rfl (s21 n i (L.set j a1) a1 a2 a3 (26 + j) a5 (a6 + 1) a7)).then1 rfl (s22 n (a6 + 1) (L.set j a1) a1 a2 a3 (26 + j) a5 (a6 + 1) a7)
end
/-- rising -/
def Up (l : List Nat) : Prop := l.Pairwise (· ≤ ·)
theorem getD_at (A : List Nat) (x : Nat) (B : List Nat) : (A ++ x :: B).getD A.length 0 = x := by simp [List.getD_eq_getElem?_getD]
theorem set_at (A : List Nat) (x v : Nat) (B : List Nat) : (A ++ x :: B).set A.length v = A ++ v :: B := by
  rw [List.set_append_right _ _ (by omega)]
  simp
theorem snocInd {P : List Nat → Prop} (h0 : P []) (h1 : ∀ A x, P A → P (A ++ [x])) (l : List Nat) : P l := by
  have h : ∀ r : List Nat, P r.reverse := by
    intro r
    induction r with
    | nil => exact h0
    | cons a r ih => rw [List.reverse_cons]; exact h1 _ _ ih
  have := h l.reverse
  rwa [List.reverse_reverse] at this
/-- the word v goes to its place: A is what lies ahead of the hole, B what was brought up, C the rest -/
theorem inner (n i v a5 : Nat) : ∀ (A : List Nat) (h : Nat) (B C : List Nat) (a2 a3 : Nat), (A ++ h :: (B ++ C)).length ≤ 40 → i < 100 → Up A → Up B → (∀ b ∈ B, v < b) → (∀ a ∈ A, ∀ b ∈ B, a ≤ b) →
    ∃ k A' B' b2 b3 b4, k ≤ 10 * A.length + 11 ∧ A' ++ B' = A ++ B ∧ Up (A' ++ v :: B') ∧ Sts k (sS n i (A ++ h :: (B ++ C)) v a2 a3 (26 + A.length) a5 i 26 9) (sS n (i + 1) (A' ++ v :: (B' ++ C)) v b2 b3 b4 a5 (i + 1) 26 2) := by
  refine snocInd ?_ ?_
  · intro h B C a2 a3 hl hi hA hB hv hab
    refine ⟨7, [], B, 0, a3, 26 + 0, by simp, rfl, ?_, ?_⟩
    · exact List.pairwise_cons.2 ⟨fun b hb => Nat.le_of_lt (hv b hb), hB⟩
    · have t := (m_first n i (h :: (B ++ C)) v a2 a3 a5 i).trans (m_place n i (h :: (B ++ C)) v 0 a3 a5 i 26 (j := 0) (by simp) (by simpa using hl) hi)
      exact t
  · intro A x ih h B C a2 a3 hl hi hA hB hv hab
    have hlen : (A ++ [x]).length = A.length + 1 := by simp
    have hL1 : A.length + 1 < ((A ++ [x]) ++ h :: (B ++ C)).length := by simp
    have hg : ((A ++ [x]) ++ h :: (B ++ C)).getD A.length 0 = x := by rw [List.append_assoc]; exact getD_at A x _
    have hAx := List.pairwise_append.1 hA
    by_cases hx : v < x
    · have t := m_shift n i ((A ++ [x]) ++ h :: (B ++ C)) v a2 a3 a5 i hL1 hl (by rw [hg]; exact hx)
      rw [hg] at t
      have e : ((A ++ [x]) ++ h :: (B ++ C)).set (A.length + 1) x = A ++ x :: ((x :: B) ++ C) := by
        have := set_at (A ++ [x]) h x (B ++ C)
        rw [hlen] at this
        rw [this]
        simp
      rw [e] at t
      obtain ⟨k, A', B', b2, b3, b4, hk, hAB, hU, hs⟩ := ih x (x :: B) C 1 x (by have := congrArg List.length e; rw [List.length_set] at this; omega) hi hAx.1
        (List.pairwise_cons.2 ⟨fun b hb => hab x (by simp) b hb, hB⟩) (fun b hb => by
          rcases List.mem_cons.1 hb with rfl | h2
          · exact hx
          · exact hv b h2) (fun a ha b hb => by
          rcases List.mem_cons.1 hb with rfl | h2
          · exact hAx.2.2 a ha b (by simp)
          · exact hab a (by simp [ha]) b h2)
      refine ⟨10 + k, A', B', b2, b3, b4, by rw [hlen]; omega, by rw [hAB]; simp, hU, ?_⟩
      rw [hlen]
      exact t.trans hs
    · have t := (m_stay n i ((A ++ [x]) ++ h :: (B ++ C)) v a2 a3 a5 i hL1 hl (by rw [hg]; exact hx)).trans (m_place n i ((A ++ [x]) ++ h :: (B ++ C)) v 0 (((A ++ [x]) ++ h :: (B ++ C)).getD A.length 0) a5 i 26 (j := A.length + 1) hL1 hl hi)
      have e : ((A ++ [x]) ++ h :: (B ++ C)).set (A.length + 1) v = (A ++ [x]) ++ v :: (B ++ C) := by
        have := set_at (A ++ [x]) h v (B ++ C)
        rw [hlen] at this
        exact this
      rw [e] at t
      refine ⟨11, A ++ [x], B, 0, _, 26 + (A.length + 1), by omega, rfl, ?_, by rw [hlen]; exact t⟩
      refine List.pairwise_append.2 ⟨hA, List.pairwise_cons.2 ⟨fun b hb => Nat.le_of_lt (hv b hb), hB⟩, fun a ha b hb => ?_⟩
      have hav : a ≤ v := by
        rcases List.mem_append.1 ha with h2 | h2
        · have := hAx.2.2 a h2 x (by simp)
          omega
        · obtain rfl : a = x := by simpa using h2
          omega
      rcases List.mem_cons.1 hb with rfl | h2
      · exact hav
      · have := hv b h2
        omega
/-- word by word -/
theorem outer (n : Nat) : ∀ (m i : Nat) (L : List Nat) (a1 a2 a3 a4 a5 : Nat), n = L.length → L.length ≤ 40 → n - i = m → Up (L.take i) →
    ∃ k L' q i', k ≤ 418 * m + 4 ∧ L'.Perm L ∧ Up L' ∧ Sts k (sS n i L a1 a2 a3 a4 a5 i 26 2) ⟨sM n i' L', q, 24, true⟩ := by
  intro m
  induction m with
  | zero =>
    intro i L a1 a2 a3 a4 a5 hn h4 hm hU
    refine ⟨4, L, _, i, by omega, List.Perm.refl _, ?_, m_end n i L a1 a2 a3 a4 a5 (by omega)⟩
    rwa [List.take_of_length_le (by omega)] at hU
  | succ m ih =>
    intro i L a1 a2 a3 a4 a5 hn h4 hm hU
    have hi : i < L.length := by omega
    obtain ⟨b2, b3, t⟩ := m_head n i L a1 a2 a3 a4 a5 (by omega) hn h4
    have hsplit : L = L.take i ++ L[i] :: L.drop (i + 1) := by rw [← List.drop_eq_getElem_cons hi, List.take_append_drop]
    have hg : L.getD i 0 = L[i] := by rw [List.getD_eq_getElem?_getD, List.getElem?_eq_getElem hi]; rfl
    have hA : (L.take i).length = i := by rw [List.length_take]; omega
    rw [hg] at t
    generalize L.drop (i + 1) = C at *
    generalize L[i] = v at *
    generalize L.take i = A at *
    subst hsplit
    obtain ⟨k, A', B', c2, c3, c4, hk, hAB, hU2, t2⟩ := inner n i v n A v [] C b2 b3 (by simpa using h4) (by omega) hU List.Pairwise.nil (fun b hb => by cases hb) (fun a _ b hb => by cases hb)
    rw [List.append_nil] at hAB
    rw [hA] at t2
    have hlen : A'.length + B'.length = A.length := by rw [← List.length_append, hAB]
    have hperm : (A' ++ v :: (B' ++ C)).Perm (A ++ v :: C) := by
      refine List.perm_middle.trans (List.Perm.trans ?_ List.perm_middle.symm)
      rw [← List.append_assoc, hAB]
    have hL2 := hperm.length_eq
    have htk : (A' ++ v :: (B' ++ C)).take (i + 1) = A' ++ v :: B' := by
      rw [show A' ++ v :: (B' ++ C) = (A' ++ v :: B') ++ C by simp, List.take_left' (by simp; omega)]
    obtain ⟨k2, L', q, i', hk2, hp2, hU3, t3⟩ := ih (i + 1) (A' ++ v :: (B' ++ C)) v c2 c3 c4 n (by rw [hL2]; exact hn) (by rw [hL2]; exact h4) (by omega) (by rw [htk]; exact hU2)
    refine ⟨7 + k + k2, L', q, i', ?_, hp2.trans hperm, hU3, (t.trans t2).trans t3⟩
    have : A.length ≤ 39 := by simp at h4; omega
    omega
/-- the whole run -/
theorem sAll (L : List Nat) (h4 : L.length ≤ 40) : ∃ L' q i', L'.Perm L ∧ Up L' ∧ itr 20000 (sS L.length 1 L 0 0 0 0 0 0 0 0) = some ⟨sM L.length i' L', q, 24, true⟩ := by
  obtain ⟨k, L', q, i', hk, hp, hU, t⟩ := outer L.length (L.length - 1) 1 L 0 0 0 0 0 rfl h4 rfl (by
    cases L with
    | nil => exact List.Pairwise.nil
    | cons x r => simp [Up])
  refine ⟨L', q, i', hp, hU, Sts.ends (k := 2 + k) ?_ rfl (by omega)⟩
  exact ((Sts.one rfl (s0 L.length 1 L 0 0 0 0 0 0 0)).then1 rfl (s1 L.length 1 L 0 0 0 0 0 0 26)).trans t
end Go.Proofs.YtoaplkfmchphbaaDoor
