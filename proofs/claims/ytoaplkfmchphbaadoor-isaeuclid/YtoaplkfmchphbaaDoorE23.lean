import Derived.Test.YtoaplkfmchphbaaDoorE02
import Derived.Test.YtoaplkfmchphbaaDoorE03
import Derived.Test.YtoaplkfmchphbaaDoorE20
import Derived.Test.YtoaplkfmchphbaaDoorE21
import Derived.Test.YtoaplkfmchphbaaDoorE22
namespace Go.Proofs.YtoaplkfmchphbaaDoor
open Go.RowKit
def mc0 : Mc := ⟨fun _ => 0, fun _ => 0, 0, false⟩
/-- a machine with words from address 0 on -/
def mcW (ws : List Nat) : Mc := ⟨fun i => ws.getD i 0, fun _ => 0, 0, false⟩
set_option maxRecDepth 100000 in
theorem zeroM (w : World) : (zeroValue 48).run Tryd.prog w = .ok (.agg (mc mc0).toArray) w := by
  unfold zeroValue
  rw [Sem.run_bind, Tryd.typeInfo48]
  have e : Tryd.t48.zero = some (.agg (mc mc0).toArray) := by kernel_rfl
  simp [e]
theorem blk_add' (b : Addr) (i : Nat) : (b.add i).block = b.block := by unfold Addr.add; split <;> simp_all
theorem wd_set {W : World} {b : Addr} {ws : List Nat} {N i : Nat} {v : Value} (h : Wd W (some b) ws) (hN : b.block ≠ N) : Wd (W.setCell ⟨N, i, none⟩ v) (some b) ws := fun j hj => by
  obtain ⟨a, e, hc⟩ := h j hj
  cases e
  exact ⟨b, rfl, by rw [World.cell?_setCell_other _ _ _ _ (fun e => hN (by rw [← blk_add' b j]; exact (congrArg Addr.block e).symm))]; exact hc⟩
def mcP (ws : List Nat) (i : Nat) : Mc := ⟨fun j => if j < i then ws.getD j 0 else 0, fun _ => 0, 0, false⟩
theorem mcP_zero (ws : List Nat) : mcP ws 0 = mc0 := rfl
theorem mcP_end (ws : List Nat) : mcP ws ws.length = mcW ws := by
  unfold mcP mcW
  congr 1
  funext j
  split
  · rfl
  · rw [List.getD_eq_getElem?_getD, List.getElem?_eq_none (by omega)]; rfl
theorem mcP_step (ws : List Nat) {i : Nat} (h : i < ws.length) : { mcP ws i with m := put (mcP ws i).m i ws[i] } = mcP ws (i + 1) := by
  have e : put (mcP ws i).m i ws[i] = (mcP ws (i + 1)).m := by
    funext j
    show (if j = i then ws[i] else if j < i then ws.getD j 0 else 0) = if j < i + 1 then ws.getD j 0 else 0
    by_cases e : j = i
    · subst e; simp [h]
    · rw [if_neg e]
      by_cases h2 : j < i
      · rw [if_pos h2, if_pos (by omega)]
      · rw [if_neg h2, if_neg (by omega)]
  rw [e]
  rfl

set_option maxRecDepth 100000 in
set_option maxHeartbeats 2000000 in
theorem loaded_any (w : World) (t : Tx) (ws : List Nat) (ht : t.length ≤ 1000000) (hA : asmT t = (ws, 0, 0)) (hl : ws.length ≤ 512) (hO : Ops w) : Calls Tryd.prog 17 #[.string ⟨t.toArray⟩] w fun e w' => ∃ N, e = .returned (.tuple #[.pointer (some ⟨N, 0, none⟩), .bool true]) ∧ w.heap.size ≤ N ∧ Mb w' N (mcW ws) ∧ Below w.heap.size w w' := by
  have HA := hide (asm_any w t (by omega) hO)
  rw [hA] at HA
  have hz := zeroM
  obtain ⟨Z, hZ⟩ : ∃ Z, (mc mc0).toArray = Z := ⟨_, rfl⟩
  have hsz : Z.size = 522 := by rw [← hZ]; simp [mc_len]
  have hne : ¬ Z = #[] := by intro e; rw [e] at hsz; simp at hsz
  have HZ := hide hZ
  rw [hZ] at hz
  clear hZ hA
  obtain ⟨n, hn⟩ : ∃ n, ws.length = n := ⟨_, rfl⟩
  have HN := hide hn
  rw [hn] at hl
  have hlI : ¬ (512 : Int) < (n : Int) := by omega
  rw [show (ws, (0 : Nat), (0 : Int)).1.length = n from hn] at HA
  clear hn
  go_enter Tryd.func17, Tryd.ntmps17
  go_wp2_with fail
  refine HA.out.mono ?_
  rintro e w1 ⟨v, rfl, hO1, hb1⟩
  obtain ⟨mo, cm, rfl, hW1⟩ : ∃ ao c, v = .slice ao n c ∧ Wd w1 ao ws := by have h := HN.out; subst h; exact Wd.of hO1
  have HW1 := hide hW1
  have HB1 := hide hb1
  have HMB : Hid (∀ b, mo = some b → 0 < n → b.block < w1.heap.size) := hide (fun b e h0 => by
    obtain ⟨a, e2, hc⟩ := hW1 0 (by rw [HN.out]; exact h0)
    rw [e] at e2
    cases e2
    have := cell_blk hc
    rwa [blk_add'] at this)
  clear hb1 hW1 hO1 HA
  go_upto_region 6 with fail
  have q := heap_alloc_last w1 (.cells Z 48)
  have hb := bel1 w1 (.cells Z 48)
  obtain ⟨N, hNN⟩ : ∃ N, w1.heap.size = N := ⟨_, rfl⟩
  have HNB : Hid (w.heap.size ≤ N) := hide (by rw [← hNN]; exact HB1.out.size)
  generalize w1.alloc (.cells Z 48) = w2 at *
  have HM2 : Hid (Mb w2 N (mcP ws 0)) := hide ⟨by rw [mcP_zero, ← hNN, HZ.out]; exact q⟩
  have HB2 := hide (HB1.out.trans (hb.mono HB1.out.size))
  have HW2 := hide (HW1.out.below hb)
  have HMB2 : Hid (∀ b, mo = some b → 0 < n → b.block ≠ N) := hide (fun b e h0 => by have := HMB.out b e h0; omega)
  rw [hNN]
  clear q hb HW1 HB1 HMB hNN hz hne hsz
  go_loopw [8] (fun iv wr => ∃ i : Nat, iv = .int .i64 (i : Int) ∧ i ≤ n ∧ Hid (Mb wr N (mcP ws i)) ∧ Hid (Wd wr mo ws) ∧ Hid (Below w.heap.size w wr)) (fun iv _ => n - (intOf iv).toNat)
  case atStart => exact ⟨0, rfl, by omega, HM2, HW2, HB2⟩
  case round =>
    obtain ⟨i, rfl, hi, HMr, HWr, HBr⟩ := hrel
    clear HM2 HW2 HB2
    by_cases hlt : i < n
    · have hltI : (i : Int) < (n : Int) := by omega
      have hi5 : i < 512 := by omega
      have hi5I : (i : Int) < 512 := by omega
      obtain ⟨b, rfl, hc1⟩ := HWr.out i (by rw [HN.out]; exact hlt)
      have HBN := hide (HMB2.out b rfl (by omega))
      obtain ⟨u, hu⟩ : ∃ u, ws[i]'(by rw [HN.out]; exact hlt) = u := ⟨_, rfl⟩
      rw [hu] at hc1
      have HU := hide hu
      clear hu
      go_upto_region 8 with fail
      obtain ⟨w0, hwD⟩ : ∃ wD, wD = wr.drew := ⟨_, rfl⟩
      have HM0 : Hid (Mb w0 N (mcP ws i)) := by rw [hwD]; exact hide (HMr.out.below (Below.refl _ _).drew)
      have HC0 : Hid (w0.cell? (b.add i) = some (.int .u32 (u : Nat))) := by rw [hwD]; exact hide hc1
      have HB0 : Hid (Below w.heap.size w w0) := by rw [hwD]; exact hide HBr.out.drew
      have HW0 : Hid (Wd w0 (some b) ws) := by rw [hwD]; exact hide (HWr.out.below (Below.refl _ _).drew)
      refine wp_region_held_drew (S := fun W => W.cell? (b.add i) = some (.int .u32 (u : Nat))) (by kernel_rfl) (by rw [← hwD]; exact HC0.out) (fun hHeld => ?_)
      rw [← hwD]
      clear hwD hHeld hc1 HMr HWr HBr
      refine hd_take 0 (o := ⟨some 31, _, _, _, _, _⟩) (.pointer (some ⟨N, 0, none⟩)) (by kernel_rfl) (by kernel_rfl) (by kernel_rfl) rfl (by rfl) (fun W hSw => by go_simp) (fun _ _ _ h => h) HC0.out ?_
      simp only [Act.put, List.setIfInBounds_toArray, List.set_cons_zero, List.set_cons_succ]
      refine hd_take 1 (o := ⟨some 32, _, _, _, _, _⟩) (.int .i64 (i : Int)) (by kernel_rfl) (by kernel_rfl) (by kernel_rfl) rfl (by rfl) (fun W hSw => by go_simp) (fun _ _ _ h => h) HC0.out ?_
      simp only [Act.put, List.setIfInBounds_toArray, List.set_cons_zero, List.set_cons_succ]
      refine hd_take 2 (o := ⟨some 33, _, _, _, _, _⟩) (.slice (some b) n cm) (by kernel_rfl) (by kernel_rfl) (by kernel_rfl) rfl (by rfl) (fun W hSw => by go_simp) (fun _ _ _ h => h) HC0.out ?_
      simp only [Act.put, List.setIfInBounds_toArray, List.set_cons_zero, List.set_cons_succ]
      refine hd_take 3 (o := ⟨some 34, _, _, _, _, _⟩) (.int .i64 (i : Int)) (by kernel_rfl) (by kernel_rfl) (by kernel_rfl) rfl (by rfl) (fun W hSw => by go_simp) (fun _ _ _ h => h) HC0.out ?_
      simp only [Act.put, List.setIfInBounds_toArray, List.set_cons_zero, List.set_cons_succ]
      refine hd_take 4 (o := ⟨some 35, _, _, _, _, _⟩) (.pointer (some (b.add i))) (by kernel_rfl) (by kernel_rfl) (by kernel_rfl) rfl (by rfl) (fun W hSw => by go_simp) (fun _ _ _ h => h) HC0.out ?_
      simp only [Act.put, List.setIfInBounds_toArray, List.set_cons_zero, List.set_cons_succ]
      refine hd_take 5 (o := ⟨some 36, _, _, _, _, _⟩) (.int .u32 (u : Nat)) (by kernel_rfl) (by kernel_rfl) (by kernel_rfl) rfl (by rfl) (fun W hSw => by have c : W.cell? (b.add i) = some (.int .u32 (u : Nat)) := hSw; go_simp) (fun _ _ _ h => h) HC0.out ?_
      simp only [Act.put, List.setIfInBounds_toArray, List.set_cons_zero, List.set_cons_succ]
      refine hd_take 6 (o := ⟨some 37, _, _, _, _, _⟩) (.pointer (some ⟨N, 0, none⟩)) (by kernel_rfl) (by kernel_rfl) (by kernel_rfl) rfl (by rfl) (fun W hSw => by go_simp) (fun _ _ _ h => h) HC0.out ?_
      simp only [Act.put, List.setIfInBounds_toArray, List.set_cons_zero, List.set_cons_succ]
      refine hd_take 7 (o := ⟨some 38, _, _, _, _, _⟩) (.pointer (some ⟨N, 0, none⟩)) (by kernel_rfl) (by kernel_rfl) (by kernel_rfl) rfl (by rfl) (fun W hSw => by go_simp) (fun _ _ _ h => h) HC0.out ?_
      simp only [Act.put, List.setIfInBounds_toArray, List.set_cons_zero, List.set_cons_succ]
      refine hd_take 8 (o := ⟨some 39, _, _, _, _, _⟩) (.pointer (some ⟨N, i, none⟩)) (by kernel_rfl) (by kernel_rfl) (by kernel_rfl) rfl (by rfl) (fun W hSw => by go_simp) (fun _ _ _ h => h) HC0.out ?_
      simp only [Act.put, List.setIfInBounds_toArray, List.set_cons_zero, List.set_cons_succ]
      refine hd_call 9 (o := ⟨none, _, _, _, _, _⟩) (by kernel_rfl) rfl (by rfl) (fun K' hK => ?_)
      have c := HM0.out.m hi5
      have f := HM0.out.frz
      have HM1 := hide (HM0.out.set_m hi5 u)
      have HB1 : Hid (Below w.heap.size w (w0.setCell ⟨N, i, none⟩ (.int .u32 (u : Nat)))) := hide (HB0.out.setCell HNB.out _)
      have HC1 : Hid ((w0.setCell ⟨N, i, none⟩ (.int .u32 (u : Nat))).cell? (b.add i) = some (.int .u32 (u : Nat))) := hide (by rw [World.cell?_setCell_other _ _ _ _ (fun e => HBN.out (by rw [← blk_add' b i]; exact (congrArg Addr.block e).symm))]; exact HC0.out)
      have HW1 : Hid (Wd (w0.setCell ⟨N, i, none⟩ (.int .u32 (u : Nat))) (some b) ws) := hide (wd_set HW0.out HBN.out)
      go_simp
      clear c f
      generalize w0.setCell ⟨N, i, none⟩ (.int .u32 (u : Nat)) = w1 at *
      refine hK _ _ HC1.out ?_
      clear hK K'
      try simp only [Act.put]
      refine wpAnyH_done (by kernel_rfl) ?_ _
      have HM3 : Hid (Mb w1 N (mcP ws (i + 1))) := hide (by
        rw [← mcP_step ws (by rw [HN.out]; exact hlt), HU.out]
        exact HM1.out)
      clear HC0 HC1 HM0 HB0 HW0 HM1
      go_wp2
      refine ⟨⟨i + 1, by simp, by omega, HM3, HW1, HB1⟩, ?_⟩
      simp [intOf]
      omega
    · have hltI : ¬ (i : Int) < (n : Int) := by omega
      obtain rfl : i = n := by omega
      go_wp2
      go_ret2
      refine ⟨N, rfl, HNB.out, ?_, HBr.out⟩
      have h := HMr.out
      rw [← HN.out, mcP_end] at h
      exact h
end Go.Proofs.YtoaplkfmchphbaaDoor

namespace Go.Proofs.YtoaplkfmchphbaaDoor
open Go.RowKit
theorem split_lines : ∀ ls : List Tx, (∀ l ∈ ls, ∀ c ∈ l, (c == (10 : UInt8)) = false) → splitT 10 (ls.flatMap (· ++ [10])) = ls ++ [[]]
  | [], _ => rfl
  | l :: r, h => by
    have e : (l :: r).flatMap (· ++ [10]) = l ++ 10 :: r.flatMap (· ++ [10]) := by simp
    rw [e, split_mark 10 _ _ (h l (by simp)), split_lines r fun x hx => h x (by simp [hx])]
    rfl
/-- a line with a label and a number -/
def wTx (a : Tx) (n : Nat) : Tx := a ++ 58 :: 32 :: ([46, 119, 111, 114, 100] ++ jn [32] [Lib.decDigits n])
def wLn (a : Tx) (n : Nat) : Ln := ⟨false, a, ⟨0, 0, 0, (n : Int)⟩, [], 1⟩
theorem pf_word : Pf [46, 119, 111, 114, 100] := ⟨by simp, by decide⟩
theorem one_pf (n : Nat) : ∀ f ∈ [Lib.decDigits n], Pf f := fun f hf => by
  obtain rfl : f = Lib.decDigits n := by simpa using hf
  exact pf_dec n
theorem stm_word {n : Nat} (h : n < 4294967296) : stmT [46, 119, 111, 114, 100] [Lib.decDigits n] = some ⟨false, [], ⟨0, 0, 0, (n : Int)⟩, [], 1⟩ := by
  unfold stmT
  rw [if_pos rfl]
  simp only []
  unfold immT
  rw [if_neg (by rw [lbl_dec]; decide), (num_dec (u := n) (by omega)).1]
  simp only []
  rw [if_pos ⟨by omega, by omega⟩]
  rfl
theorem line_w {a : Tx} {n : Nat} (ha : isLbl a = true) (h : n < 4294967296) : lineT (wTx a n) = wLn a n := by
  unfold wTx
  rw [line_lab ha pf_word (one_pf n), stm_word h]
  rfl
theorem w_no10 {a : Tx} (ha : isLbl a = true) (n : Nat) : ∀ c ∈ wTx a n, (c == (10 : UInt8)) = false := by
  intro x hx
  unfold wTx at hx
  rcases List.mem_append.1 hx with h | h
  · exact pl_ne ((lbl_pf ha).all x h) (by decide)
  · rcases List.mem_cons.1 h with rfl | h
    · decide
    · rcases List.mem_cons.1 h with rfl | h
      · decide
      · have := line_all [10] (by decide) (by decide) (by decide) pf_word (one_pf n) x h
        rwa [Lib.contains_one] at this
/-- the first lines of Euclid's program -/
def eFst : List Tx := [[108, 100, 32, 114, 49, 44, 32, 114, 48, 44, 32, 120], [108, 100, 32, 114, 50, 44, 32, 114, 48, 44, 32, 121], [97, 103, 97, 105, 110, 58, 32, 106, 122, 32, 114, 50, 44, 32, 101, 110, 100], [109, 111, 118, 32, 114, 51, 44, 32, 114, 49], [114, 101, 109, 32, 114, 51, 44, 32, 114, 50], [109, 111, 118, 32, 114, 49, 44, 32, 114, 50], [109, 111, 118, 32, 114, 50, 44, 32, 114, 51], [106, 109, 112, 32, 97, 103, 97, 105, 110], [101, 110, 100, 58, 32, 115, 116, 32, 114, 49, 44, 32, 114, 48, 44, 32, 122], [115, 121, 115, 32, 49]]
def eLst : Tx := [122, 58, 32, 46, 119, 111, 114, 100, 32, 48, 120, 102, 102, 102, 102, 102, 102, 102, 102]
def eFstL : List Ln := [⟨false, [], ⟨19, 1, 0, 0⟩, [120], 1⟩, ⟨false, [], ⟨19, 2, 0, 0⟩, [121], 1⟩, ⟨false, [97, 103, 97, 105, 110], ⟨22, 2, 0, 0⟩, [101, 110, 100], 1⟩, ⟨false, [], ⟨4, 3, 1, 0⟩, [], 1⟩, ⟨false, [], ⟨9, 3, 2, 0⟩, [], 1⟩, ⟨false, [], ⟨4, 1, 2, 0⟩, [], 1⟩, ⟨false, [], ⟨4, 2, 3, 0⟩, [], 1⟩, ⟨false, [], ⟨21, 0, 0, 0⟩, [97, 103, 97, 105, 110], 1⟩, ⟨false, [101, 110, 100], ⟨20, 1, 0, 0⟩, [122], 1⟩, ⟨false, [], ⟨26, 0, 0, 1⟩, [], 1⟩]
theorem eFst_lines : eFst.map lineT = eFstL := by kernel_rfl
theorem eLst_line : lineT eLst = ⟨false, [122], ⟨0, 0, 0, 4294967295⟩, [], 1⟩ := by kernel_rfl
def eLns (x y : Nat) : List Ln := eFstL ++ [wLn [120] x, wLn [121] y, ⟨false, [122], ⟨0, 0, 0, 4294967295⟩, [], 1⟩, ln0]
def eTxt (x y : Nat) : Tx := (eFst ++ [wTx [120] x, wTx [121] y, eLst]).flatMap (· ++ [10])
theorem eTxt_lines {x y : Nat} (hx : x < 4294967296) (hy : y < 4294967296) : linesT (eTxt x y) = eLns x y := by
  unfold linesT eTxt
  rw [split_lines _ (fun l hl => by
    rcases List.mem_append.1 hl with h | h
    · have : ∀ l ∈ eFst, ∀ c ∈ l, (c == (10 : UInt8)) = false := by decide
      exact this l h
    · simp only [List.mem_cons, List.not_mem_nil, or_false] at h
      rcases h with rfl | rfl | rfl
      · exact w_no10 (by decide) x
      · exact w_no10 (by decide) y
      · decide)]
  rw [List.map_append, List.map_append, eFst_lines]
  simp only [List.map_cons, List.map_nil]
  rw [line_w (by decide) hx, line_w (by decide) hy, eLst_line]
  rfl
theorem eAsm0 (x y : Nat) : asmL (lbs (eLns x y) 14) (eLns x y) 0 [] = (eIs.map word ++ [((x : Int) % 4294967296).toNat, ((y : Int) % 4294967296).toNat, 4294967295], 0, 0) := by kernel_rfl
theorem dec_len10 {n : Nat} (hn : n < 4294967296) : (Lib.decDigits n).length ≤ 10 := by
  have h := (num_dec (u := n) (by omega)).1
  cases hc : decide ((Lib.decDigits n).length ≤ 10) with
  | true => exact of_decide_eq_true hc
  | false =>
    have h2 := of_decide_eq_false hc
    obtain ⟨p1, p2⟩ := dig_abs (dec_dig n)
    have a1 : absT (Lib.decDigits n) = Lib.decDigits n := by unfold absT Lib.trimPrefix; rw [p1]; rfl
    have d1 : digT (Lib.decDigits n) = Lib.decDigits n := by unfold digT Lib.trimPrefix; rw [p2]; rfl
    have b2 : mosT (Lib.decDigits n) = 10 := by unfold mosT hexT; rw [p2]; rfl
    unfold numT at h
    rw [a1, d1, b2, if_pos (by omega)] at h
    cases h
/-- the text as the law joins it -/
def eC1 : Tx := eFst.flatMap (· ++ [10]) ++ [120, 58, 32, 46, 119, 111, 114, 100, 32]
theorem eC1_len : eC1.length = 131 := by kernel_rfl
theorem eTxt_eq (x y : Nat) : eTxt x y = eC1 ++ Lib.decDigits x ++ [10, 121, 58, 32, 46, 119, 111, 114, 100, 32] ++ Lib.decDigits y ++ [10, 122, 58, 32, 46, 119, 111, 114, 100, 32, 48, 120, 102, 102, 102, 102, 102, 102, 102, 102, 10] := by
  unfold eTxt eC1 wTx eLst
  simp [List.flatMap_append, jn]
theorem eTxt_len {x y : Nat} (hx : x < 4294967296) (hy : y < 4294967296) : (eTxt x y).length ≤ 400 := by
  have h1 := dec_len10 hx
  have h2 := dec_len10 hy
  rw [eTxt_eq, List.length_append, List.length_append, List.length_append, List.length_append, eC1_len]
  simp
  omega
theorem eAsm {x y : Nat} (hx : x < 4294967296) (hy : y < 4294967296) : asmT (eTxt x y) = (eWs x y, 0, 0) := by
  have hl := eTxt_len hx hy
  unfold asmT
  rw [if_neg (by omega), eTxt_lines hx hy, show (eLns x y).length = 14 from rfl, eAsm0]
  unfold eWs
  rw [show ((x : Int) % 4294967296).toNat = x by omega, show ((y : Int) % 4294967296).toNat = y by omega]
end Go.Proofs.YtoaplkfmchphbaaDoor

namespace Go.Proofs.YtoaplkfmchphbaaDoor
open Go.RowKit Go.Sort Go.Lib Go.Shelf
theorem holds_zero0 (w : World) (T : TypeId) (nd : Nat) (hs : nd ≤ 24) : Holds (fun (b : UInt8) => Value.int .u8 (b.toNat : Int)) (w.alloc (.cells zeros24 T)) w.heap.size 0 (Array.replicate nd (0 : UInt8)) := fun j hj => by
  have hj' : j < nd := by simpa using hj
  refine ⟨?_, World.frozen?_alloc_new _ _ _ _⟩
  rw [World.cell?_alloc_new, zeros24_at _ (by omega), getElem!_pos _ j hj]
  simp
theorem fin_pos0 (w : World) (o : Obj) (dk : Array UInt8) (k : Nat) : ∃ os, (putRow (fun (b : UInt8) => Value.int .u8 (b.toNat : Int)) (w.alloc o) w.heap.size 0 dk).drewN k = grow (w.drewN k) os := by
  rw [alloc_eq_grow]
  obtain ⟨os', _, e⟩ := putRow_grow_new (fun (b : UInt8) => Value.int .u8 (b.toNat : Int)) w #[o] w.heap.size 0 dk (Nat.le_refl _)
  exact ⟨os', by rw [e]; rfl⟩
set_option maxHeartbeats 6400000 in
set_option maxRecDepth 100000 in
theorem fmtU_any (u : Nat) (hu : u < 4294967296) (w : World) (htab : Lib.TabIs Tryd.prog w "internal/strconv.uint64pow10" .u64 Lib.pow10Tab) : Calls Tryd.prog 44 #[.int .u64 (u : Nat), .int .i64 10] w fun e w' => e = .returned (.string ⟨(Lib.decDigits u).toArray⟩) ∧ Below w.heap.size w w' := by
  by_cases hs : u < 100
  · have hsI : (u : Int) < 100 := by omega
    have h1 : Calls Tryd.prog 49 #[.int .i64 (u : Nat)] w _ := Any.internal_strconv_small { Tryd.laysM171 with } u hs w
    go_enter Tryd.func44, Tryd.ntmps44
    go_wp2_with fail
    refine h1.mono ?_
    rintro e w' ⟨rfl, rfl⟩
    go_wp2
    go_ret
    exact ⟨rfl, Below.refl _ _⟩
  · have hsI : ¬ (u : Int) < 100 := by omega
    have hu1 : 1 ≤ u := by omega
    have hu64 : u < 18446744073709551616 := by omega
    have hnd20 : Lib.nDigits u ≤ 20 := by have := Lib.numDigits_eq u hu1 hu64; split at this <;> omega
    have hal : Tryd.prog.arrayLen 101 = 24 := by kernel_rfl
    have hsl1 : ∀ W, (Instr.sliceAt 101 (.pointer (some ⟨w.heap.size, 0, none⟩)) none (some (.int .i64 (Lib.nDigits u : Int))) none).run Tryd.prog W = .ok (.slice (some ⟨w.heap.size, 0, none⟩) (Lib.nDigits u) 24) W := fun W => by
      rw [run_sliceAt_array_h W 101 ⟨w.heap.size, 0, none⟩ (by kernel_rfl) .i64 (Lib.nDigits u : Int) (by omega) (by rw [hal]; omega)]
      go_simp
    have hH0 := holds_zero0 w 101 (Lib.nDigits u) (by omega)
    have hnd : Calls Tryd.prog 50 #[.int .u64 (u : Nat)] (w.alloc (.cells Lib.zeros24 101)) _ := Any.internal_strconv_numDigits { Tryd.laysM171 with } u hu1 hu64 (w.alloc (.cells Lib.zeros24 101)) (Lib.tabIs_alloc htab _)
    have hfmt : Calls Tryd.prog 51 _ (w.alloc (.cells Lib.zeros24 101)) _ := Any.internal_strconv_formatBase10 { Tryd.laysM171 with } w.heap.size 0 24 u (Array.replicate (Lib.nDigits u) 0) (w.alloc (.cells Lib.zeros24 101)) hH0 (by rw [Array.size_replicate]; exact Lib.lt_pow_nDigits u) hu64 (by rw [Array.size_replicate]; omega)
    rw [Array.size_replicate] at hfmt
    have HH0 := Lib.hid hH0
    clear hH0 hal
    go_enter Tryd.func44, Tryd.ntmps44
    go_wp2_with fail
    refine hnd.mono ?_
    rintro e w' ⟨rfl, rfl⟩
    go_wp2_with fail
    refine hfmt.mono ?_
    rintro e w' ⟨rfl, k, v', dk, rfl, hF⟩
    have hcv : (convert 74 9 (.slice (some ⟨w.heap.size, 0, none⟩) (Lib.nDigits u) 24)).run Tryd.prog ((putRow (fun (b : UInt8) => Value.int .u8 (b.toNat : Int)) (w.alloc (.cells Lib.zeros24 101)) w.heap.size 0 dk).drewN k) = .ok (.string ⟨(Lib.decDigits u).toArray⟩) ((putRow (fun (b : UInt8) => Value.int .u8 (b.toNat : Int)) (w.alloc (.cells Lib.zeros24 101)) w.heap.size 0 dk).drewN k) := by
      have h := run_convert_bytes_back (P := Tryd.prog) ((putRow (fun (b : UInt8) => Value.int .u8 (b.toNat : Int)) (w.alloc (.cells Lib.zeros24 101)) w.heap.size 0 dk).drewN k) 74 9 5 ⟨w.heap.size, 0, none⟩ 24 (Lib.decDigits u) Tryd.underlying74 Tryd.underlying5 Tryd.underlying9 (fun j hj => by
        rw [Lib.row_is_numeral hF j hj, Lib.add_plain, World.cell?_drewN]
        exact cell?_putRow (fun (b : UInt8) => Value.int .u8 (b.toNat : Int)) _ w.heap.size 0 _ dk HH0.out (by rw [hF.size, Array.size_replicate]) j (by rw [hF.size]; rw [Lib.decDigits_length] at hj; exact hj))
      rw [Lib.decDigits_length] at h
      exact h
    go_wp2
    go_ret
    obtain ⟨os, eo⟩ := fin_pos0 w (.cells Lib.zeros24 101) dk k
    exact ⟨rfl, eo ▸ Tryd.below_grow w k os⟩
section
variable (w : World)
set_option maxRecDepth 100000 in
theorem num_any (u : Nat) (hu : u < 4294967296) (htab : Lib.TabIs Tryd.prog w "internal/strconv.uint64pow10" .u64 Lib.pow10Tab) : Calls Tryd.prog 16 #[.int .u32 (u : Nat)] w fun e w' => e = .returned (.string ⟨(Lib.decDigits u).toArray⟩) ∧ Below w.heap.size w w' := by
  have h1 : Calls Tryd.prog 31 #[.int .u64 (u : Nat), .int .i64 10] w fun e w' => e = .returned (.string ⟨(Lib.decDigits u).toArray⟩) ∧ Below w.heap.size w w' := by
    go_enter Tryd.func31, Tryd.ntmps31
    go_wp2_with fail
    refine (fmtU_any u hu w htab).mono ?_
    rintro e w' ⟨rfl, hb⟩
    go_wp2
    go_ret
    exact ⟨rfl, hb⟩
  go_enter Tryd.func16, Tryd.ntmps16
  go_wp2_with fail
  refine h1.mono ?_
  rintro e w' ⟨rfl, hb⟩
  go_wp2
  go_ret
  exact ⟨rfl, hb⟩
end
end Go.Proofs.YtoaplkfmchphbaaDoor
