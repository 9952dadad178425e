import Derived.Test.YtoaplkfmchphbaaDoorS02
import Derived.Test.YtoaplkfmchphbaaDoorS03
import Derived.Test.YtoaplkfmchphbaaDoorS19
import Derived.Test.YtoaplkfmchphbaaDoorS21
namespace Go.Proofs.YtoaplkfmchphbaaDoor
open Go.RowKit
theorem split_lines : ∀ ls : List Tx, (∀ l ∈ ls, ∀ c ∈ l, (c == (10 : UInt8)) = false) → splitT 10 (ls.flatMap (· ++ [10])) = ls ++ [[]]
  | [], _ => rfl
  | l :: r, h => by
    have e : (l :: r).flatMap (· ++ [10]) = l ++ 10 :: r.flatMap (· ++ [10]) := by simp
    rw [e, split_mark 10 _ _ (h l (by simp)), split_lines r fun x hx => h x (by simp [hx])]
    rfl
/-- a line with a label and a number -/
def wTx (a : Tx) (n : Nat) : Tx := a ++ 58 :: 32 :: ([46, 119, 111, 114, 100] ++ jn [32] [Lib.decDigits n])
def wLn (a : Tx) (n : Nat) : Ln := ⟨false, a, ⟨0, 0, 0, (n : Int)⟩, [], 1⟩
theorem pf_word : Pf [46, 119, 111, 114, 100] := ⟨by simp, by decide⟩
theorem one_pf (n : Nat) : ∀ f ∈ [Lib.decDigits n], Pf f := fun f hf => by
  obtain rfl : f = Lib.decDigits n := by simpa using hf
  exact pf_dec n
theorem stm_word {n : Nat} (h : n < 4294967296) : stmT [46, 119, 111, 114, 100] [Lib.decDigits n] = some ⟨false, [], ⟨0, 0, 0, (n : Int)⟩, [], 1⟩ := by
  unfold stmT
  rw [if_pos rfl]
  simp only []
  unfold immT
  rw [if_neg (by rw [lbl_dec]; decide), (num_dec (u := n) (by omega)).1]
  simp only []
  rw [if_pos ⟨by omega, by omega⟩]
  rfl
theorem line_w {a : Tx} {n : Nat} (ha : isLbl a = true) (h : n < 4294967296) : lineT (wTx a n) = wLn a n := by
  unfold wTx
  rw [line_lab ha pf_word (one_pf n), stm_word h]
  rfl
theorem w_no10 {a : Tx} (ha : isLbl a = true) (n : Nat) : ∀ c ∈ wTx a n, (c == (10 : UInt8)) = false := by
  intro x hx
  unfold wTx at hx
  rcases List.mem_append.1 hx with h | h
  · exact pl_ne ((lbl_pf ha).all x h) (by decide)
  · rcases List.mem_cons.1 h with rfl | h
    · decide
    · rcases List.mem_cons.1 h with rfl | h
      · decide
      · have := line_all [10] (by decide) (by decide) (by decide) pf_word (one_pf n) x h
        rwa [Lib.contains_one] at this
/-- the first lines of Euclid's program -/
def eFst : List Tx := [[108, 100, 32, 114, 49, 44, 32, 114, 48, 44, 32, 120], [108, 100, 32, 114, 50, 44, 32, 114, 48, 44, 32, 121], [97, 103, 97, 105, 110, 58, 32, 106, 122, 32, 114, 50, 44, 32, 101, 110, 100], [109, 111, 118, 32, 114, 51, 44, 32, 114, 49], [114, 101, 109, 32, 114, 51, 44, 32, 114, 50], [109, 111, 118, 32, 114, 49, 44, 32, 114, 50], [109, 111, 118, 32, 114, 50, 44, 32, 114, 51], [106, 109, 112, 32, 97, 103, 97, 105, 110], [101, 110, 100, 58, 32, 115, 116, 32, 114, 49, 44, 32, 114, 48, 44, 32, 122], [115, 121, 115, 32, 49]]
def eLst : Tx := [122, 58, 32, 46, 119, 111, 114, 100, 32, 48, 120, 102, 102, 102, 102, 102, 102, 102, 102]
def eFstL : List Ln := [⟨false, [], ⟨19, 1, 0, 0⟩, [120], 1⟩, ⟨false, [], ⟨19, 2, 0, 0⟩, [121], 1⟩, ⟨false, [97, 103, 97, 105, 110], ⟨22, 2, 0, 0⟩, [101, 110, 100], 1⟩, ⟨false, [], ⟨4, 3, 1, 0⟩, [], 1⟩, ⟨false, [], ⟨9, 3, 2, 0⟩, [], 1⟩, ⟨false, [], ⟨4, 1, 2, 0⟩, [], 1⟩, ⟨false, [], ⟨4, 2, 3, 0⟩, [], 1⟩, ⟨false, [], ⟨21, 0, 0, 0⟩, [97, 103, 97, 105, 110], 1⟩, ⟨false, [101, 110, 100], ⟨20, 1, 0, 0⟩, [122], 1⟩, ⟨false, [], ⟨26, 0, 0, 1⟩, [], 1⟩]
theorem eFst_lines : eFst.map lineT = eFstL := by kernel_rfl
theorem eLst_line : lineT eLst = ⟨false, [122], ⟨0, 0, 0, 4294967295⟩, [], 1⟩ := by kernel_rfl
def eLns (x y : Nat) : List Ln := eFstL ++ [wLn [120] x, wLn [121] y, ⟨false, [122], ⟨0, 0, 0, 4294967295⟩, [], 1⟩, ln0]
def eTxt (x y : Nat) : Tx := (eFst ++ [wTx [120] x, wTx [121] y, eLst]).flatMap (· ++ [10])
theorem eTxt_lines {x y : Nat} (hx : x < 4294967296) (hy : y < 4294967296) : linesT (eTxt x y) = eLns x y := by
  unfold linesT eTxt
  rw [split_lines _ (fun l hl => by
    rcases List.mem_append.1 hl with h | h
    · have : ∀ l ∈ eFst, ∀ c ∈ l, (c == (10 : UInt8)) = false := by decide
      exact this l h
    · simp only [List.mem_cons, List.not_mem_nil, or_false] at h
      rcases h with rfl | rfl | rfl
      · exact w_no10 (by decide) x
      · exact w_no10 (by decide) y
      · decide)]
  rw [List.map_append, List.map_append, eFst_lines]
  simp only [List.map_cons, List.map_nil]
  rw [line_w (by decide) hx, line_w (by decide) hy, eLst_line]
  rfl
theorem eAsm0 (x y : Nat) : asmL (lbs (eLns x y) 14) (eLns x y) 0 [] = (eIs.map word ++ [((x : Int) % 4294967296).toNat, ((y : Int) % 4294967296).toNat, 4294967295], 0, 0) := by kernel_rfl
theorem dec_len10 {n : Nat} (hn : n < 4294967296) : (Lib.decDigits n).length ≤ 10 := by
  have h := (num_dec (u := n) (by omega)).1
  cases hc : decide ((Lib.decDigits n).length ≤ 10) with
  | true => exact of_decide_eq_true hc
  | false =>
    have h2 := of_decide_eq_false hc
    obtain ⟨p1, p2⟩ := dig_abs (dec_dig n)
    have a1 : absT (Lib.decDigits n) = Lib.decDigits n := by unfold absT Lib.trimPrefix; rw [p1]; rfl
    have d1 : digT (Lib.decDigits n) = Lib.decDigits n := by unfold digT Lib.trimPrefix; rw [p2]; rfl
    have b2 : mosT (Lib.decDigits n) = 10 := by unfold mosT hexT; rw [p2]; rfl
    unfold numT at h
    rw [a1, d1, b2, if_pos (by omega)] at h
    cases h
/-- the text as the law joins it -/
def eC1 : Tx := eFst.flatMap (· ++ [10]) ++ [120, 58, 32, 46, 119, 111, 114, 100, 32]
theorem eC1_len : eC1.length = 131 := by kernel_rfl
theorem eTxt_eq (x y : Nat) : eTxt x y = eC1 ++ Lib.decDigits x ++ [10, 121, 58, 32, 46, 119, 111, 114, 100, 32] ++ Lib.decDigits y ++ [10, 122, 58, 32, 46, 119, 111, 114, 100, 32, 48, 120, 102, 102, 102, 102, 102, 102, 102, 102, 10] := by
  unfold eTxt eC1 wTx eLst
  simp [List.flatMap_append, jn]
theorem eTxt_len {x y : Nat} (hx : x < 4294967296) (hy : y < 4294967296) : (eTxt x y).length ≤ 400 := by
  have h1 := dec_len10 hx
  have h2 := dec_len10 hy
  rw [eTxt_eq, List.length_append, List.length_append, List.length_append, List.length_append, eC1_len]
  simp
  omega
theorem eAsm {x y : Nat} (hx : x < 4294967296) (hy : y < 4294967296) : asmT (eTxt x y) = (eWs x y, 0, 0) := by
  have hl := eTxt_len hx hy
  unfold asmT
  rw [if_neg (by omega), eTxt_lines hx hy, show (eLns x y).length = 14 from rfl, eAsm0]
  unfold eWs
  rw [show ((x : Int) % 4294967296).toNat = x by omega, show ((y : Int) % 4294967296).toNat = y by omega]
end Go.Proofs.YtoaplkfmchphbaaDoor

namespace Go.Proofs.YtoaplkfmchphbaaDoor
open Go.RowKit
/-- the first lines of the sorting program -/
def sFst : List Tx := [[108, 105, 32, 114, 55, 44, 32, 108, 105, 115, 116], [108, 105, 32, 114, 54, 44, 32, 49], [111, 117, 116, 101, 114, 58, 32, 108, 100, 32, 114, 53, 44, 32, 114, 48, 44, 32, 99, 111, 117, 110, 116], [108, 116, 32, 114, 54, 44, 32, 114, 53], [106, 122, 32, 114, 54, 44, 32, 101, 110, 100], [108, 100, 32, 114, 54, 44, 32, 114, 48, 44, 32, 105], [109, 111, 118, 32, 114, 52, 44, 32, 114, 55], [97, 100, 100, 32, 114, 52, 44, 32, 114, 54], [108, 100, 32, 114, 49, 44, 32, 114, 52, 44, 32, 48], [105, 110, 110, 101, 114, 58, 32, 109, 111, 118, 32, 114, 50, 44, 32, 114, 52], [115, 117, 98, 32, 114, 50, 44, 32, 114, 55], [106, 122, 32, 114, 50, 44, 32, 112, 108, 97, 99, 101], [108, 100, 32, 114, 51, 44, 32, 114, 52, 44, 32, 45, 49], [109, 111, 118, 32, 114, 50, 44, 32, 114, 49], [108, 116, 32, 114, 50, 44, 32, 114, 51], [106, 122, 32, 114, 50, 44, 32, 112, 108, 97, 99, 101], [115, 116, 32, 114, 51, 44, 32, 114, 52, 44, 32, 48], [97, 100, 100, 105, 32, 114, 52, 44, 32, 45, 49], [106, 109, 112, 32, 105, 110, 110, 101, 114], [112, 108, 97, 99, 101, 58, 32, 115, 116, 32, 114, 49, 44, 32, 114, 52, 44, 32, 48], [97, 100, 100, 105, 32, 114, 54, 44, 32, 49], [115, 116, 32, 114, 54, 44, 32, 114, 48, 44, 32, 105], [106, 109, 112, 32, 111, 117, 116, 101, 114], [101, 110, 100, 58, 32, 115, 121, 115, 32, 49], [105, 58, 32, 46, 119, 111, 114, 100, 32, 49]]
def sFstL : List Ln := [⟨false, [], ⟨2, 7, 0, 0⟩, [108, 105, 115, 116], 1⟩, ⟨false, [], ⟨2, 6, 0, 1⟩, [], 1⟩, ⟨false, [111, 117, 116, 101, 114], ⟨19, 5, 0, 0⟩, [99, 111, 117, 110, 116], 1⟩, ⟨false, [], ⟨15, 6, 5, 0⟩, [], 1⟩, ⟨false, [], ⟨22, 6, 0, 0⟩, [101, 110, 100], 1⟩, ⟨false, [], ⟨19, 6, 0, 0⟩, [105], 1⟩, ⟨false, [], ⟨4, 4, 7, 0⟩, [], 1⟩, ⟨false, [], ⟨5, 4, 6, 0⟩, [], 1⟩, ⟨false, [], ⟨19, 1, 4, 0⟩, [], 1⟩, ⟨false, [105, 110, 110, 101, 114], ⟨4, 2, 4, 0⟩, [], 1⟩, ⟨false, [], ⟨6, 2, 7, 0⟩, [], 1⟩, ⟨false, [], ⟨22, 2, 0, 0⟩, [112, 108, 97, 99, 101], 1⟩, ⟨false, [], ⟨19, 3, 4, -1⟩, [], 1⟩, ⟨false, [], ⟨4, 2, 1, 0⟩, [], 1⟩, ⟨false, [], ⟨15, 2, 3, 0⟩, [], 1⟩, ⟨false, [], ⟨22, 2, 0, 0⟩, [112, 108, 97, 99, 101], 1⟩, ⟨false, [], ⟨20, 3, 4, 0⟩, [], 1⟩, ⟨false, [], ⟨18, 4, 0, -1⟩, [], 1⟩, ⟨false, [], ⟨21, 0, 0, 0⟩, [105, 110, 110, 101, 114], 1⟩, ⟨false, [112, 108, 97, 99, 101], ⟨20, 1, 4, 0⟩, [], 1⟩, ⟨false, [], ⟨18, 6, 0, 1⟩, [], 1⟩, ⟨false, [], ⟨20, 6, 0, 0⟩, [105], 1⟩, ⟨false, [], ⟨21, 0, 0, 0⟩, [111, 117, 116, 101, 114], 1⟩, ⟨false, [101, 110, 100], ⟨26, 0, 0, 1⟩, [], 1⟩, ⟨false, [105], ⟨0, 0, 0, 1⟩, [], 1⟩]
theorem sFst_lines : sFst.map lineT = sFstL := by kernel_rfl
def sCnt : Tx := [99, 111, 117, 110, 116]
def sLst : Tx := [108, 105, 115, 116, 58]
def sGrd : Tx := [103, 117, 97, 114, 100, 58, 32, 46, 119, 111, 114, 100, 32, 55, 55]
def lsL : Ln := ⟨false, [108, 105, 115, 116], ⟨0, 0, 0, 0⟩, [], 0⟩
def grL : Ln := ⟨false, [103, 117, 97, 114, 100], ⟨0, 0, 0, 77⟩, [], 1⟩
theorem sLst_line : lineT sLst = lsL := by kernel_rfl
theorem sGrd_line : lineT sGrd = grL := by kernel_rfl
/-- a line of a number alone -/
def vTx (n : Nat) : Tx := [46, 119, 111, 114, 100] ++ jn [32] [Lib.decDigits n]
def vLn (n : Nat) : Ln := ⟨false, [], ⟨0, 0, 0, (n : Int)⟩, [], 1⟩
theorem line_v {n : Nat} (h : n < 4294967296) : lineT (vTx n) = vLn n := by
  unfold vTx
  rw [line_of pf_word (one_pf n), stm_word h]
  rfl
theorem v_no10 (n : Nat) : ∀ c ∈ vTx n, (c == (10 : UInt8)) = false := by
  intro x hx
  have := line_all [10] (by decide) (by decide) (by decide) pf_word (one_pf n) x hx
  rwa [Lib.contains_one] at this
def sTxt (l : List Nat) : Tx := (sFst ++ ([wTx sCnt l.length, sLst] ++ (l.map vTx ++ [sGrd]))).flatMap (· ++ [10])
def sLns (l : List Nat) : List Ln := sFstL ++ ([wLn sCnt l.length, lsL] ++ (l.map vLn ++ [grL, ln0]))
theorem sTxt_lines {l : List Nat} (hl : l.length ≤ 40) (h : ∀ x ∈ l, x < 4294967296) : linesT (sTxt l) = sLns l := by
  unfold linesT sTxt
  rw [split_lines _ (fun t ht => by
    rcases List.mem_append.1 ht with h1 | h1
    · have : ∀ l ∈ sFst, ∀ c ∈ l, (c == (10 : UInt8)) = false := by decide
      exact this t h1
    · rcases List.mem_append.1 h1 with h1 | h1
      · simp only [List.mem_cons, List.not_mem_nil, or_false] at h1
        rcases h1 with rfl | rfl
        · exact w_no10 (by decide) _
        · decide
      · rcases List.mem_append.1 h1 with h1 | h1
        · obtain ⟨n, _, rfl⟩ := List.mem_map.1 h1
          exact v_no10 n
        · obtain rfl : t = sGrd := by simpa using h1
          decide)]
  rw [List.map_append, List.map_append, sFst_lines]
  unfold sLns
  rw [List.append_assoc]
  congr 1
  rw [List.map_append, List.map_append, List.append_assoc]
  simp only [List.map_cons, List.map_nil]
  rw [line_w (by decide) (by omega), sLst_line, sGrd_line, List.map_map, List.append_assoc]
  congr 2
  · exact List.map_congr_left fun n hn => line_v (h n hn)
def sPs : List (Tx × (Nat × Int)) := [([111, 117, 116, 101, 114], (2, 2)), ([105, 110, 110, 101, 114], (9, 9)), ([112, 108, 97, 99, 101], (19, 19)), ([101, 110, 100], (23, 23)), ([105], (24, 24)), ([99, 111, 117, 110, 116], (25, 25)), ([108, 105, 115, 116], (26, 26))]
theorem sLbs (l : List Nat) : lbs (sLns l) 27 = sPs := by kernel_rfl
def sPz (n : Nat) (z : Int) : List (Tx × (Nat × Int)) := sPs ++ [([103, 117, 97, 114, 100], (27 + n, z))]
theorem sLns_27 (l : List Nat) (j : Nat) : (sLns l)[27 + j]? = (l.map vLn ++ [grL, ln0])[j]? := by
  unfold sLns
  rw [List.getElem?_append_right (by rw [show sFstL.length = 25 from rfl]; omega), show sFstL.length = 25 from rfl, List.getElem?_append_right (by simp; omega)]
  congr 1
  simp
  omega
theorem sLbs_mid (l : List Nat) : ∀ j, j ≤ l.length → lbs (sLns l) (27 + j) = sPs
  | 0, _ => sLbs l
  | j + 1, h => by
    rw [show 27 + (j + 1) = (27 + j) + 1 by omega, lbs, sLns_27, List.getElem?_append_left (by rw [List.length_map]; omega), List.getElem?_map, List.getElem?_eq_getElem (show j < l.length by omega)]
    simp only [Option.map_some]
    rw [if_neg (by simp [vLn]), sLbs_mid l j (by omega)]
theorem sLbs_all (l : List Nat) : ∃ z, lbs (sLns l) (sLns l).length = sPz l.length z := by
  refine ⟨ahd (sLns l) (27 + l.length), ?_⟩
  have hlen : (sLns l).length = 27 + l.length + 1 + 1 := by
    unfold sLns
    simp [show sFstL.length = 25 from rfl]
    omega
  rw [hlen, lbs, show 27 + l.length + 1 = 27 + (l.length + 1) by omega, sLns_27, List.getElem?_append_right (by simp)]
  simp only [List.length_map, Nat.add_sub_cancel_left, List.getElem?_cons_succ, List.getElem?_cons_zero]
  rw [if_neg (by simp [ln0]), show 27 + (l.length + 1) = (27 + l.length) + 1 by omega, lbs, sLns_27, List.getElem?_append_right (by simp)]
  simp only [List.length_map, Nat.sub_self, List.getElem?_cons_zero]
  rw [sLbs_mid l _ (Nat.le_refl _), if_pos ⟨by simp [grL], by decide⟩]
  rfl
theorem sAsm0 (n : Nat) (z : Int) (m : Nat) (rest : List Ln) : asmL (sPz n z) (sFstL ++ ([wLn sCnt m, lsL] ++ rest)) 0 [] = asmL (sPz n z) rest 27 (sIs.map word ++ [1, ((m : Int) % 4294967296).toNat]) := by kernel_rfl
theorem sAsm1 (n : Nat) (z : Int) : ∀ (l : List Nat) (k : Nat) (ws : List Nat), ws.length + l.length ≤ 500 → (∀ x ∈ l, x < 4294967296) → asmL (sPz n z) (l.map vLn ++ [grL, ln0]) k ws = asmL (sPz n z) [grL, ln0] (k + l.length) (ws ++ l)
  | [], k, ws, _, _ => by simp
  | x :: r, k, ws, h, hx => by
    have e : fltT (sPz n z) (vLn x) k ws.length = 0 := by
      unfold fltT vLn
      simp at h ⊢
      omega
    have e2 : wrdT (sPz n z) (vLn x) ws.length = x := by
      unfold wrdT immW vLn
      have := hx x (by simp)
      simp
      omega
    rw [List.map_cons, List.cons_append, asmL, if_pos e, e2, show (vLn x).words.toNat = 1 from rfl, sAsm1 n z r (k + 1) _ (by simp at h ⊢; omega) (fun y hy => hx y (by simp [hy]))]
    simp only [List.length_cons, List.replicate, List.append_assoc, List.cons_append, List.nil_append]
    rw [show k + 1 + r.length = k + (r.length + 1) by omega]
theorem sGuard (n : Nat) (z : Int) (ws : List Nat) (h : ws.length ≤ 500) : asmL (sPz n z) [grL, ln0] (27 + n) ws = (ws ++ [77], 0, 0) := by
  have ea : atK KS (sPz n z) [103, 117, 97, 114, 100] = some (27 + n, z) := by
    unfold sPz atK
    rw [List.find?_append]
    have : sPs.find? (fun p => KS.eqb [103, 117, 97, 114, 100] p.1) = none := by decide
    rw [this]
    rfl
  have e : fltT (sPz n z) grL (27 + n) ws.length = 0 := by
    unfold fltT grL
    simp only [ea]
    simp
    omega
  have e2 : wrdT (sPz n z) grL ws.length = 77 := by
    unfold wrdT immW grL
    simp
  have e3 : fltT (sPz n z) ln0 (27 + n + 1) (ws ++ [77]).length = 0 := by
    unfold fltT ln0
    simp
    omega
  rw [asmL, if_pos e, e2, show grL.words.toNat = 1 from rfl, show List.replicate 1 77 = [77] from rfl, asmL, if_pos e3, asmL]
  simp [ln0]
/-- the text as the law joins it -/
def sC1 : Tx := sFst.flatMap (· ++ [10]) ++ [99, 111, 117, 110, 116, 58, 32, 46, 119, 111, 114, 100, 32]
theorem sC1_len : sC1.length = 328 := by kernel_rfl
def sVs (l : List Nat) : Tx := l.flatMap fun n => [46, 119, 111, 114, 100, 32] ++ Lib.decDigits n ++ [10]
theorem sVs_snoc (l : List Nat) (n : Nat) : sVs (l ++ [n]) = sVs l ++ [46, 119, 111, 114, 100, 32] ++ Lib.decDigits n ++ [10] := by
  unfold sVs
  rw [List.flatMap_append]
  simp
theorem sTxt_eq (l : List Nat) : sTxt l = sC1 ++ Lib.decDigits l.length ++ [10, 108, 105, 115, 116, 58, 10] ++ sVs l ++ [103, 117, 97, 114, 100, 58, 32, 46, 119, 111, 114, 100, 32, 55, 55, 10] := by
  have e : (l.map vTx).flatMap (· ++ [10]) = sVs l := by
    unfold sVs
    rw [List.flatMap_map]
    congr 1
    funext n
    simp [vTx, jn]
  unfold sTxt sC1
  rw [List.flatMap_append, List.flatMap_append, List.flatMap_append, e]
  simp [wTx, sCnt, sLst, sGrd, jn]
theorem sVs_len : ∀ l : List Nat, (∀ x ∈ l, x < 4294967296) → (sVs l).length ≤ 17 * l.length
  | [], _ => by simp [sVs]
  | x :: r, h => by
    have h1 := sVs_len r fun y hy => h y (by simp [hy])
    have h2 := dec_len10 (h x (by simp))
    have e : sVs (x :: r) = [46, 119, 111, 114, 100, 32] ++ Lib.decDigits x ++ [10] ++ sVs r := by unfold sVs; simp
    rw [e]
    simp
    omega
theorem sTxt_len {l : List Nat} (hl : l.length ≤ 40) (h : ∀ x ∈ l, x < 4294967296) : (sTxt l).length ≤ 2000 := by
  have h1 := sVs_len l h
  have h2 := dec_len10 (n := l.length) (by omega)
  rw [sTxt_eq, List.length_append, List.length_append, List.length_append, List.length_append, sC1_len]
  simp
  omega
theorem sAsm {l : List Nat} (hl : l.length ≤ 40) (h : ∀ x ∈ l, x < 4294967296) : asmT (sTxt l) = (sWs l.length 1 l, 0, 0) := by
  have hlen := sTxt_len hl h
  obtain ⟨z, hz⟩ := sLbs_all l
  unfold asmT
  rw [if_neg (by omega), sTxt_lines hl h, hz]
  unfold sLns
  have e : ((l.length : Int) % 4294967296).toNat = l.length := by omega
  have e24 : (sIs.map word ++ [1, l.length]).length = 26 := by rw [List.length_append, sI_len]; rfl
  rw [sAsm0, e, sAsm1 _ _ l 27 _ (by rw [e24]; omega) h, sGuard _ _ _ (by rw [List.length_append, e24]; omega)]
  unfold sWs
  simp
end Go.Proofs.YtoaplkfmchphbaaDoor

namespace Go.Proofs.YtoaplkfmchphbaaDoor
open Go.RowKit Go.Sort Go.Lib Go.Shelf
theorem holds_zero0 (w : World) (T : TypeId) (nd : Nat) (hs : nd ≤ 24) : Holds (fun (b : UInt8) => Value.int .u8 (b.toNat : Int)) (w.alloc (.cells zeros24 T)) w.heap.size 0 (Array.replicate nd (0 : UInt8)) := fun j hj => by
  have hj' : j < nd := by simpa using hj
  refine ⟨?_, World.frozen?_alloc_new _ _ _ _⟩
  rw [World.cell?_alloc_new, zeros24_at _ (by omega), getElem!_pos _ j hj]
  simp
theorem fin_pos0 (w : World) (o : Obj) (dk : Array UInt8) (k : Nat) : ∃ os, (putRow (fun (b : UInt8) => Value.int .u8 (b.toNat : Int)) (w.alloc o) w.heap.size 0 dk).drewN k = grow (w.drewN k) os := by
  rw [alloc_eq_grow]
  obtain ⟨os', _, e⟩ := putRow_grow_new (fun (b : UInt8) => Value.int .u8 (b.toNat : Int)) w #[o] w.heap.size 0 dk (Nat.le_refl _)
  exact ⟨os', by rw [e]; rfl⟩
set_option maxHeartbeats 6400000 in
set_option maxRecDepth 100000 in
theorem fmtU_any (u : Nat) (hu : u < 4294967296) (w : World) (htab : Lib.TabIs Tryd.prog w "internal/strconv.uint64pow10" .u64 Lib.pow10Tab) : Calls Tryd.prog 44 #[.int .u64 (u : Nat), .int .i64 10] w fun e w' => e = .returned (.string ⟨(Lib.decDigits u).toArray⟩) ∧ Below w.heap.size w w' := by
  by_cases hs : u < 100
  · have hsI : (u : Int) < 100 := by omega
    have h1 : Calls Tryd.prog 49 #[.int .i64 (u : Nat)] w _ := Any.internal_strconv_small { Tryd.laysM171 with } u hs w
    go_enter Tryd.func44, Tryd.ntmps44
    go_wp2_with fail
    refine h1.mono ?_
    rintro e w' ⟨rfl, rfl⟩
    go_wp2
    go_ret
    exact ⟨rfl, Below.refl _ _⟩
  · have hsI : ¬ (u : Int) < 100 := by omega
    have hu1 : 1 ≤ u := by omega
    have hu64 : u < 18446744073709551616 := by omega
    have hnd20 : Lib.nDigits u ≤ 20 := by have := Lib.numDigits_eq u hu1 hu64; split at this <;> omega
    have hal : Tryd.prog.arrayLen 101 = 24 := by kernel_rfl
    have hsl1 : ∀ W, (Instr.sliceAt 101 (.pointer (some ⟨w.heap.size, 0, none⟩)) none (some (.int .i64 (Lib.nDigits u : Int))) none).run Tryd.prog W = .ok (.slice (some ⟨w.heap.size, 0, none⟩) (Lib.nDigits u) 24) W := fun W => by
      rw [run_sliceAt_array_h W 101 ⟨w.heap.size, 0, none⟩ (by kernel_rfl) .i64 (Lib.nDigits u : Int) (by omega) (by rw [hal]; omega)]
      go_simp
    have hH0 := holds_zero0 w 101 (Lib.nDigits u) (by omega)
    have hnd : Calls Tryd.prog 50 #[.int .u64 (u : Nat)] (w.alloc (.cells Lib.zeros24 101)) _ := Any.internal_strconv_numDigits { Tryd.laysM171 with } u hu1 hu64 (w.alloc (.cells Lib.zeros24 101)) (Lib.tabIs_alloc htab _)
    have hfmt : Calls Tryd.prog 51 _ (w.alloc (.cells Lib.zeros24 101)) _ := Any.internal_strconv_formatBase10 { Tryd.laysM171 with } w.heap.size 0 24 u (Array.replicate (Lib.nDigits u) 0) (w.alloc (.cells Lib.zeros24 101)) hH0 (by rw [Array.size_replicate]; exact Lib.lt_pow_nDigits u) hu64 (by rw [Array.size_replicate]; omega)
    rw [Array.size_replicate] at hfmt
    have HH0 := Lib.hid hH0
    clear hH0 hal
    go_enter Tryd.func44, Tryd.ntmps44
    go_wp2_with fail
    refine hnd.mono ?_
    rintro e w' ⟨rfl, rfl⟩
    go_wp2_with fail
    refine hfmt.mono ?_
    rintro e w' ⟨rfl, k, v', dk, rfl, hF⟩
    have hcv : (convert 74 9 (.slice (some ⟨w.heap.size, 0, none⟩) (Lib.nDigits u) 24)).run Tryd.prog ((putRow (fun (b : UInt8) => Value.int .u8 (b.toNat : Int)) (w.alloc (.cells Lib.zeros24 101)) w.heap.size 0 dk).drewN k) = .ok (.string ⟨(Lib.decDigits u).toArray⟩) ((putRow (fun (b : UInt8) => Value.int .u8 (b.toNat : Int)) (w.alloc (.cells Lib.zeros24 101)) w.heap.size 0 dk).drewN k) := by
      have h := run_convert_bytes_back (P := Tryd.prog) ((putRow (fun (b : UInt8) => Value.int .u8 (b.toNat : Int)) (w.alloc (.cells Lib.zeros24 101)) w.heap.size 0 dk).drewN k) 74 9 5 ⟨w.heap.size, 0, none⟩ 24 (Lib.decDigits u) Tryd.underlying74 Tryd.underlying5 Tryd.underlying9 (fun j hj => by
        rw [Lib.row_is_numeral hF j hj, Lib.add_plain, World.cell?_drewN]
        exact cell?_putRow (fun (b : UInt8) => Value.int .u8 (b.toNat : Int)) _ w.heap.size 0 _ dk HH0.out (by rw [hF.size, Array.size_replicate]) j (by rw [hF.size]; rw [Lib.decDigits_length] at hj; exact hj))
      rw [Lib.decDigits_length] at h
      exact h
    go_wp2
    go_ret
    obtain ⟨os, eo⟩ := fin_pos0 w (.cells Lib.zeros24 101) dk k
    exact ⟨rfl, eo ▸ Tryd.below_grow w k os⟩
section
variable (w : World)
set_option maxRecDepth 100000 in
theorem num_any (u : Nat) (hu : u < 4294967296) (htab : Lib.TabIs Tryd.prog w "internal/strconv.uint64pow10" .u64 Lib.pow10Tab) : Calls Tryd.prog 16 #[.int .u32 (u : Nat)] w fun e w' => e = .returned (.string ⟨(Lib.decDigits u).toArray⟩) ∧ Below w.heap.size w w' := by
  have h1 : Calls Tryd.prog 31 #[.int .u64 (u : Nat), .int .i64 10] w fun e w' => e = .returned (.string ⟨(Lib.decDigits u).toArray⟩) ∧ Below w.heap.size w w' := by
    go_enter Tryd.func31, Tryd.ntmps31
    go_wp2_with fail
    refine (fmtU_any u hu w htab).mono ?_
    rintro e w' ⟨rfl, hb⟩
    go_wp2
    go_ret
    exact ⟨rfl, hb⟩
  go_enter Tryd.func16, Tryd.ntmps16
  go_wp2_with fail
  refine h1.mono ?_
  rintro e w' ⟨rfl, hb⟩
  go_wp2
  go_ret
  exact ⟨rfl, hb⟩
end
end Go.Proofs.YtoaplkfmchphbaaDoor
