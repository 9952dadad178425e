import Derived.Deep.DeepCutAuto
import Derived.Test.YtimfgjndgfjjgaaRows
import Derived.WalkKit
import Derived.ProofKit
import Derived.OpenShut
import Derived.Deep.Slices
import Derived.Sort.QuietTacIn
import Derived.Test.YtimfgjndgfjjgaaMB
namespace Go.Proofs.Ytimfgjndgfjjgaa
open Go.RowKit

/-- a record with another parent -/
def rq (e t : Int) (r : Rc) : Rc := { r with e := e, t := t }
theorem rq_rq (e t : Int) (r : Rc) : rq e t (rq e t r) = rq e t r := rfl
/-- behind k of the children -/
def RelK (ps : List (Nat × Nat)) (e t : Int) (k : Nat) (bk bk' : List (Option Lst)) : Prop :=
  Shape bk bk' ∧ ∀ a b : Nat, atB bk' (a : Int) (b : Int) = if (a, b) ∈ ps.take k then (atB bk (a : Int) (b : Int)).map (rq e t) else atB bk (a : Int) (b : Int)
theorem mem_pls {P : Rc → Bool} {bk : List (Option Lst)} {a b : Nat} : (a, b) ∈ pls P bk ↔ ∃ r, atB bk (a : Int) (b : Int) = some r ∧ P r = true := by
  unfold pls plsI one fit
  simp only [List.mem_flatMap, List.mem_map, List.mem_filter, idx]
  constructor
  · rintro ⟨i, ⟨⟨i', l⟩, h1, rfl⟩, ⟨s, ⟨⟨s', r⟩, ⟨h2, h3⟩, rfl⟩, h4⟩⟩
    cases h4
    have h5 := prs_mem.1 h1
    have hlf : lf bk i' = l := by unfold lf; rw [look_nat, h5]; rfl
    dsimp only at h2
    rw [hlf] at h2
    have h6 := prs_mem.1 h2
    exact ⟨r, by rw [atN_eq h5, h6]; rfl, h3⟩
  · rintro ⟨r, h1, h2⟩
    obtain ⟨i, j, l, ei, ej, h3, h4, h5⟩ := atB_some h1
    obtain rfl : a = i := by omega
    obtain rfl : b = j := by omega
    exact ⟨a, ⟨(a, l), prs_mem.2 h3, rfl⟩, b, ⟨(b, r), ⟨by rw [h5]; exact prs_mem.2 h4, h2⟩, rfl⟩, rfl⟩
theorem RelK.start (ps : List (Nat × Nat)) (e t : Int) (bk : List (Option Lst)) : RelK ps e t 0 bk bk := ⟨Shape.refl _, fun a b => by simp⟩
theorem RelK.held {ps : List (Nat × Nat)} {e t : Int} {k : Nat} {bk bk' : List (Option Lst)} (h : RelK ps e t k bk bk') {a b : Nat} {r : Rc} (hr : atB bk (a : Int) (b : Int) = some r) : ∃ r', atB bk' (a : Int) (b : Int) = some r' ∧ rq e t r' = rq e t r := by
  rw [h.2 a b, hr]
  split
  · exact ⟨_, rfl, rq_rq e t r⟩
  · exact ⟨_, rfl, rfl⟩
theorem RelK.next {ps : List (Nat × Nat)} {e t : Int} {k : Nat} {bk bk' : List (Option Lst)} (h : RelK ps e t k bk bk') (hk : k < ps.length) {r r' : Rc} (hr : atB bk ((ps[k].1 : Nat) : Int) ((ps[k].2 : Nat) : Int) = some r) (hr' : atB bk' ((ps[k].1 : Nat) : Int) ((ps[k].2 : Nat) : Int) = some r') (he : rq e t r' = rq e t r) :
    RelK ps e t (k + 1) bk (setAt bk' ps[k].1 ps[k].2 (some (rq e t r'))) := by
  obtain ⟨i, j, l, ei, ej, h3, h4, h5⟩ := atB_some hr'
  obtain rfl : ps[k].1 = i := by omega
  obtain rfl : ps[k].2 = j := by omega
  refine ⟨h.1.trans (shape_setAt h3), fun a b => ?_⟩
  rw [atB_setAt h3 (List.getElem?_eq_some_iff.1 h4).1, List.take_succ_eq_append_getElem hk]
  by_cases e1 : a = ps[k].1 ∧ b = ps[k].2
  · obtain ⟨rfl, rfl⟩ := e1
    rw [if_pos ⟨rfl, rfl⟩, if_pos (List.mem_append.2 (.inr (by simp))), hr, he]; rfl
  · rw [if_neg e1, h.2 a b]
    have : (a, b) ≠ ps[k] := fun e' => e1 ⟨by rw [← e'], by rw [← e']⟩
    simp only [List.mem_append, List.mem_singleton, this, or_false]
/-- what Drop leaves -/
def rp (i j : Nat) (r0 r : Rc) : Rc := if r.e = i ∧ r.t = j then rq r0.e r0.t r else r
def DropR (bk : List (Option Lst)) (i j : Nat) (r0 : Rc) (bk' : List (Option Lst)) : Prop :=
  Shape bk bk' ∧ ∀ a b : Nat, atB bk' (a : Int) (b : Int) = if a = i ∧ b = j then none else (atB bk (a : Int) (b : Int)).map (rp i j r0)
theorem RelK.done {bk bk' : List (Option Lst)} {i j : Nat} {r0 : Rc} (hr : atB bk (i : Int) (j : Int) = some r0) (h : RelK (pls (fun r => decide (r.e = (i : Int)) && decide (r.t = (j : Int))) (setAt bk i j none)) r0.e r0.t (pls (fun r => decide (r.e = (i : Int)) && decide (r.t = (j : Int))) (setAt bk i j none)).length (setAt bk i j none) bk') : DropR bk i j r0 bk' := by
  obtain ⟨i', j', l, ei, ej, h3, h4, h5⟩ := atB_some hr
  obtain rfl : i = i' := by omega
  obtain rfl : j = j' := by omega
  have hj := (List.getElem?_eq_some_iff.1 h4).1
  refine ⟨(shape_setAt h3).trans h.1, fun a b => ?_⟩
  rw [h.2 a b, List.take_length, atB_setAt h3 hj]
  by_cases e : a = i ∧ b = j
  · simp [e]
  · simp only [if_neg e]
    have hm := mem_pls (P := fun r => decide (r.e = (i : Int)) && decide (r.t = (j : Int))) (bk := setAt bk i j none) (a := a) (b := b)
    rw [atB_setAt h3 hj, if_neg e] at hm
    cases ha : atB bk (a : Int) (b : Int) with
    | none => simp
    | some r =>
      rw [ha] at hm
      by_cases e2 : r.e = (i : Int) ∧ r.t = (j : Int)
      · rw [if_pos (hm.2 ⟨r, rfl, by simp [e2]⟩)]; simp [rp, e2]
      · rw [if_neg (fun h8 => by obtain ⟨r', h6, h7⟩ := hm.1 h8; cases h6; simp at h7; exact e2 h7)]; simp [rp, e2]
theorem pls_le {w : World} {F : Nat → Prop} {B : Nat} {bk : List (Option Lst)} (h : Book w F B bk) (P : Rc → Bool) : (pls P bk).length ≤ 768 := by
  have h2 := len_flat (one P bk) 48 (idx bk) (fun x _ => one_le P bk x (fun l hl => h.l48 hl))
  have h3 := idx_le bk
  rw [h.blen] at h3
  unfold pls plsI
  omega
end Go.Proofs.Ytimfgjndgfjjgaa

namespace Go.Proofs.Ytimfgjndgfjjgaa
open Go.RowKit

theorem BookAt.open' {w : World} {F : Nat → Prop} {B T : Nat} {G : Nat → Prop} {m : List (Option Nat)} {fs : Nat → Nat → Prop} {bk : List (Option Lst)} (h : BookAt w F B T G m fs bk) {i : Nat} {l : Lst} (hl : bk[i]? = some (some l)) : ∃ b, m[i]? = some (some b) ∧ look m (i : Int) = some b ∧ l.length = 48 ∧ Tab KR w (fs i) b l := by
  have hi : i < m.length := by rw [h.len, ← h.blen]; exact (List.getElem?_eq_some_iff.1 hl).1
  cases hmi : m[i] with
  | none => have := h.free i (by rw [List.getElem?_eq_getElem hi, hmi]); rw [hl] at this; cases this
  | some b =>
    have hm : m[i]? = some (some b) := by rw [List.getElem?_eq_getElem hi, hmi]
    obtain ⟨l', h1, h2, h3⟩ := h.held i b hm
    rw [hl] at h1; cases h1
    exact ⟨b, hm, by rw [look_nat, hm]; rfl, h2, h3⟩
theorem set2 {w : World} {b : Nat} {x0 x1 x2 x3 x4 x5 : Value} {t : TypeId} (h : w.heap[b]? = some (.cells #[x0, x1, x2, x3, x4, x5] t (0, 0))) (y4 y5 : Value) :
    ((w.setCell ⟨b, 4, none⟩ y4).setCell ⟨b, 5, none⟩ y5).heap[b]? = some (.cells #[x0, x1, x2, x3, y4, y5] t (0, 0)) := by
  have h5 := heap_setCell_same _ b 4 _ _ y4 h
  have h6 := heap_setCell_same _ b 5 _ _ y5 h5
  rw [h6]; rfl
theorem encPs_at {ps : List (Nat × Nat)} {k : Nat} (hk : k < ps.length) : (encPs ps)[k * 2]? = some (.int .i64 ((ps[k].1 : Nat) : Int)) ∧ (encPs ps)[k * 2 + 1]? = some (.int .i64 ((ps[k].2 : Nat) : Int)) := by
  have e : encPs ps = encPs (ps.take k) ++ (encP ps[k] ++ encPs (ps.drop (k + 1))) := by
    unfold encPs
    rw [← List.flatMap_cons, ← List.drop_eq_getElem_cons hk, ← List.flatMap_append, List.take_append_drop]
  have hl : (encPs (ps.take k)).length = k * 2 := by rw [encPs_len, List.length_take, Nat.min_eq_left (by omega)]
  rw [e]
  constructor
  · rw [List.getElem?_append_right (by omega), hl, Nat.sub_self]; rfl
  · rw [List.getElem?_append_right (by omega), hl, show k * 2 + 1 - k * 2 = 1 by omega]; rfl

set_option maxRecDepth 8000 in
set_option maxHeartbeats 8000000 in
theorem drop_any (w : World) (F : Nat → Prop) (B : Nat) (bk : List (Option Lst)) (h : Book w F B bk) (i j : Nat) (r0 : Rc) (hr : atB bk (i : Int) (j : Int) = some r0) :
    Calls Try.prog 35 #[.pointer (some ⟨B, 0, none⟩), .agg #[.int .i64 (i : Int), .int .i64 (j : Int)]] w fun x w' => x = .returned (.tuple #[]) ∧ ∃ bk', Book w' F B bk' ∧ Ext F w F w' ∧ DropR bk i j r0 bk' := by
  have hb0 := (Below.refl w.heap.size w).alloc (Nat.le_refl _) (.cells #[.int .i64 (i : Int), .int .i64 (j : Int)] 28)
  have hk := hide (h.below hb0)
  have HB0 := hide hb0
  have hP := heap_alloc_new w (.cells #[.int .i64 (i : Int), .int .i64 (j : Int)] 28)
  have HFl := hide h.lt
  have HR := hide hr
  have hn0 : w.heap.size < (w.alloc (.cells #[.int .i64 (i : Int), .int .i64 (j : Int)] 28)).heap.size := by simp
  clear h hb0 hr
  go_enter Try.func35, Try.ntmps35
  go_wp2_with fail
  generalize w.alloc (.cells #[.int .i64 (i : Int), .int .i64 (j : Int)] 28) = w0 at *
  generalize hn : w.heap.size = n0 at *
  refine (remove_any w0 F B bk hk.out i j r0 HR.out).mono ?_
  rintro e w1 ⟨rfl, hB1, hE1⟩
  have hP1 : w1.heap[n0]? = some (.cells #[.int .i64 (i : Int), .int .i64 (j : Int)] 28 (0, 0)) := (hE1.mod.block n0 hn0 (fun hf => by have := HFl.out n0 hf; omega)).trans hP
  have hn1 : n0 < w1.heap.size := (Array.getElem?_eq_some_iff.1 hP1).1
  have H1 := hide hB1
  have HE1 := hide (hE1)
  clear hB1 hE1 hk hP
  go_wp2_with fail
  refine (parent_any w1 r0).mono ?_
  rintro e w2 ⟨rfl, hb2⟩
  have hP2 := (hb2.block n0 hn1).trans hP1
  have hP3 := (Below.heap_alloc w2 (.cells #[.int .i64 r0.e, .int .i64 r0.t] 28) n0 (Array.getElem?_eq_some_iff.1 hP2).1).trans hP2
  have hQ3 := heap_alloc_new w2 (.cells #[.int .i64 r0.e, .int .i64 r0.t] 28)
  have H2 := hide ((H1.out.below hb2).below ((Below.refl _ _).alloc (Nat.le_refl _) (.cells #[.int .i64 r0.e, .int .i64 r0.t] 28)))
  have HE2 := hide ((HE1.out.trans (Ext.of_below hb2)).trans (Ext.of_below ((Below.refl _ _).alloc (Nat.le_refl _) (.cells #[.int .i64 r0.e, .int .i64 r0.t] 28))))
  have hq2 : n0 < w2.heap.size := (Array.getElem?_eq_some_iff.1 hP2).1
  clear hb2 hP2 hP1 HE1 H1
  go_upto_region 2 with fail
  generalize hgw : w2.alloc (.cells #[.int .i64 r0.e, .int .i64 r0.t] 28) = w3 at *
  clear hgw
  obtain ⟨p0, p1, _, _⟩ := blk2 hP3
  go_wp2_with fail
  refine (same_parent w3 (i : Int) (j : Int)).mono ?_
  rintro e w4 ⟨rfl, hf4, hv4, hb4⟩
  have H4 := hide (H2.out.below hb4)
  have HE4 := hide (HE2.out.trans (Ext.of_below hb4))
  have hQ4 := (hb4.block w2.heap.size (Array.getElem?_eq_some_iff.1 hQ3).1).trans hQ3
  clear hb4 hQ3 hP3 H2 HE2 p0 p1
  go_wp2_with fail
  refine (places_any F B (setAt bk i j none) w4 H4.out 83 w3.heap.size (w3.heap.size + 1) _ _ _ (fits_parent _ _ (i : Int) (j : Int)) hf4 hv4).mono ?_
  rintro e w5 ⟨v5, rfl, hrow, hb5⟩
  have H5 := hide (H4.out.below hb5)
  have HE5 := hide (HE4.out.trans (Ext.of_below hb5))
  have hQ5 := (hb5.block w2.heap.size (Array.getElem?_eq_some_iff.1 hQ4).1).trans hQ4
  have HDone := hide (fun bk' => RelK.done (bk' := bk') HR.out)
  have hle := pls_le H5.out (fun r => decide (r.e = (i : Int)) && decide (r.t = (j : Int)))
  have HMem := hide (fun a b => (mem_pls (P := fun r => decide (r.e = (i : Int)) && decide (r.t = (j : Int))) (bk := setAt bk i j none) (a := a) (b := b)).1)
  have hn4 : n0 ≤ w4.heap.size := by have := (Array.getElem?_eq_some_iff.1 hQ4).1; omega
  clear hb5 hQ4 H4 HE4 hf4 hv4
  generalize pls (fun r => decide (r.e = (i : Int)) && decide (r.t = (j : Int))) (setAt bk i j none) = ps at *
  generalize setAt bk i j none = bk1 at *
  obtain ⟨a5, c5, rfl⟩ := own_shape hrow
  generalize w2.heap.size = n2 at *
  have HRow := hide hrow
  have HQ := hide hQ5
  clear hrow hQ5
  go_wp2_with fail
  go_loopw [20] (fun x wr => ∃ (k : Nat) (bk' : List (Option Lst)), k ≤ ps.length ∧ x = .int .i64 (k : Int) ∧ Hid (Book wr F B bk') ∧ Hid (Ext F w5 F wr) ∧ Hid (RelK ps r0.e r0.t k bk1 bk')) (fun x _ => ps.length - (intOf x).toNat)
  case atStart => exact ⟨0, bk1, by omega, rfl, H5, Ext.refl _ _, RelK.start _ _ _ _⟩
  case round =>
  obtain ⟨k, bk', hk, rfl, K1, K2, K3⟩ := hrel
  by_cases hlt : k < ps.length
  · obtain ⟨r1, hr1, -⟩ := HMem.out ps[k].1 ps[k].2 (List.getElem_mem hlt)
    obtain ⟨r', hr', he'⟩ := K3.out.held hr1
    obtain ⟨gq, rfl, hcq⟩ : ∃ gq, a5 = some ⟨gq, 0, none⟩ ∧ wr.cell? ⟨gq, k * 2, none⟩ = some (.int .i64 ((ps[k].1 : Nat) : Int)) ∧ wr.cell? ⟨gq, k * 2 + 1, none⟩ = some (.int .i64 ((ps[k].2 : Nat) : Int)) := by
      obtain ⟨_, ⟨h0, h00⟩ | ⟨g0, cap, cur, hv0, hgb, hg0, _⟩⟩ := HRow.out
      · omega
      · cases hv0
        have hkeep := K2.out.mod.block g0 (Array.getElem?_eq_some_iff.1 hg0).1 (fun hf => by have := HFl.out g0 hf; omega)
        have hw : wr.ownsRow w4.heap.size 28 2 (.slice (some ⟨g0, 0, none⟩) ps.length c5) ps.length (encPs ps) := by
          obtain ⟨q1, ⟨h0, h00⟩ | ⟨g1, cap1, cur1, hv1, hgb1, hg1, hr1⟩⟩ := HRow.out
          · cases h0
          · cases hv1
            exact ⟨q1, .inr ⟨g0, c5, cur1, rfl, hgb1, hkeep.trans hg1, hr1⟩⟩
        refine ⟨g0, rfl, ?_, ?_⟩
        · rw [hw.cellAt (k * 2) (by omega)]; exact (encPs_at hlt).1
        · rw [hw.cellAt (k * 2 + 1) (by omega)]; exact (encPs_at hlt).2
    have HNext := hide (K3.out.next hlt hr1 hr' he')
    have hQr : wr.heap[n2]? = some (.cells #[.int .i64 r0.e, .int .i64 r0.t] 28 (0, 0)) := (K2.out.mod.block n2 (Array.getElem?_eq_some_iff.1 HQ.out).1 (fun hf => by have := HFl.out n2 hf; omega)).trans HQ.out
    clear hr1 he'
    generalize ps[k].1 = pi at *
    generalize ps[k].2 = pj at *
    obtain ⟨i', j', l, ei, ej, h3, h4, h5⟩ := atB_some hr'
    obtain rfl : pi = i' := by omega
    obtain rfl : pj = j' := by omega
    obtain ⟨T, G, m, fs, hA⟩ := K1.out
    obtain ⟨b, hm, hlm, h48, hTl⟩ := hA.open' h3
    obtain ⟨cq0, cq1⟩ := hcq
    have hkl : (k : Int) < (ps.length : Int) := by omega
    have hwk : k * 2 + 1 < ps.length * 2 := by omega
    have HN2 := hide hQr
    have HA := hide hA
    have HM := hide hm
    have H48 := hide h48
    have HTL := hide hTl
    have H4 := hide h4
    have HLF := hide h5
    have HLM := hide hlm
    clear hQr hA hm h48 hTl h4 h5 h3 hr' hlm ei ej HRow HMem HDone K1
    go_upto_region 5 with fail
    have hb6 := (Below.refl wr.heap.size wr).alloc (Nat.le_refl _) (.cells #[.int .i64 (pi : Int), .int .i64 (pj : Int)] 28)
    have hN6 := heap_alloc_new wr (.cells #[.int .i64 (pi : Int), .int .i64 (pj : Int)] 28)
    generalize wr.alloc (.cells #[.int .i64 (pi : Int), .int .i64 (pj : Int)] 28) = w6 at *
    have hA6 := HA.out.keep hb6.size (fun x hx => hb6.block x (HA.out.lt x hx))
    have HG := hide (getL_any w6.drew G T m (hA6.tab.below (Below.refl _ _).drew) pi)
    rw [HLM.out] at HG
    simp only [ptr, Option.isSome_some] at HG
    have c6 : w6.drew.cell? ⟨B, 0, none⟩ = some (.pointer (some ⟨T, 0, none⟩)) ∧ w6.drew.cell? ⟨wr.heap.size, 0, none⟩ = some (.int .i64 (pi : Int)) := ⟨hA6.cell, (blk2 hN6).1⟩
    have HB6 := hide hb6.drew
    have HN6 : Hid (w6.drew.heap[wr.heap.size]? = some (.cells #[.int .i64 (pi : Int), .int .i64 (pj : Int)] 28 (0, 0))) := hN6
    clear hb6 hN6 hA6 cq0 cq1
    go_region_held (fun W => W.cell? ⟨B, 0, none⟩ = some (.pointer (some ⟨T, 0, none⟩)) ∧ W.cell? ⟨wr.heap.size, 0, none⟩ = some (.int .i64 (pi : Int)))
      (first | assumption | exact c6)
      (first | (go_at_call 29; refine HG.out.mono ?_; rintro e1 w1 ⟨rfl, hw1⟩; subst hw1))
    clear c6 HG
    generalize w6.drew = w7 at *
    have HT7 := hide (HTL.out.below HB6.out)
    have HGR := hide (getR_any w7 (fs pi) b l HT7.out pj)
    rw [show look l (pj : Int) = some r' by rw [look_nat, H4.out]; rfl] at HGR
    simp only [Option.getD_some, Option.isSome_some] at HGR
    obtain ⟨-, cj, -, -⟩ := blk2 HN6.out
    go_wp2_with fail
    refine HGR.out.mono ?_
    rintro e1 w8 ⟨rfl, hb8⟩
    have hN8 := (hb8.block wr.heap.size (Array.getElem?_eq_some_iff.1 HN6.out).1).trans HN6.out
    have hb8' := HB6.out.trans (hb8.mono HB6.out.size)
    clear hb8 HGR cj HN6 HT7
    simp only [Rc.val]
    go_upto_region 7 with fail
    have hX : (w8.alloc (.cells #[.int .i64 r'.k, .int .i64 r'.o, .int .i64 r'.s, .int .i64 r'.r, .int .i64 r'.e, .int .i64 r'.t] 78)).heap[w8.heap.size]? = some (.cells #[.int .i64 r'.k, .int .i64 r'.o, .int .i64 r'.s, .int .i64 r'.r, .int .i64 r'.e, .int .i64 r'.t] 78 (0, 0)) := heap_alloc_new _ _
    have hN9 := (Below.heap_alloc w8 (.cells #[.int .i64 r'.k, .int .i64 r'.o, .int .i64 r'.s, .int .i64 r'.r, .int .i64 r'.e, .int .i64 r'.t] 78) wr.heap.size (Array.getElem?_eq_some_iff.1 hN8).1).trans hN8
    have hb9 := hb8'.alloc hb8'.size (.cells #[.int .i64 r'.k, .int .i64 r'.o, .int .i64 r'.s, .int .i64 r'.r, .int .i64 r'.e, .int .i64 r'.t] 78)
    have hq9 := (hb9.block n2 (Array.getElem?_eq_some_iff.1 HN2.out).1).trans HN2.out
    have hne : wr.heap.size ≠ w8.heap.size := by have := (Array.getElem?_eq_some_iff.1 hN8).1; omega
    have hge : wr.heap.size ≤ w8.heap.size := hb8'.size
    clear hb8' hN8
    generalize w8.alloc (.cells #[.int .i64 r'.k, .int .i64 r'.o, .int .i64 r'.s, .int .i64 r'.r, .int .i64 r'.e, .int .i64 r'.t] 78) = w9 at *
    generalize w8.heap.size = n8 at *
    obtain ⟨-, -, -, -, d4, d5, -, -, -, -, f4, f5⟩ := blk6 hX
    obtain ⟨e0, e1, -, -⟩ := blk2 hq9
    go_upto_region 8 with fail
    have hX2 := set2 hX (.int .i64 r0.e) (.int .i64 r0.t)
    have hN10 : ((w9.setCell ⟨n8, 4, none⟩ (.int .i64 r0.e)).setCell ⟨n8, 5, none⟩ (.int .i64 r0.t)).heap[wr.heap.size]? = some (.cells #[.int .i64 (pi : Int), .int .i64 (pj : Int)] 28 (0, 0)) :=
      ((heap_setCell_other _ _ _ _ hne).trans (heap_setCell_other _ _ _ _ hne)).trans hN9
    have hb10 := (hb9.setCell (p := ⟨n8, 4, none⟩) hge (.int .i64 r0.e)).setCell (p := ⟨n8, 5, none⟩) hge (.int .i64 r0.t)
    clear hb9 hX hN9 hq9 d4 d5 f4 f5 e0 e1
    generalize (w9.setCell ⟨n8, 4, none⟩ (.int .i64 r0.e)).setCell ⟨n8, 5, none⟩ (.int .i64 r0.t) = w10 at *
    have HS := hide (setR_some w10 (fs pi) b l (HTL.out.below hb10) pj r' (rq r0.e r0.t r') H4.out)
    have HA10 := hide (HA.out.keep hb10.size (fun x hx => hb10.block x (HA.out.lt x hx)))
    have HE10 := hide (K2.out.trans (Ext.of_below hb10))
    obtain ⟨d0, d1, d2, d3, d4, d5, -, -, -, -, -, -⟩ := blk6 hX2
    obtain ⟨-, cj, -, -⟩ := blk2 hN10
    simp only [Rc.val, rq] at HS
    clear hb10 hX2 hN10 HTL HA K2 K3 HN2
    go_wp2_with fail
    refine HS.out.mono ?_
    rintro e1 w11 ⟨rfl, hT11, hE11⟩
    have L1 := hide (HA10.out.upd0 HM.out (l' := l.set pj (some (rq r0.e r0.t r'))) (by rw [List.length_set]; exact H48.out) hT11 hE11)
    have L2 := hide (HE10.out.trans L1.out.2)
    have L3 : Hid (Book w11 F B (setAt bk' pi pj (some (rq r0.e r0.t r')))) := by
      show Book _ _ _ _
      unfold setAt
      rw [HLF.out]
      exact L1.out.1
    clear hT11 hE11 HS HA10 HE10 d0 d1 d2 d3 d4 d5 cj L1
    go_wp2
    go_roundw
    case rel =>
      first
        | exact ⟨k + 1, _, by omega, by go_num, L3, L2, HNext⟩
        | ((repeat apply Exists.intro); refine ⟨?_, rfl⟩; exact ⟨k + 1, _, by omega, by go_num, L3, L2, HNext⟩)
    case measure => simp [intOf]; omega
  · have hd : decide ((k : Int) < (ps.length : Int)) = false := by simp; omega
    have hd2 : decide (k < ps.length) = false := by simp; omega
    have K4 : Hid (RelK ps r0.e r0.t ps.length bk1 bk') := by
      have e : k = ps.length := by omega
      have h9 := K3.out
      rw [e] at h9
      exact h9
    go_wp2
    go_end0
    exact ⟨rfl, bk', K1.out, (Ext.of_below (by rw [hn]; exact HB0.out)).trans (HE5.out.trans K2.out), HDone.out bk' K4.out⟩
end Go.Proofs.Ytimfgjndgfjjgaa

namespace Go.Proofs.Ytimfgjndgfjjgaa
open Go.RowKit

def Rc.cap (r : Rc) : Value := .agg #[.int .i64 r.k, .int .i64 r.o, .int .i64 r.s, .int .i64 r.r]
theorem set4 {w : World} {b : Nat} {x0 x1 x2 x3 : Value} {t : TypeId} (h : w.heap[b]? = some (.cells #[x0, x1, x2, x3] t (0, 0))) (y0 y1 y2 y3 : Value) :
    ((((w.setCell ⟨b, 0, none⟩ y0).setCell ⟨b, 1, none⟩ y1).setCell ⟨b, 2, none⟩ y2).setCell ⟨b, 3, none⟩ y3).heap[b]? = some (.cells #[y0, y1, y2, y3] t (0, 0)) := by
  have h1 := heap_setCell_same _ b 0 _ _ y0 h
  have h2 := heap_setCell_same _ b 1 _ _ y1 h1
  have h3 := heap_setCell_same _ b 2 _ _ y2 h2
  have h4 := heap_setCell_same _ b 3 _ _ y3 h3
  rw [h4]; rfl
theorem ext_four {F F' : Nat → Prop} {a w : World} (h : Ext F a F' w) {b : Nat} (hb : a.heap.size ≤ b) (y0 y1 y2 y3 : Value) :
    Ext F a F' ((((w.setCell ⟨b, 0, none⟩ y0).setCell ⟨b, 1, none⟩ y1).setCell ⟨b, 2, none⟩ y2).setCell ⟨b, 3, none⟩ y3) :=
  ⟨(((h.mod.setCell (p := ⟨b, 0, none⟩) (.inr hb) _).setCell (p := ⟨b, 1, none⟩) (.inr hb) _).setCell (p := ⟨b, 2, none⟩) (.inr hb) _).setCell (p := ⟨b, 3, none⟩) (.inr hb) _, h.new⟩
theorem book_four {w : World} {F : Nat → Prop} {B : Nat} {bk : List (Option Lst)} (h : Book w F B bk) (b : Nat) (hb : ∀ x, F x → x ≠ b) (y0 y1 y2 y3 : Value) :
    Book ((((w.setCell ⟨b, 0, none⟩ y0).setCell ⟨b, 1, none⟩ y1).setCell ⟨b, 2, none⟩ y2).setCell ⟨b, 3, none⟩ y3) F B bk :=
  h.keep (by simp [World.setCell]) (fun x hx => by rw [heap_setCell_other _ _ x _ (hb x hx), heap_setCell_other _ _ x _ (hb x hx), heap_setCell_other _ _ x _ (hb x hx), heap_setCell_other _ _ x _ (hb x hx)])
theorem blk4f {w1 : World} {b : Nat} {x0 x1 x2 x3 : Value} {t : TypeId} (h : w1.heap[b]? = some (.cells #[x0, x1, x2, x3] t (0, 0))) :
    w1.frozen? ⟨b, 0, none⟩ = false ∧ w1.frozen? ⟨b, 1, none⟩ = false ∧ w1.frozen? ⟨b, 2, none⟩ = false ∧ w1.frozen? ⟨b, 3, none⟩ = false :=
  ⟨frozen_of_row _ _ _ _ _ h, frozen_of_row _ _ _ _ _ h, frozen_of_row _ _ _ _ _ h, frozen_of_row _ _ _ _ _ h⟩
theorem lcode_none {bk : List (Option Lst)} {e s : Int} (h : atB bk e s = none) : lcode bk e s = 83 ∨ lcode bk e s = 80 := by
  unfold lcode
  split
  · exact .inl rfl
  · rw [if_pos (by rw [h]; rfl)]; exact .inr rfl
theorem lcode_some {bk : List (Option Lst)} {e s : Int} {r : Rc} (h : atB bk e s = some r) : lcode bk e s = 0 := by
  obtain ⟨i, j, l, rfl, rfl, h1, h2, h3⟩ := atB_some h
  exact (lcode_held (l := l) (r := r) (by rw [look_nat, h1]; rfl) (by rw [look_nat, h2]; rfl)).1
set_option maxHeartbeats 3200000 in
theorem dropNone_any (w : World) (F : Nat → Prop) (B : Nat) (bk : List (Option Lst)) (h : Book w F B bk) (e s : Int) (hn : atB bk e s = none) :
    Calls Try.prog 11 #[.pointer (some ⟨B, 0, none⟩), .int .i64 e, .int .i64 s] w fun x w' => x = .returned (.tuple #[Rc.zero.cap, .int .i64 (lcode bk e s)]) ∧ Below w.heap.size w w' := by
  have hb0 := (Below.refl w.heap.size w).alloc (Nat.le_refl _) (.cells #[.int .i64 0, .int .i64 0, .int .i64 0, .int .i64 0] 26)
  have HL := hide (look_any _ F B bk (h.below hb0) e s)
  have hZ := heap_alloc_new w (.cells #[.int .i64 0, .int .i64 0, .int .i64 0, .int .i64 0] 26)
  have hc : (lcode bk e s != 0) = true := by rcases lcode_none hn with h | h <;> rw [h] <;> decide
  rw [hn] at HL
  generalize lcode bk e s = c at *
  simp only [Rc.val, Rc.zero, Rc.cap, Option.getD_none] at *
  have HB0 := hide hb0
  clear h hb0 hn
  go_enter Try.func11, Try.ntmps11
  go_wp2_with fail
  generalize hgw : w.alloc (.cells #[.int .i64 0, .int .i64 0, .int .i64 0, .int .i64 0] 26) = w0 at *
  clear hgw
  refine HL.out.mono ?_
  rintro e1 w1 ⟨rfl, hb1⟩
  have hlt := (Array.getElem?_eq_some_iff.1 hZ).1
  have hZ1 := (hb1.block w.heap.size hlt).trans hZ
  have hb1' := HB0.out.trans (hb1.mono HB0.out.size)
  clear hb1 HL hZ
  go_upto_region 3 with fail
  have hZ2 := (Below.heap_alloc w1 (.cells #[.int .i64 0, .int .i64 0, .int .i64 0, .int .i64 0, .int .i64 0, .int .i64 0] 78) w.heap.size (Array.getElem?_eq_some_iff.1 hZ1).1).trans hZ1
  have HB2 := hide (hb1'.alloc hb1'.size (.cells #[.int .i64 0, .int .i64 0, .int .i64 0, .int .i64 0, .int .i64 0, .int .i64 0] 78))
  generalize w1.alloc (.cells #[.int .i64 0, .int .i64 0, .int .i64 0, .int .i64 0, .int .i64 0, .int .i64 0] 78) = w2 at *
  obtain ⟨d0, d1, d2, d3⟩ := blk4 hZ2
  obtain ⟨f0, f1, f2, f3⟩ := blk4f hZ2
  have HS := hide (fun a b c d => set4 hZ2 a b c d)
  clear hZ1 hZ2 hb1'
  go_wp2
  refine bodyPost_ret (results_row2 rfl _ _ w.heap.size 26 #[.int .i64 0, .int .i64 0, .int .i64 0, .int .i64 0] (0, 0) _ rfl (HS.out _ _ _ _) Try.underlying26 rfl (by kernel_rfl)) rfl ?_
  exact ⟨rfl, (((HB2.out.setCell (p := ⟨w.heap.size, 0, none⟩) (Nat.le_refl _) _).setCell (p := ⟨w.heap.size, 1, none⟩) (Nat.le_refl _) _).setCell (p := ⟨w.heap.size, 2, none⟩) (Nat.le_refl _) _).setCell (p := ⟨w.heap.size, 3, none⟩) (Nat.le_refl _) _⟩
set_option maxHeartbeats 3200000 in
theorem dropSome_any (w : World) (F : Nat → Prop) (B : Nat) (bk : List (Option Lst)) (h : Book w F B bk) (i j : Nat) (r : Rc) (hn : atB bk (i : Int) (j : Int) = some r) :
    Calls Try.prog 11 #[.pointer (some ⟨B, 0, none⟩), .int .i64 (i : Int), .int .i64 (j : Int)] w fun x w' => x = .returned (.tuple #[r.cap, .int .i64 0]) ∧ ∃ bk', Book w' F B bk' ∧ Ext F w F w' ∧ DropR bk i j r bk' := by
  have hb0 := (Below.refl w.heap.size w).alloc (Nat.le_refl _) (.cells #[.int .i64 0, .int .i64 0, .int .i64 0, .int .i64 0] 26)
  have HL := hide (look_any _ F B bk (h.below hb0) i j)
  have hZ := heap_alloc_new w (.cells #[.int .i64 0, .int .i64 0, .int .i64 0, .int .i64 0] 26)
  rw [hn, lcode_some hn] at HL
  simp only [Rc.val, Rc.cap, Option.getD_some] at *
  have HB0 := hide hb0
  have H0 := hide (h.below hb0)
  have HFl := hide h.lt
  have HN := hide hn
  clear h hb0 hn
  go_enter Try.func11, Try.ntmps11
  go_wp2_with fail
  generalize hgw : w.alloc (.cells #[.int .i64 0, .int .i64 0, .int .i64 0, .int .i64 0] 26) = w0 at *
  clear hgw
  refine HL.out.mono ?_
  rintro e1 w1 ⟨rfl, hb1⟩
  have hlt := (Array.getElem?_eq_some_iff.1 hZ).1
  have hZ1 := (hb1.block w.heap.size hlt).trans hZ
  have hb1' := HB0.out.trans (hb1.mono HB0.out.size)
  have H1 := hide (H0.out.below hb1)
  clear hb1 HL hZ H0
  go_upto_region 4 with fail
  have hlt1 := (Array.getElem?_eq_some_iff.1 hZ1).1
  have hZ2 := (Below.heap_alloc w1 (.cells #[.int .i64 r.k, .int .i64 r.o, .int .i64 r.s, .int .i64 r.r, .int .i64 r.e, .int .i64 r.t] 78) w.heap.size hlt1).trans hZ1
  have hX2 := heap_alloc_new w1 (.cells #[.int .i64 r.k, .int .i64 r.o, .int .i64 r.s, .int .i64 r.r, .int .i64 r.e, .int .i64 r.t] 78)
  have HB2 := hide (hb1'.alloc hb1'.size (.cells #[.int .i64 r.k, .int .i64 r.o, .int .i64 r.s, .int .i64 r.r, .int .i64 r.e, .int .i64 r.t] 78))
  have H2 := hide (H1.out.below ((Below.refl _ _).alloc (Nat.le_refl _) (.cells #[.int .i64 r.k, .int .i64 r.o, .int .i64 r.s, .int .i64 r.r, .int .i64 r.e, .int .i64 r.t] 78)))
  generalize hgw : w1.alloc (.cells #[.int .i64 r.k, .int .i64 r.o, .int .i64 r.s, .int .i64 r.r, .int .i64 r.e, .int .i64 r.t] 78) = w2 at *
  clear hgw hZ1 hb1' H1
  generalize w1.heap.size = n1 at *
  go_wp2_with fail
  refine (drop_any w2 F B bk H2.out i j r HN.out).mono ?_
  rintro e1 w3 ⟨rfl, bk', hB3, hE3, hD3⟩
  have hZ3 := (hE3.mod.block w.heap.size (Array.getElem?_eq_some_iff.1 hZ2).1 (fun hf => by have := HFl.out _ hf; omega)).trans hZ2
  have hX3 := (hE3.mod.block n1 (Array.getElem?_eq_some_iff.1 hX2).1 (fun hf => by have := HFl.out _ hf; omega)).trans hX2
  have K1 := hide hB3
  have K2 := hide ((Ext.of_below (F := F) HB2.out).trans hE3)
  have K3 := hide hD3
  clear hB3 hE3 hD3 H2 HB2 hZ2 hX2
  obtain ⟨d0, d1, d2, d3⟩ := blk4 hZ3
  obtain ⟨f0, f1, f2, f3⟩ := blk4f hZ3
  obtain ⟨x0, x1, x2, x3, -, -, -, -, -, -, -, -⟩ := blk6 hX3
  have HS := hide (fun a b c d => set4 hZ3 a b c d)
  clear hZ3 hX3
  go_wp2
  refine bodyPost_ret (results_row2 rfl _ _ w.heap.size 26 #[.int .i64 r.k, .int .i64 r.o, .int .i64 r.s, .int .i64 r.r] (0, 0) _ rfl (HS.out _ _ _ _) Try.underlying26 rfl (by kernel_rfl)) rfl ?_
  exact ⟨rfl, bk', book_four K1.out w.heap.size (fun x hx => by have := HFl.out x hx; omega) _ _ _ _, ext_four K2.out (Nat.le_refl _) _ _ _ _, K3.out⟩
set_option maxHeartbeats 1600000 in
theorem room_any (w : World) (F : Nat → Prop) (B : Nat) (bk : List (Option Lst)) (h : Book w F B bk) (i : Nat) (l : Lst) (hl : bk[i]? = some (some l)) :
    Calls Try.prog 17 #[.pointer (some ⟨B, 0, none⟩), .int .i64 (i : Int)] w fun x w' => x = .returned (.int .i64 (48 - ((l.countP Option.isSome : Nat) : Int))) ∧ w' = w := by
  obtain ⟨T, G, m, fs, h⟩ := h
  have c0 := h.cell
  obtain ⟨b, hm, hlm, h48, hTl⟩ := h.open' hl
  have HG := hide (getL_any _ G T m h.tab i)
  rw [hlm] at HG
  simp only [ptr, Option.isSome_some] at HG
  have HBd := hide (boundR_any _ (fs i) b l hTl)
  have HLn := hide (lenR_any _ (fs i) b l hTl)
  rw [h48] at HBd
  have hcn : l.countP Option.isSome ≤ 48 := by rw [← h48]; exact count_le
  clear h hm hlm h48 hTl hl
  generalize l.countP Option.isSome = cn at *
  have hw : IntKind.i64.wrap (((48 : Nat) : Int) - (cn : Int)) = 48 - (cn : Int) := by simp [IntKind.wrap, IntKind.signed, IntKind.bits]; omega
  go_enter Try.func17, Try.ntmps17
  go_wp2_with fail
  refine HG.out.mono ?_
  rintro e1 w1 ⟨rfl, rfl⟩
  go_wp2_with fail
  refine HBd.out.mono ?_
  rintro e1 w1 ⟨rfl, rfl⟩
  go_wp2_with fail
  refine HLn.out.mono ?_
  rintro e1 w1 ⟨rfl, rfl⟩
  go_wp2
  go_ret
  exact ⟨rfl, rfl⟩
set_option maxHeartbeats 1600000 in
theorem on_any (w : World) (F : Nat → Prop) (B : Nat) (bk : List (Option Lst)) (h : Book w F B bk) (k o : Int) :
    Calls Try.prog 18 #[.pointer (some ⟨B, 0, none⟩), .int .i64 k, .int .i64 o] w fun x w' => x = .returned (.int .i64 (((pls (fun r => decide (r.k = k) && decide (r.o = o)) bk).length : Nat) : Int)) ∧ Below w.heap.size w w' := by
  have H := hide h
  clear h
  go_enter Try.func18, Try.ntmps18
  go_wp2_with fail
  refine (same_object w k o).mono ?_
  rintro e w4 ⟨rfl, hf4, hv4, hb4⟩
  go_wp2_with fail
  refine (places_any F B bk w4 (H.out.below hb4) 72 w.heap.size (w.heap.size + 1) _ _ _ (fits_object _ _ k o) hf4 hv4).mono ?_
  rintro e w5 ⟨v5, rfl, hrow, hb5⟩
  obtain ⟨a5, c5, rfl⟩ := own_shape hrow
  have HB := hide (hb4.trans (hb5.mono hb4.size))
  clear hrow hb5 hb4 hf4 hv4
  go_wp2
  go_ret
  exact ⟨rfl, HB.out⟩
end Go.Proofs.Ytimfgjndgfjjgaa

namespace Go.Proofs.Ytimfgjndgfjjgaa
open Go.RowKit

/-- the capability that CapsLowest lays -/
def c0 : Rc := ⟨3, 0, 1, 0, -1, -1⟩
def lOf (tk : List Bool) : Lst := tk.map (fun t => if t then some c0 else none)
/-- list 2 is open and holds at the taken slots the one capability; no other is open -/
structure Inv (tk : List Bool) (bk : List (Option Lst)) : Prop where
  len : tk.length = 48
  two : bk[2]? = some (some (lOf tk))
  oth : ∀ a : Nat, a ≠ 2 → look bk (a : Int) = none
/-- the lowest free slot from j on, or -1 -/
def low : List Bool → Nat → Int
  | [], _ => -1
  | t :: r, j => if t then low r (j + 1) else j
def lowF (tk : List Bool) (j : Nat) : Int := low (tk.drop j) j
theorem lowF_end {tk : List Bool} (h : tk.length = 48) : lowF tk 48 = -1 := by unfold lowF; rw [List.drop_eq_nil_of_le (by omega)]; rfl
theorem lowF_free {tk : List Bool} {s : Nat} (h : tk[s]? = some false) : lowF tk s = s := by
  obtain ⟨hs, e⟩ := List.getElem?_eq_some_iff.1 h
  unfold lowF; rw [List.drop_eq_getElem_cons hs, e]; rfl
theorem lowF_taken {tk : List Bool} {s : Nat} (h : tk[s]? = some true) : lowF tk s = lowF tk (s + 1) := by
  obtain ⟨hs, e⟩ := List.getElem?_eq_some_iff.1 h
  unfold lowF; rw [List.drop_eq_getElem_cons hs, e]; rfl
theorem low_ff : ∀ (l : List Bool) (j : Nat), (low l j = -1 ∧ ff (lOf l) = l.length) ∨ (∃ k, low l j = ((j + k : Nat) : Int) ∧ ff (lOf l) = k ∧ l[k]? = some false)
  | [], _ => .inl ⟨rfl, rfl⟩
  | false :: r, j => .inr ⟨0, by simp [low], by simp [ff, lOf, List.findIdx_cons], rfl⟩
  | true :: r, j => by
    have e : ff (lOf (true :: r)) = ff (lOf r) + 1 := by simp [ff, lOf, List.findIdx_cons]
    rcases low_ff r (j + 1) with ⟨h1, h2⟩ | ⟨k, h1, h2, h3⟩
    · exact .inl ⟨h1, by rw [e, h2]; rfl⟩
    · exact .inr ⟨k + 1, by show low r (j + 1) = _; rw [h1]; congr 1; omega, by rw [e, h2], h3⟩
theorem lowF_ff (tk : List Bool) : (lowF tk 0 = -1 ∧ ff (lOf tk) = tk.length) ∨ (∃ k : Nat, lowF tk 0 = (k : Int) ∧ ff (lOf tk) = k ∧ tk[k]? = some false) := by
  have := low_ff tk 0
  simpa [lowF] using this
theorem lOf_len (tk : List Bool) : (lOf tk).length = tk.length := by simp [lOf]
theorem lOf_get {tk : List Bool} {s : Nat} {t : Bool} (h : tk[s]? = some t) : (lOf tk)[s]? = some (if t then some c0 else none) := by simp [lOf, h]
theorem lOf_set (tk : List Bool) (s : Nat) (t : Bool) : lOf (tk.set s t) = (lOf tk).set s (if t then some c0 else none) := by simp [lOf, List.map_set]
theorem lOf_inv {tk : List Bool} {s : Nat} (h : (lOf tk)[s]? = some none) : tk[s]? = some false := by
  simp only [lOf, List.getElem?_map, Option.map_eq_some_iff] at h
  obtain ⟨t, h1, h2⟩ := h
  cases t
  · exact h1
  · cases h2
theorem lOf_inv2 {tk : List Bool} {s : Nat} {r : Rc} (h : (lOf tk)[s]? = some (some r)) : tk[s]? = some true ∧ r = c0 := by
  simp only [lOf, List.getElem?_map, Option.map_eq_some_iff] at h
  obtain ⟨t, h1, h2⟩ := h
  cases t
  · cases h2
  · cases h2; exact ⟨h1, rfl⟩
theorem Inv.set {tk : List Bool} {bk : List (Option Lst)} (h : Inv tk bk) (s : Nat) (t : Bool) : Inv (tk.set s t) (bk.set 2 (some ((lOf tk).set s (if t then some c0 else none)))) := by
  have hi : 2 < bk.length := (List.getElem?_eq_some_iff.1 h.two).1
  refine ⟨by simpa using h.len, by rw [List.getElem?_set_self hi, lOf_set], fun a ha => ?_⟩
  rw [look_nat, List.getElem?_set_ne (fun e => ha e.symm), ← look_nat]
  exact h.oth a ha
/-- what Mint(2, a, c) tells -/
def want (tk : List Bool) (a : Int) : Int := if a = -1 then lowF tk 0 else if 0 ≤ a ∧ a < 48 ∧ tk[a.toNat]? = some false then a else -1
theorem mb0 : mb 3 0 1 0 := by unfold mb; omega
theorem mint_want {tk : List Bool} {bk bk' : List (Option Lst)} {a v c : Int} (h : Inv tk bk) (hm : MintR bk 2 a 3 0 1 0 v c bk') :
    v = want tk a ∧ ((c = 0 ∧ ∃ k : Nat, v = (k : Int) ∧ k < 48 ∧ tk[k]? = some false ∧ Inv (tk.set k true) bk') ∨ (c ≠ 0 ∧ v = -1 ∧ Inv tk bk' ∧ (a = -1 → c = 2))) := by
  have h2 : look bk 2 = some (lOf tk) := by have := look_nat bk 2; rw [h.two] at this; exact this
  rcases hm with ⟨h1, _⟩ | ⟨_, h3, rfl, rfl, rfl⟩ | ⟨i, l, l', hi, h3, h4, _, h6, rfl⟩
  · rw [h2] at h1; cases h1
  · have ha : ¬ (-1 ≤ a ∧ a < 48) := h3.elim id (fun h => (h mb0).elim)
    refine ⟨?_, .inr ⟨by decide, rfl, h, fun e => by omega⟩⟩
    unfold want
    rw [if_neg (by omega), if_neg (by omega)]
  · obtain rfl : i = 2 := by omega
    rw [h.two] at h3; cases h3
    have hu := lowF_ff tk
    rcases h6 with ⟨k, hk, hf, rfl, rfl, rfl, h7⟩ | ⟨rfl, rfl, h7⟩
    · have htk := lOf_inv hf
      have hk48 : k < 48 := by rw [lOf_len, h.len] at hk; exact hk
      refine ⟨?_, .inl ⟨rfl, k, rfl, hk48, htk, ?_⟩⟩
      · rcases h7 with ⟨h8, h9⟩ | rfl
        · obtain rfl : a = -1 := by omega
          unfold want; rw [if_pos rfl]
          rcases hu with ⟨_, u2⟩ | ⟨k', u1, u2, _⟩
          · rw [lOf_len] at hk; omega
          · rw [u1, ← u2, h9]
        · unfold want; rw [if_neg (by omega), if_pos ⟨by omega, by omega, by simpa using htk⟩]
      · exact h.set k true
    · have hself : bk.set 2 (some (lOf tk)) = bk := by
        obtain ⟨hi2, e2⟩ := List.getElem?_eq_some_iff.1 h.two
        rw [← e2]; exact List.set_getElem_self hi2
      rw [hself]
      rcases h7 with ⟨h8, h9, rfl⟩ | ⟨h8, h9, rfl⟩ | ⟨h8, ⟨x, hx⟩, rfl⟩
      · obtain rfl : a = -1 := by omega
        refine ⟨?_, .inr ⟨by decide, rfl, h, fun _ => rfl⟩⟩
        unfold want; rw [if_pos rfl]
        rcases hu with ⟨u1, _⟩ | ⟨k', u1, u2, u3⟩
        · exact u1.symm
        · have := (List.getElem?_eq_some_iff.1 u3).1
          rw [lOf_len] at h9; omega
      · rw [lOf_len, h.len] at h9; omega
      · refine ⟨?_, .inr ⟨by decide, rfl, h, fun e => by omega⟩⟩
        unfold want
        rw [if_neg (by omega), if_neg]
        rintro ⟨_, _, h10⟩
        obtain ⟨q, rfl⟩ : ∃ q : Nat, a = q := ⟨a.toNat, by omega⟩
        rw [look_nat] at hx
        have h11 := lOf_get (show tk[q]? = some false by simpa using h10)
        rw [h11] at hx; cases hx
theorem inv_at {tk : List Bool} {bk : List (Option Lst)} (h : Inv tk bk) {s : Nat} {t : Bool} (hs : tk[s]? = some t) : atB bk 2 (s : Int) = if t then some c0 else none := by
  have := atN_eq (i := 2) (j := s) h.two
  rw [lOf_get hs] at this
  exact this
theorem drop_inv {tk : List Bool} {bk bk' : List (Option Lst)} {s : Nat} (h : Inv tk bk) (hl : ∀ (i : Nat) (l : Lst), bk'[i]? = some (some l) → l.length = 48) (hd : DropR bk 2 s c0 bk') : Inv (tk.set s false) bk' := by
  have h2 : (look bk' (2 : Int)).isSome = true := by
    rw [hd.1 2]
    have := look_nat bk 2
    rw [h.two] at this
    rw [show ((2 : Nat) : Int) = 2 from rfl] at this
    rw [this]; rfl
  obtain ⟨l, hl2⟩ := Option.isSome_iff_exists.1 h2
  have hbl : bk'[2]? = some (some l) := by
    have h3 := look_nat bk' 2
    rw [show ((2 : Nat) : Int) = 2 from rfl, hl2] at h3
    cases h4 : bk'[2]? with
    | none => rw [h4] at h3; cases h3
    | some o => rw [h4] at h3; cases h3; rfl
  refine ⟨by simpa using h.len, ?_, fun a ha => ?_⟩
  · rw [hbl]
    congr 2
    have hl48 := hl 2 l hbl
    apply List.ext_getElem?
    intro q
    rcases Nat.lt_or_ge q 48 with hq | hq
    · have h5 := hd.2 2 q
      rw [atN_eq hbl] at h5
      have hql : q < l.length := by omega
      obtain ⟨t, ht⟩ : ∃ t, tk[q]? = some t := ⟨_, List.getElem?_eq_getElem (by rw [h.len]; exact hq)⟩
      have h6 := inv_at h ht
      rw [show ((2 : Nat) : Int) = 2 from rfl, h6, List.getElem?_eq_getElem hql] at h5
      rw [List.getElem?_eq_getElem hql, lOf_set, List.getElem?_set]
      have hrp : rp 2 s c0 c0 = c0 := by simp [rp, c0]
      by_cases e : s = q
      · subst e
        rw [if_pos rfl, if_pos (by rw [lOf_len, h.len]; exact hq)]
        simpa using h5
      · rw [if_neg e, lOf_get ht]
        rw [if_neg (fun e' => e e'.2.symm)] at h5
        congr 1
        cases t
        · simpa using h5
        · simpa [hrp] using h5
    · rw [List.getElem?_eq_none (by omega), List.getElem?_eq_none (by rw [lOf_len, List.length_set, h.len]; exact hq)]
  · have h3 := hd.1 (a : Int)
    rw [h.oth a ha] at h3
    cases h4 : look bk' (a : Int) with
    | none => rfl
    | some l => rw [h4] at h3; cases h3
theorem inv_full_count {tk : List Bool} (hl : tk.length = 48) (hf : ∀ s, s < 48 → tk[s]? = some true) : (lOf tk).countP Option.isSome = 48 := by
  have e : tk = List.replicate 48 true := by
    apply List.ext_getElem?
    intro q
    rcases Nat.lt_or_ge q 48 with hq | hq
    · rw [hf q hq, List.getElem?_replicate, if_pos hq]
    · rw [List.getElem?_eq_none (by omega), List.getElem?_eq_none (by simp; omega)]
  subst e
  decide
theorem inv_on {tk : List Bool} {bk : List (Option Lst)} (h : Inv tk bk) (hf : ∀ s, s < 48 → tk[s]? = some true) : (pls (fun r => decide (r.k = 3) && decide (r.o = 0)) bk).length = 48 := by
  have e : tk = List.replicate 48 true := by
    apply List.ext_getElem?
    intro q
    rcases Nat.lt_or_ge q 48 with hq | hq
    · rw [hf q hq, List.getElem?_replicate, if_pos hq]
    · rw [List.getElem?_eq_none (by rw [h.len]; exact hq), List.getElem?_eq_none (by simp; omega)]
  have hidx : idx bk = [2] := by
    have h1 : idx bk = idx ([none, none, some ()] : List (Option Unit)) ∨ True := .inr trivial
    clear h1
    have hm : ∀ i, i ∈ idx bk ↔ i = 2 := by
      intro i
      unfold idx
      simp only [List.mem_map]
      constructor
      · rintro ⟨⟨i', l⟩, h1, rfl⟩
        have h2 := prs_mem.1 h1
        rcases Nat.decEq i' 2 with h3 | h3
        · have := h.oth i' h3
          rw [look_nat, h2] at this; cases this
        · exact h3
      · rintro rfl
        exact ⟨(2, lOf tk), prs_mem.2 h.two, rfl⟩
    have hs : (idx bk).Pairwise (· < ·) := by
      unfold idx prs
      exact List.pairwise_map.2 (prsL_sorted _ _)
    match hb : idx bk with
    | [] => have := (hm 2).2 rfl; rw [hb] at this; cases this
    | [x] => have := (hm x).1 (by rw [hb]; simp); rw [this]
    | x :: y :: r =>
      have h3 := (hm x).1 (by rw [hb]; simp)
      have h4 := (hm y).1 (by rw [hb]; simp)
      rw [hb] at hs
      have := (List.pairwise_cons.1 hs).1 y (by simp)
      omega
  unfold pls plsI one
  rw [hidx]
  have hlf : lf bk 2 = lOf tk := by unfold lf; rw [look_nat, h.two]; rfl
  simp only [List.flatMap_cons, List.flatMap_nil, List.append_nil, List.length_map]
  rw [hlf, e]
  decide
theorem inv_start : Inv (List.replicate 48 false) ((List.replicate 16 (none : Option Lst)).set 2 (some (List.replicate 48 none))) := by
  refine ⟨rfl, rfl, fun a ha => ?_⟩
  rw [look_nat, List.getElem?_set_ne (fun e => ha e.symm), List.getElem?_replicate]
  split <;> rfl
end Go.Proofs.Ytimfgjndgfjjgaa

namespace Go.Proofs.Ytimfgjndgfjjgaa
open Go.RowKit

structure StAt (w wr : World) (B nt nc : Nat) (F : Nat → Prop) (bk : List (Option Lst)) (tb tm : List Bool) : Prop where
  book : Book wr F B bk
  inv : Inv tb bk
  arr : wr.heap[nt]? = some (.cells (tm.map Value.bool).toArray 42 (0, 0))
  cap : wr.heap[nc]? = some (.cells #[.int .i64 3, .int .i64 0, .int .i64 1, .int .i64 0] 26 (0, 0))
  nt_ : ¬ F nt
  nc_ : ¬ F nc
  lo : ∀ b, F b → w.heap.size ≤ b
  lt : w.heap.size ≤ nt
  ne : nc ≠ nt
  bel : Below w.heap.size w wr
/-- the book tells tb, the law's own array tm -/
def St (w wr : World) (B nt nc : Nat) (tb tm : List Bool) : Prop := ∃ F bk, StAt w wr B nt nc F bk tb tm
section
variable {w wr : World} {B nt nc : Nat} {tb tm : List Bool}
theorem St.cells (h : St w wr B nt nc tb tm) {s : Nat} {t : Bool} (hs : tm[s]? = some t) : wr.cell? ⟨nt, s, none⟩ = some (.bool t) ∧ wr.frozen? ⟨nt, s, none⟩ = false := by
  obtain ⟨F, bk, h⟩ := h
  exact ⟨by rw [cell_of_row _ _ _ _ _ _ h.arr]; simp [hs], frozen_of_row _ _ _ _ _ h.arr⟩
theorem St.capc (h : St w wr B nt nc tb tm) : wr.cell? ⟨nc, 0, none⟩ = some (.int .i64 3) ∧ wr.cell? ⟨nc, 1, none⟩ = some (.int .i64 0) ∧ wr.cell? ⟨nc, 2, none⟩ = some (.int .i64 1) ∧ wr.cell? ⟨nc, 3, none⟩ = some (.int .i64 0) := by
  obtain ⟨F, bk, h⟩ := h; exact blk4 h.cap
theorem St.below (h : St w wr B nt nc tb tm) {w' : World} (hb : Below wr.heap.size wr w') : St w w' B nt nc tb tm := by
  obtain ⟨F, bk, h⟩ := h
  exact ⟨F, bk, h.book.below hb, h.inv, (hb.block nt (Array.getElem?_eq_some_iff.1 h.arr).1).trans h.arr, (hb.block nc (Array.getElem?_eq_some_iff.1 h.cap).1).trans h.cap, h.nt_, h.nc_, h.lo, h.lt, h.ne, h.bel.trans (hb.mono h.bel.size)⟩
theorem St.bel (h : St w wr B nt nc tb tm) : Below w.heap.size w wr := by obtain ⟨F, bk, h⟩ := h; exact h.bel
theorem St.blen (h : St w wr B nt nc tb tm) : tb.length = 48 := by obtain ⟨F, bk, h⟩ := h; exact h.inv.len
theorem St.store (h : St w wr B nt nc tb tm) (s : Nat) (t : Bool) : St w (wr.setCell ⟨nt, s, none⟩ (.bool t)) B nt nc tb (tm.set s t) := by
  obtain ⟨F, bk, h⟩ := h
  refine ⟨F, bk, h.book.keep (by simp [World.setCell]) (fun b hb => heap_setCell_other _ _ _ _ (fun e => by subst e; exact h.nt_ hb)), h.inv, ?_, (heap_setCell_other _ _ _ _ h.ne).trans h.cap, h.nt_, h.nc_, h.lo, h.lt, h.ne, h.bel.setCell (p := ⟨nt, s, none⟩) h.lt _⟩
  rw [heap_setCell_same _ nt s _ _ _ h.arr, List.map_set]
  simp
theorem StAt.turn {F F' : Nat → Prop} {bk bk' : List (Option Lst)} (h : StAt w wr B nt nc F bk tb tm) {w' : World} {tb' : List Bool} (hB : Book w' F' B bk') (hE : Ext F wr F' w') (hI : Inv tb' bk') : St w w' B nt nc tb' tm := by
  have hnt := (Array.getElem?_eq_some_iff.1 h.arr).1
  have hnc := (Array.getElem?_eq_some_iff.1 h.cap).1
  refine ⟨F', bk', hB, hI, (hE.mod.block nt hnt h.nt_).trans h.arr, (hE.mod.block nc hnc h.nc_).trans h.cap, fun hf => ?_, fun hf => ?_, fun b hb => ?_, h.lt, h.ne, h.bel.trans (hE.mod.below h.lo h.bel.size)⟩
  · rcases hE.new nt hf with h1 | h1
    · exact h.nt_ h1
    · omega
  · rcases hE.new nc hf with h1 | h1
    · exact h.nc_ h1
    · omega
  · rcases hE.new b hb with h1 | h1
    · exact h.lo b h1
    · exact Nat.le_trans h.bel.size h1
theorem St.mint (h : St w wr B nt nc tb tm) (a : Int) :
    Calls Try.prog 16 #[.pointer (some ⟨B, 0, none⟩), .int .i64 2, .int .i64 a, .agg #[.int .i64 3, .int .i64 0, .int .i64 1, .int .i64 0]] wr fun x w' => ∃ c : Int, x = .returned (.tuple #[.int .i64 (want tb a), .int .i64 c]) ∧
      ((c = 0 ∧ ∃ k : Nat, want tb a = (k : Int) ∧ k < 48 ∧ tb[k]? = some false ∧ St w w' B nt nc (tb.set k true) tm) ∨ (c ≠ 0 ∧ want tb a = -1 ∧ St w w' B nt nc tb tm ∧ (a = -1 → c = 2))) := by
  obtain ⟨F, bk, h⟩ := h
  refine (mint_any wr F B bk h.book 2 a 3 0 1 0).mono ?_
  rintro x w' ⟨v, c, bk', F', rfl, hB, hE, hM⟩
  obtain ⟨rfl, h1⟩ := mint_want h.inv hM
  refine ⟨c, rfl, ?_⟩
  rcases h1 with ⟨rfl, k, hk, hk2, hk3, hI⟩ | ⟨hc, hv, hI, h2⟩
  · exact .inl ⟨rfl, k, hk, hk2, hk3, h.turn hB hE hI⟩
  · exact .inr ⟨hc, hv, h.turn hB hE hI, h2⟩
theorem St.dropc (h : St w wr B nt nc tb tm) {s : Nat} {t : Bool} (hs : tb[s]? = some t) :
    Calls Try.prog 11 #[.pointer (some ⟨B, 0, none⟩), .int .i64 2, .int .i64 (s : Int)] wr fun x w' => ∃ k o q r c : Int, x = .returned (.tuple #[.agg #[.int .i64 k, .int .i64 o, .int .i64 q, .int .i64 r], .int .i64 c]) ∧ (c == 0) = t ∧ St w w' B nt nc (tb.set s false) tm := by
  obtain ⟨F, bk, h⟩ := h
  have ha := inv_at h.inv hs
  cases t with
  | false =>
    refine (dropNone_any wr F B bk h.book 2 s ha).mono ?_
    rintro x w' ⟨rfl, hb⟩
    refine ⟨_, _, _, _, _, rfl, by rcases lcode_none ha with e | e <;> rw [e] <;> decide, ?_⟩
    have e : tb.set s false = tb := by
      obtain ⟨hi, e⟩ := List.getElem?_eq_some_iff.1 hs
      rw [← e]; exact List.set_getElem_self hi
    rw [e]
    exact St.below ⟨F, bk, h⟩ hb
  | true =>
    refine (dropSome_any wr F B bk h.book 2 s c0 ha).mono ?_
    rintro x w' ⟨rfl, bk', hB, hE, hD⟩
    exact ⟨_, _, _, _, _, rfl, by decide, h.turn hB hE (drop_inv h.inv (fun i l hl => hB.l48 hl) hD)⟩
theorem St.room (h : St w wr B nt nc tb tm) (hf : ∀ s, s < 48 → tb[s]? = some true) :
    Calls Try.prog 17 #[.pointer (some ⟨B, 0, none⟩), .int .i64 2] wr fun x w' => x = .returned (.int .i64 0) ∧ w' = wr := by
  obtain ⟨F, bk, h⟩ := h
  refine (room_any wr F B bk h.book 2 _ h.inv.two).mono ?_
  rintro x w' ⟨rfl, rfl⟩
  rw [inv_full_count h.inv.len hf]
  exact ⟨rfl, rfl⟩
theorem St.on (h : St w wr B nt nc tb tm) (hf : ∀ s, s < 48 → tb[s]? = some true) :
    Calls Try.prog 18 #[.pointer (some ⟨B, 0, none⟩), .int .i64 3, .int .i64 0] wr fun x w' => x = .returned (.int .i64 48) ∧ Below w.heap.size w w' := by
  obtain ⟨F, bk, h⟩ := h
  refine (on_any wr F B bk h.book 3 0).mono ?_
  rintro x w' ⟨rfl, hb⟩
  rw [inv_on h.inv hf]
  exact ⟨rfl, h.bel.trans (hb.mono h.bel.size)⟩
end
end Go.Proofs.Ytimfgjndgfjjgaa

namespace Go.Proofs.Ytimfgjndgfjjgaa
open Go.RowKit

/-- a slice of numbers that came in -/
def IsInts (w : World) (a : Option Addr) (len : Nat) (Z : Nat → Int) : Prop := ∀ k, k < len → ∃ x, a = some x ∧ w.cell? (x.add k) = some (.int .i64 (Z k))
theorem cell_lt' {w : World} {a : Addr} {v : Value} (h : w.cell? a = some v) : a.block < w.heap.size := by
  unfold World.cell? at h
  cases hb : w.heap[a.block]? with
  | none => rw [hb] at h; simp at h
  | some o => exact (Array.getElem?_eq_some_iff.1 hb).1
theorem IsInts.at {w : World} {a : Option Addr} {len : Nat} {Z : Nat → Int} (h : IsInts w a len Z) {k : Nat} (hk : k < len) : ∃ x, a = some x ∧ ∀ W, Below w.heap.size w W → W.cell? (x.add k) = some (.int .i64 (Z k)) := by
  obtain ⟨x, h1, h2⟩ := h k hk
  exact ⟨x, h1, fun W hW => (hW.cell (cell_lt' h2)).trans h2⟩
theorem lowF_skip {tb : List Bool} : ∀ (q : Nat), (∀ s, s < q → tb[s]? = some true) → lowF tb 0 = lowF tb q
  | 0, _ => rfl
  | q + 1, h => by rw [lowF_skip q (fun s hs => h s (by omega)), lowF_taken (h q (by omega))]
theorem lowF_at {tb : List Bool} {q : Nat} (h : ∀ s, s < q → tb[s]? = some true) (hq : tb[q]? = some false) : lowF tb 0 = q := by
  rw [lowF_skip q h, lowF_free hq]
theorem st_start {w w2 : World} {F : Nat → Prop} {B : Nat} {bk : List (Option Lst)} (hB : Book w2 F B bk) (hI : Inv (List.replicate 48 false) bk) (hF : ∀ b, F b → w.heap.size ≤ b) (hb : Below w.heap.size w w2) :
    St w ((w2.alloc (.cells #[.int .i64 3, .int .i64 0, .int .i64 1, .int .i64 0] 26)).alloc (.cells ((List.replicate 48 false).map Value.bool).toArray 42)) B (w2.heap.size + 1) w2.heap.size (List.replicate 48 false) (List.replicate 48 false) := by
  have hb2 := ((Below.refl w2.heap.size w2).alloc (Nat.le_refl _) (.cells #[.int .i64 3, .int .i64 0, .int .i64 1, .int .i64 0] 26)).alloc (by simp) (.cells ((List.replicate 48 false).map Value.bool).toArray 42)
  exact ⟨F, bk, hB.below hb2, hI, heap_alloc2_new _ _ _, heap_alloc2_old _ _ _, fun hf => by have := hB.lt _ hf; omega, fun hf => by have := hB.lt _ hf; omega, hF, Nat.le_succ_of_le hb.size, by omega, hb.trans (hb2.mono hb.size)⟩
set_option maxRecDepth 8000 in
set_option maxHeartbeats 8000000 in
theorem lowest_walk (a1 : Option Addr) (len1 cap1 : Nat) (Z1 : Nat → Int) (a2 : Option Addr) (len2 cap2 : Nat) (Z2 : Nat → Int) (w : World) (hl1 : len1 ≤ maxLen) (h1 : IsInts w a1 len1 Z1) (hl2 : len2 ≤ maxLen) (h2 : IsInts w a2 len2 Z2) :
    Calls Try.prog 4 #[.slice a1 len1 cap1, .slice a2 len2 cap2] w fun e w' => e = .returned (.bool true) ∧ Below w.heap.size w w' := by
  have HI1 := hide h1
  have HI2 := hide h2
  clear h1 h2
  go_enter Try.func4, Try.ntmps4
  go_wp2_with fail
  refine (new_any w).mono ?_
  rintro e w1 ⟨B, F, rfl, hB, hF, hb1⟩
  have HB := hide hB
  have HF := hide hF
  have HB1 := hide hb1
  clear hB hF hb1
  go_wp2_with fail
  refine (open_any w1 F B _ HB.out 2).mono ?_
  rintro e w2 ⟨c, bk', F', rfl, hB2, hE2, hO2⟩
  obtain ⟨rfl, rfl⟩ : c = 0 ∧ bk' = (List.replicate 16 (none : Option Lst)).set 2 (some (List.replicate 48 none)) := by
    rcases hO2 with ⟨k, hk, _, h3, h4⟩ | ⟨_, _, h3⟩
    · obtain rfl : k = 2 := by omega
      exact ⟨h3, h4⟩
    · exact (h3 2 rfl rfl).elim
  have HB2 := hide hB2
  have HE2 := hide hE2
  clear hB2 hE2 hO2
  go_upto_region 6 with fail
  have HS : Hid (St w ((w2.alloc (.cells #[.int .i64 3, .int .i64 0, .int .i64 1, .int .i64 0] 26)).alloc (.cells #[.bool false, .bool false, .bool false, .bool false, .bool false, .bool false, .bool false, .bool false, .bool false, .bool false, .bool false, .bool false, .bool false, .bool false, .bool false, .bool false, .bool false, .bool false, .bool false, .bool false, .bool false, .bool false, .bool false, .bool false, .bool false, .bool false, .bool false, .bool false, .bool false, .bool false, .bool false, .bool false, .bool false, .bool false, .bool false, .bool false, .bool false, .bool false, .bool false, .bool false, .bool false, .bool false, .bool false, .bool false, .bool false, .bool false, .bool false, .bool false] 42)) B (w2.heap.size + 1) w2.heap.size (List.replicate 48 false) (List.replicate 48 false)) :=
    st_start HB2.out inv_start (fun b hb => by rcases HE2.out.new b hb with h | h; exact HF.out b h; have := HB1.out.size; omega) (HB1.out.trans (HE2.out.mod.below HF.out HB1.out.size))
  generalize (w2.alloc (.cells #[.int .i64 3, .int .i64 0, .int .i64 1, .int .i64 0] 26)).alloc (.cells #[.bool false, .bool false, .bool false, .bool false, .bool false, .bool false, .bool false, .bool false, .bool false, .bool false, .bool false, .bool false, .bool false, .bool false, .bool false, .bool false, .bool false, .bool false, .bool false, .bool false, .bool false, .bool false, .bool false, .bool false, .bool false, .bool false, .bool false, .bool false, .bool false, .bool false, .bool false, .bool false, .bool false, .bool false, .bool false, .bool false, .bool false, .bool false, .bool false, .bool false, .bool false, .bool false, .bool false, .bool false, .bool false, .bool false, .bool false, .bool false] 42) = W0 at *
  generalize hnt : w2.heap.size + 1 = nt at *
  generalize w2.heap.size = nc at *
  clear HB HF HB1 HB2 HE2 hnt
  generalize List.replicate 48 false = t0 at *
  go_wp2_with fail
  go_loopw [8] (fun x wr => ∃ (k : Nat) (tk : List Bool), k ≤ len1 ∧ k ≤ 200 ∧ x = .int .i64 (k : Int) ∧ Hid (St w wr B nt nc tk tk)) (fun x _ => 200 - (intOf x).toNat)
  case atStart => exact ⟨0, t0, by omega, by omega, rfl, HS⟩
  case round =>
  obtain ⟨k, tk, hk1, hk2, rfl, K1⟩ := hrel
  clear HS
  have hml : (len1 : Int) ≤ 9223372036854775807 := by unfold maxLen at hl1; omega
  by_cases hlt : k < len1 ∧ k < 200
  · obtain ⟨hlt1, hlt2⟩ := hlt
    obtain ⟨x, rfl, hx⟩ := HI1.out.at hlt1
    have cx := hx wr K1.out.bel
    have HX := hide hx
    clear hx
    generalize hza : Z1 k = a at *
    clear hza
    obtain ⟨cc0, cc1, cc2, cc3⟩ := K1.out.capc
    have hki : (k : Int) < (len1 : Int) := by omega
    have hk3 : (k : Int) < 200 := by omega
    by_cases ha : a = -1
    · subst ha
      go_wp2_with fail
      go_loopw [9, 10] (fun v z wx => wx = wr ∧ ((∃ p : Nat, p < 48 ∧ z = .int .i64 (p : Int) ∧ v = .int .i64 (lowF tk (p + 1))) ∨ (z = .int .i64 (-1) ∧ v = .int .i64 (lowF tk 0)))) (fun _ z _ => (intOf z + 1).toNat)
      case atStart => exact ⟨rfl, .inl ⟨47, by omega, rfl, by rw [lowF_end K1.out.blen]⟩⟩
      case round =>
      obtain ⟨rfl, ⟨p, hp, rfl, rfl⟩ | ⟨rfl, rfl⟩⟩ := hrel
      · obtain ⟨t, ht⟩ : ∃ t, tk[p]? = some t := ⟨_, List.getElem?_eq_getElem (by rw [K1.out.blen]; exact hp)⟩
        obtain ⟨ct, -⟩ := K1.out.cells ht
        have hp3 : (p : Int) < 48 := by omega
        have hp4 : (0 : Int) ≤ (p : Int) := by omega
        have HL : Hid (lowF tk p = if t then lowF tk (p + 1) else (p : Int)) := by
          cases t
          · exact lowF_free ht
          · exact lowF_taken ht
        clear cc0 cc1 cc2 cc3
        cases t
        · go_wp2
          go_roundw
          case rel =>
            refine ⟨by first | rfl | trivial, ?_⟩
            rcases Nat.eq_zero_or_pos p with rfl | hp5
            · exact .inr ⟨by go_num, by rw [HL.out]; rfl⟩
            · exact .inl ⟨p - 1, by omega, by go_num, by rw [show p - 1 + 1 = p by omega, HL.out]; rfl⟩
          case measure => simp [intOf]
        · go_wp2
          go_roundw
          case rel =>
            refine ⟨by first | rfl | trivial, ?_⟩
            rcases Nat.eq_zero_or_pos p with rfl | hp5
            · exact .inr ⟨by go_num, by rw [HL.out]; rfl⟩
            · exact .inl ⟨p - 1, by omega, by go_num, by rw [show p - 1 + 1 = p by omega, HL.out]; rfl⟩
          case measure => simp [intOf]
      · have c17 : wr.drew.cell? (x.add k) = some (.int .i64 (-1)) ∧ wr.drew.cell? ⟨nc, 0, none⟩ = some (.int .i64 3) ∧ wr.drew.cell? ⟨nc, 1, none⟩ = some (.int .i64 0) ∧ wr.drew.cell? ⟨nc, 2, none⟩ = some (.int .i64 1) ∧ wr.drew.cell? ⟨nc, 3, none⟩ = some (.int .i64 0) := ⟨cx, cc0, cc1, cc2, cc3⟩
        have HM := hide ((K1.out.below (Below.refl _ _).drew).mint (-1))
        go_wp2_with fail
        go_region_held (fun W => W.cell? (x.add k) = some (.int .i64 (-1)) ∧ W.cell? ⟨nc, 0, none⟩ = some (.int .i64 3) ∧ W.cell? ⟨nc, 1, none⟩ = some (.int .i64 0) ∧ W.cell? ⟨nc, 2, none⟩ = some (.int .i64 1) ∧ W.cell? ⟨nc, 3, none⟩ = some (.int .i64 0))
          (first | assumption | exact q1 | exact c17)
          (first | (go_at_call 16; refine HM.out.mono ?_; rintro e1 w5 ⟨c, rfl, hM5⟩
                    have hSt : ∃ tb', St w w5 B nt nc tb' tk := by
                      rcases hM5 with ⟨_, kk, _, _, _, h⟩ | ⟨_, _, h, _⟩
                      · exact ⟨_, h⟩
                      · exact ⟨_, h⟩
                    have q1 : w5.cell? (x.add k) = some (.int .i64 (-1)) ∧ w5.cell? ⟨nc, 0, none⟩ = some (.int .i64 3) ∧ w5.cell? ⟨nc, 1, none⟩ = some (.int .i64 0) ∧ w5.cell? ⟨nc, 2, none⟩ = some (.int .i64 1) ∧ w5.cell? ⟨nc, 3, none⟩ = some (.int .i64 0) := by
                      obtain ⟨tb', hSt⟩ := hSt
                      exact ⟨HX.out w5 hSt.bel, hSt.capc⟩
                    have HM5 := hide hM5
                    clear hM5 hSt))
        have hw : want tk (-1) = lowF tk 0 := by unfold want; rw [if_pos rfl]
        rw [hw]
        rw [hw] at HM5
        rcases HM5.out with ⟨rfl, kk, hkk, hkk2, hkk3, hS5⟩ | ⟨hc, hv, hS5, -⟩
        · rw [hkk]
          have hcell := hS5.cells hkk3
          obtain ⟨ct, ft⟩ := hcell
          have K2 := hide (hS5.store kk true)
          have hkk4 : (kk : Int) < 48 := by omega
          clear hS5 q1 c17 HM HM5 cx cc0 cc1 cc2 cc3
          go_wp2
          go_roundw
          case rel =>
            first
              | exact ⟨k + 1, tk.set kk true, by omega, by omega, by go_num, K2⟩
              | ((repeat apply Exists.intro); refine ⟨?_, rfl⟩; exact ⟨k + 1, tk.set kk true, by omega, by omega, by go_num, K2⟩)
          case measure => simp [intOf]; omega
        · rw [hv]
          have hcb : (c == 0) = false := by simpa using hc
          have K2 := hide hS5
          clear hS5 q1 c17 HM HM5 cx cc0 cc1 cc2 cc3
          go_wp2
          go_roundw
          case rel =>
            first
              | exact ⟨k + 1, tk, by omega, by omega, by go_num, K2⟩
              | ((repeat apply Exists.intro); refine ⟨?_, rfl⟩; exact ⟨k + 1, tk, by omega, by omega, by go_num, K2⟩)
          case measure => simp [intOf]; omega
    · by_cases hr : 0 ≤ a ∧ a < 48
      · obtain ⟨h0, h48⟩ := hr
        obtain ⟨t, htk⟩ : ∃ t, tk[a.toNat]? = some t := ⟨_, List.getElem?_eq_getElem (by rw [K1.out.blen]; omega)⟩
        cases t
        · have hane0 : ¬ a = -1 := by omega
          obtain ⟨ct, -⟩ := K1.out.cells (s := a.toNat) htk
          go_wp2_with fail
          go_loopw [9, 10] (fun v z wx => wx = wr ∧ z = .int .i64 47 ∧ v = .int .i64 a) (fun _ _ _ => 0)
          case atStart => exact ⟨rfl, rfl, rfl⟩
          case round =>
          obtain ⟨rfl, rfl, rfl⟩ := hrel
          have hane : decide (a = -1) = false := by simp; omega
          have hane2 : (a == -1) = false := by simp; omega
          have c17 : wr.drew.cell? (x.add k) = some (.int .i64 a) ∧ wr.drew.cell? ⟨nc, 0, none⟩ = some (.int .i64 3) ∧ wr.drew.cell? ⟨nc, 1, none⟩ = some (.int .i64 0) ∧ wr.drew.cell? ⟨nc, 2, none⟩ = some (.int .i64 1) ∧ wr.drew.cell? ⟨nc, 3, none⟩ = some (.int .i64 0) := ⟨cx, cc0, cc1, cc2, cc3⟩
          have HM := hide ((K1.out.below (Below.refl _ _).drew).mint a)
          go_wp2_with fail
          go_region_held (fun W => W.cell? (x.add k) = some (.int .i64 a) ∧ W.cell? ⟨nc, 0, none⟩ = some (.int .i64 3) ∧ W.cell? ⟨nc, 1, none⟩ = some (.int .i64 0) ∧ W.cell? ⟨nc, 2, none⟩ = some (.int .i64 1) ∧ W.cell? ⟨nc, 3, none⟩ = some (.int .i64 0))
            (first | assumption | exact q1 | exact c17)
            (first | (go_at_call 16; refine HM.out.mono ?_; rintro e1 w5 ⟨c, rfl, hM5⟩
                      have hSt : ∃ tb', St w w5 B nt nc tb' tk := by
                        rcases hM5 with ⟨_, kk, _, _, _, h⟩ | ⟨_, _, h, _⟩
                        · exact ⟨_, h⟩
                        · exact ⟨_, h⟩
                      have q1 : w5.cell? (x.add k) = some (.int .i64 a) ∧ w5.cell? ⟨nc, 0, none⟩ = some (.int .i64 3) ∧ w5.cell? ⟨nc, 1, none⟩ = some (.int .i64 0) ∧ w5.cell? ⟨nc, 2, none⟩ = some (.int .i64 1) ∧ w5.cell? ⟨nc, 3, none⟩ = some (.int .i64 0) := by
                        obtain ⟨tb', hSt⟩ := hSt
                        exact ⟨HX.out w5 hSt.bel, hSt.capc⟩
                      have HM5 := hide hM5
                      clear hM5 hSt))
          have hw : want tk a = a := by unfold want; rw [if_neg hane0, if_pos ⟨h0, h48, htk⟩]
          rw [hw]
          rw [hw] at HM5
          rcases HM5.out with ⟨rfl, kk, hkk, hkk2, hkk3, hS5⟩ | ⟨hc, hv, hS5, -⟩
          · subst hkk
            have hcell := hS5.cells hkk3
            obtain ⟨ct, ft⟩ := hcell
            have K2 := hide (hS5.store kk true)
            have hkk4 : (kk : Int) < 48 := by omega
            clear hS5 q1 c17 HM HM5 cx cc0 cc1 cc2 cc3
            go_wp2
            go_roundw
            case rel =>
              first
                | exact ⟨k + 1, tk.set kk true, by omega, by omega, by go_num, K2⟩
                | ((repeat apply Exists.intro); refine ⟨?_, rfl⟩; exact ⟨k + 1, tk.set kk true, by omega, by omega, by go_num, K2⟩)
            case measure => simp [intOf]; omega
          · omega
        · have hane0 : ¬ a = -1 := by omega
          obtain ⟨ct, -⟩ := K1.out.cells (s := a.toNat) htk
          go_wp2_with fail
          go_loopw [9, 10] (fun v z wx => wx = wr ∧ z = .int .i64 47 ∧ v = .int .i64 (-1)) (fun _ _ _ => 0)
          case atStart => exact ⟨rfl, rfl, rfl⟩
          case round =>
          obtain ⟨rfl, rfl, rfl⟩ := hrel
          have hane : decide (a = -1) = false := by simp; omega
          have hane2 : (a == -1) = false := by simp; omega
          have c17 : wr.drew.cell? (x.add k) = some (.int .i64 a) ∧ wr.drew.cell? ⟨nc, 0, none⟩ = some (.int .i64 3) ∧ wr.drew.cell? ⟨nc, 1, none⟩ = some (.int .i64 0) ∧ wr.drew.cell? ⟨nc, 2, none⟩ = some (.int .i64 1) ∧ wr.drew.cell? ⟨nc, 3, none⟩ = some (.int .i64 0) := ⟨cx, cc0, cc1, cc2, cc3⟩
          have HM := hide ((K1.out.below (Below.refl _ _).drew).mint a)
          go_wp2_with fail
          go_region_held (fun W => W.cell? (x.add k) = some (.int .i64 a) ∧ W.cell? ⟨nc, 0, none⟩ = some (.int .i64 3) ∧ W.cell? ⟨nc, 1, none⟩ = some (.int .i64 0) ∧ W.cell? ⟨nc, 2, none⟩ = some (.int .i64 1) ∧ W.cell? ⟨nc, 3, none⟩ = some (.int .i64 0))
            (first | assumption | exact q1 | exact c17)
            (first | (go_at_call 16; refine HM.out.mono ?_; rintro e1 w5 ⟨c, rfl, hM5⟩
                      have hSt : ∃ tb', St w w5 B nt nc tb' tk := by
                        rcases hM5 with ⟨_, kk, _, _, _, h⟩ | ⟨_, _, h, _⟩
                        · exact ⟨_, h⟩
                        · exact ⟨_, h⟩
                      have q1 : w5.cell? (x.add k) = some (.int .i64 a) ∧ w5.cell? ⟨nc, 0, none⟩ = some (.int .i64 3) ∧ w5.cell? ⟨nc, 1, none⟩ = some (.int .i64 0) ∧ w5.cell? ⟨nc, 2, none⟩ = some (.int .i64 1) ∧ w5.cell? ⟨nc, 3, none⟩ = some (.int .i64 0) := by
                        obtain ⟨tb', hSt⟩ := hSt
                        exact ⟨HX.out w5 hSt.bel, hSt.capc⟩
                      have HM5 := hide hM5
                      clear hM5 hSt))
          have hw : want tk a = -1 := by unfold want; rw [if_neg hane0, if_neg (by rw [htk]; simp)]
          rw [hw]
          rw [hw] at HM5
          rcases HM5.out with ⟨rfl, kk, hkk, hkk2, hkk3, hS5⟩ | ⟨hc, hv, hS5, -⟩
          · omega
          · have hcb : (c == 0) = false := by simpa using hc
            have K2 := hide hS5
            clear hS5 q1 c17 HM HM5 cx cc0 cc1 cc2 cc3
            go_wp2
            go_roundw
            case rel =>
              first
                | exact ⟨k + 1, tk, by omega, by omega, by go_num, K2⟩
                | ((repeat apply Exists.intro); refine ⟨?_, rfl⟩; exact ⟨k + 1, tk, by omega, by omega, by go_num, K2⟩)
            case measure => simp [intOf]; omega
      · by_cases h0 : 0 ≤ a
        · have h48 : ¬ a < 48 := by omega
          go_wp2_with fail
          go_loopw [9, 10] (fun v z wx => wx = wr ∧ z = .int .i64 47 ∧ v = .int .i64 (-1)) (fun _ _ _ => 0)
          case atStart => exact ⟨rfl, rfl, rfl⟩
          case round =>
          obtain ⟨rfl, rfl, rfl⟩ := hrel
          have hane : decide (a = -1) = false := by simp; omega
          have hane2 : (a == -1) = false := by simp; omega
          have c17 : wr.drew.cell? (x.add k) = some (.int .i64 a) ∧ wr.drew.cell? ⟨nc, 0, none⟩ = some (.int .i64 3) ∧ wr.drew.cell? ⟨nc, 1, none⟩ = some (.int .i64 0) ∧ wr.drew.cell? ⟨nc, 2, none⟩ = some (.int .i64 1) ∧ wr.drew.cell? ⟨nc, 3, none⟩ = some (.int .i64 0) := ⟨cx, cc0, cc1, cc2, cc3⟩
          have HM := hide ((K1.out.below (Below.refl _ _).drew).mint a)
          go_wp2_with fail
          go_region_held (fun W => W.cell? (x.add k) = some (.int .i64 a) ∧ W.cell? ⟨nc, 0, none⟩ = some (.int .i64 3) ∧ W.cell? ⟨nc, 1, none⟩ = some (.int .i64 0) ∧ W.cell? ⟨nc, 2, none⟩ = some (.int .i64 1) ∧ W.cell? ⟨nc, 3, none⟩ = some (.int .i64 0))
            (first | assumption | exact q1 | exact c17)
            (first | (go_at_call 16; refine HM.out.mono ?_; rintro e1 w5 ⟨c, rfl, hM5⟩
                      have hSt : ∃ tb', St w w5 B nt nc tb' tk := by
                        rcases hM5 with ⟨_, kk, _, _, _, h⟩ | ⟨_, _, h, _⟩
                        · exact ⟨_, h⟩
                        · exact ⟨_, h⟩
                      have q1 : w5.cell? (x.add k) = some (.int .i64 a) ∧ w5.cell? ⟨nc, 0, none⟩ = some (.int .i64 3) ∧ w5.cell? ⟨nc, 1, none⟩ = some (.int .i64 0) ∧ w5.cell? ⟨nc, 2, none⟩ = some (.int .i64 1) ∧ w5.cell? ⟨nc, 3, none⟩ = some (.int .i64 0) := by
                        obtain ⟨tb', hSt⟩ := hSt
                        exact ⟨HX.out w5 hSt.bel, hSt.capc⟩
                      have HM5 := hide hM5
                      clear hM5 hSt))
          have hw : want tk a = -1 := by unfold want; rw [if_neg ha, if_neg (fun h => hr ⟨h.1, h.2.1⟩)]
          rw [hw]
          rw [hw] at HM5
          rcases HM5.out with ⟨rfl, kk, hkk, hkk2, hkk3, hS5⟩ | ⟨hc, hv, hS5, -⟩
          · omega
          · have hcb : (c == 0) = false := by simpa using hc
            have K2 := hide hS5
            clear hS5 q1 c17 HM HM5 cx cc0 cc1 cc2 cc3
            go_wp2
            go_roundw
            case rel =>
              first
                | exact ⟨k + 1, tk, by omega, by omega, by go_num, K2⟩
                | ((repeat apply Exists.intro); refine ⟨?_, rfl⟩; exact ⟨k + 1, tk, by omega, by omega, by go_num, K2⟩)
            case measure => simp [intOf]; omega
        · go_wp2_with fail
          go_loopw [9, 10] (fun v z wx => wx = wr ∧ z = .int .i64 47 ∧ v = .int .i64 (-1)) (fun _ _ _ => 0)
          case atStart => exact ⟨rfl, rfl, rfl⟩
          case round =>
          obtain ⟨rfl, rfl, rfl⟩ := hrel
          have hane : decide (a = -1) = false := by simp; omega
          have hane2 : (a == -1) = false := by simp; omega
          have c17 : wr.drew.cell? (x.add k) = some (.int .i64 a) ∧ wr.drew.cell? ⟨nc, 0, none⟩ = some (.int .i64 3) ∧ wr.drew.cell? ⟨nc, 1, none⟩ = some (.int .i64 0) ∧ wr.drew.cell? ⟨nc, 2, none⟩ = some (.int .i64 1) ∧ wr.drew.cell? ⟨nc, 3, none⟩ = some (.int .i64 0) := ⟨cx, cc0, cc1, cc2, cc3⟩
          have HM := hide ((K1.out.below (Below.refl _ _).drew).mint a)
          go_wp2_with fail
          go_region_held (fun W => W.cell? (x.add k) = some (.int .i64 a) ∧ W.cell? ⟨nc, 0, none⟩ = some (.int .i64 3) ∧ W.cell? ⟨nc, 1, none⟩ = some (.int .i64 0) ∧ W.cell? ⟨nc, 2, none⟩ = some (.int .i64 1) ∧ W.cell? ⟨nc, 3, none⟩ = some (.int .i64 0))
            (first | assumption | exact q1 | exact c17)
            (first | (go_at_call 16; refine HM.out.mono ?_; rintro e1 w5 ⟨c, rfl, hM5⟩
                      have hSt : ∃ tb', St w w5 B nt nc tb' tk := by
                        rcases hM5 with ⟨_, kk, _, _, _, h⟩ | ⟨_, _, h, _⟩
                        · exact ⟨_, h⟩
                        · exact ⟨_, h⟩
                      have q1 : w5.cell? (x.add k) = some (.int .i64 a) ∧ w5.cell? ⟨nc, 0, none⟩ = some (.int .i64 3) ∧ w5.cell? ⟨nc, 1, none⟩ = some (.int .i64 0) ∧ w5.cell? ⟨nc, 2, none⟩ = some (.int .i64 1) ∧ w5.cell? ⟨nc, 3, none⟩ = some (.int .i64 0) := by
                        obtain ⟨tb', hSt⟩ := hSt
                        exact ⟨HX.out w5 hSt.bel, hSt.capc⟩
                      have HM5 := hide hM5
                      clear hM5 hSt))
          have hw : want tk a = -1 := by unfold want; rw [if_neg ha, if_neg (fun h => hr ⟨h.1, h.2.1⟩)]
          rw [hw]
          rw [hw] at HM5
          rcases HM5.out with ⟨rfl, kk, hkk, hkk2, hkk3, hS5⟩ | ⟨hc, hv, hS5, -⟩
          · omega
          · have hcb : (c == 0) = false := by simpa using hc
            have K2 := hide hS5
            clear hS5 q1 c17 HM HM5 cx cc0 cc1 cc2 cc3
            go_wp2
            go_roundw
            case rel =>
              first
                | exact ⟨k + 1, tk, by omega, by omega, by go_num, K2⟩
                | ((repeat apply Exists.intro); refine ⟨?_, rfl⟩; exact ⟨k + 1, tk, by omega, by omega, by go_num, K2⟩)
            case measure => simp [intOf]; omega
  · go_upto_region 7 with fail
    go_cut [37] (fun v wx => v = .bool false ∧ wx = wr)
    case first =>
      by_cases hkl : k < len1
      · have hkli : (k : Int) < (len1 : Int) := by omega
        have hk200 : ¬ (k : Int) < 200 := by omega
        go_wp2_with fail
        go_meet
        case rel => exact ⟨rfl, rfl⟩
      · have hkli : ¬ (k : Int) < (len1 : Int) := by omega
        go_wp2_with fail
        go_meet
        case rel => exact ⟨rfl, rfl⟩
    case rest =>
    obtain ⟨rfl, rfl⟩ := hcut
    clear hlt hk1 hk2 HI1 hml
    have hml : (len2 : Int) ≤ 9223372036854775807 := by unfold maxLen at hl2; omega
    go_wp2_with fail
    go_loopw [13] (fun x wr => ∃ (k : Nat) (tk : List Bool), k ≤ len2 ∧ k ≤ 200 ∧ x = .int .i64 (k : Int) ∧ Hid (St w wr B nt nc tk tk)) (fun x _ => 200 - (intOf x).toNat)
    case atStart => exact ⟨0, tk, by omega, by omega, rfl, K1⟩
    case round =>
    clear K1
    obtain ⟨k2, tk2, hk1, hk2, rfl, K1⟩ := hrel
    by_cases hlt : k2 < len2 ∧ k2 < 200
    · obtain ⟨hlt1, hlt2⟩ := hlt
      obtain ⟨x, rfl, hx⟩ := HI2.out.at hlt1
      have cx := hx _ K1.out.bel
      have HX := hide hx
      clear hx
      generalize hza : Z2 k2 = a at *
      clear hza
      have hki : (k2 : Int) < (len2 : Int) := by omega
      have hk3 : (k2 : Int) < 200 := by omega
      by_cases h0 : 0 ≤ a
      · by_cases h48 : a < 48
        · obtain ⟨d, rfl⟩ : ∃ d : Nat, a = (d : Int) := ⟨a.toNat, by omega⟩
          obtain ⟨t, htk⟩ : ∃ t, tk2[d]? = some t := ⟨_, List.getElem?_eq_getElem (by rw [K1.out.blen]; omega)⟩
          have HD := hide (K1.out.dropc htk)
          clear K1
          go_wp2_with fail
          refine HD.out.mono ?_
          rintro e w5 ⟨dk, dod, dq, dr, c, rfl, hc, hS5⟩
          have hS6 := hS5.below ((Below.refl _ _).alloc (Nat.le_refl _) (.cells #[.int .i64 dk, .int .i64 dod, .int .i64 dq, .int .i64 dr] 26))
          clear hS5 HD cx
          go_upto_region 27 with fail
          generalize w5.alloc (.cells #[.int .i64 dk, .int .i64 dod, .int .i64 dq, .int .i64 dr] 26) = w6 at *
          have cx := HX.out w6 hS6.bel
          obtain ⟨ct, ft⟩ := hS6.cells htk
          have K2 := hide (hS6.store d false)
          clear hS6
          cases t
          · go_wp2
            go_roundw
            case rel =>
              first
                | exact ⟨k2 + 1, tk2.set d false, by omega, by omega, by go_num, K2⟩
                | ((repeat apply Exists.intro); refine ⟨?_, rfl⟩; exact ⟨k2 + 1, tk2.set d false, by omega, by omega, by go_num, K2⟩)
            case measure => simp [intOf]; omega
          · go_wp2
            go_roundw
            case rel =>
              first
                | exact ⟨k2 + 1, tk2.set d false, by omega, by omega, by go_num, K2⟩
                | ((repeat apply Exists.intro); refine ⟨?_, rfl⟩; exact ⟨k2 + 1, tk2.set d false, by omega, by omega, by go_num, K2⟩)
            case measure => simp [intOf]; omega
        · go_wp2
          go_roundw
          case rel =>
            first
              | exact ⟨k2 + 1, tk2, by omega, by omega, by go_num, K1⟩
              | ((repeat apply Exists.intro); refine ⟨?_, rfl⟩; exact ⟨k2 + 1, tk2, by omega, by omega, by go_num, K1⟩)
          case measure => simp [intOf]; omega
      · go_wp2
        go_roundw
        case rel =>
          first
            | exact ⟨k2 + 1, tk2, by omega, by omega, by go_num, K1⟩
            | ((repeat apply Exists.intro); refine ⟨?_, rfl⟩; exact ⟨k2 + 1, tk2, by omega, by omega, by go_num, K1⟩)
        case measure => simp [intOf]; omega
    · go_upto_region 23 with fail
      go_cut [112] (fun v wx => v = .bool false ∧ wx = wr)
      case first =>
        by_cases hkl : k2 < len2
        · have hkli : (k2 : Int) < (len2 : Int) := by omega
          have hk200 : ¬ (k2 : Int) < 200 := by omega
          go_wp2_with fail
          go_meet
          case rel => exact ⟨rfl, rfl⟩
        · have hkli : ¬ (k2 : Int) < (len2 : Int) := by omega
          go_wp2_with fail
          go_meet
          case rel => exact ⟨rfl, rfl⟩
      case rest =>
      obtain ⟨rfl, rfl⟩ := hcut
      clear hlt hk1 hk2 HI2 hml
      go_wp2_with fail
      go_loopw [16] (fun x wr => ∃ (q : Nat) (tb : List Bool), q ≤ 48 ∧ x = .int .i64 (q : Int) ∧ Hid (St w wr B nt nc tb tk2) ∧ (∀ s, s < q → tb[s]? = some true) ∧ ∀ s, q ≤ s → tb[s]? = tk2[s]?) (fun x _ => 48 - (intOf x).toNat)
      case atStart => exact ⟨0, tk2, by omega, rfl, K1, fun s hs => by omega, fun s _ => rfl⟩
      case round =>
      clear K1
      obtain ⟨q, tb, hq, rfl, K1, hq1, hq2⟩ := hrel
      by_cases hq3 : q < 48
      · obtain ⟨t, htq⟩ : ∃ t, tb[q]? = some t := ⟨_, List.getElem?_eq_getElem (by rw [K1.out.blen]; exact hq3)⟩
        obtain ⟨ct, -⟩ := K1.out.cells ((hq2 q (Nat.le_refl _)).symm.trans htq)
        have hq4 : (q : Int) < 48 := by omega
        cases t
        · have hw : want tb (-1) = (q : Int) := by unfold want; rw [if_pos rfl]; exact lowF_at hq1 htq
          have HM := hide (K1.out.mint (-1))
          rw [hw] at HM
          obtain ⟨cc0, cc1, cc2, cc3⟩ := K1.out.capc
          have HQ := hide (And.intro hq1 hq2)
          have HLb := hide K1.out.blen
          clear hq1 hq2 K1 hw
          go_wp2_with fail
          refine HM.out.mono ?_
          rintro e w5 ⟨c, rfl, ⟨rfl, kk, hkk, hkk2, hkk3, hS5⟩ | ⟨_, hv, _⟩⟩
          · obtain rfl : q = kk := by omega
            have K2 := hide hS5
            clear hS5 HM cc0 cc1 cc2 cc3
            go_wp2
            go_roundw
            case rel =>
              have HR : (∀ s, s < q + 1 → (tb.set q true)[s]? = some true) ∧ ∀ s, q + 1 ≤ s → (tb.set q true)[s]? = tk2[s]? := by
                refine ⟨fun s hs => ?_, fun s hs => ?_⟩
                · by_cases e : q = s
                  · subst e; rw [List.getElem?_set_self (by rw [HLb.out]; exact hq3)]
                  · rw [List.getElem?_set_ne e]; exact HQ.out.1 s (by omega)
                · rw [List.getElem?_set_ne (by omega)]; exact HQ.out.2 s (by omega)
              first
                | exact ⟨q + 1, tb.set q true, by omega, by go_num, K2, HR.1, HR.2⟩
                | ((repeat apply Exists.intro); refine ⟨?_, rfl⟩; exact ⟨q + 1, tb.set q true, by omega, by go_num, K2, HR.1, HR.2⟩)
            case measure => simp [intOf]; omega
          · omega
        · have HQ : Hid ((∀ s, s < q + 1 → tb[s]? = some true) ∧ ∀ s, q + 1 ≤ s → tb[s]? = tk2[s]?) := by
            refine ⟨fun s hs => ?_, fun s hs => hq2 s (by omega)⟩
            rcases Nat.lt_or_ge s q with h | h
            · exact hq1 s h
            · obtain rfl : s = q := by omega
              exact htq
          clear hq1 hq2
          go_wp2
          go_roundw
          case rel =>
            first
              | exact ⟨q + 1, tb, by omega, by go_num, K1, HQ.out.1, HQ.out.2⟩
              | ((repeat apply Exists.intro); refine ⟨?_, rfl⟩; exact ⟨q + 1, tb, by omega, by go_num, K1, HQ.out.1, HQ.out.2⟩)
          case measure => simp [intOf]; omega
      · have hq4 : ¬ (q : Int) < 48 := by omega
        have hfull : ∀ s, s < 48 → tb[s]? = some true := fun s hs => hq1 s (by omega)
        have HFull := hide hfull
        have HM := hide (K1.out.mint (-1))
        obtain ⟨cc0, cc1, cc2, cc3⟩ := K1.out.capc
        clear hq1 hq2 K1 hfull
        go_wp2_with fail
        refine HM.out.mono ?_
        rintro e w5 ⟨c, rfl, ⟨_, kk, _, hkk2, hkk3, _⟩ | ⟨hc, hv, hS5, hc2⟩⟩
        · rw [HFull.out kk hkk2] at hkk3; cases hkk3
        · obtain rfl : c = 2 := by first | exact hc2 rfl | exact hc2 trivial
          rw [hv]
          have HR := hide (hS5.room HFull.out)
          have HO := hide (hS5.on HFull.out)
          clear hS5 hc hc2 HM cc0 cc1 cc2 cc3 hv
          go_wp2_with fail
          refine HR.out.mono ?_
          rintro e w6 ⟨rfl, rfl⟩
          go_wp2_with fail
          refine HO.out.mono ?_
          rintro e w7 ⟨rfl, hb7⟩
          have HB7 := hide hb7
          clear hb7
          go_wp2
          go_ret
          exact ⟨rfl, HB7.out⟩
end Go.Proofs.Ytimfgjndgfjjgaa

namespace Go.Proofs.Ytimfgjndgfjjgaa
open Go.ChangeShapes Go.WideShapes Go.ChangeAt Go.RowKit Go.Deep
section
variable {H : Type} {enc : TypeId × Value → H} {P : Program} {w : World} {base : Nat} {spare : Nat → Bool} {held : Bool}
theorem int_cell {t : TypeId} {n : Nat} {v : Value} {y : DataW H × List MemPlace} (ht : P.underlying t = some (.int .i64)) (h : DataW.trod enc P w base spare held n t [v] = some y) : ∃ z : Int, v = .int .i64 z := by
  obtain ⟨z, h1, _⟩ := DataW.trod_int ht h
  exact ⟨z, by simpa using h1⟩
theorem open_ints {t e : TypeId} {fuel : Nat} {cs : List Value} {x : DataW H × List MemPlace} (ht : P.underlying t = some (.slice e)) (he : P.underlying e = some (.int .i64)) (ce : P.cellsOf e = 1)
    (h : DataW.trod enc P w base spare held fuel t cs = some x) : ∃ (a : Option Addr) (len cap : Nat) (I : Nat → Int), cs = [.slice a len cap] ∧ len ≤ maxLen ∧ IsInts w a len I := by
  rcases open_slice1 ht ce h with ⟨rfl, _⟩ | ⟨a, len, cap, m, n, V, D, Pl, rfl, hb, hl, hm, hmm, rfl, hx⟩
  · exact ⟨none, 0, 0, fun _ => 0, rfl, Nat.zero_le _, fun k hk => by omega⟩
  have hlm : len ≤ m := by rw [hmm]; split <;> omega
  have each : ∀ i, i < len → ∃ z : Int, V i = .int .i64 z := fun i hi => int_cell he (hx i (by omega)).2
  obtain ⟨Z, hZ⟩ := choose_lt each
  refine ⟨some a, len, cap, Z, rfl, Nat.le_trans hl hm, fun k hk => ⟨a, rfl, ?_⟩⟩
  rw [(hx k (by omega)).1, hZ k hk]
end
end Go.Proofs.Ytimfgjndgfjjgaa

namespace Go.Proofs.Ytimfgjndgfjjgaa
open Go.RowKit

theorem set2a {w : World} {b : Nat} {x0 x1 : Value} {t : TypeId} (h : w.heap[b]? = some (.cells #[x0, x1] t (0, 0))) (y0 y1 : Value) :
    ((w.setCell ⟨b, 0, none⟩ y0).setCell ⟨b, 1, none⟩ y1).heap[b]? = some (.cells #[y0, y1] t (0, 0)) := by
  have h1 := heap_setCell_same _ b 0 _ _ y0 h
  have h2 := heap_setCell_same _ b 1 _ _ y1 h1
  rw [h2]; rfl
/-- what From tells -/
def fromB (bk : List (Option Lst)) (e s : Int) : Int × Int := match atB bk e s with
  | some r => (r.e, r.t)
  | none => (-1, -1)
set_option maxHeartbeats 3200000 in
theorem from_any (w : World) (F : Nat → Prop) (B : Nat) (bk : List (Option Lst)) (h : Book w F B bk) (e s : Int) :
    Calls Try.prog 12 #[.pointer (some ⟨B, 0, none⟩), .int .i64 e, .int .i64 s] w fun x w' => x = .returned (.tuple #[.agg #[.int .i64 (fromB bk e s).1, .int .i64 (fromB bk e s).2], .int .i64 (lcode bk e s)]) ∧ Below w.heap.size w w' := by
  have hb0 := (Below.refl w.heap.size w).alloc (Nat.le_refl _) (.cells #[.int .i64 0, .int .i64 0] 28)
  have HL := hide (look_any _ F B bk (h.below hb0) e s)
  have hZ := heap_alloc_new w (.cells #[.int .i64 0, .int .i64 0] 28)
  have HB0 := hide hb0
  clear h hb0
  cases hn : atB bk e s with
  | none =>
    have hc : (lcode bk e s != 0) = true := by rcases lcode_none hn with h | h <;> rw [h] <;> decide
    rw [show fromB bk e s = (-1, -1) by unfold fromB; rw [hn]]
    rw [hn] at HL
    generalize lcode bk e s = c at *
    simp only [Rc.val, Rc.zero, Option.getD_none] at *
    clear hn
    go_enter Try.func12, Try.ntmps12
    go_wp2_with fail
    generalize hgw : w.alloc (.cells #[.int .i64 0, .int .i64 0] 28) = w0 at *
    clear hgw
    refine HL.out.mono ?_
    rintro e1 w1 ⟨rfl, hb1⟩
    have hlt := (Array.getElem?_eq_some_iff.1 hZ).1
    have hZ1 := (hb1.block w.heap.size hlt).trans hZ
    have hb1' := HB0.out.trans (hb1.mono HB0.out.size)
    clear hb1 HL hZ
    go_upto_region 3 with fail
    have hZ2 := (Below.heap_alloc w1 (.cells #[.int .i64 0, .int .i64 0, .int .i64 0, .int .i64 0, .int .i64 0, .int .i64 0] 78) w.heap.size (Array.getElem?_eq_some_iff.1 hZ1).1).trans hZ1
    have HB2 := hide (hb1'.alloc hb1'.size (.cells #[.int .i64 0, .int .i64 0, .int .i64 0, .int .i64 0, .int .i64 0, .int .i64 0] 78))
    generalize w1.alloc (.cells #[.int .i64 0, .int .i64 0, .int .i64 0, .int .i64 0, .int .i64 0, .int .i64 0] 78) = w2 at *
    clear hZ1 hb1'
    go_wp2_with fail
    refine (nowhere_any w2).mono ?_
    rintro e1 w3 ⟨rfl, hb3⟩
    have hZ3 := (hb3.block w.heap.size (Array.getElem?_eq_some_iff.1 hZ2).1).trans hZ2
    have HB3 := hide (HB2.out.trans (hb3.mono HB2.out.size))
    obtain ⟨d0, d1, f0, f1⟩ := blk2 hZ3
    have HS := hide (fun a b => set2a hZ3 a b)
    clear hZ2 hZ3 hb3 HB2
    go_wp2
    refine bodyPost_ret (results_row2 rfl _ _ w.heap.size 28 #[.int .i64 (-1), .int .i64 (-1)] (0, 0) _ rfl (HS.out _ _) Try.underlying28 rfl (by kernel_rfl)) rfl ?_
    exact ⟨rfl, (HB3.out.setCell (p := ⟨w.heap.size, 0, none⟩) (Nat.le_refl _) _).setCell (p := ⟨w.heap.size, 1, none⟩) (Nat.le_refl _) _⟩
  | some r =>
    rw [show fromB bk e s = (r.e, r.t) by unfold fromB; rw [hn], lcode_some hn]
    rw [hn, lcode_some hn] at HL
    simp only [Rc.val, Option.getD_some] at *
    clear hn
    go_enter Try.func12, Try.ntmps12
    go_wp2_with fail
    generalize hgw : w.alloc (.cells #[.int .i64 0, .int .i64 0] 28) = w0 at *
    clear hgw
    refine HL.out.mono ?_
    rintro e1 w1 ⟨rfl, hb1⟩
    have hlt := (Array.getElem?_eq_some_iff.1 hZ).1
    have hZ1 := (hb1.block w.heap.size hlt).trans hZ
    have hb1' := HB0.out.trans (hb1.mono HB0.out.size)
    clear hb1 HL hZ
    go_upto_region 4 with fail
    have hZ2 := (Below.heap_alloc w1 (.cells #[.int .i64 r.k, .int .i64 r.o, .int .i64 r.s, .int .i64 r.r, .int .i64 r.e, .int .i64 r.t] 78) w.heap.size (Array.getElem?_eq_some_iff.1 hZ1).1).trans hZ1
    have hX2 := heap_alloc_new w1 (.cells #[.int .i64 r.k, .int .i64 r.o, .int .i64 r.s, .int .i64 r.r, .int .i64 r.e, .int .i64 r.t] 78)
    have HB2 := hide (hb1'.alloc hb1'.size (.cells #[.int .i64 r.k, .int .i64 r.o, .int .i64 r.s, .int .i64 r.r, .int .i64 r.e, .int .i64 r.t] 78))
    generalize hgw : w1.alloc (.cells #[.int .i64 r.k, .int .i64 r.o, .int .i64 r.s, .int .i64 r.r, .int .i64 r.e, .int .i64 r.t] 78) = w2 at *
    clear hgw hZ1 hb1'
    obtain ⟨x0, x1, x2, x3, x4, x5, -, -, -, -, -, -⟩ := blk6 hX2
    have HP := hide (parent_any w2 r)
    simp only [Rc.val] at HP
    go_wp2_with fail
    refine HP.out.mono ?_
    rintro e1 w3 ⟨rfl, hb3⟩
    have hZ3 := (hb3.block w.heap.size (Array.getElem?_eq_some_iff.1 hZ2).1).trans hZ2
    have HB3 := hide (HB2.out.trans (hb3.mono HB2.out.size))
    obtain ⟨d0, d1, f0, f1⟩ := blk2 hZ3
    have HS := hide (fun a b => set2a hZ3 a b)
    clear hZ2 hZ3 hb3 HB2 hX2 x0 x1 x2 x3 x4 x5 HP
    go_wp2
    refine bodyPost_ret (results_row2 rfl _ _ w.heap.size 28 #[.int .i64 r.e, .int .i64 r.t] (0, 0) _ rfl (HS.out _ _) Try.underlying28 rfl (by kernel_rfl)) rfl ?_
    exact ⟨rfl, (HB3.out.setCell (p := ⟨w.heap.size, 0, none⟩) (Nat.le_refl _) _).setCell (p := ⟨w.heap.size, 1, none⟩) (Nat.le_refl _) _⟩
set_option maxHeartbeats 3200000 in
theorem get_any (w : World) (F : Nat → Prop) (B : Nat) (bk : List (Option Lst)) (h : Book w F B bk) (e s : Int) :
    Calls Try.prog 26 #[.pointer (some ⟨B, 0, none⟩), .int .i64 e, .int .i64 s] w fun x w' => x = .returned (.tuple #[((atB bk e s).getD Rc.zero).cap, .int .i64 (lcode bk e s)]) ∧ Below w.heap.size w w' := by
  have hb0 := (Below.refl w.heap.size w).alloc (Nat.le_refl _) (.cells #[.int .i64 0, .int .i64 0, .int .i64 0, .int .i64 0] 26)
  have HL := hide (look_any _ F B bk (h.below hb0) e s)
  have hZ := heap_alloc_new w (.cells #[.int .i64 0, .int .i64 0, .int .i64 0, .int .i64 0] 26)
  have HB0 := hide hb0
  clear h hb0
  generalize (atB bk e s).getD Rc.zero = r at *
  generalize lcode bk e s = c at *
  simp only [Rc.val, Rc.cap] at *
  go_enter Try.func26, Try.ntmps26
  go_wp2_with fail
  generalize hgw : w.alloc (.cells #[.int .i64 0, .int .i64 0, .int .i64 0, .int .i64 0] 26) = w0 at *
  clear hgw
  refine HL.out.mono ?_
  rintro e1 w1 ⟨rfl, hb1⟩
  have hlt := (Array.getElem?_eq_some_iff.1 hZ).1
  have hZ1 := (hb1.block w.heap.size hlt).trans hZ
  have hb1' := HB0.out.trans (hb1.mono HB0.out.size)
  clear hb1 HL hZ
  go_upto_region 2 with fail
  have hZ2 := (Below.heap_alloc w1 (.cells #[.int .i64 r.k, .int .i64 r.o, .int .i64 r.s, .int .i64 r.r, .int .i64 r.e, .int .i64 r.t] 78) w.heap.size (Array.getElem?_eq_some_iff.1 hZ1).1).trans hZ1
  have hX2 := heap_alloc_new w1 (.cells #[.int .i64 r.k, .int .i64 r.o, .int .i64 r.s, .int .i64 r.r, .int .i64 r.e, .int .i64 r.t] 78)
  have HB2 := hide (hb1'.alloc hb1'.size (.cells #[.int .i64 r.k, .int .i64 r.o, .int .i64 r.s, .int .i64 r.r, .int .i64 r.e, .int .i64 r.t] 78))
  generalize hgw : w1.alloc (.cells #[.int .i64 r.k, .int .i64 r.o, .int .i64 r.s, .int .i64 r.r, .int .i64 r.e, .int .i64 r.t] 78) = w2 at *
  clear hgw hZ1 hb1'
  obtain ⟨x0, x1, x2, x3, x4, x5, -, -, -, -, -, -⟩ := blk6 hX2
  obtain ⟨d0, d1, d2, d3⟩ := blk4 hZ2
  obtain ⟨f0, f1, f2, f3⟩ := blk4f hZ2
  have HS := hide (fun a b c d => set4 hZ2 a b c d)
  clear hZ2 hX2
  go_wp2
  refine bodyPost_ret (results_row2 rfl _ _ w.heap.size 26 #[.int .i64 r.k, .int .i64 r.o, .int .i64 r.s, .int .i64 r.r] (0, 0) _ rfl (HS.out _ _ _ _) Try.underlying26 rfl (by kernel_rfl)) rfl ?_
  exact ⟨rfl, (((HB2.out.setCell (p := ⟨w.heap.size, 0, none⟩) (Nat.le_refl _) _).setCell (p := ⟨w.heap.size, 1, none⟩) (Nat.le_refl _) _).setCell (p := ⟨w.heap.size, 2, none⟩) (Nat.le_refl _) _).setCell (p := ⟨w.heap.size, 3, none⟩) (Nat.le_refl _) _⟩
end Go.Proofs.Ytimfgjndgfjjgaa

namespace Go.Proofs.Ytimfgjndgfjjgaa
open Go.RowKit

/-- are these rights, and Grant, the record's? -/
def okR (rights : Int) (r : Rc) : Bool := bits .andNot .i64 (bits .or .i64 rights 4) r.r == 0
/-- what Derive does -/
def DeriveR (bk : List (Option Lst)) (e s tgt a rights : Int) (v c : Int) (bk' : List (Option Lst)) : Prop :=
  (look bk tgt = none ∧ v = -1 ∧ c = 83 ∧ bk' = bk) ∨
  ((∃ l, look bk tgt = some l) ∧ atB bk e s = none ∧ v = -1 ∧ c = lcode bk e s ∧ bk' = bk) ∨
  ((∃ l, look bk tgt = some l) ∧ (∃ r, atB bk e s = some r) ∧ (¬ (-1 ≤ a ∧ a < 48) ∨ ¬ (0 ≤ rights ∧ rights ≤ 15)) ∧ v = -1 ∧ c = 1 ∧ bk' = bk) ∨
  ((∃ l, look bk tgt = some l) ∧ (∃ r, atB bk e s = some r ∧ okR rights r = false) ∧ (-1 ≤ a ∧ a < 48) ∧ (0 ≤ rights ∧ rights ≤ 15) ∧ v = -1 ∧ c = 81 ∧ bk' = bk) ∨
  (∃ (i : Nat) (l l' : Lst) (r : Rc), tgt = i ∧ bk[i]? = some (some l) ∧ atB bk e s = some r ∧ okR rights r = true ∧ (-1 ≤ a ∧ a < 48) ∧ (0 ≤ rights ∧ rights ≤ 15) ∧ LayR l a ⟨r.k, r.o, r.s, rights, e, s⟩ v c l' ∧ bk' = bk.set i (some l'))
set_option maxHeartbeats 3200000 in
theorem derive_any (w : World) (F : Nat → Prop) (B : Nat) (bk : List (Option Lst)) (h : Book w F B bk) (e s tgt a rights : Int) :
    Calls Try.prog 10 #[.pointer (some ⟨B, 0, none⟩), .int .i64 e, .int .i64 s, .int .i64 tgt, .int .i64 a, .int .i64 rights] w fun x w' => ∃ (v c : Int) (bk' : List (Option Lst)) (F' : Nat → Prop), x = .returned (.tuple #[.int .i64 v, .int .i64 c]) ∧ Book w' F' B bk' ∧ Ext F w F' w' ∧ DeriveR bk e s tgt a rights v c bk' := by
  have HK := hide h
  obtain ⟨T, G, m, fs, hA⟩ := h
  have c0 := hA.cell
  have HG := hide (getL_any _ G T m hA.tab tgt)
  rcases hA.cases tgt with ⟨h1, h2⟩ | ⟨i, b, l, rfl, h1, h2, h3, h4, h5, h6⟩
  · rw [h1] at HG
    simp only [ptr, Option.isSome_none] at HG
    have H2 := hide h2
    clear hA h1 h2
    go_enter Try.func10, Try.ntmps10
    go_wp2_with fail
    refine HG.out.mono ?_
    rintro e1 w1 ⟨rfl, rfl⟩
    go_wp2
    go_ret2
    exact ⟨_, _, bk, F, rfl, HK.out, Ext.refl _ _, .inl ⟨H2.out, rfl, rfl, rfl⟩⟩
  · rw [h3] at HG
    simp only [ptr, Option.isSome_some] at HG
    have HA := hide hA
    have H1 := hide h1
    have H2 := hide h2
    have H4 := hide h4
    have H5 := hide h5
    have H6 := hide h6
    have HL := hide (look_any w F B bk HK.out e s)
    clear hA h1 h2 h3 h4 h5 h6
    cases hn : atB bk e s with
    | none =>
      have hc : (lcode bk e s != 0) = true := by rcases lcode_none hn with h | h <;> rw [h] <;> decide
      rw [hn] at HL
      have HN := hide hn
      obtain ⟨lc, hlc⟩ : ∃ lc, lcode bk e s = lc := ⟨_, rfl⟩
      rw [hlc] at HL hc
      have HLC := hide hlc
      simp only [Rc.val, Rc.zero, Option.getD_none] at HL
      clear hn hlc
      go_enter Try.func10, Try.ntmps10
      go_wp2_with fail
      refine HG.out.mono ?_
      rintro e1 w1 ⟨rfl, rfl⟩
      go_wp2_with fail
      refine HL.out.mono ?_
      rintro e1 w2 ⟨rfl, hb2⟩
      have HB2 := hide (hb2.alloc hb2.size (.cells #[.int .i64 0, .int .i64 0, .int .i64 0, .int .i64 0, .int .i64 0, .int .i64 0] 78))
      clear hb2
      go_wp2
      go_ret2
      exact ⟨_, _, bk, F, rfl, HK.out.below HB2.out, Ext.of_below HB2.out, .inr (.inl ⟨⟨l, H4.out⟩, HN.out, rfl, HLC.out.symm, rfl⟩)⟩
    | some r =>
      rw [hn, lcode_some hn] at HL
      simp only [Rc.val, Option.getD_some] at HL
      have HN := hide hn
      have HI := hide (fun W => isAim_any W a)
      have HR := hide (fun W => areRights_any W rights)
      clear hn
      by_cases h7 : -1 ≤ a ∧ a < 48
      · rw [show decide (-1 ≤ a ∧ a < 48) = true by simpa using h7] at HI
        by_cases h8 : 0 ≤ rights ∧ rights ≤ 15
        · rw [show decide (0 ≤ rights ∧ rights ≤ 15) = true by simpa using h8] at HR
          have H7 := hide h7
          have H8 := hide h8
          obtain ⟨ok, hok⟩ : ∃ ok, okR rights r = ok := ⟨_, rfl⟩
          have HH := hide (fun W => has_any W r (bits .or .i64 rights 4))
          have HH2 : Hid (∀ W, Calls Try.prog 33 #[.agg #[.int .i64 r.k, .int .i64 r.o, .int .i64 r.s, .int .i64 r.r, .int .i64 r.e, .int .i64 r.t], .int .i64 (bits .or .i64 rights 4)] W fun e w' => e = .returned (.bool ok) ∧ Below W.heap.size W w') := by
            intro W
            have := HH.out W
            unfold okR at hok
            rw [hok] at this
            exact this
          have HOK := hide hok
          clear h7 h8 hok HH
          go_enter Try.func10, Try.ntmps10
          go_wp2_with fail
          refine HG.out.mono ?_
          rintro e1 w1 ⟨rfl, rfl⟩
          go_wp2_with fail
          refine HL.out.mono ?_
          rintro e1 w2 ⟨rfl, hb2⟩
          have hX2 := heap_alloc_new w2 (.cells #[.int .i64 r.k, .int .i64 r.o, .int .i64 r.s, .int .i64 r.r, .int .i64 r.e, .int .i64 r.t] 78)
          have hb3 := hb2.alloc hb2.size (.cells #[.int .i64 r.k, .int .i64 r.o, .int .i64 r.s, .int .i64 r.r, .int .i64 r.e, .int .i64 r.t] 78)
          go_upto_region 7 with fail
          generalize hgw : w2.alloc (.cells #[.int .i64 r.k, .int .i64 r.o, .int .i64 r.s, .int .i64 r.r, .int .i64 r.e, .int .i64 r.t] 78) = w3 at *
          clear hgw hb2
          generalize w2.heap.size = n2 at *
          obtain ⟨x0, x1, x2, x3, x4, x5, -, -, -, -, -, -⟩ := blk6 hX2
          go_wp2_with fail
          refine (HI.out _).mono ?_
          rintro e1 w4 ⟨rfl, rfl⟩
          go_wp2_with fail
          refine (HR.out _).mono ?_
          rintro e1 w5 ⟨rfl, rfl⟩
          go_wp2_with fail
          refine (HH2.out _).mono ?_
          rintro e1 w6 ⟨rfl, hb6⟩
          have hX6 := (hb6.block n2 (Array.getElem?_eq_some_iff.1 hX2).1).trans hX2
          have hb6' := hb3.trans (hb6.mono hb3.size)
          clear hb6 hX2 hb3 x0 x1 x2 x3 x4 x5 HH2 HI HR HL HG c0
          cases ok
          · have HB6 := hide hb6'
            clear hb6' hX6
            go_wp2
            go_ret2
            exact ⟨_, _, bk, F, rfl, HK.out.below HB6.out, Ext.of_below HB6.out, .inr (.inr (.inr (.inl ⟨⟨l, H4.out⟩, ⟨r, HN.out, HOK.out⟩, H7.out, H8.out, rfl, rfl, rfl⟩)))⟩
          · obtain ⟨x0, x1, x2, x3, x4, x5, -, -, -, -, -, -⟩ := blk6 hX6
            go_upto_region 12 with fail
            have hX7 := heap_alloc_new w6 (.cells #[.int .i64 r.k, .int .i64 r.o, .int .i64 r.s, .int .i64 r.r, .int .i64 e, .int .i64 s] 78)
            have hb7 := hb6'.alloc hb6'.size (.cells #[.int .i64 r.k, .int .i64 r.o, .int .i64 r.s, .int .i64 r.r, .int .i64 e, .int .i64 s] 78)
            have hge : w1.heap.size ≤ w6.heap.size := hb6'.size
            generalize hgw : w6.alloc (.cells #[.int .i64 r.k, .int .i64 r.o, .int .i64 r.s, .int .i64 r.r, .int .i64 e, .int .i64 s] 78) = w7 at *
            clear hgw hb6' hX6 x0 x1 x2 x3 x4 x5
            generalize w6.heap.size = n6 at *
            obtain ⟨-, -, -, d3, -, -, -, -, -, f3, -, -⟩ := blk6 hX7
            go_upto_region 13 with fail
            have hX8 : (w7.setCell ⟨n6, 3, none⟩ (.int .i64 rights)).heap[n6]? = some (.cells #[.int .i64 r.k, .int .i64 r.o, .int .i64 r.s, .int .i64 rights, .int .i64 e, .int .i64 s] 78 (0, 0)) := heap_setCell_same _ n6 3 _ _ _ hX7
            have hb8 := hb7.setCell (p := ⟨n6, 3, none⟩) hge (.int .i64 rights)
            generalize w7.setCell ⟨n6, 3, none⟩ (.int .i64 rights) = w8 at *
            clear hX7 hb7 d3 f3
            obtain ⟨y0, y1, y2, y3, y4, y5, -, -, -, -, -, -⟩ := blk6 hX8
            have HA8 := hide (HA.out.keep hb8.size (fun x hx => hb8.block x (HA.out.lt x hx)))
            have HLY := hide (lay_any w8 (fs i) b l (H6.out.below hb8) a ⟨r.k, r.o, r.s, rights, e, s⟩)
            have HB8 := hide hb8
            simp only [Rc.val] at HLY
            clear hb8 hX8 HA H6
            go_wp2_with fail
            refine HLY.out.mono ?_
            rintro e2 w9 ⟨v, c, l', F', rfl, hT4, hE4, hL4⟩
            have K1 := hide (HA8.out.upd H1.out (hL4.len.trans H5.out) hT4 hE4)
            have K2 := hide ((Ext.of_below (F := F) HB8.out).trans K1.out.2)
            have K3 := hide hL4
            clear hT4 hE4 hL4 HLY HA8 HB8 y0 y1 y2 y3 y4 y5
            go_wp2
            go_ret2
            exact ⟨v, c, _, _, rfl, ⟨_, _, _, _, K1.out.1⟩, K2.out, .inr (.inr (.inr (.inr ⟨i, l, l', r, rfl, H2.out, HN.out, HOK.out, H7.out, H8.out, K3.out, rfl⟩)))⟩
        · rw [show decide (0 ≤ rights ∧ rights ≤ 15) = false by simpa using h8] at HR
          have H8 := hide h8
          clear h7 h8
          go_enter Try.func10, Try.ntmps10
          go_wp2_with fail
          refine HG.out.mono ?_
          rintro e1 w1 ⟨rfl, rfl⟩
          go_wp2_with fail
          refine HL.out.mono ?_
          rintro e1 w2 ⟨rfl, hb2⟩
          have HB2 := hide (hb2.alloc hb2.size (.cells #[.int .i64 r.k, .int .i64 r.o, .int .i64 r.s, .int .i64 r.r, .int .i64 r.e, .int .i64 r.t] 78))
          clear hb2
          go_upto_region 7 with fail
          generalize hgw : w2.alloc (.cells #[.int .i64 r.k, .int .i64 r.o, .int .i64 r.s, .int .i64 r.r, .int .i64 r.e, .int .i64 r.t] 78) = w3 at *
          clear hgw
          go_wp2_with fail
          refine (HI.out _).mono ?_
          rintro e1 w4 ⟨rfl, rfl⟩
          go_wp2_with fail
          refine (HR.out _).mono ?_
          rintro e1 w5 ⟨rfl, rfl⟩
          go_wp2
          go_ret2
          exact ⟨_, _, bk, F, rfl, HK.out.below HB2.out, Ext.of_below HB2.out, .inr (.inr (.inl ⟨⟨l, H4.out⟩, ⟨r, HN.out⟩, .inr H8.out, rfl, rfl, rfl⟩))⟩
      · rw [show decide (-1 ≤ a ∧ a < 48) = false by simpa using h7] at HI
        have H7 := hide h7
        clear h7
        go_enter Try.func10, Try.ntmps10
        go_wp2_with fail
        refine HG.out.mono ?_
        rintro e1 w1 ⟨rfl, rfl⟩
        go_wp2_with fail
        refine HL.out.mono ?_
        rintro e1 w2 ⟨rfl, hb2⟩
        have HB2 := hide (hb2.alloc hb2.size (.cells #[.int .i64 r.k, .int .i64 r.o, .int .i64 r.s, .int .i64 r.r, .int .i64 r.e, .int .i64 r.t] 78))
        clear hb2
        go_upto_region 7 with fail
        generalize hgw : w2.alloc (.cells #[.int .i64 r.k, .int .i64 r.o, .int .i64 r.s, .int .i64 r.r, .int .i64 r.e, .int .i64 r.t] 78) = w3 at *
        clear hgw
        go_wp2_with fail
        refine (HI.out _).mono ?_
        rintro e1 w4 ⟨rfl, rfl⟩
        go_wp2
        go_ret2
        exact ⟨_, _, bk, F, rfl, HK.out.below HB2.out, Ext.of_below HB2.out, .inr (.inr (.inl ⟨⟨l, H4.out⟩, ⟨r, HN.out⟩, .inl H7.out, rfl, rfl, rfl⟩))⟩
end Go.Proofs.Ytimfgjndgfjjgaa

namespace Go.Proofs.Ytimfgjndgfjjgaa
open Go.RowKit Go.Shelf
attribute [local go_sem] Oper.semAt_some

/-- what is told of one that is held -/
def encH (e : Int) (x : Nat × Rc) : List Value := [.int .i64 e, .int .i64 (x.1 : Int), .int .i64 x.2.k, .int .i64 x.2.o, .int .i64 x.2.s, .int .i64 x.2.r]
def encHs (e : Int) (l : List (Nat × Rc)) : List Value := l.flatMap (encH e)
theorem encHs_snoc (e : Int) (l : List (Nat × Rc)) (x : Nat × Rc) : encHs e (l ++ [x]) = encHs e l ++ [.int .i64 e, .int .i64 (x.1 : Int), .int .i64 x.2.k, .int .i64 x.2.o, .int .i64 x.2.s, .int .i64 x.2.r] := by simp [encHs, encH]
theorem cell_six_new (w : World) (t : TypeId) (x0 x1 x2 x3 x4 x5 : Value) : ∀ (j : Nat) (u : Value), [x0, x1, x2, x3, x4, x5][j]? = some u → (w.alloc (.cells #[x0, x1, x2, x3, x4, x5] t)).cell? ((⟨w.heap.size, 0, none⟩ : Addr).add j) = some u := by
  intro j u hu
  have h : (w.alloc (.cells #[x0, x1, x2, x3, x4, x5] t)).heap[w.heap.size]? = some (.cells #[x0, x1, x2, x3, x4, x5] t (0, 0)) := heap_alloc_new _ _
  rw [add0, cell_of_row _ _ _ _ _ _ h]
  simpa using hu
theorem asked_wide (P : Program) (o : Oper) (a : Act) (C : World → Prop) : o.askedIn Fence.wide P a C := by
  intro w _ f _
  trivial
theorem info54' : ∃ i, Try.prog.info? 54 = some i ∧ i.zero = some (.agg #[.int .i64 0, .int .i64 0, .int .i64 0, .int .i64 0, .int .i64 0, .int .i64 0]) ∧ i.size = 6 ∧ i.bytes = 48 := info_parts (by kernel_rfl)
set_option maxRecDepth 100000 in
set_option maxHeartbeats 8000000 in
theorem list_in (n : Nat) (hn : 3 ≤ n) (F : Nat → Prop) (B T : Nat) (G : Nat → Prop) (m : List (Option Nat)) (fs : Nat → Nat → Prop) (bk : List (Option Lst)) (w : World) (hBk : BookAt w F B T G m fs bk) (i : Nat) (l : Lst) (hl : bk[i]? = some (some l)) :
    CallsIn Fence.wide n Try.prog 22 #[.pointer (some ⟨B, 0, none⟩), .int .i64 (i : Int)] w fun e W' => ∃ v, e = .returned (.tuple #[v, .int .i64 0]) ∧ W'.ownsRow w.heap.size 54 6 v (prs l 0).length (encHs (i : Int) (prs l 0)) ∧ Below w.heap.size w W' := by
  have h1 : 1 ≤ n := by omega
  obtain ⟨i54, hi, hz, hs, hb⟩ := info54'
  obtain ⟨b, hm, hlm, h48, hTl⟩ := hBk.open' hl
  have hA := fun o => hBk.keep (w' := w.alloc o) (by simp) (fun b hb => Below.heap_alloc _ _ _ (hBk.lt b hb))
  have c0 := fun o => (hA o).cell
  have HG := hide (fun o k => getL_any ((w.alloc o).drewN k) G T m ((hA o).tab.keep (Nat.le_refl _) (fun _ _ => rfl)) i)
  rw [hlm] at HG
  simp only [ptr, Option.isSome_some] at HG
  refine callsIn_of_wp_marks Try.func22 rfl trivial ?_ rfl
  simp only [Try.ntmps22, List.size_toArray, List.length_cons, List.length_nil, Nat.reduceAdd, Nat.reduceSub, Array.replicate_succ, Array.replicate_zero, List.push_toArray, List.append_toArray, List.nil_append, List.cons_append]
  gi_wp2_with fail
  refine wpIn_region_quiet_lit rfl (by kernel_rfl) (by kernel_rfl) ?_
  iterate 11
    refine wpQuietIn_step (asked_wide _ _ _ _) (fun K hK => ?_)
    go_simp
    first
      | (refine hK _ ?_; clear hK K)
      | (apply Exists.intro
         refine ⟨fun _ => ?_, hK _ ?_⟩
         first | (gi_at_call 29; refine CallsIn.quiet_of_same (callsIn_wide.2 (HG.out _ _)))
         clear hK K)
  refine wpQuietIn_nil ?_
  rintro _ ⟨nq, rfl⟩
  gi_wp2_with fail
  refine ⟨trivial, (allR_in b (n - 1) _).mono ?_⟩
  rintro e w' ⟨rfl, rfl⟩
  gi_wp2_with fail
  have hB0 : Below w.heap.size w ((((w.alloc (.cells #[.int .i64 (i : Int)] 3)).drewN nq).alloc (.cells #[.slice none 0 0] 51)).alloc (.cells #[.pointer (some ⟨b, 0, none⟩)] 71)) := by
    have h0 : Below w.heap.size w ((w.alloc (.cells #[.int .i64 (i : Int)] 3)).drewN nq) := by
      have h9 := (Below.refl w.heap.size w).alloc (Nat.le_refl _) (.cells #[.int .i64 (i : Int)] 3)
      exact ⟨h9.os, h9.tape, h9.output, h9.size, h9.block⟩
    exact (h0.alloc h0.size _).alloc (Nat.le_trans h0.size (by simp)) _
  have hsz : (((((w.alloc (.cells #[.int .i64 (i : Int)] 3)).drewN nq).alloc (.cells #[.slice none 0 0] 51)).alloc (.cells #[.pointer (some ⟨b, 0, none⟩)] 71))).heap.size = w.heap.size + 3 := by simp [World.drewN]
  have hN : ((w.alloc (.cells #[.int .i64 (i : Int)] 3)).drewN nq).heap.size = w.heap.size + 1 := by simp [World.drewN]
  have c3 : Boxed ((((w.alloc (.cells #[.int .i64 (i : Int)] 3)).drewN nq).alloc (.cells #[.slice none 0 0] 51)).alloc (.cells #[.pointer (some ⟨b, 0, none⟩)] 71)) w.heap.size 3 (.int .i64 (i : Int)) := by
    have h9 : Boxed ((w.alloc (.cells #[.int .i64 (i : Int)] 3)).drewN nq) w.heap.size 3 (.int .i64 (i : Int)) := Boxed.new w 3 _
    exact (h9.alloc _).alloc _
  have c8 : Boxed ((((w.alloc (.cells #[.int .i64 (i : Int)] 3)).drewN nq).alloc (.cells #[.slice none 0 0] 51)).alloc (.cells #[.pointer (some ⟨b, 0, none⟩)] 71)) (w.heap.size + 1) 51 (.slice none 0 0) := by
    have h9 := Boxed.new ((w.alloc (.cells #[.int .i64 (i : Int)] 3)).drewN nq) 51 (.slice none 0 0)
    rw [hN] at h9
    exact h9.alloc _
  have hbox : (((((w.alloc (.cells #[.int .i64 (i : Int)] 3)).drewN nq).alloc (.cells #[.slice none 0 0] 51)).alloc (.cells #[.pointer (some ⟨b, 0, none⟩)] 71))).heap[w.heap.size + 1 + 1]? = some (.cells #[.pointer (some ⟨b, 0, none⟩)] 71 (0, 0)) := by
    have h9 := heap_alloc_new (((w.alloc (.cells #[.int .i64 (i : Int)] 3)).drewN nq).alloc (.cells #[.slice none 0 0] 51)) (.cells #[.pointer (some ⟨b, 0, none⟩)] 71)
    rw [World.size_alloc, hN] at h9
    exact h9
  generalize ((((w.alloc (.cells #[.int .i64 (i : Int)] 3)).drewN nq).alloc (.cells #[.slice none 0 0] 51)).alloc (.cells #[.pointer (some ⟨b, 0, none⟩)] 71)) = W0 at *
  clear HG c0 hA hN
  have hFl : ∀ x, fs i x → x < w.heap.size := hTl.lt
  have hG : ∀ x, (fs i x ∨ x = w.heap.size + 1 + 1) → x < W0.heap.size := by
    rintro x (hx | rfl)
    · have := hFl x hx; omega
    · omega
  have hlen : (prs l 0).length ≤ 48 := by rw [prs_len, ← h48]; exact count_le
  refine wpIn_rangeFunc_ownH rfl h1 (gf := 74) (lb := #[.pointer (some ⟨w.heap.size + 1 + 1, 0, none⟩)]) rfl trivial (enters_of Try.func74 (by kernel_rfl) rfl)
    (allR_stops (n - 1) (by omega) (w.heap.size + 1 + 1) b (fs i) l _ hbox (hTl.below hB0)) keepF_t (keepF_b hG) (Below.refl _ _) (fun _ => rfl)
    (fun pre W => ((∃ v, Boxed W (w.heap.size + 1) 51 v ∧ W.ownsRow w.heap.size 54 6 v (pre.map Subtype.val).length (encHs (i : Int) (pre.map Subtype.val)) ∧ True) ∧ Boxed W w.heap.size 3 (.int .i64 (i : Int)) ∧ Boxed W (w.heap.size + 1 + 1) 71 (.pointer (some ⟨b, 0, none⟩)) ∧ pre.length ≤ (prs l 0).length) ∧ Below w.heap.size w W)
    (fun _ _ _ => False)
    (OwnFrom.and (Own.from (fun s A A' row hs hg hr => ⟨holdsRow_own w.heap.size (w.heap.size + 1) 51 54 6 (fun s : List { x : Nat × Rc // l[x.1]? = some (some x.2) } => (s.map Subtype.val).length) (fun s => encHs (i : Int) (s.map Subtype.val)) (fun _ _ => True) s A A' row hs.1 hg hr,
        hs.2.1.kept hg (fun e => by obtain ⟨o, h1, h2⟩ := hr _ e.symm; rw [show A.heap[w.heap.size]? = _ from hs.2.1] at h1; cases h1; cases h2),
        hs.2.2.1.kept hg (fun e => by obtain ⟨o, h1, h2⟩ := hr _ e.symm; rw [show A.heap[w.heap.size + 1 + 1]? = _ from hs.2.2.1] at h1; cases h1; cases h2), hs.2.2.2⟩) _) (ownFrom_below (Nat.le_refl _) (by omega)))
    (fun _ _ _ _ _ hs _ _ => hs)
    ⟨⟨⟨_, c8, ⟨rfl, .inl ⟨rfl, rfl⟩⟩, trivial⟩, c3, hbox, by simp⟩, hB0⟩
    (fun x a' W => ∃ q, W.heap[q]? = some (.cells #[.int .i64 x.1.2.k, .int .i64 x.1.2.o, .int .i64 x.1.2.s, .int .i64 x.1.2.r, .int .i64 x.1.2.e, .int .i64 x.1.2.t] 78 (0, 0)) ∧ a' = { tmps := #[.pointer (some ⟨B, 0, none⟩), .int .i64 (i : Int), undef, .pointer (some ⟨w.heap.size, 0, none⟩), .slice none 0 0, .int .i64 0, .pointer (some ⟨b, 0, none⟩), .bool true, .pointer (some ⟨w.heap.size + 1, 0, none⟩), .int .i64 (x.1.1 : Nat), .pointer (some ⟨q, 0, none⟩), .tuple #[.pointer (some ⟨b, 0, none⟩), .bool true], .pointer (some ⟨B, 0, none⟩), .pointer (some ⟨B, 0, none⟩), .pointer (some ⟨B, 0, none⟩), .pointer (some ⟨T, 0, none⟩), .int .i64 (i : Int), .tuple #[.pointer (some ⟨b, 0, none⟩), .bool true], .pointer (some ⟨b, 0, none⟩), .bool true, .bool true, .bool false, .pointer (some ⟨b, 0, none⟩), .func (.func 74) #[] #[.pointer (some ⟨w.heap.size + 1 + 1, 0, none⟩)], .int .i64 (x.1.1 : Nat), x.1.2.val, undef, undef, undef, undef, undef, undef, undef, undef, undef], defers := [] })
    (fun x a' _ X Y row hs hg hr => by
      obtain ⟨q, h1, h2⟩ := hs
      exact ⟨q, (hg.block q (Array.getElem?_eq_some_iff.1 h1).1 (fun e => by obtain ⟨o, h3, h4⟩ := (hr q e.symm).2; rw [h1] at h3; cases h3; cases h4)).trans h1, h2⟩)
    ?assign ?body ?done ?stop
  case assign =>
    rintro l' pre x W K ⟨⟨⟨v, bS, hown, _⟩, bF, bA, hpl⟩, hB⟩ hK
    obtain ⟨⟨xi, xr⟩, hx⟩ := x
    simp only [Rc.val] at hK ⊢
    gi_wp2
    exact hK _ _ ((KeepsOthers.alloc _ _).from _) ⟨by simp, fun c hc => Below.heap_alloc _ _ _ (by rcases hc with hc | rfl; have := hFl c hc; have := hB.size; omega; exact bA.lt)⟩ ⟨⟨⟨v, bS.alloc _, hown.alloc _, trivial⟩, bF.alloc _, bA.alloc _, hpl⟩, hB.alloc hB.size _⟩ ⟨W.heap.size, heap_alloc_new W _, rfl⟩
  case body =>
    rintro l' pre x a' W hl' ⟨r, hr⟩ ⟨⟨⟨v, bS, hown, _⟩, bF, bA, hpl⟩, hB⟩ ⟨q, hq, rfl⟩ hlt
    obtain ⟨⟨xi, xr⟩, hx⟩ := x
    have cF := bF.cell
    obtain ⟨d0, d1, d2, d3, d4, d5, _, _, _, _, _, _⟩ := blk6 hq
    have hpre : (List.map Subtype.val pre).length ≤ 48 := by simp; omega
    obtain ⟨L, hL⟩ : ∃ L, L = (List.map Subtype.val pre).length := ⟨_, rfl⟩
    rw [← hL] at hown hpre
    replace hL := hide hL
    obtain ⟨ao, co, rfl⟩ := own_shape hown
    have cS := bS.cell
    simp only [Rc.val]
    gi_wp2_with (gi_at_builtin; refine wpListIn_append_own_at _ rfl _ _ 51 rfl w.heap.size 54 i54 (.agg #[.int .i64 0, .int .i64 0, .int .i64 0, .int .i64 0, .int .i64 0, .int .i64 0]) 6 48 Try.underlying51 hi hz hs hb rfl (by decide) _ _ _ rfl (hown.alloc _) ⟨W.heap.size, 0, none⟩ 1 1 [.int .i64 (i : Int), .int .i64 (xi : Int), .int .i64 xr.k, .int .i64 xr.o, .int .i64 xr.s, .int .i64 xr.r] rfl rfl (cell_six_new _ _ _ _ _ _ _ _) (by simp [Value.oneCell']) (by unfold maxLen; omega) (by omega) (by have := hB.size; simp; omega) ?_; intro v' w3 hown3 hg3 _ _
                 obtain ⟨gg, cap, rfl⟩ := ownsRow_succ hown3
                 obtain ⟨b1, b2, b3, b4, b5⟩ := Boxed.appended bS (by decide) hown hB.size (by omega) hown3 hg3
                 have b6 := (bF.alloc (.cells #[.int .i64 (i : Int), .int .i64 (xi : Int), .int .i64 xr.k, .int .i64 xr.o, .int .i64 xr.s, .int .i64 xr.r] 54)).kept hg3 (bF.not_row (by decide) hown)
                 have b7 := (bA.alloc (.cells #[.int .i64 (i : Int), .int .i64 (xi : Int), .int .i64 xr.k, .int .i64 xr.o, .int .i64 xr.s, .int .i64 xr.r] 54)).kept hg3 (bA.not_row (by decide) hown)
                 have cB := b1.cell
                 have fB := b1.frozen)
    refine ⟨b4.from _, ⟨b5.size, fun c hc => ?_⟩, ⟨⟨_, b2, ?_⟩, b6.other (by omega) _, b7.other (by omega) _, by simp; omega⟩, hB.trans b5⟩
    · rcases hc with hc | rfl
      · exact b5.block c (hFl c hc)
      · exact (b7.other (by omega) _).trans bA.symm
    · rw [List.map_append, List.map_cons, List.map_nil, encHs_snoc, show (pre ++ [(⟨(xi, xr), hx⟩ : { x : Nat × Rc // l[x.1]? = some (some x.2) })]).length = L + 1 by rw [hL.out]; simp]
      exact b3
  case done =>
    rintro D ys W hD hys ⟨⟨⟨v, bS, hown, _⟩, bF, bA, hpl⟩, hB⟩ hK
    rw [hys] at hown
    obtain ⟨ao, co, rfl⟩ := own_shape hown
    have cS := bS.cell
    gi_wp2
    refine ⟨by simp, .inl ⟨_, _, rfl, run_takeDeferred hK, ?_⟩⟩
    refine ⟨_, results_tmp2 rfl _ _ _, _, rfl, ?_, hB.trans (belowK_b (w := w) (Nat.le_refl _) W D _ _ (by omega) hK rfl rfl)⟩
    exact ownsRow_putObj hown _ hK rfl
  case stop =>
    rintro D c pre W _ _ h _
    exact h.elim
end Go.Proofs.Ytimfgjndgfjjgaa
