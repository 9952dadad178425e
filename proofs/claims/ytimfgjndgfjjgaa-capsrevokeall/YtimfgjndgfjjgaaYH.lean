import Derived.Test.YtimfgjndgfjjgaaYE
namespace Go.Proofs.Ytimfgjndgfjjgaa
open Go.RowKit Go.Shelf

def cel (y : Int × (Nat × Rc)) : Array Value := #[.int .i64 y.1, .int .i64 (y.2.1 : Int), .int .i64 y.2.2.k, .int .i64 y.2.2.o, .int .i64 y.2.2.s, .int .i64 y.2.2.r]
/-- what a round of the line up begins with -/
structure SdAt (w wr : World) (N : Nat) (L : Nat) (l : List (Int × (Nat × Rc))) (f : Int → Int → Nat) (n : Nat) (y : Int × (Nat × Rc)) : Prop where
  mem : y ∈ l
  cnt : n + lowN l f (f y.1 (y.2.1 : Int)) < L
  blk : wr.heap[N]? = some (.cells (cel y) 54 (0, 0))
  bel : Below w.heap.size w wr
set_option maxRecDepth 16000 in
set_option maxHeartbeats 8000000 in
theorem sound_any (w : World) (F : Nat → Prop) (B : Nat) (bk : List (Option Lst)) (h : Book w F B bk) (f : Int → Int → Nat) (hs : Snd bk f) (v : Value) (hv : HeldAt w v (hl bk 16)) :
    Calls Try.prog 21 #[.pointer (some ⟨B, 0, none⟩), v] w fun e w' => e = .returned (.bool true) ∧ Below w.heap.size w w' := by
  have hl768 := hl_len h 16
  have HFind : Hid (∀ e s r, atB bk e s = some r → ∃ i j : Nat, e = i ∧ s = j ∧ (hl bk 16).find? (fnd e s) = some ((i : Int), (j, r))) := hide fun e s r hr => hl_find h.blen hr
  have HMem : Hid (∀ y ∈ hl bk 16, atB bk y.1 (y.2.1 : Int) = some y.2.2) := hide fun y hy => by
    obtain ⟨i, _, e1, e2⟩ := mem_hl hy
    rw [e1]; exact e2
  generalize hl bk 16 = l at *
  obtain ⟨L, hL⟩ : ∃ L, l.length = L := ⟨_, rfl⟩
  have HH := hide hv
  obtain ⟨a, c, hva, hcs⟩ := hv
  have HC := hide hcs
  rw [hL] at hva hl768
  subst hva
  have HL := hide hL
  have HBk := hide h
  have HSn := hide hs
  clear h hs hcs hL
  go_enter Try.func21, Try.ntmps21
  go_wp2_with fail
  go_loopw [5] (fun x wr => ∃ k : Nat, k ≤ L ∧ x = .int .i64 (k : Int) ∧ Hid (Below w.heap.size w wr)) (fun x _ => L - (intOf x).toNat)
  case atStart => exact ⟨0, by omega, rfl, Below.refl _ _⟩
  case round =>
  obtain ⟨k, hk, rfl, K1⟩ := hrel
  by_cases hlt : k < L
  · have hlt' : k < l.length := by rw [HL.out]; exact hlt
    obtain ⟨g, rfl, h2, h3, h4, h5, h6, h7, h8⟩ := HC.out k hlt'
    have hq : ∀ j, wr.cell? ⟨g, j, none⟩ = w.cell? ⟨g, j, none⟩ := fun j => K1.out.cell h2
    have hym : l[k] ∈ l := List.getElem_mem hlt'
    generalize l[k] = y at *
    rw [← hq] at h3 h4 h5 h6 h7 h8
    have hkl : (k : Int) < (L : Int) := by omega
    have hwk : k * 6 + 5 < L * 6 := by omega
    have HS0 : Hid (SdAt w (wr.alloc (.cells (cel y) 54)) wr.heap.size L l f 0 y) := by
      refine hide ⟨hym, ?_, heap_alloc_new _ _, K1.out.alloc K1.out.size _⟩
      have := lowN_len (f := f) hym
      have := HL.out
      omega
    have hNw := K1.out.size
    clear hq hym K1
    go_upto_region 5 with fail
    show Code.wp _ _ _ _ (wr.alloc (.cells (cel y) 54))
    clear h3 h4 h5 h6 h7 h8
    generalize wr.alloc (.cells (cel y) 54) = w1 at *
    generalize wr.heap.size = N at *
    go_wp2_with fail
    go_loopw [7] (fun x wr => ∃ (n : Nat) (y : Int × (Nat × Rc)), x = .int .i64 (n : Int) ∧ n < L ∧ Hid (SdAt w wr N L l f n y)) (fun x _ => L - (intOf x).toNat)
    case atStart => exact ⟨0, y, rfl, by omega, HS0⟩
    case round =>
    clear HS0
    obtain ⟨n, y', rfl, hn, K2⟩ := hrel
    have HB := hide (HBk.out.below K2.out.bel)
    have hat := HMem.out y' K2.out.mem
    have HFm := hide (from_any wr F B bk HB.out y'.1 (y'.2.1 : Int))
    rw [lcode_some hat, show fromB bk y'.1 (y'.2.1 : Int) = (y'.2.2.e, y'.2.2.t) by unfold fromB; rw [hat]] at HFm
    have hdn : ¬ (L : Int) < (n : Int) := by omega
    have HAt := hide hat
    obtain ⟨d0, d1, -, -, -, -, -, -, -, -, -, -⟩ := blk6 K2.out.blk
    clear hat
    go_wp2_with fail
    refine HFm.out.mono ?_
    rintro e w2 ⟨rfl, hb2⟩
    have hb3 := hb2.alloc hb2.size (.cells #[.int .i64 y'.2.2.e, .int .i64 y'.2.2.t] 28)
    have hP := heap_alloc_new w2 (.cells #[.int .i64 y'.2.2.e, .int .i64 y'.2.2.t] 28)
    have hNl := (Array.getElem?_eq_some_iff.1 K2.out.blk).1
    have hN3 := (hb3.block N hNl).trans K2.out.blk
    have HBel := hide (K2.out.bel.trans (hb3.mono K2.out.bel.size))
    have HCt := hide (And.intro K2.out.mem K2.out.cnt)
    clear d0 d1 hb2 HFm K2 HB hb3 hNl
    go_upto_region 12 with fail
    generalize w2.alloc (.cells #[.int .i64 y'.2.2.e, .int .i64 y'.2.2.t] 28) = w3 at *
    generalize w2.heap.size = P at *
    have p0 : w3.cell? ⟨P, 0, none⟩ = some (.int .i64 y'.2.2.e) := by rw [cell_of_row _ _ _ _ _ _ hP]; rfl
    have p1 : w3.cell? ⟨P, 1, none⟩ = some (.int .i64 y'.2.2.t) := by rw [cell_of_row _ _ _ _ _ _ hP]; rfl
    have HN3 := hide hN3
    clear hP hN3
    rcases (HSn.out _ _ _ HAt.out).2 with ⟨e1, e2⟩ | ⟨p, hp, hpar, hflt⟩
    · rw [e1] at p0
      rw [e2] at p1
      clear HN3 HCt HAt e1 e2
      go_wp2
      go_roundw
      case rel =>
        first
          | exact ⟨k + 1, by omega, by go_num, HBel⟩
          | ((repeat apply Exists.intro); refine ⟨?_, rfl⟩; exact ⟨k + 1, by omega, by go_num, HBel⟩)
      case measure => simp [intOf]; omega
    · obtain ⟨i, j, ei, ej, hfind⟩ := HFind.out _ _ _ hp
      have hat := HAt.out
      have HPar := hide hpar
      have HRt := hide (And.intro (HSn.out _ _ _ hp).1 (HSn.out _ _ _ hat).1)
      rw [ei] at p0 hflt
      rw [ej] at p1 hflt
      rw [ei, ej] at hfind hp
      have HMp := hide (List.mem_of_find?_eq_some hfind)
      have HFi := hide hfind
      have HFl := hide hflt
      clear hat hfind hflt hpar hp ei ej
      have hne : ¬ (i : Int) = -1 := by omega
      have HHs := hide (hasH_any w3 _ l (HH.out.below HBel.out) (by rw [HL.out]; omega) (i : Int) (j : Int))
      go_upto_region 13 with fail
      go_wp2_with fail
      refine HHs.out.mono ?_
      rintro e w4 ⟨hor, hb4⟩
      obtain rfl : e = .returned (.tuple #[.agg #[.int .i64 (i : Int), .int .i64 (j : Int), .int .i64 p.k, .int .i64 p.o, .int .i64 p.s, .int .i64 p.r], .bool true]) := by
        rcases hor with ⟨yy, h1, rfl⟩ | ⟨h1, _⟩
        · rw [HFi.out] at h1; cases h1; rfl
        · rw [HFi.out] at h1; cases h1
      clear hor HHs p0 p1
      have hb5 := hb4.alloc hb4.size (.cells #[.int .i64 (i : Int), .int .i64 (j : Int), .int .i64 p.k, .int .i64 p.o, .int .i64 p.s, .int .i64 p.r] 54)
      have hM := heap_alloc_new w4 (.cells #[.int .i64 (i : Int), .int .i64 (j : Int), .int .i64 p.k, .int .i64 p.o, .int .i64 p.s, .int .i64 p.r] 54)
      have hN5 := (hb5.block N (Array.getElem?_eq_some_iff.1 HN3.out).1).trans HN3.out
      have HBel5 := hide (HBel.out.trans (hb5.mono HBel.out.size))
      clear hb4 hb5 HN3 HBel
      go_upto_region 14 with fail
      generalize w4.alloc (.cells #[.int .i64 (i : Int), .int .i64 (j : Int), .int .i64 p.k, .int .i64 p.o, .int .i64 p.s, .int .i64 p.r] 54) = w5 at *
      generalize w4.heap.size = M at *
      obtain ⟨u0, u1, u2, u3, u4, u5, -, -, -, -, -, -⟩ := blk6 hM
      obtain ⟨pk, po, ps, pr⟩ := HPar.out
      obtain ⟨b1, b2⟩ := par_bits HRt.out.1 HRt.out.2 pr
      obtain ⟨d0, d1, d2, d3, d4, d5, f0, f1, f2, f3, f4, f5⟩ := blk6 hN5
      rw [← pk] at d2
      rw [← po] at d3
      rw [← ps] at d4
      have HSet := hide (fun a b c d e f => set6 hN5 a b c d e f)
      have HB6 := hide (fun a b c d e f => below_six HBel5.out hNw a b c d e f)
      have hb1 : decide (bits .and .i64 p.r 4 = 0) = false := by simp [b1]
      have hb2 : ¬ bits .and .i64 y'.2.2.r p.r ≠ y'.2.2.r := fun h => h b2
      have HCn : Hid (n + 1 + lowN l f (f (i : Int) (j : Int)) < L) := by
        refine hide ?_
        have h1 := lowN_lt (f := f) HMp.out HFl.out
        have h2 := HCt.out.2
        simp only at h1
        omega
      have hn2 : n + 1 < L := by have := HCn.out; omega
      clear hM hN5 HBel5 HPar HRt pk po ps pr HFi HCt HFl HAt
      go_wp2
      have HS9 := hide (show SdAt w _ N L l f (n + 1) ((i : Int), (j, p)) from ⟨HMp.out, HCn.out, HSet.out _ _ _ _ _ _, HB6.out _ _ _ _ _ _⟩)
      go_roundw
      case rel =>
        first
          | exact ⟨n + 1, _, by go_num, hn2, HS9⟩
          | ((repeat apply Exists.intro); refine ⟨?_, rfl⟩; exact ⟨n + 1, _, by go_num, hn2, HS9⟩)
      case measure => simp [intOf]; omega
  · have hd : decide ((k : Int) < (L : Int)) = false := by simp; omega
    go_wp2
    go_ret
    exact ⟨rfl, K1.out⟩
end Go.Proofs.Ytimfgjndgfjjgaa
