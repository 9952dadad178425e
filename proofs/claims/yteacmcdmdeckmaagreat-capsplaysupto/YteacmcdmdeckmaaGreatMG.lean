import Derived.Test.YteacmcdmdeckmaaGreatMF
namespace Go.Proofs.YteacmcdmdeckmaaGreat
open Go.RowKit

/-- what Find looks for in a list -/
def mt (e ko so rt : Int) (y : Rw) : Bool := decide ((y.1.1 : Int) = e) && wants ko so rt y.2
def DFnd (e ko so rt : Int) (K : List Rw) (v : Int) : Prop :=
  (v = -1 ∧ ∀ y ∈ K, mt e ko so rt y = false) ∨ ∃ (i : Nat) (y : Rw), K[i]? = some y ∧ mt e ko so rt y = true ∧ (∀ j y', j < i → K[j]? = some y' → mt e ko so rt y' = false) ∧ v = (y.1.2 : Int)
theorem mt_next {e ko so rt : Int} {K : List Rw} {k : Nat} {y : Rw} (hy : K[k]? = some y) (h : ∀ j y, j < k → K[j]? = some y → mt e ko so rt y = false) (hn : mt e ko so rt y = false) : ∀ j y, j < k + 1 → K[j]? = some y → mt e ko so rt y = false := by
  intro j z hj hz
  by_cases e1 : j = k
  · subst e1; rw [hy] at hz; cases hz; exact hn
  · exact h j z (by omega) hz
theorem dfnd_none {bk : List (Option Lst)} {K : List Rw} {e ko so rt v : Int} (ha : Ag bk K) (hn : look bk e = none) (h : DFnd e ko so rt K v) : v = -1 := by
  rcases h with ⟨h, _⟩ | ⟨i, y, hy, hm, _, _⟩
  · exact h
  · have hat := ha.get hy
    simp only [mt, Bool.and_eq_true, decide_eq_true_eq] at hm
    rw [hm.1] at hat
    unfold atB at hat
    rw [hn] at hat
    cases hat
theorem at_prs {bk : List (Option Lst)} {i : Nat} {l : Lst} (hl : bk[i]? = some (some l)) (b : Nat) (r : Rc) : atB bk (i : Int) (b : Int) = some r ↔ (b, r) ∈ prs l 0 := by
  rw [prs_mem]
  unfold atB
  rw [look_nat, hl]
  show look l (b : Int) = some r ↔ _
  rw [look_nat]
  cases l[b]? with
  | none => simp
  | some o => cases o <;> simp
theorem dfnd_eq {bk : List (Option Lst)} {K : List Rw} {ko so rt v v' : Int} {i : Nat} {l : Lst} (ha : Ag bk K) (hl : bk[i]? = some (some l)) (h : Fnd (wants ko so rt) l v) (h' : DFnd (i : Int) ko so rt K v') : v' = v := by
  have hin : ∀ {b : Nat} {r : Rc}, (b, r) ∈ prs l 0 → ((i, b), r) ∈ K := fun {b r} hm => (ha.mem i b r).2 ((at_prs hl b r).2 hm)
  rcases h with ⟨rfl, h1⟩ | ⟨p0, q, k, r, hp, hr, h1, rfl⟩
  · rcases h' with ⟨rfl, _⟩ | ⟨j, y, hy, hm, _, _⟩
    · rfl
    · exfalso
      obtain ⟨⟨a, b⟩, r⟩ := y
      simp only [mt, Bool.and_eq_true, decide_eq_true_eq] at hm
      obtain rfl : a = i := by have := hm.1; omega
      have := h1 _ ((at_prs hl b r).1 (ha.get hy))
      simp only at this
      rw [this] at hm; exact absurd hm.2 (by simp)
  · have hk : (k, r) ∈ prs l 0 := by rw [hp]; simp
    obtain ⟨jk, hjk⟩ := List.getElem?_of_mem (hin hk)
    have hmk : mt (i : Int) ko so rt ((i, k), r) = true := by simp [mt, hr]
    rcases h' with ⟨rfl, h2⟩ | ⟨j, y, hy, hm, h2, rfl⟩
    · have := h2 _ (List.mem_of_getElem? hjk)
      rw [hmk] at this; cases this
    · obtain ⟨⟨a, b⟩, r'⟩ := y
      have hm' := hm
      simp only [mt, Bool.and_eq_true, decide_eq_true_eq] at hm'
      obtain rfl : a = i := by have := hm'.1; omega
      have hb := (at_prs hl b r').1 (ha.get hy)
      simp only
      rcases Nat.lt_trichotomy b k with hlt | rfl | hlt
      · exfalso
        have hs := prsL_sorted (l.drop 0) 0
        change (prs l 0).Pairwise (fun a b => a.1 < b.1) at hs
        rw [hp] at hb hs
        rcases List.mem_append.1 hb with hb | hb
        · have := h1 _ hb
          simp only at this
          rw [this] at hm'; exact absurd hm'.2 (by simp)
        · rcases List.mem_cons.1 hb with e1 | hb
          · cases e1; omega
          · have := (List.pairwise_cons.1 (List.pairwise_append.1 hs).2.1).1 _ hb
            simp only at this
            omega
      · rfl
      · exfalso
        have hlt2 : jk < j := by
          have hp2 := List.pairwise_iff_getElem.1 ha.srt
          obtain ⟨hi1, ei1⟩ := List.getElem?_eq_some_iff.1 hy
          obtain ⟨hj1, ej1⟩ := List.getElem?_eq_some_iff.1 hjk
          rcases Nat.lt_trichotomy j jk with h3 | rfl | h3
          · have := hp2 j jk hi1 hj1 h3
            rw [ei1, ej1] at this
            unfold PLt at this; simp only at this; omega
          · rw [hy] at hjk; cases hjk; omega
          · exact h3
        have := h2 jk _ hlt2 hjk
        rw [hmk] at this; cases this
section
variable {w : World} {R : Nat} {bk bk' : List (Option Lst)} {F : Nat → Prop} {v : Value} {K : List Rw}
set_option maxHeartbeats 3200000 in
theorem findD_bad (e ko so rt : Int) (hrt : ¬ (0 ≤ rt ∧ rt ≤ 15)) : Calls Tryz.prog 25 #[tp R, .int .i64 e, .int .i64 ko, .int .i64 so, .int .i64 rt] w fun x w' => x = .returned (.int .i64 (-1)) ∧ w' = w := by
  by_cases h0 : rt < 0
  · have hd : decide (rt < 0) = true := by simp [h0]
    clear hrt h0
    go_enter Tryz.func25, Tryz.ntmps25
    go_wp2
    go_ret
    exact ⟨rfl, rfl⟩
  · have hd : decide (rt < 0) = false := by simp; omega
    have hd2 : decide (15 < rt) = true := by simp; omega
    clear hrt h0
    go_enter Tryz.func25, Tryz.ntmps25
    go_wp2
    go_ret
    exact ⟨rfl, rfl⟩
set_option maxRecDepth 100000 in
set_option maxHeartbeats 3200000 in
theorem findD_any (h : RbAt w R v bk K) (ha : Ag bk K) (hw : Wb bk) (hrts : ∀ e s r, atB bk e s = some r → Rt r) (e ko so : Int) (rt : Nat) (hrt : rt < 16) : Calls Tryz.prog 25 #[tp R, .int .i64 e, .int .i64 ko, .int .i64 so, .int .i64 (rt : Int)] w fun x w' => ∃ u : Int, x = .returned (.int .i64 u) ∧ DFnd e ko so (rt : Int) K u ∧ Below w.heap.size w w' := by
  have HR := hide h
  have HRt : Hid (∀ y ∈ K, Rt y.2) := hide (fun y hy => hrts _ _ _ ((ha.mem y.1.1 y.1.2 y.2).1 hy))
  have hl := ha.len hw.p8
  obtain ⟨a, c, hv⟩ := h.shape
  obtain ⟨L, hL⟩ : ∃ L, K.length = L := ⟨_, rfl⟩
  rw [hL] at hv hl
  have HL := hide hL
  subst hv
  have hd0 : decide ((rt : Int) < 0) = false := by simp
  have hd15 : decide ((15 : Int) < (rt : Int)) = false := by simp; omega
  have hd15' : decide (15 < rt) = false := by simp; omega
  clear h hL hw ha hrts
  go_enter Tryz.func25, Tryz.ntmps25
  go_wp2
  go_loopw [11] (fun x wr => ∃ k : Nat, k ≤ L ∧ x = .int .i64 (k : Int) ∧ Hid (Below w.heap.size w wr ∧ ∀ j y, j < k → K[j]? = some y → mt e ko so (rt : Int) y = false)) (fun x _ => L - (intOf x).toNat)
  case atStart => exact ⟨0, by omega, rfl, hide ⟨Below.refl _ _, fun j y hj => by omega⟩⟩
  case round =>
  obtain ⟨k, hk, rfl, KK⟩ := hrel
  have hRr := HR.out.below KK.out.1
  have c16 := hRr.rowc
  by_cases hlt : k < L
  · have hd : decide ((k : Int) < (L : Int)) = true := by simp; omega
    have hki : (k : Int) < (L : Int) := by omega
    obtain ⟨⟨⟨ya, yb⟩, yr⟩, hy⟩ : ∃ y, K[k]? = some y := ⟨_, List.getElem?_eq_getElem (by rw [HL.out]; exact hlt)⟩
    obtain ⟨g, c', hv, hrow⟩ := hRr.at hy
    rw [HL.out] at hv
    cases hv
    obtain ⟨r0, r1, r2, r3, r4, r5, r6, r7⟩ := hrow
    simp only at r0 r1 r2 r3 r4 r5 r6 r7
    have HY := hide hy
    have HPre := hide KK.out.2
    have hrr := HRt.out _ (List.mem_of_getElem? hy)
    obtain ⟨q, hq⟩ : ∃ q : Nat, yr.r = (q : Int) := ⟨yr.r.toNat, by have := hrr.1; simp only at this; omega⟩
    have hq16 : q < 16 := by have := hrr.2; simp only at this; omega
    obtain ⟨Br, hBr⟩ : ∃ B, B = wr.heap.size := ⟨_, rfl⟩
    have hba := (Below.refl wr.heap.size wr).alloc (Nat.le_refl _) (.cells #[.int .i64 (ya : Int), .int .i64 (yb : Int), .int .i64 yr.k, .int .i64 yr.o, .int .i64 yr.s, .int .i64 yr.r, .int .i64 yr.e, .int .i64 yr.t] 60)
    have hyb : (wr.alloc (.cells #[.int .i64 (ya : Int), .int .i64 (yb : Int), .int .i64 yr.k, .int .i64 yr.o, .int .i64 yr.s, .int .i64 yr.r, .int .i64 yr.e, .int .i64 yr.t] 60)).heap[Br]? = some (.cells #[.int .i64 (ya : Int), .int .i64 (yb : Int), .int .i64 yr.k, .int .i64 yr.o, .int .i64 yr.s, .int .i64 yr.r, .int .i64 yr.e, .int .i64 yr.t] 60 (0, 0)) := by rw [hBr]; exact heap_alloc_last _ _
    have HB1 : Hid (Below w.heap.size w (wr.alloc (.cells #[.int .i64 (ya : Int), .int .i64 (yb : Int), .int .i64 yr.k, .int .i64 yr.o, .int .i64 yr.s, .int .i64 yr.r, .int .i64 yr.e, .int .i64 yr.t] 60))) := hide (KK.out.1.trans (hba.mono KK.out.1.size))
    have Hq := hide hq
    clear hRr hy hba KK hrr hq
    go_upto_region 7 with fail
    rw [← hBr]
    generalize wr.alloc (.cells #[.int .i64 (ya : Int), .int .i64 (yb : Int), .int .i64 yr.k, .int .i64 yr.o, .int .i64 yr.s, .int .i64 yr.r, .int .i64 yr.e, .int .i64 yr.t] 60) = W1 at *
    clear hBr r0 r1 r2 r3 r4 r5 r6 r7 c16
    have y0 : W1.cell? ⟨Br, 0, none⟩ = some (.int .i64 (ya : Int)) := by rw [cell_of_row _ _ _ _ _ _ hyb]; rfl
    have y1 : W1.cell? ⟨Br, 1, none⟩ = some (.int .i64 (yb : Int)) := by rw [cell_of_row _ _ _ _ _ _ hyb]; rfl
    have y2 : W1.cell? ⟨Br, 2, none⟩ = some (.int .i64 yr.k) := by rw [cell_of_row _ _ _ _ _ _ hyb]; rfl
    have y4 : W1.cell? ⟨Br, 4, none⟩ = some (.int .i64 yr.s) := by rw [cell_of_row _ _ _ _ _ _ hyb]; rfl
    have y5 : W1.cell? ⟨Br, 5, none⟩ = some (.int .i64 (q : Int)) := by rw [cell_of_row _ _ _ _ _ _ hyb, ← Hq.out]; rfl
    clear hyb
    by_cases t1 : (ya : Int) = e
    · have t1' : ((ya : Int) == e) = true := by simp [t1]
      by_cases t2 : yr.k = ko
      · have t2' : (yr.k == ko) = true := by simp [t2]
        by_cases t3 : yr.s = so
        · have t3' : (yr.s == so) = true := by simp [t3]
          have HAm := hide (amongR_any W1 rt q hrt hq16)
          cases hb : (bits .andNot .i64 (rt : Int) (q : Int) == 0) with
          | true =>
            rw [hb] at HAm
            have HF : Hid (DFnd e ko so (rt : Int) K (yb : Int)) := hide (.inr ⟨k, _, HY.out, by simp only [mt, wants, t1, t2, t3, Hq.out, hb]; rfl, HPre.out, rfl⟩)
            clear t1 t2 t3 hb
            go_wp2_with fail
            refine HAm.out.mono ?_
            rintro e1 w2 ⟨rfl, hw2⟩
            subst hw2
            go_wp2
            go_ret
            exact ⟨_, rfl, HF.out, HB1.out⟩
          | false =>
            rw [hb] at HAm
            have HNx : Hid (Below w.heap.size w W1 ∧ ∀ j y, j < k + 1 → K[j]? = some y → mt e ko so (rt : Int) y = false) := hide ⟨HB1.out, mt_next HY.out HPre.out (by simp only [mt, wants, Hq.out, hb, Bool.and_false])⟩
            clear t1 t2 t3 hb
            go_wp2_with fail
            refine HAm.out.mono ?_
            rintro e1 w2 ⟨rfl, hw2⟩
            subst hw2
            go_wp2
            go_roundw
            case rel => first | exact ⟨k + 1, by omega, by go_num, HNx⟩ | ((repeat apply Exists.intro); refine ⟨?_, rfl⟩; exact ⟨k + 1, by omega, by go_num, HNx⟩)
            case measure => simp [intOf]; omega
        · have t3' : (yr.s == so) = false := by rw [beq_eq_false_iff_ne]; exact t3
          have HNx : Hid (Below w.heap.size w W1 ∧ ∀ j y, j < k + 1 → K[j]? = some y → mt e ko so (rt : Int) y = false) := hide ⟨HB1.out, mt_next HY.out HPre.out (by simp [mt, wants, t3])⟩
          clear t1 t2 t3
          go_wp2
          go_roundw
          case rel => first | exact ⟨k + 1, by omega, by go_num, HNx⟩ | ((repeat apply Exists.intro); refine ⟨?_, rfl⟩; exact ⟨k + 1, by omega, by go_num, HNx⟩)
          case measure => simp [intOf]; omega
      · have t2' : (yr.k == ko) = false := by rw [beq_eq_false_iff_ne]; exact t2
        have HNx : Hid (Below w.heap.size w W1 ∧ ∀ j y, j < k + 1 → K[j]? = some y → mt e ko so (rt : Int) y = false) := hide ⟨HB1.out, mt_next HY.out HPre.out (by simp [mt, wants, t2])⟩
        clear t1 t2
        go_wp2
        go_roundw
        case rel => first | exact ⟨k + 1, by omega, by go_num, HNx⟩ | ((repeat apply Exists.intro); refine ⟨?_, rfl⟩; exact ⟨k + 1, by omega, by go_num, HNx⟩)
        case measure => simp [intOf]; omega
    · have t1' : ((ya : Int) == e) = false := by rw [beq_eq_false_iff_ne]; exact t1
      have HNx : Hid (Below w.heap.size w W1 ∧ ∀ j y, j < k + 1 → K[j]? = some y → mt e ko so (rt : Int) y = false) := hide ⟨HB1.out, mt_next HY.out HPre.out (by simp [mt, wants, t1])⟩
      clear t1
      go_wp2
      go_roundw
      case rel => first | exact ⟨k + 1, by omega, by go_num, HNx⟩ | ((repeat apply Exists.intro); refine ⟨?_, rfl⟩; exact ⟨k + 1, by omega, by go_num, HNx⟩)
      case measure => simp [intOf]; omega
  · obtain rfl : k = L := by omega
    have hd : decide ((k : Int) < (k : Int)) = false := by simp
    have HF : Hid (DFnd e ko so (rt : Int) K (-1) ∧ Below w.heap.size w wr) := hide ⟨.inl ⟨rfl, fun y hy => by
      obtain ⟨j, hj⟩ := List.getElem?_of_mem hy
      exact KK.out.2 j y (by rw [← HL.out]; exact (List.getElem?_eq_some_iff.1 hj).1) hj⟩, KK.out.1⟩
    clear hRr KK
    go_wp2
    go_ret
    exact ⟨_, rfl, HF.out.1, HF.out.2⟩
end
end Go.Proofs.YteacmcdmdeckmaaGreat

namespace Go.Proofs.YteacmcdmdeckmaaGreat
open Go.RowKit Go.Shelf

set_option maxHeartbeats 1600000 in
theorem room_none (w : World) (F : Nat → Prop) (B : Nat) (bk : List (Option Lst)) (h : Book w F B bk) (e : Int) (hn : look bk e = none) :
    Calls Tryz.prog 22 #[.pointer (some ⟨B, 0, none⟩), .int .i64 e] w fun x w' => x = .returned (.int .i64 0) ∧ w' = w := by
  obtain ⟨T, G, m, fs, h⟩ := h
  have c0 := h.cell
  have HG := hide (getL_any _ G T m h.tab e)
  rcases h.cases e with ⟨h1, h2⟩ | ⟨i, b, l, rfl, h1, h2, h3, h4, h5, h6⟩
  · rw [h1] at HG
    simp only [ptr, Option.isSome_none] at HG
    clear h h1 h2 hn
    go_enter Tryz.func22, Tryz.ntmps22
    go_wp2_with fail
    refine HG.out.mono ?_
    rintro e1 w1 ⟨rfl, rfl⟩
    go_wp2
    go_ret
    exact ⟨rfl, rfl⟩
  · exact absurd hn (by simp_all)
set_option maxHeartbeats 3200000 in
theorem find_none (w : World) (F : Nat → Prop) (B : Nat) (bk : List (Option Lst)) (h : Book w F B bk) (e k s rt : Int) (hn : look bk e = none) :
    Calls Tryz.prog 24 #[.pointer (some ⟨B, 0, none⟩), .int .i64 e, .int .i64 k, .int .i64 s, .int .i64 rt] w fun x w' => x = .returned (.int .i64 (-1)) ∧ Below w.heap.size w w' := by
  have hb0 : Below w.heap.size w ((w.alloc (.cells #[.int .i64 rt] 3)).alloc (.cells #[.int .i64 0] 3)) := ((Below.refl _ w).alloc (Nat.le_refl _) _).alloc (by simp) _
  obtain ⟨T, G, m, fs, hA⟩ := h.below hb0
  have c0 := hA.cell
  have HG := hide (getL_any _ G T m hA.tab e)
  have bR : Boxed ((w.alloc (.cells #[.int .i64 rt] 3)).alloc (.cells #[.int .i64 0] 3)) w.heap.size 3 (.int .i64 rt) := (Boxed.new w 3 (.int .i64 rt)).alloc _
  have bO : Boxed ((w.alloc (.cells #[.int .i64 rt] 3)).alloc (.cells #[.int .i64 0] 3)) (w.heap.size + 1) 3 (.int .i64 0) := by
    have h9 := Boxed.new (w.alloc (.cells #[.int .i64 rt] 3)) 3 (.int .i64 0)
    rw [World.size_alloc] at h9
    exact h9
  have hcs := hA.cases e
  clear hA h
  rcases hcs with ⟨h1, h2⟩ | ⟨i, b, l, rfl, h1, h2, h3, h4, h5, h6⟩
  · rw [h1] at HG
    simp only [ptr, Option.isSome_none] at HG
    clear h1 h2 hn
    go_enter Tryz.func24, Tryz.ntmps24
    go_wp2_with fail
    generalize ((w.alloc (.cells #[.int .i64 rt] 3)).alloc (.cells #[.int .i64 0] 3)) = w1 at *
    have cR := bR.cell
    refine HG.out.mono ?_
    rintro e1 w9 ⟨rfl, hw9⟩
    subst hw9
    have cQ := bO.cell
    have fQ := bO.frozen
    have hS := (bO.set (.int .i64 (-1))).cell
    have HB1 := hide (hb0.setCell (p := ⟨w.heap.size + 1, 0, none⟩) (by simp) (.int .i64 (-1)))
    clear hb0 bR
    go_wp2
    refine bodyPost_ret (show _ = Result.ok (.int .i64 (-1)) _ from ?_) rfl ⟨rfl, HB1.out⟩
    simp [results, Tryz.f24, go_sem, hS]
  · exact absurd hn (by simp_all)
set_option maxHeartbeats 3200000 in
theorem find_bad (w : World) (F : Nat → Prop) (B : Nat) (bk : List (Option Lst)) (h : Book w F B bk) (e k s rt : Int) (hrt : ¬ (0 ≤ rt ∧ rt ≤ 15)) :
    Calls Tryz.prog 24 #[.pointer (some ⟨B, 0, none⟩), .int .i64 e, .int .i64 k, .int .i64 s, .int .i64 rt] w fun x w' => x = .returned (.int .i64 (-1)) ∧ Below w.heap.size w w' := by
  have hb0 : Below w.heap.size w ((w.alloc (.cells #[.int .i64 rt] 3)).alloc (.cells #[.int .i64 0] 3)) := ((Below.refl _ w).alloc (Nat.le_refl _) _).alloc (by simp) _
  obtain ⟨T, G, m, fs, hA⟩ := h.below hb0
  have c0 := hA.cell
  have HG := hide (getL_any _ G T m hA.tab e)
  have bR : Boxed ((w.alloc (.cells #[.int .i64 rt] 3)).alloc (.cells #[.int .i64 0] 3)) w.heap.size 3 (.int .i64 rt) := (Boxed.new w 3 (.int .i64 rt)).alloc _
  have bO : Boxed ((w.alloc (.cells #[.int .i64 rt] 3)).alloc (.cells #[.int .i64 0] 3)) (w.heap.size + 1) 3 (.int .i64 0) := by
    have h9 := Boxed.new (w.alloc (.cells #[.int .i64 rt] 3)) 3 (.int .i64 0)
    rw [World.size_alloc] at h9
    exact h9
  have hcs := hA.cases e
  clear hA h
  have HAr := hide (fun W => areRights_any W rt)
  have hdr : decide (0 ≤ rt ∧ rt ≤ 15) = false := by rw [decide_eq_false_iff_not]; exact hrt
  rw [hdr] at HAr
  rcases hcs with ⟨h1, h2⟩ | ⟨i, b, l, rfl, h1, h2, h3, h4, h5, h6⟩
  · rw [h1] at HG
    simp only [ptr, Option.isSome_none] at HG
    clear h1 h2 hdr hrt HAr
    go_enter Tryz.func24, Tryz.ntmps24
    go_wp2_with fail
    generalize ((w.alloc (.cells #[.int .i64 rt] 3)).alloc (.cells #[.int .i64 0] 3)) = w1 at *
    have cR := bR.cell
    refine HG.out.mono ?_
    rintro e1 w9 ⟨rfl, hw9⟩
    subst hw9
    have cQ := bO.cell
    have fQ := bO.frozen
    have hS := (bO.set (.int .i64 (-1))).cell
    have HB1 := hide (hb0.setCell (p := ⟨w.heap.size + 1, 0, none⟩) (by simp) (.int .i64 (-1)))
    clear hb0 bR
    go_wp2
    refine bodyPost_ret (show _ = Result.ok (.int .i64 (-1)) _ from ?_) rfl ⟨rfl, HB1.out⟩
    simp [results, Tryz.f24, go_sem, hS]
  · have hlm : look m (i : Int) = some b := by rw [look_nat, h1]; rfl
    rw [hlm] at HG
    simp only [ptr, Option.isSome_some] at HG
    clear h1 h2 h3 h4 h5 h6 hdr hrt hlm
    go_enter Tryz.func24, Tryz.ntmps24
    go_wp2_with fail
    generalize ((w.alloc (.cells #[.int .i64 rt] 3)).alloc (.cells #[.int .i64 0] 3)) = w1 at *
    have cR := bR.cell
    refine HG.out.mono ?_
    rintro e1 w9 ⟨rfl, hw9⟩
    subst hw9
    go_wp2_with fail
    refine (HAr.out _).mono ?_
    rintro e1 w9 ⟨rfl, hw9⟩
    subst hw9
    have cQ := bO.cell
    have fQ := bO.frozen
    have hS := (bO.set (.int .i64 (-1))).cell
    have HB1 := hide (hb0.setCell (p := ⟨w.heap.size + 1, 0, none⟩) (by simp) (.int .i64 (-1)))
    clear hb0 bR
    go_wp2
    refine bodyPost_ret (show _ = Result.ok (.int .i64 (-1)) _ from ?_) rfl ⟨rfl, HB1.out⟩
    simp [results, Tryz.f24, go_sem, hS]
set_option maxHeartbeats 3200000 in
theorem up_none (w : World) (F : Nat → Prop) (B : Nat) (bk : List (Option Lst)) (h : Book w F B bk) (e s : Int) (hn : atB bk e s = none) (inside : Value) :
    Calls Tryz.prog 13 #[.pointer (some ⟨B, 0, none⟩), .int .i64 e, .int .i64 s, inside] w fun x w' => x = .returned (.tuple #[.agg #[.int .i64 (-1), .int .i64 (-1)], .int .i64 (lcode bk e s)]) ∧ Below w.heap.size w w' := by
  have hb0 := (Below.refl w.heap.size w).alloc (Nat.le_refl _) (.cells #[.int .i64 0, .int .i64 0] 48)
  have HL := hide (look_any _ F B bk (h.below hb0) e s)
  have hZ := heap_alloc_new w (.cells #[.int .i64 0, .int .i64 0] 48)
  have HB0 := hide hb0
  have hc : (lcode bk e s != 0) = true := by rcases lcode_none hn with h | h <;> rw [h] <;> decide
  rw [hn] at HL
  generalize lcode bk e s = c at *
  simp only [Rc.val, Rc.zero, Option.getD_none] at *
  clear hn h hb0
  go_enter Tryz.func13, Tryz.ntmps13
  go_wp2_with fail
  generalize hgw : w.alloc (.cells #[.int .i64 0, .int .i64 0] 48) = w0 at *
  clear hgw
  refine HL.out.mono ?_
  rintro e1 w1 ⟨rfl, hb1⟩
  have hlt := (Array.getElem?_eq_some_iff.1 hZ).1
  have hZ1 := (hb1.block w.heap.size hlt).trans hZ
  have hb1' := HB0.out.trans (hb1.mono HB0.out.size)
  clear hb1 HL hZ
  go_upto_region 3 with fail
  have hZ2 := (Below.heap_alloc w1 (.cells #[.int .i64 0, .int .i64 0, .int .i64 0, .int .i64 0, .int .i64 0, .int .i64 0] 65) w.heap.size (Array.getElem?_eq_some_iff.1 hZ1).1).trans hZ1
  have HB2 := hide (hb1'.alloc hb1'.size (.cells #[.int .i64 0, .int .i64 0, .int .i64 0, .int .i64 0, .int .i64 0, .int .i64 0] 65))
  generalize w1.alloc (.cells #[.int .i64 0, .int .i64 0, .int .i64 0, .int .i64 0, .int .i64 0, .int .i64 0] 65) = w2 at *
  clear hZ1 hb1'
  go_wp2_with fail
  refine (nowhere_any w2).mono ?_
  rintro e1 w3 ⟨rfl, hb3⟩
  have hZ3 := (hb3.block w.heap.size (Array.getElem?_eq_some_iff.1 hZ2).1).trans hZ2
  have HB3 := hide (HB2.out.trans (hb3.mono HB2.out.size))
  obtain ⟨d0, d1, f0, f1⟩ := blk2 hZ3
  have HS := hide (fun a b => set2a hZ3 a b)
  clear hZ2 hZ3 hb3 HB2
  go_wp2
  refine bodyPost_ret (results_row2 rfl _ _ w.heap.size 48 #[.int .i64 (-1), .int .i64 (-1)] (0, 0) _ rfl (HS.out _ _) Tryz.underlying48 rfl (by kernel_rfl)) rfl ?_
  exact ⟨rfl, (HB3.out.setCell (p := ⟨w.heap.size, 0, none⟩) (Nat.le_refl _) _).setCell (p := ⟨w.heap.size, 1, none⟩) (Nat.le_refl _) _⟩
theorem look_fresh (e : Int) : look (List.replicate 16 (none : Option Lst)) e = none := by
  by_cases h0 : 0 ≤ e
  · obtain ⟨k, rfl⟩ : ∃ k : Nat, e = (k : Int) := ⟨e.toNat, by omega⟩
    rw [look_nat, List.getElem?_replicate]
    split <;> rfl
  · cases hq : look (List.replicate 16 (none : Option Lst)) e with
    | none => rfl
    | some l =>
      obtain ⟨i, e1, _⟩ := look_open hq
      omega
set_option maxHeartbeats 1600000 in
/-- a new book of the document -/
theorem newD_any (w : World) : Calls Tryz.prog 5 #[] w fun x w' => ∃ R F, x = .returned (tp R) ∧ RbA R (List.replicate 16 none) w' F ∧ (∀ b, F b → w.heap.size ≤ b) ∧ Below w.heap.size w w' := by
  have hb : Below w.heap.size w (w.alloc (.cells (List.replicate 16 (Value.bool false) ++ [Value.slice none 0 0]).toArray 43)) := (Below.refl _ _).alloc (Nat.le_refl _) _
  have HF : Hid (∃ F, RbA w.heap.size (List.replicate 16 none) (w.alloc (.cells (List.replicate 16 (Value.bool false) ++ [Value.slice none 0 0]).toArray 43)) F ∧ ∀ b, F b → w.heap.size ≤ b) := by
    refine hide ⟨fun b => b = w.heap.size, ⟨.slice none 0 0, [], ⟨?_, World.ownsRow_nil _ _ _ _, by simp [Value.ownBlock]⟩, ⟨List.Pairwise.nil, fun a b r => ?_⟩, fun b => ?_⟩, fun b e => by rw [e]; exact Nat.le_refl _⟩
    · rw [heap_alloc_last]
      have : flg (List.replicate 16 none) = List.replicate 16 (Value.bool false) := by
        unfold flg
        simp only [look_fresh]
        rfl
      rw [this]
    · unfold atB
      rw [look_fresh]
      simp
    · simp [Value.ownBlock]
  go_enter Tryz.func5, Tryz.ntmps5
  go_wp2
  go_ret
  obtain ⟨F, h1, h2⟩ := HF.out
  exact ⟨_, F, rfl, h1, h2, hb⟩
end Go.Proofs.YteacmcdmdeckmaaGreat

namespace Go.Proofs.YteacmcdmdeckmaaGreat
open Go.RowKit

theorem encG_at : ∀ (K : List Rw) (i j : Nat) (x : Rw) (v : Value), K[i]? = some x → (encH (x.1.1 : Int) (x.1.2, x.2))[j]? = some v → (encG K)[i * 6 + j]? = some v
  | [], i, j, x, v, h, _ => by simp at h
  | y :: r, 0, j, x, v, h1, h2 => by
    simp at h1; subst h1
    have hj : j < 6 := by have := (List.getElem?_eq_some_iff.1 h2).1; simpa [encH] using this
    show (encH (y.1.1 : Int) (y.1.2, y.2) ++ encG r)[0 * 6 + j]? = _
    rw [List.getElem?_append_left (by simp [encH]; omega), ← h2]; congr 1; omega
  | y :: r, i + 1, j, x, v, h1, h2 => by
    show (encH (y.1.1 : Int) (y.1.2, y.2) ++ encG r)[(i + 1) * 6 + j]? = _
    rw [List.getElem?_append_right (by simp [encH]; omega), ← encG_at r i j x v (by simpa using h1) h2]
    congr 1; simp [encH]; omega
structure Row6 (w : World) (g i : Nat) (x : Rw) : Prop where
  c0 : w.cell? ⟨g, i * 6, none⟩ = some (.int .i64 (x.1.1 : Int))
  c1 : w.cell? ⟨g, i * 6 + 1, none⟩ = some (.int .i64 (x.1.2 : Int))
  c2 : w.cell? ⟨g, i * 6 + 2, none⟩ = some (.int .i64 x.2.k)
  c3 : w.cell? ⟨g, i * 6 + 3, none⟩ = some (.int .i64 x.2.o)
  c4 : w.cell? ⟨g, i * 6 + 4, none⟩ = some (.int .i64 x.2.s)
  c5 : w.cell? ⟨g, i * 6 + 5, none⟩ = some (.int .i64 x.2.r)
section
variable {w : World} {K : List Rw}
theorem row6_of {base n c g i : Nat} {x : Rw} (h : w.ownsRow base 78 6 (.slice (some ⟨g, 0, none⟩) n c) n (encG K)) (hx : K[i]? = some x) : Row6 w g i x := by
  have hc : ∀ j u, (encH (x.1.1 : Int) (x.1.2, x.2))[j]? = some u → w.cell? ⟨g, i * 6 + j, none⟩ = some u := fun j u hj => by
    have := World.ownsRow.cells h rfl _ _ (encG_at K i j x u hx hj)
    rw [add0] at this; exact this
  exact ⟨hc 0 _ rfl, hc 1 _ rfl, hc 2 _ rfl, hc 3 _ rfl, hc 4 _ rfl, hc 5 _ rfl⟩
theorem own_some {base e size n : Nat} {u : Value} {xs : List Value} (h : w.ownsRow base e size u n xs) (hn : 0 < n) : ∃ g c, u = .slice (some ⟨g, 0, none⟩) n c := by
  obtain ⟨_, ⟨_, h0⟩ | ⟨g, cp, cur, hv, _⟩⟩ := h
  · omega
  · exact ⟨g, cp, hv⟩
set_option maxRecDepth 100000 in
set_option maxHeartbeats 3200000 in
theorem same_any {b1 b2 : Nat} {u1 u2 : Value} (h1 : w.ownsRow b1 78 6 u1 K.length (encG K)) (h2 : w.ownsRow b2 78 6 u2 K.length (encG K)) (hl : K.length ≤ 768) : Calls Tryz.prog 17 #[u1, u2] w fun x w' => x = .returned (.bool true) ∧ Below w.heap.size w w' := by
  have H1 := hide h1
  have H2 := hide h2
  obtain ⟨a1, c1, e1⟩ := own_shape h1
  obtain ⟨a2, c2, e2⟩ := own_shape h2
  obtain ⟨L, hL⟩ : ∃ L, K.length = L := ⟨_, rfl⟩
  rw [hL] at e1 e2 hl
  have HL := hide hL
  subst e1 e2
  clear h1 h2 hL
  go_enter Tryz.func17, Tryz.ntmps17
  go_wp2
  go_loopw [5] (fun x wr => ∃ k : Nat, k ≤ L ∧ x = .int .i64 (k : Int) ∧ Hid (Below w.heap.size w wr)) (fun x _ => L - (intOf x).toNat)
  case atStart => exact ⟨0, by omega, rfl, hide (Below.refl _ _)⟩
  case round =>
  obtain ⟨k, hk, rfl, KK⟩ := hrel
  by_cases hlt : k < L
  · have hd : decide ((k : Int) < (L : Int)) = true := by simp; omega
    have hki : (k : Int) < (L : Int) := by omega
    obtain ⟨⟨⟨ya, yb⟩, yr⟩, hy⟩ : ∃ y, K[k]? = some y := ⟨_, List.getElem?_eq_getElem (by rw [HL.out]; exact hlt)⟩
    have k1 : wr.ownsRow b1 78 6 (.slice a1 L c1) K.length (encG K) := ownsRow_keep H1.out (fun b hb => KK.out.block b (ownsRow_lt H1.out hb))
    have k2 : wr.ownsRow b2 78 6 (.slice a2 L c2) K.length (encG K) := ownsRow_keep H2.out (fun b hb => KK.out.block b (ownsRow_lt H2.out hb))
    rw [HL.out] at k1 k2
    obtain ⟨g1, d1, hv1⟩ := own_some k1 (by omega)
    obtain ⟨g2, d2, hv2⟩ := own_some k2 (by omega)
    cases hv1
    cases hv2
    obtain ⟨p0, p1, p2, p3, p4, p5⟩ := row6_of k1 hy
    obtain ⟨q0, q1, q2, q3, q4, q5⟩ := row6_of k2 hy
    simp only at p0 p1 p2 p3 p4 p5 q0 q1 q2 q3 q4 q5
    have HB : Hid (∀ n, Below w.heap.size w (wr.drewN n)) := hide (fun n => below_dn KK.out)
    clear hy k1 k2 KK
    go_wp2
    go_quiet (fail)
    have HB2 := hide (HB.out nq)
    clear HB p0 p1 p2 p3 p4 p5 q0 q1 q2 q3 q4 q5
    generalize wr.drewN nq = w6 at *
    go_wp2
    go_roundw
    case rel => first | exact ⟨k + 1, by omega, by go_num, HB2⟩ | ((repeat apply Exists.intro); refine ⟨?_, rfl⟩; exact ⟨k + 1, by omega, by go_num, HB2⟩)
    case measure => simp [intOf]; omega
  · obtain rfl : k = L := by omega
    have hd : decide ((k : Int) < (k : Int)) = false := by simp
    go_wp2
    go_ret
    exact ⟨rfl, KK.out⟩
end
end Go.Proofs.YteacmcdmdeckmaaGreat
