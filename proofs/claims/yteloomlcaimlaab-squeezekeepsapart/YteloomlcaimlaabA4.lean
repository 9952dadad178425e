import Derived.Test.YteloomlcaimlaabA3
import Derived.OwnWalk
namespace Go.Proofs.Yteloomlcaimlaab
open Go.RowKit
/-- the four bytes at a place -/
def fr (b : List Nat) (x : Nat) : Nat := four (b.drop x)
theorem fr_eq (b : List Nat) (x : Nat) : fr b x = b.getD x 0 + 256 * b.getD (x + 1) 0 + 65536 * b.getD (x + 2) 0 + 16777216 * b.getD (x + 3) 0 := by
  unfold fr four
  simp [List.getD_eq_getElem?_getD]
theorem fr_iff {b : List Nat} (h : Bys b) (x y : Nat) : fr b x = fr b y ↔ ∀ j, j < 4 → b.getD (x + j) 0 = b.getD (y + j) 0 := by
  rw [fr_eq, fr_eq]
  have := h.get x
  have := h.get (x + 1)
  have := h.get (x + 2)
  have := h.get (x + 3)
  have := h.get y
  have := h.get (y + 1)
  have := h.get (y + 2)
  have := h.get (y + 3)
  constructor
  · intro e j hj
    match j, hj with
    | 0, _ => simp only [Nat.add_zero]; omega
    | 1, _ => omega
    | 2, _ => omega
    | 3, _ => omega
  · intro e
    have e0 := e 0 (by omega)
    have e1 := e 1 (by omega)
    have e2 := e 2 (by omega)
    have e3 := e 3 (by omega)
    simp only [Nat.add_zero] at e0
    omega
/-- what is told of a place: the nearest one ahead with the same four bytes, or -1 -/
def BfAt (b : List Nat) (x : Nat) (v : Int) : Prop :=
  (v = -1 ∧ (x + 4 ≤ b.length → ∀ p, p < x → fr b p ≠ fr b x)) ∨ ∃ p : Nat, v = (p : Int) ∧ p < x ∧ x + 4 ≤ b.length ∧ fr b p = fr b x ∧ ∀ q, p < q → q < x → fr b q ≠ fr b x
/-- the last place ahead of k with these four bytes -/
def Lst (b : List Nat) (k c : Nat) (o : Option Nat) : Prop :=
  (o = none ∧ ∀ p, p < k → p + 4 ≤ b.length → fr b p ≠ c) ∨ ∃ p, o = some p ∧ p < k ∧ p + 4 ≤ b.length ∧ fr b p = c ∧ ∀ q, p < q → q < k → q + 4 ≤ b.length → fr b q ≠ c
theorem Lst.step {b : List Nat} {k : Nat} {f : Nat → Option Nat} (h : ∀ c, Lst b k c (f c)) (hk : k + 4 ≤ b.length) : ∀ c, Lst b (k + 1) c (if c = fr b k then some k else f c) := by
  intro c
  by_cases hc : c = fr b k
  · rw [if_pos hc]
    exact .inr ⟨k, rfl, by omega, hk, hc.symm, fun q h1 h2 => by omega⟩
  · rw [if_neg hc]
    rcases h c with ⟨h1, h2⟩ | ⟨p, h1, h2, h3, h4, h5⟩
    · refine .inl ⟨h1, fun p g1 g2 => ?_⟩
      by_cases hp : p = k
      · subst hp; exact fun e => hc e.symm
      · exact h2 p (by omega) g2
    · refine .inr ⟨p, h1, by omega, h3, h4, fun q g1 g2 g3 => ?_⟩
      by_cases hq : q = k
      · subst hq; exact fun e => hc e.symm
      · exact h5 q g1 (by omega) g3
theorem Lst.stay {b : List Nat} {k : Nat} {f : Nat → Option Nat} (h : ∀ c, Lst b k c (f c)) (hk : ¬ k + 4 ≤ b.length) : ∀ c, Lst b (k + 1) c (f c) := by
  intro c
  rcases h c with ⟨h1, h2⟩ | ⟨p, h1, h2, h3, h4, h5⟩
  · refine .inl ⟨h1, fun p g1 g2 => ?_⟩
    exact h2 p (by omega) g2
  · exact .inr ⟨p, h1, by omega, h3, h4, fun q g1 g2 g3 => h5 q g1 (by omega) g3⟩
theorem Lst.none {b : List Nat} {k : Nat} (hk : k + 4 ≤ b.length) (h : Lst b k (fr b k) none) : BfAt b k (-1) := by
  rcases h with ⟨_, h2⟩ | ⟨p, h1, _⟩
  · exact .inl ⟨rfl, fun _ p hp => h2 p hp (by omega)⟩
  · cases h1
theorem Lst.some {b : List Nat} {k p : Nat} (hk : k + 4 ≤ b.length) (h : Lst b k (fr b k) (.some p)) : BfAt b k p := by
  rcases h with ⟨h1, _⟩ | ⟨p', h1, h2, h3, h4, h5⟩
  · cases h1
  · cases h1
    exact .inr ⟨p, rfl, h2, hk, h4, fun q g1 g2 => h5 q g1 g2 (by omega)⟩
/-- v is a list of ints of the call's own -/
def Oi (w : World) (base : Nat) (v : Value) (is : List Int) : Prop := w.ownsRow base 3 1 v is.length (is.map (Value.int .i64))
theorem Oi.keep {w w' : World} {base B : Nat} {v : Value} {zs : List Int} (h : Oi w base v zs) (hb : Below B w w') (hB : w.heap.size ≤ B) : Oi w' base v zs := by
  have h' := h
  obtain ⟨hl, ⟨rfl, h0⟩ | ⟨g, cap, cur, rfl, hbs, hg, hn, hm, hs, ht⟩⟩ := h
  · exact ⟨hl, .inl ⟨rfl, h0⟩⟩
  · have hlt := (World.ownsRow.lt h' g rfl).2
    exact ⟨hl, .inr ⟨g, cap, cur, rfl, hbs, by rw [hb.block g (by omega)]; exact hg, hn, hm, hs, ht⟩⟩
theorem Oi.keep1 {w w' : World} {base g n cap : Nat} {zs : List Int} (h : Oi w base (.slice (some ⟨g, 0, none⟩) n cap) zs) (hb : w'.heap[g]? = w.heap[g]?) : Oi w' base (.slice (some ⟨g, 0, none⟩) n cap) zs := by
  obtain ⟨hl, ⟨h0, _⟩ | ⟨g', cap', cur, hv, hbs, hg, hn, hm, hs, ht⟩⟩ := h
  · cases h0
  · cases hv
    exact ⟨hl, .inr ⟨g, _, cur, by simp, hbs, by rw [hb]; exact hg, hn, hm, hs, ht⟩⟩
theorem Oi.set {w : World} {base g n cap j : Nat} {z : Int} {zs : List Int} (h : Oi w base (.slice (some ⟨g, 0, none⟩) n cap) zs) :
    Oi (w.setCell ⟨g, j, none⟩ (.int .i64 z)) base (.slice (some ⟨g, 0, none⟩) n cap) (zs.set j z) := by
  obtain ⟨hl, ⟨h0, _⟩ | ⟨g', cap', cur, hv, hb, hg, hn, hm, hs, ht⟩⟩ := h
  · cases h0
  · cases hv
    refine ⟨by simp, .inr ⟨g, cap, cur.setIfInBounds j (.int .i64 z), by simp, hb, heap_setCell_same w g j cur 3 (.int .i64 z) hg, by simpa using hn, hm, by simpa using hs, ?_⟩⟩
    rw [List.map_set, ← ht, Array.toList_setIfInBounds]
    rw [List.length_set, List.take_set]
theorem Oi.cell {w : World} {base g n cap j : Nat} {zs : List Int} (h : Oi w base (.slice (some ⟨g, 0, none⟩) n cap) zs) (hj : j < zs.length) :
    w.cell? ⟨g, j, none⟩ = some (.int .i64 (zs.getD j 0)) ∧ w.frozen? ⟨g, j, none⟩ = false := by
  have hc := World.ownsRow.cells h rfl j (.int .i64 (zs.getD j 0)) (by simp [List.getD, List.getElem?_eq_getElem hj])
  rw [add0] at hc
  obtain ⟨hl, ⟨h0, _⟩ | ⟨g', cap', cur, hv, hb, hg, hn, hm, hs, ht⟩⟩ := h
  · cases h0
  · cases hv
    exact ⟨hc, frozen_of_row w g j cur 3 hg⟩
theorem below_put {w : World} {B r : Nat} (o : Obj) (h : B ≤ r) : Below B w (w.putObj r o) :=
  ⟨rfl, rfl, rfl, by simp [World.putObj], fun k hk => World.putObj_heap_other (by omega)⟩
theorem info3' : ∃ i, Try.prog.info? 3 = some i ∧ i.zero = some (.int .i64 0) ∧ i.size = 1 ∧ i.bytes = 8 := info_parts (by kernel_rfl)
theorem made_ints (n : Nat) : (madeCells (Value.int .i64 0).cells (n * 1)).toList = (List.replicate n (0 : Int)).map (Value.int .i64) := by
  rw [Nat.mul_one]
  show (madeCells #[Value.int .i64 0] n).toList = _
  rw [toList_madeCells_one]
  simp
section
variable (w : World)
set_option maxRecDepth 100000 in
set_option maxHeartbeats 1000000 in
theorem sameBefore_any (v : Value) (b : List Nat) (hv : Rb w w.heap.size v b) (hy : Bys b) (hl : b.length ≤ 65536) :
    Calls Try.prog 19 #[v] w fun e w' => ∃ (cap : Nat) (is : List Int), e = .returned (.slice (some ⟨w.heap.size, 0, none⟩) b.length cap) ∧ is.length = b.length ∧ Oi w' w.heap.size (.slice (some ⟨w.heap.size, 0, none⟩) b.length cap) is ∧ (∀ x, x < b.length → BfAt b x (is.getD x 0)) ∧ Below w.heap.size w w' := by
  obtain ⟨i3, hi, hz, hs, hb⟩ := info3'
  have HV := hide hv
  have HY := hide hy
  obtain ⟨ao, cap, rfl, hcap⟩ := hv.len
  obtain ⟨n, hn⟩ : ∃ n, b.length = n := ⟨_, rfl⟩
  have HLn := hide hn
  rw [hn] at hl HV hcap ⊢
  clear hn hv hy
  go_enter Try.func19, Try.ntmps19
  go_upto_region 2 with (refine wpList_make_full _ rfl _ _ 34 rfl w.heap.size 3 i3 (.int .i64 0) 1 Try.underlying34 hi hz hs .i64 .i64 n n n rfl rfl rfl rfl (by rw [hb]; omega) (by unfold maxLen; omega) (Nat.le_refl _) ?_; intro w1 ho hg)
  have HO : Hid (Oi w1 w.heap.size (.slice (some ⟨w.heap.size, 0, none⟩) n n) (List.replicate n 0)) := hide (by
    unfold Oi
    rw [made_ints] at ho
    simpa using ho)
  have hmm := @run_makeMap Try.prog
  have HB1 := hide ((Below.refl w.heap.size w).grown hg (Nat.le_refl _) (fun k hk => by cases hk))
  have hr : w.heap.size < w1.heap.size := (World.ownsRow.lt ho w.heap.size rfl).2
  clear ho hg
  go_upto_region 4 with fail
  clear hmm
  go_loopw [15] (fun i wr => ∃ (k : Nat) (is : List Int) (f : Nat → Option Nat), k ≤ n ∧ i = .int .i64 (k : Nat) ∧ is.length = n ∧ Oi wr w.heap.size (.slice (some ⟨w.heap.size, 0, none⟩) n n) is ∧ (∀ x, x < k → BfAt b x (is.getD x 0)) ∧ Mp wr w1.heap.size f ∧ (∀ c, Lst b k c (f c)) ∧ Below w.heap.size w wr ∧ w1.heap.size < wr.heap.size) (fun i _ => n - (intOf i).toNat)
  case atStart =>
    exact ⟨0, _, _, by omega, rfl, by simp, HO.out.keep ((Below.refl _ _).alloc (Nat.le_refl _) _) (Nat.le_refl _), fun x h => by omega, Mp.new _, fun c => .inl ⟨rfl, fun p h => by omega⟩, HB1.out.alloc HB1.out.size _, by simp⟩
  case round =>
    obtain ⟨k, is, f, hk, rfl, hil, hO, hF, hM, hL, hB, hrs⟩ := hrel
    by_cases hlt : k < n
    · obtain ⟨_, hfz⟩ := hO.cell (j := k) (by omega)
      obtain ⟨hc, _⟩ := hO.cell (j := k) (by omega)
      have HO2 := hide (hO.set (j := k) (z := -1))
      have HM2 := hide (hM.keep (w' := wr.setCell ⟨w.heap.size, k, none⟩ (.int .i64 (-1))) (heap_setCell_other wr ⟨w.heap.size, k, none⟩ _ _ (by show w1.heap.size ≠ w.heap.size; omega)))
      have HB2 := hide (hB.setCell (p := ⟨w.heap.size, k, none⟩) (Nat.le_refl _) (.int .i64 (-1)))
      have hi0 : (k : Int) < n := by omega
      have hrs2 : w1.heap.size < (wr.setCell ⟨w.heap.size, k, none⟩ (.int .i64 (-1))).heap.size := by simpa using hrs
      have HF := hide hF
      have HL := hide hL
      clear hO hM hB hF hL hrs
      go_upto_region 7 with fail
      generalize wr.setCell ⟨w.heap.size, k, none⟩ (.int .i64 (-1)) = w2 at *
      by_cases h4 : k + 4 ≤ n
      · have hd : decide ((n : Int) - (k : Int) < 4) = false := by simp; omega
        have hd2 : ¬ ((n : Int) - (k : Int) < 4) := by omega
        clear hc hfz
        have HV2 := hide (HV.out.keep HB2.out)
        go_wp2_with fail
        refine (fourAt_any _ _ b k _ HV2.out HY.out (by rw [HLn.out]; omega) (by rw [HLn.out]; exact h4)).mono ?_
        rintro e w3 ⟨rfl, hb3⟩
        have HM3 := hide (HM2.out.keep (hb3.block _ hrs2))
        have HO3 := hide (HO2.out.keep hb3 (Nat.le_refl _))
        have HB3 := hide (HB2.out.trans (hb3.mono HB2.out.size))
        have hrs3 := Nat.lt_of_lt_of_le hrs2 hb3.size
        have HLk : Hid (∀ o, f (fr b k) = o → BfAt b k (match o with | none => -1 | some p => (p : Int))) := hide (by
          intro o ho
          have hk4 : k + 4 ≤ b.length := by rw [HLn.out]; exact h4
          have := HL.out (fr b k)
          rw [ho] at this
          cases o with
          | none => exact Lst.none hk4 this
          | some p => exact Lst.some hk4 this)
        have HLs := hide (Lst.step HL.out (by rw [HLn.out]; exact h4))
        clear hb3 HM2 HO2 HB2 hrs2 HV2 HL
        rw [show four (b.drop k) = fr b k from rfl]
        generalize fr b k = F at *
        have hlk := HM3.out.look F
        cases hf : f F with
        | none =>
          rw [hf] at hlk
          obtain ⟨es, ck, hput, hM4⟩ := HM3.out.put F k
          have HM4 := hide hM4
          have HO4 := hide (HO3.out.keep1 (w' := w3.putObj w1.heap.size (.map es ck)) (World.putObj_heap_other (by omega)))
          have HB4 : Hid (Below w.heap.size w (w3.putObj w1.heap.size (.map es ck))) := hide (HB3.out.trans (below_put _ (Nat.le_of_lt hr)))
          have hrs4 : w1.heap.size < (w3.putObj w1.heap.size (.map es ck)).heap.size := by simpa [World.putObj] using hrs3
          clear hM4 HM3 HO3 HB3
          generalize w3.putObj w1.heap.size (.map es ck) = w4 at *
          go_wp2
          go_roundw
          case rel =>
            refine ⟨k + 1, _, _, by omega, by go_num, by simpa using hil, HO4.out, fun x hx => ?_, HM4.out, HLs.out, HB4.out, hrs4⟩
            by_cases hxk : x = k
            · subst hxk
              rw [List.getD_eq_getElem?_getD, List.getElem?_set_self (by omega)]
              exact HLk.out _ hf
            · rw [List.getD_eq_getElem?_getD, List.getElem?_set_ne (by omega), ← List.getD_eq_getElem?_getD]
              exact HF.out x (by omega)
          case measure => simp [intOf]; omega
        | some p =>
          rw [hf] at hlk
          obtain ⟨hc3, hfz3⟩ := HO3.out.cell (j := k) (by simp; omega)
          have HO5 := hide (HO3.out.set (j := k) (z := (p : Int)))
          have HM5 := hide (HM3.out.keep (w' := w3.setCell ⟨w.heap.size, k, none⟩ (.int .i64 (p : Int))) (heap_setCell_other w3 ⟨w.heap.size, k, none⟩ _ _ (by show w1.heap.size ≠ w.heap.size; omega)))
          have HB5 := hide (HB3.out.setCell (p := ⟨w.heap.size, k, none⟩) (Nat.le_refl _) (.int .i64 (p : Int)))
          have hrs5 : w1.heap.size < (w3.setCell ⟨w.heap.size, k, none⟩ (.int .i64 (p : Int))).heap.size := by simpa using hrs3
          clear HM3 HO3 HB3
          go_upto_region 12 with fail
          generalize w3.setCell ⟨w.heap.size, k, none⟩ (.int .i64 (p : Int)) = w5 at *
          clear hlk hc3 hfz3
          obtain ⟨es, ck, hput, hM4⟩ := HM5.out.put F k
          have HM4 := hide hM4
          have HO4 := hide (HO5.out.keep1 (w' := w5.putObj w1.heap.size (.map es ck)) (World.putObj_heap_other (by omega)))
          have HB4 : Hid (Below w.heap.size w (w5.putObj w1.heap.size (.map es ck))) := hide (HB5.out.trans (below_put _ (Nat.le_of_lt hr)))
          have hrs4 : w1.heap.size < (w5.putObj w1.heap.size (.map es ck)).heap.size := by simpa [World.putObj] using hrs5
          clear hM4 HM5 HO5 HB5
          generalize w5.putObj w1.heap.size (.map es ck) = w4 at *
          go_wp2
          go_roundw
          case rel =>
            refine ⟨k + 1, _, _, by omega, by go_num, by simpa using hil, HO4.out, fun x hx => ?_, HM4.out, HLs.out, HB4.out, hrs4⟩
            by_cases hxk : x = k
            · subst hxk
              rw [List.getD_eq_getElem?_getD, List.getElem?_set_self (by simp; omega)]
              exact HLk.out _ hf
            · rw [List.getD_eq_getElem?_getD, List.getElem?_set_ne (by omega), List.getElem?_set_ne (by omega), ← List.getD_eq_getElem?_getD]
              exact HF.out x (by omega)
          case measure => simp [intOf]; omega
      · have hd : decide ((n : Int) - (k : Int) < 4) = true := by simp; omega
        go_wp2
        go_roundw
        case rel =>
          refine ⟨k + 1, _, f, by omega, by go_num, by simpa using hil, HO2.out, fun x hx => ?_, HM2.out, Lst.stay HL.out (by rw [HLn.out]; exact h4), HB2.out, hrs2⟩
          by_cases hxk : x = k
          · subst hxk
            rw [List.getD_eq_getElem?_getD, List.getElem?_set_self (by omega)]
            exact .inl ⟨rfl, fun h => absurd h (by rw [HLn.out]; exact h4)⟩
          · rw [List.getD_eq_getElem?_getD, List.getElem?_set_ne (by omega), ← List.getD_eq_getElem?_getD]
            exact HF.out x (by omega)
        case measure => simp [intOf]; omega
    · obtain rfl : k = n := by omega
      have HF := hide hF
      have HO2 := hide hO
      have HB2 := hide hB
      clear hO hM hL hF hB
      go_wp2
      go_ret
      exact ⟨_, is, rfl, hil, HO2.out, HF.out, HB2.out⟩
end
end Go.Proofs.Yteloomlcaimlaab
