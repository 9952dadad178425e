import Derived.Test.YtngmnlmagbfijabCN
import Derived.Test.YtngmnlmagbfijabCO
import Derived.Test.YtngmnlmagbfijabCP
namespace Go.Proofs.Ytngmnlmagbfijab
open Go.RowKit
theorem cellsT_none {k : Nat} {b r : Nat → Nat} (hk : k < 3) : (cellsT k b r)[k * 2]? = some (.pointer none) ∧ (cellsT k b r)[k * 2 + 1]? = some (.pointer none) := by
  match k, hk with
  | 0, _ => exact ⟨rfl, rfl⟩
  | 1, _ => exact ⟨rfl, rfl⟩
  | 2, _ => exact ⟨rfl, rfl⟩
theorem PrA.below {p r n : Nat} {w w' : World} {H : Nat → Prop} (h : PrA p r n w H) (hb : Below w.heap.size w w') : PrA p r n w' H := h.keep hb.size (fun b hx => hb.block b (h.lt b hx))
/-- the array's cells at z, and the step's -/
def ArS (A B z p q : Nat) (k t nn mm : Int) (u : Value) (W : World) : Prop := W.cell? ⟨A, z * 2, none⟩ = some (.pointer (some ⟨p, 0, none⟩)) ∧ W.cell? ⟨A, z * 2 + 1, none⟩ = some (.pointer (some ⟨q, 0, none⟩)) ∧ W.cell? ⟨B, 0, none⟩ = some (.int .i64 k) ∧ W.cell? ⟨B, 1, none⟩ = some (.int .i64 t) ∧ W.cell? ⟨B, 2, none⟩ = some (.int .i64 nn) ∧ W.cell? ⟨B, 3, none⟩ = some (.int .i64 mm) ∧ W.cell? ⟨B, 4, none⟩ = some u
theorem ArS.keep {A B z p q : Nat} {k t nn mm : Int} {u : Value} {W W' : World} (h : ArS A B z p q k t nn mm u W) (hA : W'.heap[A]? = W.heap[A]?) (hB : W'.heap[B]? = W.heap[B]?) : ArS A B z p q k t nn mm u W' := by
  obtain ⟨h0, h1, h2, h3, h4, h5, h6⟩ := h
  exact ⟨cell_same h0 hA, cell_same h1 hA, cell_same h2 hB, cell_same h3 hB, cell_same h4 hB, cell_same h5 hB, cell_same h6 hB⟩
section
variable (w : World)
set_option maxRecDepth 100000 in
set_option maxHeartbeats 32000000 in
theorem schedChooses_walk (v : Value) (os : List Og) (hO : OpR (fun b => b < w.heap.size) w v os) (hF : Fit os) (hc : cost os ≤ 1048576) :
    Calls Try.prog 3 #[v] w fun e w' => e = .returned (.bool true) ∧ Below w.heap.size w w' := by
  have HO := hide hO
  have HF := hide hF
  obtain ⟨ao, cap, rfl, hcap, hops⟩ := hO
  have HH := hide hops
  obtain ⟨m, hm⟩ : ∃ m, os.length = m := ⟨_, rfl⟩
  have HLn := hide hm
  have hcl := cost_len os
  rw [hm] at hcap HO hcl ⊢
  clear hF hm hops
  go_enter Try.func3, Try.ntmps3
  go_wp2_with fail
  refine (fixed_any _).mono ?_
  rintro e w1 ⟨rfl, hb1⟩
  obtain ⟨A, hA⟩ : ∃ A, w1.heap.size = A := ⟨_, rfl⟩
  have hwA : w.heap.size ≤ A := by have := hb1.size; omega
  have HT0 : Hid (Tri w (w1.alloc (.cells #[.pointer none, .pointer none, .pointer none, .pointer none, .pointer none, .pointer none] 28)) A 0 0 (fun _ => 0) (fun _ => 0)) := hide ⟨fun _ _ => False, ⟨by rw [← hA]; exact heap_alloc_last _ _, fun i hi => by omega, fun i j hi => by omega, fun i hi => by omega, fun i hi => by omega, hwA, hb1.alloc hb1.size _⟩⟩
  clear hb1
  go_upto_region 6 with fail
  generalize w1.alloc (.cells #[.pointer none, .pointer none, .pointer none, .pointer none, .pointer none, .pointer none] 28) = w2 at *
  clear hA
  go_loopw [5] (fun i wr => ∃ (k : Nat) (b r : Nat → Nat), k ≤ 3 ∧ i = .int .i64 (k : Nat) ∧ Hid (Tri w wr A k 0 b r)) (fun i _ => 3 - (RowKit.intOf i).toNat)
  case atStart => exact ⟨0, _, _, by omega, rfl, HT0⟩
  case round =>
    obtain ⟨k, b, r, hk, rfl, HT⟩ := hrel
    clear HT0
    by_cases hlt : k < 3
    · have hki : (k : Int) < 3 := by omega
      have hk0 : (0 : Int) ≤ k := by omega
      have HMd : Hid (Calls Try.prog 5 #[.int .i64 ((k : Int) + 1)] wr fun e w' => ∃ p r H, e = .returned (.tuple #[.agg #[.pointer (some ⟨p, 0, none⟩), .pointer (some ⟨r, 0, none⟩)], .bool true]) ∧ PrA p r 0 w' H ∧ (∀ b, H b → wr.heap.size ≤ b) ∧ Below wr.heap.size wr w') := hide (by
        have := made_ok wr (k + 1) (by omega)
        rw [show ((k + 1 : Nat) : Int) = (k : Int) + 1 by omega] at this
        exact this)
      go_wp2_with fail
      refine HMd.out.mono ?_
      rintro e w3 ⟨p, q, H, rfl, h1, h2, h3⟩
      have hb4 : Below wr.heap.size wr (w3.alloc (.cells #[.pointer (some ⟨p, 0, none⟩), .pointer (some ⟨q, 0, none⟩)] 27)) := h3.alloc h3.size _
      have HC : Hid ((w3.alloc (.cells #[.pointer (some ⟨p, 0, none⟩), .pointer (some ⟨q, 0, none⟩)] 27)).heap[w3.heap.size]? = some (.cells #[.pointer (some ⟨p, 0, none⟩), .pointer (some ⟨q, 0, none⟩)] 27 (0, 0))) := hide (heap_alloc_last _ _)
      have HP4 := hide (h1.below ((Below.refl w3.heap.size w3).alloc (Nat.le_refl _) (.cells #[.pointer (some ⟨p, 0, none⟩), .pointer (some ⟨q, 0, none⟩)] 27)))
      have HB4 := hide hb4
      have HH2 := hide h2
      obtain ⟨C, hC⟩ : ∃ C, w3.heap.size = C := ⟨_, rfl⟩
      rw [hC] at HC
      clear h1 h2 h3 hb4
      go_upto_region 9 with fail
      generalize w3.alloc (.cells #[.pointer (some ⟨p, 0, none⟩), .pointer (some ⟨q, 0, none⟩)] 27) = w4 at *
      clear hC
      have e0 := cell_of_row _ _ 0 _ _ _ HC.out
      have e1 := cell_of_row _ _ 1 _ _ _ HC.out
      simp only [List.getElem?_toArray, List.getElem?_cons_zero, List.getElem?_cons_succ] at e0 e1
      obtain ⟨Hs, hT⟩ := HT.out
      have h7 := hT.below HB4.out
      obtain ⟨n0, n1⟩ := cellsT_none (b := b) (r := r) hlt
      have ht : Hid (w4.there A (k * 2) 2) := hide (fun j hj => ⟨by
        rw [cell_of_row _ _ _ _ _ _ h7.arr]
        rcases (show j = 0 ∨ j = 1 by omega) with rfl | rfl
        · simp only [Nat.add_zero, List.getElem?_toArray, n0]; rfl
        · simp only [List.getElem?_toArray, n1]; rfl, frozen_of_row _ _ _ _ _ h7.arr⟩)
      have HT5 : Hid (Tri w (w4.setCells A (k * 2) [.pointer (some ⟨p, 0, none⟩), .pointer (some ⟨q, 0, none⟩)]) A (k + 1) 0 (updN b k p) (updN r k q)) := hide (hT.put hlt (Nat.lt_succ_self k) (fun j hj hne => by omega) (by omega) HB4.out HP4.out HH2.out)
      clear hT h7 n0 n1
      go_wp2_with (refine wpList_store_mid rfl 27 (.tmp 36) (.tmp 35) rfl A (k * 2) #[.pointer (some ⟨p, 0, none⟩), .pointer (some ⟨q, 0, none⟩)] rfl (by simp only [Act.eval]; rfl) ht.out (by kernel_rfl) (by simp [Value.oneCell']) ?_; generalize w4.setCells A (k * 2) [.pointer (some ⟨p, 0, none⟩), .pointer (some ⟨q, 0, none⟩)] = w5 at *)
      go_roundw
      case rel => exact ⟨k + 1, _, _, by omega, by go_num, HT5⟩
      case measure => simp [RowKit.intOf]; omega
    · have HT3 : Hid (Tri w wr A 3 0 b r) := hide (by have h9 := HT.out; rw [show k = 3 by omega] at h9; exact h9)
      have hk3i : ¬ (k : Int) < 3 := by omega
      clear hlt HT
      go_upto_region 13 with fail
      go_loopw [8] (fun i wr => ∃ (k n : Nat) (b r : Nat → Nat), k ≤ m ∧ i = .int .i64 (k : Nat) ∧ Hid (n ≤ cost (os.take k)) ∧ Hid (Tri w wr A 3 n b r)) (fun i _ => m - (RowKit.intOf i).toNat)
      case atStart => exact ⟨0, 0, b, r, by omega, rfl, hide (by omega), HT3⟩
      case round =>
        clear HT3
        obtain ⟨k, n, b, r, hk, rfl, HN, HT⟩ := hrel
        by_cases hlt2 : k < m
        · obtain ⟨o, ho⟩ : ∃ o, os[k]? = some o := ⟨os[k]'(by rw [HLn.out]; exact hlt2), List.getElem?_eq_getElem _⟩
          have hcs := cost_succ' ho
          have hct := cost_take os (k + 1)
          have HFo := hide (HF.out o (List.mem_of_getElem? ho))
          obtain ⟨x, u, rfl, hSx, c0, c1, c2, c3, c4, c5⟩ := HH.out k o ho
          have hbel := HT.out.bel
          have hxk := hbel.block _ hSx
          have c0 := cell_keep c0 hxk
          have c1 := cell_keep c1 hxk
          have c2 := cell_keep c2 hxk
          have c3 := cell_keep c3 hxk
          have c4 := cell_keep c4 hxk
          have c5 := c5.keep (w' := wr) (fun b hb => hbel.block b hb)
          have hki : (k : Int) < m := by omega
          obtain ⟨au, cu, rfl, hcu⟩ := c5.len
          have HC5 := hide c5
          have hwz := hbel.size
          clear c5 hxk hSx ho hbel
          obtain ⟨ok, ot, on, om, oR⟩ := o
          dsimp only at c0 c1 c2 c3 c4 hcu hcs
          have ea : ∀ j, x.add (k * 5 + (j + 1)) = (⟨(x.add (k * 5)).block, (x.add (k * 5)).off + (j + 1), none⟩ : Addr) := fun j => by rw [← Addr.add_add]; simp [Addr.add]
          rw [ea 0] at c1
          rw [ea 1] at c2
          rw [ea 2] at c3
          rw [ea 3] at c4
          clear ea
          obtain ⟨zl, hzl⟩ : ∃ zl, oR.length = zl := ⟨_, rfl⟩
          have HZl := hide hzl
          have hRl : zl + 1 ≤ 1048576 := by omega
          have HNs : Hid (n + (zl + 1) ≤ cost (os.take (k + 1)) ∧ n ≤ 1048576 ∧ zl ≤ 1048575) := hide (by have := HN.out; omega)
          rw [hzl] at hcu c4 HC5
          clear hzl hcs hct
          obtain ⟨B, hB⟩ : ∃ B, wr.heap.size = B := ⟨_, rfl⟩
          have hb1 : Below wr.heap.size wr (wr.alloc (.cells #[.int .i64 ok, .int .i64 ot, .int .i64 on, .int .i64 om, .slice au zl cu] 33)) := (Below.refl _ _).alloc (Nat.le_refl _) _
          have HT1 := hide (HT.out.below hb1)
          have HRow : Hid ((wr.alloc (.cells #[.int .i64 ok, .int .i64 ot, .int .i64 on, .int .i64 om, .slice au zl cu] 33)).heap[B]? = some (.cells #[.int .i64 ok, .int .i64 ot, .int .i64 on, .int .i64 om, .slice au zl cu] 33 (0, 0))) := hide (by rw [← hB]; exact heap_alloc_last _ _)
          have HC6 := hide (HC5.out.keep (w' := wr.alloc (.cells #[.int .i64 ok, .int .i64 ot, .int .i64 on, .int .i64 om, .slice au zl cu] 33)) (fun b hb => hb1.block b (by omega)))
          have HBA : Hid (∀ Hs, TriAt w wr A 3 n b r Hs → ∀ i, i < 3 → ¬ Hs i B) := hide (fun Hs h i hi hB2 => by have := (h.prs i hi).lt B hB2; omega)
          obtain ⟨Hs, hTs⟩ := HT.out
          have HTs := hide (hTs.below hb1)
          have HBs : Hid (∀ i, i < 3 → ¬ Hs i B) := hide (HBA.out Hs hTs)
          clear hb1 HC5 HT hTs HBA HT1
          go_upto_region 16 with fail
          generalize hW1 : wr.alloc (.cells #[.int .i64 ok, .int .i64 ot, .int .i64 on, .int .i64 om, .slice au zl cu] 33) = w1 at *
          clear c0 c1 c2 c3 c4 hB hW1
          have d0 := cell_of_row _ _ 0 _ _ _ HRow.out
          have d1 := cell_of_row _ _ 1 _ _ _ HRow.out
          have d2 := cell_of_row _ _ 2 _ _ _ HRow.out
          have d3 := cell_of_row _ _ 3 _ _ _ HRow.out
          have d4 := cell_of_row _ _ 4 _ _ _ HRow.out
          simp only [List.getElem?_toArray, List.getElem?_cons_zero, List.getElem?_cons_succ] at d0 d1 d2 d3 d4
          go_wp2_with fail
          refine (rest_any w1 ot).mono ?_
          rintro e w2 ⟨z, rfl, hz, rfl⟩
          have hz3 : z < 3 := by omega
          have hzi : (z : Int) < 3 := by omega
          have hz0 : (0 : Int) ≤ z := by omega
          by_cases hk1 : ok = 1
          · subst hk1
            by_cases hon : 1 ≤ on ∧ on ≤ 3
            · have HMd : Hid (Calls Try.prog 5 #[.int .i64 on] w2 fun e w' => ∃ p r H, e = .returned (.tuple #[.agg #[.pointer (some ⟨p, 0, none⟩), .pointer (some ⟨r, 0, none⟩)], .bool true]) ∧ PrA p r 0 w' H ∧ (∀ b, H b → w2.heap.size ≤ b) ∧ Below w2.heap.size w2 w') := hide (by
                have := made_ok w2 on.toNat (by omega)
                rw [show ((on.toNat : Nat) : Int) = on by omega] at this
                exact this)
              clear hon
              go_wp2_with fail
              refine HMd.out.mono ?_
              rintro e w3 ⟨p, q, H, rfl, h1, h2, h3⟩
              have hb4 : Below w2.heap.size w2 (w3.alloc (.cells #[.pointer (some ⟨p, 0, none⟩), .pointer (some ⟨q, 0, none⟩)] 27)) := h3.alloc h3.size _
              have HC : Hid ((w3.alloc (.cells #[.pointer (some ⟨p, 0, none⟩), .pointer (some ⟨q, 0, none⟩)] 27)).heap[w3.heap.size]? = some (.cells #[.pointer (some ⟨p, 0, none⟩), .pointer (some ⟨q, 0, none⟩)] 27 (0, 0))) := hide (heap_alloc_last _ _)
              have HP4 := hide (h1.below ((Below.refl w3.heap.size w3).alloc (Nat.le_refl _) (.cells #[.pointer (some ⟨p, 0, none⟩), .pointer (some ⟨q, 0, none⟩)] 27)))
              have HB4 := hide hb4
              have HH2 := hide h2
              obtain ⟨C, hC⟩ : ∃ C, w3.heap.size = C := ⟨_, rfl⟩
              rw [hC] at HC
              clear h1 h2 h3 hb4
              go_upto_region 19 with fail
              generalize w3.alloc (.cells #[.pointer (some ⟨p, 0, none⟩), .pointer (some ⟨q, 0, none⟩)] 27) = w4 at *
              clear hC d0 d1 d2 d3 d4
              have e0 := cell_of_row _ _ 0 _ _ _ HC.out
              have e1 := cell_of_row _ _ 1 _ _ _ HC.out
              simp only [List.getElem?_toArray, List.getElem?_cons_zero, List.getElem?_cons_succ] at e0 e1
              have h7 := HTs.out.below HB4.out
              obtain ⟨n0, n1⟩ := cellsT_get (b := b) (r := r) hz3 hz3
              have ht : Hid (w4.there A (z * 2) 2) := hide (fun j hj => ⟨by
                rw [cell_of_row _ _ _ _ _ _ h7.arr]
                rcases (show j = 0 ∨ j = 1 by omega) with rfl | rfl
                · simp only [Nat.add_zero, List.getElem?_toArray, n0]; rfl
                · simp only [List.getElem?_toArray, n1]; rfl, frozen_of_row _ _ _ _ _ h7.arr⟩)
              have HT5 : Hid (Tri w (w4.setCells A (z * 2) [.pointer (some ⟨p, 0, none⟩), .pointer (some ⟨q, 0, none⟩)]) A 3 n (updN b z p) (updN r z q)) := hide (HTs.out.put hz3 hz3 (fun j hj hne => by omega) (by omega) HB4.out (HP4.out.mono (by omega)) HH2.out)
              clear h7 n0 n1
              go_wp2_with (refine wpList_store_mid rfl 27 (.tmp 66) (.tmp 65) rfl A (z * 2) #[.pointer (some ⟨p, 0, none⟩), .pointer (some ⟨q, 0, none⟩)] rfl (by simp only [Act.eval]; rfl) ht.out (by kernel_rfl) (by simp [Value.oneCell']) ?_; generalize w4.setCells A (z * 2) [.pointer (some ⟨p, 0, none⟩), .pointer (some ⟨q, 0, none⟩)] = w5 at *)
              go_roundw
              case rel => exact ⟨k + 1, n, _, _, by omega, by go_num, hide (by have := HNs.out; omega), HT5⟩
              case measure => simp [RowKit.intOf]; omega
            · go_wp2_with fail
              refine (made_bad w2 on hon).mono ?_
              rintro e w3 ⟨rfl, h3⟩
              have HC : Hid ((w3.alloc (.cells #[.pointer none, .pointer none] 27)).heap[w3.heap.size]? = some (.cells #[.pointer none, .pointer none] 27 (0, 0))) := hide (heap_alloc_last _ _)
              have HT4 : Hid (Tri w (w3.alloc (.cells #[.pointer none, .pointer none] 27)) A 3 n b r) := hide (Tri.below ⟨Hs, HTs.out⟩ (h3.alloc h3.size _))
              obtain ⟨C, hC⟩ : ∃ C, w3.heap.size = C := ⟨_, rfl⟩
              rw [hC] at HC
              clear h3
              go_upto_region 19 with fail
              generalize w3.alloc (.cells #[.pointer none, .pointer none] 27) = w4 at *
              clear hC d0 d1 d2 d3 d4
              have e0 := cell_of_row _ _ 0 _ _ _ HC.out
              simp only [List.getElem?_toArray, List.getElem?_cons_zero] at e0
              go_wp2
              go_roundw
              case rel => exact ⟨k + 1, n, b, r, by omega, by go_num, hide (by have := HNs.out; omega), HT4⟩
              case measure => simp [RowKit.intOf]; omega
          · have hk1b : (ok == 1) = false := by simpa using hk1
            by_cases hk4 : 1 ≤ ok ∧ ok ≤ 4
            · have g1 : ¬ ok < 1 := by omega
              have g2 : ¬ ok > 4 := by omega
              clear hk1 hk4
              go_upto_region 24 with fail
              obtain ⟨c0, c1⟩ := HTs.out.cells hz3 hz3
              unfold bp at c0
              unfold rp' at c1
              have HS : Hid (ArS A B z (b z) (r z) ok ot on om (.slice au zl cu) w2) := hide ⟨c0, c1, d0, d1, d2, d3, d4⟩
              clear c0 c1 d0 d1 d2 d3 d4
              have HS0 : Hid (ArS A B z (b z) (r z) ok ot on om (.slice au zl cu) w2.drew) := hide (HS.out.keep rfl rfl)
              refine wp_region_held_drew (S := ArS A B z (b z) (r z) ok ot on om (.slice au zl cu)) (by kernel_rfl) HS0.out (fun hHeld => ?_)
              clear hHeld
              refine hd_take 0 (o := ⟨some 75, _, _, _, _, _⟩) (.int .i64 (z : Nat)) (by kernel_rfl) (by kernel_rfl) (by kernel_rfl) rfl (by rfl) (fun W hSw => by obtain ⟨k0, k1, k2, k3, k4, k5, k6⟩ := hSw; go_simp) (fun _ _ _ h => h) HS0.out ?_
              simp only [Act.put, List.setIfInBounds_toArray, List.set_cons_zero, List.set_cons_succ]
              refine hd_take 1 (o := ⟨some 76, _, _, _, _, _⟩) (.pointer (some ⟨A, z * 2, none⟩)) (by kernel_rfl) (by kernel_rfl) (by kernel_rfl) rfl (by rfl) (fun W hSw => by obtain ⟨k0, k1, k2, k3, k4, k5, k6⟩ := hSw; go_simp) (fun _ _ _ h => h) HS0.out ?_
              simp only [Act.put, List.setIfInBounds_toArray, List.set_cons_zero, List.set_cons_succ]
              refine hd_take 2 (o := ⟨some 77, _, _, _, _, _⟩) (.agg #[.pointer (some ⟨b z, 0, none⟩), .pointer (some ⟨r z, 0, none⟩)]) (by kernel_rfl) (by kernel_rfl) (by kernel_rfl) rfl (by rfl) (fun W hSw => by obtain ⟨k0, k1, k2, k3, k4, k5, k6⟩ := hSw; go_simp) (fun _ _ _ h => h) HS0.out ?_
              simp only [Act.put, List.setIfInBounds_toArray, List.set_cons_zero, List.set_cons_succ]
              refine hd_take 3 (o := ⟨some 78, _, _, _, _, _⟩) (.agg #[.int .i64 ok, .int .i64 ot, .int .i64 on, .int .i64 om, .slice au zl cu]) (by kernel_rfl) (by kernel_rfl) (by kernel_rfl) rfl (by rfl) (fun W hSw => by obtain ⟨k0, k1, k2, k3, k4, k5, k6⟩ := hSw; go_simp) (fun _ _ _ h => h) HS0.out ?_
              simp only [Act.put, List.setIfInBounds_toArray, List.set_cons_zero, List.set_cons_succ]
              refine hd_call 4 (o := ⟨some 79, _, _, _, _, _⟩) (by kernel_rfl) rfl (by rfl) (fun K' hK => ?_)
              go_wp2_with fail
              refine (plays_any w2.drew (b z) (r z) n (Hs z) (fun b => b < w.heap.size) ((HTs.out.prs z hz3).below ((Below.refl _ _).drew)) ok ot on om (.slice au zl cu) oR (HC6.out.keep (fun _ _ => rfl)) (fun b hb => ⟨fun h => by have := HTs.out.lo z hz3 b h; omega, by have := HTs.out.bel.size; show b < w2.heap.size; omega⟩) HFo.out (by rw [HZl.out]; have := HNs.out; omega) (by have := HNs.out; omega)).mono ?_
              rintro e w5 ⟨rfl, H', h1, h2⟩
              rw [HZl.out] at h1
              have hTd := HTs.out.below (w' := w2.drew) ((Below.refl _ _).drew)
              have HT5 : Hid (Tri w w5 A 3 (n + (zl + 1)) b r) := hide (by
                have hT2 : TriAt w w2.drew A 3 (n + (zl + 1)) b r Hs := ⟨hTd.arr, fun i hi => (hTd.prs i hi).mono (by omega), hTd.dis, hTd.nA, hTd.lo, hTd.loA, hTd.bel⟩
                exact hT2.turn hz3 h1 h2)
              have HS5 : Hid (ArS A B z (b z) (r z) ok ot on om (.slice au zl cu) w5) := hide (HS0.out.keep (h2.mod.block A (Array.getElem?_eq_some_iff.1 hTd.arr).1 (HTs.out.nA z hz3)) (h2.mod.block B (Array.getElem?_eq_some_iff.1 HRow.out).1 (HBs.out z hz3)))
              clear h1 h2 hTd
              refine hK _ _ HS5.out ?_
              clear hK K'
              try simp only [Act.put, List.setIfInBounds_toArray, List.set_cons_zero, List.set_cons_succ]
              refine hd_take 5 (o := ⟨some 3, _, _, _, _, _⟩) (.bool true) (by kernel_rfl) (by kernel_rfl) (by kernel_rfl) rfl (by rfl) (fun W hSw => by obtain ⟨k0, k1, k2, k3, k4, k5, k6⟩ := hSw; go_simp) (fun _ _ _ h => h) HS5.out ?_
              simp only [Act.put, List.setIfInBounds_toArray, List.set_cons_zero, List.set_cons_succ]
              refine wpAnyH_done (by kernel_rfl) ?_ _
              go_wp2
              go_roundw
              case rel => exact ⟨k + 1, n + (zl + 1), b, r, by omega, by go_num, hide HNs.out.1, HT5⟩
              case measure => simp [RowKit.intOf]; omega
            · have HT4 : Hid (Tri w w2 A 3 n b r) := hide ⟨Hs, HTs.out⟩
              by_cases g1 : ok < 1
              · clear hk1 hk4
                go_wp2
                go_roundw
                case rel => exact ⟨k + 1, n, b, r, by omega, by go_num, hide (by have := HNs.out; omega), HT4⟩
                case measure => simp [RowKit.intOf]; omega
              · have g2 : ok > 4 := by omega
                clear hk1 hk4
                go_wp2
                go_roundw
                case rel => exact ⟨k + 1, n, b, r, by omega, by go_num, hide (by have := HNs.out; omega), HT4⟩
                case measure => simp [RowKit.intOf]; omega
        · obtain rfl : k = m := by omega
          have hcn := cost_take os k
          have hnn : n ≤ 1048576 := by have := HN.out; omega
          go_upto_region 28 with fail
          go_loopw [13] (fun i wr => ∃ (j : Nat) (b r : Nat → Nat), j ≤ 3 ∧ i = .int .i64 (j : Nat) ∧ Hid (Tri w wr A 3 (n + j) b r)) (fun i _ => 3 - (RowKit.intOf i).toNat)
          case atStart => exact ⟨0, b, r, by omega, rfl, HT⟩
          case round =>
            obtain ⟨j, b, r, hj, rfl, HTj⟩ := hrel
            by_cases hlt3 : j < 3
            · have hji : (j : Int) < 3 := by omega
              have hj0 : (0 : Int) ≤ j := by omega
              obtain ⟨Hs, hT⟩ := HTj.out
              obtain ⟨c0, c1⟩ := hT.cells hlt3 hlt3
              unfold bp at c0
              unfold rp' at c1
              have HTa := hide hT
              clear hT
              go_wp2_with fail
              refine (plays_any wr (b j) (r j) (n + j) (Hs j) (fun _ => False) (HTa.out.prs j hlt3) 4 0 0 0 (.slice none 0 0) [] (Rd.nil _ _) (fun b h => h.elim) ⟨⟨by decide, by decide⟩, fun z hz => by simp at hz⟩ (by simp) (by omega)).mono ?_
              rintro e w5 ⟨rfl, H', h1, h2⟩
              have HT5 : Hid (Tri w w5 A 3 (n + (j + 1)) b r) := hide (by
                obtain ⟨Hs2, hT2⟩ : ∃ Hs2, TriAt w wr A 3 (n + (j + 1)) b r Hs2 ∧ Hs2 = Hs := by
                  exact ⟨Hs, ⟨HTa.out.arr, fun i hi => (HTa.out.prs i hi).mono (by omega), HTa.out.dis, HTa.out.nA, HTa.out.lo, HTa.out.loA, HTa.out.bel⟩, rfl⟩
                obtain ⟨hT2, rfl⟩ := hT2
                exact hT2.turn hlt3 h1 h2)
              clear h1 h2 c0 c1
              go_wp2
              go_roundw
              case rel => exact ⟨j + 1, b, r, by omega, by go_num, HT5⟩
              case measure => simp [RowKit.intOf]; omega
            · obtain rfl : j = 3 := by omega
              have HBf := hide HTj.out.bel
              go_wp2
              go_ret
              exact ⟨rfl, HBf.out⟩
end
end Go.Proofs.Ytngmnlmagbfijab
