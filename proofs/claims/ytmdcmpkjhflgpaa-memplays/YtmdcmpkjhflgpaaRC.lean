import Derived.Test.YtmdcmpkjhflgpaaRB
import Derived.Test.YtmdcmpkjhflgpaaH7
namespace Go.Proofs.Ytmdcmpkjhflgpaa
open Go.RowKit

theorem Pg.set {w : World} {N i : Nat} {p : Nat → Nat} (h : Pg w N p) (hi : i < 32) (v : Nat) : Pg (w.setCell ⟨N, i, none⟩ (.int .u32 (v : Int))) N (setW p i v) := by
  refine ⟨?_⟩
  rw [heap_setCell_same w N i _ _ _ h.out, page_set _ hi]
  simp
theorem Pg.frz {w : World} {N : Nat} {p : Nat → Nat} (h : Pg w N p) (i : Nat) : w.frozen? ⟨N, i, none⟩ = false := frozen_of_row _ _ _ _ _ h.out
theorem Pg.congr {w : World} {N : Nat} {p q : Nat → Nat} (h : Pg w N p) (e : ∀ i, i < 32 → p i = q i) : Pg w N q := ⟨by rw [← page_congr e]; exact h.out⟩
/-- the first j words of p, the others of q -/
def mix (p q : Nat → Nat) (j : Nat) : Nat → Nat := fun x => if x < j then p x else q x
theorem mix_set (p q : Nat → Nat) (j : Nat) : setW (mix p q j) j (p j) = mix p q (j + 1) := by
  funext x
  unfold setW mix
  by_cases h : x = j
  · subst h; simp
  · by_cases h2 : x < j
    · simp [h, h2, Nat.lt_succ_of_lt h2]
    · simp [h, h2, show ¬ x < j + 1 by omega]
theorem mix_all (p q : Nat → Nat) : ∀ i, i < 32 → mix p q 32 i = p i := by intro i hi; simp [mix, hi]
section
variable (w : World) (B G n c : Nat) (a : Option Addr) (m : Nat → Fr)
set_option maxHeartbeats 400000 in
theorem rpage_off (f : Int) (h : RfAt w B G n c a m) (hu : Off m n f) :
    Calls Try.prog 11 #[.pointer (some ⟨B, 0, none⟩), .int .i64 f] w fun e w' => e = .returned (.tuple #[.agg (page (fun _ => 0)).toArray, .int .i64 50]) ∧ Below w.heap.size w w' := by
  go_enter Try.func11, Try.ntmps11
  go_wp2_with fail
  refine (used_no _ B G n c a m f ((h.alloc _).alloc _) hu).mono ?_
  rintro e w1 ⟨rfl, hw1⟩
  clear h hu
  simp only [page_zero] at hw1
  have hz : w1.heap[w.heap.size]? = some (.cells (page (fun _ => 0)).toArray 29 (0, 0)) := by rw [hw1]; exact heap_alloc2_old w _ _
  have hz2 : Pg w1 (w.heap.size + 1) (fun _ => 0) := by rw [hw1]; exact ⟨heap_alloc2_new w _ _⟩
  have HB : Hid (Below w.heap.size w w1) := by rw [hw1]; exact hide (((Below.refl _ _).alloc (Nat.le_refl _) _).alloc (by simp) _)
  have hr := hz2.range
  clear hw1 hz2
  generalize w.heap.size + 1 = M at *
  go_wp2_with (first
    | refine wpList_load_mid rfl 29 _ rfl M 0 rfl _ _ hr Try.underlying29 rfl info24 ?_
    | refine wpList_store_row rfl 29 _ _ rfl w.heap.size (page (fun _ => 0)).toArray rfl rfl 29 _ hz info24 rfl (page_all _) ?_)
  refine bodyPost_ret (results_row2 rfl _ _ w.heap.size 29 (page (fun _ => 0)).toArray (0, 0) _ rfl (setRow_heap _ _ _ _ _ _ hz) Try.underlying29 rfl info24) rfl ?_
  exact ⟨rfl, below_setRow HB.out (Nat.le_refl _) _⟩
set_option maxHeartbeats 800000 in
theorem rpage_on (k : Nat) (h : RfAt w B G n c a m) (hu : On m n k) :
    Calls Try.prog 11 #[.pointer (some ⟨B, 0, none⟩), .int .i64 (k : Int)] w fun e w' => e = .returned (.tuple #[.agg (page (m k).w).toArray, .int .i64 0]) ∧ Below w.heap.size w w' := by
  go_enter Try.func11, Try.ntmps11
  go_wp2_with fail
  refine (used_yes _ B G n c a m k ((h.alloc _).alloc _) hu).mono ?_
  rintro e w1 ⟨rfl, hw1⟩
  simp only [page_zero] at hw1
  have hz : Pg w1 w.heap.size (fun _ => 0) := by rw [hw1]; exact ⟨heap_alloc2_old w _ _⟩
  have hz2 : Pg w1 (w.heap.size + 1) (mix (m k).w (fun _ => 0) 0) := by rw [hw1]; exact ⟨heap_alloc2_new w _ _⟩
  have HB : Hid (Below w.heap.size w w1) := by rw [hw1]; exact hide (((Below.refl _ _).alloc (Nat.le_refl _) _).alloc (by simp) _)
  have HH := hide h
  have hk := hu.1
  clear hw1 h hu
  have HZ := hide (And.intro hz hz2)
  clear hz hz2
  have hNM : w.heap.size ≠ w.heap.size + 1 := by omega
  have hNM' : w.heap.size ≤ w.heap.size + 1 := by omega
  generalize w.heap.size + 1 = M at *
  go_wp2
  go_loopw [7] (fun i wr => ∃ j : Nat, j ≤ 32 ∧ i = .int .i64 (j : Int) ∧ Pg wr w.heap.size (fun _ => 0) ∧ Pg wr M (mix (m k).w (fun _ => 0) j) ∧ Below w.heap.size w wr) (fun i _ => 32 - (intOf i).toNat)
  case atStart => exact ⟨0, by omega, rfl, HZ.out.1, HZ.out.2, HB.out⟩
  case round =>
    obtain ⟨j, hj, rfl, hz, hz2, hb⟩ := hrel
    have hR := HH.out.below hb
    by_cases hlt : j < 32
    · have hd : decide ((j : Int) < 32) = true := by simp; omega
      have c0 := hR.hds hk
      have c1 := hR.word hk hlt
      have c2 := hz2.cell hlt
      have f2 := hz2.frz j
      have H1 : Hid (Pg (wr.setCell ⟨M, j, none⟩ (.int .u32 ((m k).w j : Nat))) M (mix (m k).w (fun _ => 0) (j + 1))) := hide (by rw [← mix_set]; exact hz2.set hlt _)
      have H2 : Hid (Pg (wr.setCell ⟨M, j, none⟩ (.int .u32 ((m k).w j : Nat))) w.heap.size (fun _ => 0)) := hide ⟨by rw [heap_setCell_other _ _ _ _ hNM]; exact hz.out⟩
      have H3 := hide (hb.setCell (B := w.heap.size) (p := ⟨M, j, none⟩) hNM' (.int .u32 ((m k).w j : Nat)))
      clear hR hz hz2 hb
      go_wp2
      go_roundw
      case rel => exact ⟨j + 1, by omega, by go_num, H2.out, H1.out, H3.out⟩
      case measure => simp [intOf]; omega
    · obtain rfl : j = 32 := by omega
      have hz3 := hz2.congr (mix_all _ _)
      have hr := hz3.range
      have hzo := hz.out
      have HB2 := hide hb
      clear hR hz hz2 hb hz3
      go_wp2_with (first
        | refine wpList_load_mid rfl 29 _ rfl M 0 rfl _ _ hr Try.underlying29 rfl info24 ?_
        | refine wpList_store_row rfl 29 _ _ rfl w.heap.size (page (m k).w).toArray rfl rfl 29 _ hzo info24 rfl (page_all _) ?_)
      refine bodyPost_ret (results_row2 rfl _ _ w.heap.size 29 (page (m k).w).toArray (0, 0) _ rfl (setRow_heap _ _ _ _ _ _ hzo) Try.underlying29 rfl info24) rfl ?_
      exact ⟨rfl, below_setRow HB2.out (Nat.le_refl _) _⟩
end
end Go.Proofs.Ytmdcmpkjhflgpaa
