import Derived.Test.YtihkkbbphdgagaaP2
import Derived.Test.YtihkkbbphdgagaaJ3
namespace Go.Proofs.Ytihkkbbphdgagaa
open Go.RowKit

set_option maxHeartbeats 400000 in
theorem unpack_bad (w : World) (a : Option Addr) (len cap : Nat) (hl : len ≠ 128) :
    Calls Try.prog 10 #[.slice a len cap] w fun e w' => e = .returned (.tuple #[.agg (page (fun _ => 0)).toArray, .int .i64 41]) ∧ Below w.heap.size w w' := by
  have hz : Pg (w.alloc (.cells (page (fun _ => 0)).toArray 24)) w.heap.size (fun _ => 0) := ⟨heap_alloc_last _ _⟩
  have hb : Below w.heap.size w (w.alloc (.cells (page (fun _ => 0)).toArray 24)) := (Below.refl _ _).alloc (Nat.le_refl _) _
  have hne : ¬ (len : Int) = 128 := by omega
  have hne2 : ((len : Int) == 128) = false := by simpa using hne
  go_enter Try.func10, Try.ntmps10
  go_upto_region 1 with fail
  simp only [page_zero]
  generalize w.alloc (.cells (page (fun _ => 0)).toArray 24) = w0 at *
  have HB := hide hb
  clear hb
  have hz' := hz.out
  go_wp2_with (refine wpList_store_row rfl 24 _ _ rfl w.heap.size (page (fun _ => 0)).toArray rfl rfl 24 _ hz' info24 rfl (page_all _) ?_)
  refine bodyPost_ret (results_row2 rfl _ _ w.heap.size 24 (page (fun _ => 0)).toArray (0, 0) _ rfl (setRow_heap _ _ _ _ _ _ hz') Try.underlying24 rfl info24) rfl ?_
  exact ⟨rfl, below_setRow HB.out (Nat.le_refl _) _⟩
set_option maxRecDepth 100000 in
set_option maxHeartbeats 1000000 in
theorem unpack_ok (w : World) (x : Addr) (cap : Nat) (f : Nat → Nat) (hf : ∀ i, f i < 256) (hc : ∀ i, i < 128 → w.cell? (x.add i) = some (.int .u8 (f i : Nat))) :
    Calls Try.prog 10 #[.slice (some x) 128 cap] w fun e w' => e = .returned (.tuple #[.agg (page (unk f 128)).toArray, .int .i64 0]) ∧ Below w.heap.size w w' := by
  have hz : Pg (w.alloc (.cells (page (fun _ => 0)).toArray 24)) w.heap.size (fun _ => 0) := ⟨heap_alloc_last _ _⟩
  have hb : Below w.heap.size w (w.alloc (.cells (page (fun _ => 0)).toArray 24)) := (Below.refl _ _).alloc (Nat.le_refl _) _
  go_enter Try.func10, Try.ntmps10
  go_upto_region 1 with fail
  simp only [page_zero]
  generalize w.alloc (.cells (page (fun _ => 0)).toArray 24) = w0 at *
  have hz2 : Pg (w0.alloc (.cells (page (fun _ => 0)).toArray 24)) w0.heap.size (fun _ => 0) := ⟨heap_alloc_last _ _⟩
  have hal : Below w0.heap.size w0 (w0.alloc (.cells (page (fun _ => 0)).toArray 24)) := (Below.refl _ _).alloc (Nat.le_refl _) _
  have hr := hz.up hal
  have hb2 := hb.trans (hal.mono hb.size)
  have hne : w.heap.size ≠ w0.heap.size := by have := hz.lt; omega
  have hle : w.heap.size ≤ w0.heap.size := hb.size
  go_upto_region 4 with fail
  simp only [page_zero]
  generalize w0.alloc (.cells (page (fun _ => 0)).toArray 24) = w1 at *
  obtain ⟨P, hP⟩ : ∃ P, w0.heap.size = P := ⟨_, rfl⟩
  rw [hP] at hz2 hne hle ⊢
  have H1 := hide (And.intro hz2 (And.intro hr hb2))
  clear hz hb hz2 hal hr hb2 hP
  have HC := hide hc
  clear hc
  go_wp2
  go_loopw [13, 5, 6] (fun i _ _ wr => ∃ k : Nat, k ≤ 128 ∧ i = .int .i64 (k : Int) ∧ Pg wr P (unk f k) ∧ Pg wr w.heap.size (fun _ => 0) ∧ Below w.heap.size w wr) (fun i _ _ _ => 128 - (intOf i).toNat)
  case atStart => exact ⟨0, by omega, rfl, by rw [show unk f 0 = fun _ => 0 from funext (fun j => by simp [unk])]; exact H1.out.1, H1.out.2⟩
  case round =>
    clear H1
    obtain ⟨k, hk, rfl, hP, hR, hb⟩ := hrel
    by_cases hlt : k < 128
    · have hd : decide ((k : Int) < 128) = true := by simp; omega
      have cx := cell_up (HC.out k hlt) hb
      have hfk := hf k
      obtain ⟨s1, s2, s3, s4⟩ := unk_step hf k
      have hS := fun W => shift_any W k hlt
      have c2 := hP.cell (i := k / 4) (by omega)
      have f2 : wr.frozen? ⟨P, k / 4, none⟩ = false := frozen_of_row _ _ _ _ _ hP.out
      have hoth : ∀ i, i ≠ k / 4 → unk f (k + 1) i = unk f k i := fun i hi => unk_other hi
      obtain ⟨q, hq⟩ : ∃ q, k / 4 = q := ⟨_, rfl⟩
      have hqi : (k : Int) / 4 = (q : Int) := by omega
      have hql : q < 32 := by omega
      have hwr : IntKind.i64.wrap (q : Int) = (q : Int) := by rw [IntKind.wrap_i64]; omega
      obtain ⟨sh, hsh⟩ : ∃ sh, k % 4 * 8 = sh := ⟨_, rfl⟩
      have hshl : sh < 32 := by omega
      rw [hq] at c2 f2 hoth s1 s2 s4
      rw [hsh] at s1 s3 hS
      have hsl : IntKind.u32.wrap ((f k : Int) * 2 ^ sh) = ((f k * 2 ^ sh : Nat) : Int) := by
        rw [show ((f k : Int) * 2 ^ sh) = ((f k * 2 ^ sh : Nat) : Int) by simp]
        rw [IntKind.wrap_u32]; omega
      have hsl2 : (f k : Int) * 2 ^ sh % 4294967296 = ((f k * 2 ^ sh : Nat) : Int) := by
        rw [show ((f k : Int) * 2 ^ sh) = ((f k * 2 ^ sh : Nat) : Int) by simp]
        omega
      have hor : bits .or .u32 (unk f k q : Int) ((f k * 2 ^ sh : Nat) : Int) = ((unk f (k + 1) q : Nat) : Int) := by rw [u32_or_nat _ _ s4 s3, ← s1]
      have HX : Hid (Pg (wr.setCell ⟨P, q, none⟩ (.int .u32 ((unk f (k + 1) q : Nat) : Int))).drew P (unk f (k + 1)) ∧ Pg (wr.setCell ⟨P, q, none⟩ (.int .u32 ((unk f (k + 1) q : Nat) : Int))).drew w.heap.size (fun _ => 0) ∧ Below w.heap.size w (wr.setCell ⟨P, q, none⟩ (.int .u32 ((unk f (k + 1) q : Nat) : Int))).drew) := by
        have h9 := hP.set hql (unk f (k + 1) q)
        have e9 : setW (unk f k) q (unk f (k + 1) q) = unk f (k + 1) := by
          funext i; unfold setW; split
          · rename_i e; rw [e]
          · rename_i e; exact (hoth i e).symm
        rw [e9] at h9
        exact hide ⟨⟨h9.out⟩, ⟨(hR.setOther hne _).out⟩, (hb.setCell hle _).drew⟩
      clear hP hR hb hoth s1 s2 s3 s4 hq hsh
      generalize f k * 2 ^ sh = t at *
      generalize unk f (k + 1) q = u1 at *
      generalize unk f k q = u0 at *
      go_wp2
      go_region_with (refine (hS _).mono ?_; rintro e w2 ⟨rfl, rfl⟩)
      all_goals go_wp2
      all_goals go_roundw
      all_goals first
        | exact ⟨k + 1, by omega, by go_num, HX.out⟩
        | (simp [intOf]; omega)
    · have hd : decide ((k : Int) < 128) = false := by simp; omega
      have hk' : k = 128 := by omega
      rw [hk'] at hP
      have hRo := hR.out
      have rP := hP.range
      have HB := hide hb
      clear hP hR hb hk'
      go_wp2_with (first | refine load24 rfl _ rfl P 0 rfl _ rP ?_ | refine wpList_store_row rfl 24 _ _ rfl w.heap.size (page (unk f 128)).toArray rfl rfl 24 _ hRo info24 rfl (page_all _) ?_)
      refine bodyPost_ret (results_row2 rfl _ _ w.heap.size 24 (page (unk f 128)).toArray (0, 0) _ rfl (setRow_heap _ _ _ _ _ _ hRo) Try.underlying24 rfl info24) rfl ?_
      exact ⟨rfl, below_setRow HB.out (Nat.le_refl _) _⟩
end Go.Proofs.Ytihkkbbphdgagaa
