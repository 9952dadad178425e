import Derived.Test.YtihkkbbphdgagaaP3
import Derived.Deep.RegionHeld
import Derived.BigQuiet
import Derived.Deep.DeepCutAuto
namespace Go.Proofs.Ytihkkbbphdgagaa
open Go.RowKit

section
variable {P : Program} {ops : Array Oper} {Q : Exit → Act → World → Prop} {S : World → Prop} {fuel : Nat} {listed : Array Bool} {a : Act} {w : World}
theorem hd_call (i : Nat) {o : Oper} (hr : Region.ready .any ops listed = [i]) (ho : ops[i]? = some o) (hw : Region.wanted o (yielded ops a.tmps) = true)
    (h : ∀ K : Act → World → Prop, (∀ a w, S w → wpAnyH P .any ops Q S fuel (listed.setIfInBounds i true) a w → K a w) → Oper.wp P o a w K Q) : wpAnyH P .any ops Q S (fuel + 1) listed a w := by
  refine wpAnyH_ready hr (by simp) (AllReadyH.cons ho (fun K hK => ?_) AllReadyH.nil)
  rw [if_pos hw]
  exact h K (fun a w hS hh => hK.out a w hS (fun _ => hh))
/-- what yields in whatever world that meets S -/
theorem hd_take (i : Nat) {o : Oper} (v : Value) (hs : Region.noSelect ops = true) (hf : Region.free .any ops listed i = true) (hr : (Region.ready .any ops listed).contains i = true) (ho : ops[i]? = some o) (hw : Region.wanted o (yielded ops a.tmps) = true)
    (hy : ∀ w, S w → (execOp a.eval o).run P w = .ok (.value v) w)
    (hQ : ∀ c a w, Q (.panic c) (a.put o.dst v) w → Q (.panic c) a w) (h0 : S w) (h : wpAnyH P .any ops Q S fuel (listed.setIfInBounds i true) (a.put o.dst v) w) : wpAnyH P .any ops Q S (fuel + 1) listed a w :=
  wpAnyH_take ho hs hf hr hQ (Or.inl ⟨hw, hy⟩) h0 h
end

set_option maxHeartbeats 400000 in
theorem runpack_bad (w : World) (a : Option Addr) (len cap : Nat) (hl : len ≠ 128) :
    Calls Try.prog 12 #[.slice a len cap] w fun e w' => e = .returned (.tuple #[.agg (page (fun _ => 0)).toArray, .int .i64 41]) ∧ Below w.heap.size w w' := by
  have hz : Pg (w.alloc (.cells (page (fun _ => 0)).toArray 24)) w.heap.size (fun _ => 0) := ⟨heap_alloc_last _ _⟩
  have hb : Below w.heap.size w (w.alloc (.cells (page (fun _ => 0)).toArray 24)) := (Below.refl _ _).alloc (Nat.le_refl _) _
  have hne : ¬ (len : Int) = 128 := by omega
  have hne2 : ((len : Int) == 128) = false := by simpa using hne
  go_enter Try.func12, Try.ntmps12
  go_upto_region 1 with fail
  simp only [page_zero]
  generalize w.alloc (.cells (page (fun _ => 0)).toArray 24) = w0 at *
  have hz2 : Pg (w0.alloc (.cells (page (fun _ => 0)).toArray 24)) w0.heap.size (fun _ => 0) := ⟨heap_alloc_last _ _⟩
  have hal : Below w0.heap.size w0 (w0.alloc (.cells (page (fun _ => 0)).toArray 24)) := (Below.refl _ _).alloc (Nat.le_refl _) _
  have hr := (hz.up hal).out
  have HB := hide (hb.trans (hal.mono hb.size))
  go_upto_region 2 with fail
  simp only [page_zero]
  generalize w0.alloc (.cells (page (fun _ => 0)).toArray 24) = w1 at *
  generalize w0.heap.size = P at *
  have r2 := hz2.range
  clear hz hb hal hz2
  go_wp2_with (first | refine load24 rfl _ rfl P 0 rfl _ r2 ?_ | refine wpList_store_row rfl 24 _ _ rfl w.heap.size (page (fun _ => 0)).toArray rfl rfl 24 _ hr info24 rfl (page_all _) ?_)
  refine bodyPost_ret (results_row2 rfl _ _ w.heap.size 24 (page (fun _ => 0)).toArray (0, 0) _ rfl (setRow_heap _ _ _ _ _ _ hr) Try.underlying24 rfl info24) rfl ?_
  exact ⟨rfl, below_setRow HB.out (Nat.le_refl _) _⟩
theorem unk_full {f : Nat → Nat} {j : Nat} (hj : j < 32) : unk f 128 j = f (4 * j) + 256 * f (4 * j + 1) + 65536 * f (4 * j + 2) + 16777216 * f (4 * j + 3) := by
  unfold unk; (repeat' split) <;> omega
set_option maxRecDepth 100000 in
set_option maxHeartbeats 20000000 in
theorem runpack_ok (w : World) (x : Addr) (cap : Nat) (f : Nat → Nat) (hf : ∀ i, f i < 256) (hc : ∀ i, i < 128 → w.cell? (x.add i) = some (.int .u8 (f i : Nat))) :
    Calls Try.prog 12 #[.slice (some x) 128 cap] w fun e w' => e = .returned (.tuple #[.agg (page (unk f 128)).toArray, .int .i64 0]) ∧ Below w.heap.size w w' := by
  have hz : Pg (w.alloc (.cells (page (fun _ => 0)).toArray 24)) w.heap.size (fun _ => 0) := ⟨heap_alloc_last _ _⟩
  have hb : Below w.heap.size w (w.alloc (.cells (page (fun _ => 0)).toArray 24)) := (Below.refl _ _).alloc (Nat.le_refl _) _
  go_enter Try.func12, Try.ntmps12
  go_upto_region 1 with fail
  simp only [page_zero]
  generalize w.alloc (.cells (page (fun _ => 0)).toArray 24) = w0 at *
  have hz2 : Pg (w0.alloc (.cells (page (fun _ => 0)).toArray 24)) w0.heap.size (fun _ => 0) := ⟨heap_alloc_last _ _⟩
  have hal : Below w0.heap.size w0 (w0.alloc (.cells (page (fun _ => 0)).toArray 24)) := (Below.refl _ _).alloc (Nat.le_refl _) _
  have hr := hz.up hal
  have hb2 := hb.trans (hal.mono hb.size)
  have hne : w.heap.size ≠ w0.heap.size := by have := hz.lt; omega
  have hle : w.heap.size ≤ w0.heap.size := hb.size
  go_upto_region 2 with fail
  simp only [page_zero]
  generalize w0.alloc (.cells (page (fun _ => 0)).toArray 24) = w1 at *
  obtain ⟨P, hP⟩ : ∃ P, w0.heap.size = P := ⟨_, rfl⟩
  rw [hP] at hz2 hne hle ⊢
  have H1 := hide (And.intro hz2 (And.intro hr hb2))
  clear hz hb hz2 hal hr hb2 hP
  have HC := hide hc
  clear hc
  go_wp2
  go_loopw [5] (fun i wr => ∃ k : Nat, k ≤ 32 ∧ i = .int .i64 (k : Int) ∧ Pg wr P (fun j => if j < k then unk f 128 j else 0) ∧ Pg wr w.heap.size (fun _ => 0) ∧ Below w.heap.size w wr) (fun i _ => 32 - (intOf i).toNat)
  case atStart => exact ⟨0, by omega, rfl, by simpa using H1.out.1, H1.out.2⟩
  case round =>
    clear H1
    obtain ⟨k, hk, rfl, hP, hR, hb⟩ := hrel
    by_cases hlt : k < 32
    · have hd : decide ((k : Int) < 32) = true := by simp; omega
      have hbx : (x.add (4 * k)).block ≠ P := by have := World.block_lt_of_cell? w _ (HC.out (4 * k) (by omega)); omega
      have hbx1 : (x.add (4 * k + 1)).block ≠ P := by have := World.block_lt_of_cell? w _ (HC.out (4 * k + 1) (by omega)); omega
      have e0 := cell_up (HC.out (4 * k) (by omega)) hb
      have e1 := cell_up (HC.out (4 * k + 1) (by omega)) hb
      have e2 := cell_up (HC.out (4 * k + 2) (by omega)) hb
      have e3 := cell_up (HC.out (4 * k + 3) (by omega)) hb
      have b0 := hf (4 * k)
      have b1 := hf (4 * k + 1)
      have b2 := hf (4 * k + 2)
      have b3 := hf (4 * k + 3)
      have c2 := hP.cell hlt
      have f2 : wr.frozen? ⟨P, k, none⟩ = false := frozen_of_row _ _ _ _ _ hP.out
      have hun := unk_full (f := f) hlt
      have HX : Hid (∀ z : Int, z = (f (4 * k) : Int) + 256 * (f (4 * k + 1) : Int) + 65536 * (f (4 * k + 2) : Int) + 16777216 * (f (4 * k + 3) : Int) → Pg (wr.setCell ⟨P, k, none⟩ (.int .u32 z)).drew P (fun j => if j < k + 1 then unk f 128 j else 0) ∧ Pg (wr.setCell ⟨P, k, none⟩ (.int .u32 z)).drew w.heap.size (fun _ => 0) ∧ Below w.heap.size w (wr.setCell ⟨P, k, none⟩ (.int .u32 z)).drew) := by
        refine hide (fun z hz => ?_)
        obtain rfl : z = ((unk f 128 k : Nat) : Int) := by rw [hz, hun]; omega
        have h9 := hP.set hlt (unk f 128 k)
        have e9 : setW (fun j => if j < k then unk f 128 j else 0) k (unk f 128 k) = (fun j => if j < k + 1 then unk f 128 j else 0) := by
          funext i; unfold setW; split
          · rename_i e; subst e; simp
          · rename_i e
            by_cases h2 : i < k
            · simp [h2, Nat.lt_succ_of_lt h2]
            · simp [h2, show ¬ i < k + 1 by omega]
        rw [e9] at h9
        exact ⟨⟨h9.out⟩, ⟨(hR.setOther hne _).out⟩, (hb.setCell hle _).drew⟩
      clear hP hR hb hun
      obtain ⟨q, hq⟩ : ∃ q, 4 * k = q := ⟨_, rfl⟩
      have hqi : 4 * (k : Int) = (q : Int) := by omega
      have hql : q ≤ 124 := by omega
      have hw0 : IntKind.i64.wrap (q : Int) = (q : Int) := by rw [IntKind.wrap_i64]; omega
      have hw1 : IntKind.i64.wrap ((q : Int) + 1) = (q : Int) + 1 := by rw [IntKind.wrap_i64]; omega
      have hw2 : IntKind.i64.wrap ((q : Int) + 2) = (q : Int) + 2 := by rw [IntKind.wrap_i64]; omega
      have hw3 : IntKind.i64.wrap ((q : Int) + 3) = (q : Int) + 3 := by rw [IntKind.wrap_i64]; omega
      generalize f (4 * k) = z0 at *
      generalize f (4 * k + 1) = z1 at *
      generalize f (4 * k + 2) = z2 at *
      generalize f (4 * k + 3) = z3 at *
      rw [hq] at e0 e1 e2 e3 hbx hbx1
      rw [show x.add (q + 1) = ⟨x.block, x.off + (q + 1), none⟩ by simp [Addr.add]] at hbx1
      rw [show x.add (q + 1) = ⟨x.block, x.off + (q + 1), none⟩ by simp [Addr.add]] at e1
      rw [show x.add (q + 2) = ⟨x.block, x.off + (q + 2), none⟩ by simp [Addr.add]] at e2
      rw [show x.add (q + 3) = ⟨x.block, x.off + (q + 3), none⟩ by simp [Addr.add]] at e3
      clear hq
      have hv1 : IntKind.u32.wrap (256 * (z1 : Int)) = 256 * (z1 : Int) := by rw [IntKind.wrap_u32]; omega
      have hv2 : IntKind.u32.wrap ((z0 : Int) + 256 * (z1 : Int)) = (z0 : Int) + 256 * (z1 : Int) := by rw [IntKind.wrap_u32]; omega
      have hv3 : IntKind.u32.wrap (65536 * (z2 : Int)) = 65536 * (z2 : Int) := by rw [IntKind.wrap_u32]; omega
      have hv4 : IntKind.u32.wrap ((z0 : Int) + 256 * (z1 : Int) + 65536 * (z2 : Int)) = (z0 : Int) + 256 * (z1 : Int) + 65536 * (z2 : Int) := by rw [IntKind.wrap_u32]; omega
      have hv5 : IntKind.u32.wrap (16777216 * (z3 : Int)) = 16777216 * (z3 : Int) := by rw [IntKind.wrap_u32]; omega
      have hv6 : IntKind.u32.wrap ((z0 : Int) + 256 * (z1 : Int) + 65536 * (z2 : Int) + 16777216 * (z3 : Int)) = (z0 : Int) + 256 * (z1 : Int) + 65536 * (z2 : Int) + 16777216 * (z3 : Int) := by rw [IntKind.wrap_u32]; omega
      have HS0 : Hid (wr.cell? (x.add q) = some (.int .u8 (z0 : Int)) ∧ wr.cell? (⟨x.block, x.off + (q + 1), none⟩) = some (.int .u8 (z1 : Int)) ∧ wr.cell? (⟨x.block, x.off + (q + 2), none⟩) = some (.int .u8 (z2 : Int)) ∧ wr.cell? (⟨x.block, x.off + (q + 3), none⟩) = some (.int .u8 (z3 : Int))) := hide ⟨e0, e1, e2, e3⟩
      clear e0 e1 e2 e3
      have hk3 : (k : Int) < 32 := by omega
      have hq3 : (q : Int) < 128 := by omega
      have hq4 : (q : Int) + 1 < 128 := by omega
      have hq5 : (q : Int) + 2 < 128 := by omega
      have hq6 : (q : Int) + 3 < 128 := by omega
      go_upto_region 7 with fail
      obtain ⟨wd, hdx⟩ : ∃ v, v = wr.drew := ⟨_, rfl⟩
      have HS : Hid (wd.cell? (x.add q) = some (.int .u8 (z0 : Int)) ∧ wd.cell? (⟨x.block, x.off + (q + 1), none⟩) = some (.int .u8 (z1 : Int)) ∧ wd.cell? (⟨x.block, x.off + (q + 2), none⟩) = some (.int .u8 (z2 : Int)) ∧ wd.cell? (⟨x.block, x.off + (q + 3), none⟩) = some (.int .u8 (z3 : Int))) := hide (by rw [hdx]; exact HS0.out)
      obtain ⟨v0, c2'⟩ : ∃ v, wd.cell? ⟨P, k, none⟩ = some v := ⟨_, by rw [hdx]; exact c2⟩
      have f2' : wd.frozen? ⟨P, k, none⟩ = false := by rw [hdx]; exact f2
      refine wp_region_held_drew (S := fun W => W.cell? (x.add q) = some (.int .u8 (z0 : Int)) ∧ W.cell? (⟨x.block, x.off + (q + 1), none⟩) = some (.int .u8 (z1 : Int)) ∧ W.cell? (⟨x.block, x.off + (q + 2), none⟩) = some (.int .u8 (z2 : Int)) ∧ W.cell? (⟨x.block, x.off + (q + 3), none⟩) = some (.int .u8 (z3 : Int))) (by kernel_rfl) (by rw [← hdx]; exact HS.out) (fun _ => ?_)
      rw [← hdx]
      have HXd := hide (fun z hz => (show Pg (wd.setCell ⟨P, k, none⟩ (.int .u32 z)) P (fun j => if j < k + 1 then unk f 128 j else 0) ∧ Pg (wd.setCell ⟨P, k, none⟩ (.int .u32 z)) w.heap.size (fun _ => 0) ∧ Below w.heap.size w (wd.setCell ⟨P, k, none⟩ (.int .u32 z)) by rw [hdx]; exact HX.out z hz))
      clear HS0 c2 f2 hdx HX
      refine hd_take 0 (o := ⟨some 14, _, _, _, _, _⟩) (.int .i64 (k : Int)) (by kernel_rfl) (by kernel_rfl) (by kernel_rfl) rfl (by rfl) (fun W hSw => by go_simp) (fun _ _ _ h => h) HS.out ?_
      try simp only [Act.put, List.setIfInBounds_toArray, List.set_cons_zero, List.set_cons_succ]
      refine hd_take 1 (o := ⟨some 15, _, _, _, _, _⟩) (.slice (some x) 128 cap) (by kernel_rfl) (by kernel_rfl) (by kernel_rfl) rfl (by rfl) (fun W hSw => by go_simp) (fun _ _ _ h => h) HS.out ?_
      try simp only [Act.put, List.setIfInBounds_toArray, List.set_cons_zero, List.set_cons_succ]
      refine hd_take 2 (o := ⟨some 16, _, _, _, _, _⟩) (.int .i64 (k : Int)) (by kernel_rfl) (by kernel_rfl) (by kernel_rfl) rfl (by rfl) (fun W hSw => by go_simp) (fun _ _ _ h => h) HS.out ?_
      try simp only [Act.put, List.setIfInBounds_toArray, List.set_cons_zero, List.set_cons_succ]
      refine hd_take 3 (o := ⟨some 17, _, _, _, _, _⟩) (.int .i64 (q : Int)) (by kernel_rfl) (by kernel_rfl) (by kernel_rfl) rfl (by rfl) (fun W hSw => by go_simp) (fun _ _ _ h => h) HS.out ?_
      try simp only [Act.put, List.setIfInBounds_toArray, List.set_cons_zero, List.set_cons_succ]
      refine hd_take 4 (o := ⟨some 18, _, _, _, _, _⟩) (.pointer (some (x.add q))) (by kernel_rfl) (by kernel_rfl) (by kernel_rfl) rfl (by rfl) (fun W hSw => by go_simp) (fun _ _ _ h => h) HS.out ?_
      try simp only [Act.put, List.setIfInBounds_toArray, List.set_cons_zero, List.set_cons_succ]
      refine hd_take 5 (o := ⟨some 19, _, _, _, _, _⟩) (.int .u8 (z0 : Int)) (by kernel_rfl) (by kernel_rfl) (by kernel_rfl) rfl (by rfl) (fun W hSw => by obtain ⟨s0, s1, s2, s3⟩ := hSw; go_simp) (fun _ _ _ h => h) HS.out ?_
      try simp only [Act.put, List.setIfInBounds_toArray, List.set_cons_zero, List.set_cons_succ]
      refine hd_take 6 (o := ⟨some 20, _, _, _, _, _⟩) (.int .u32 (z0 : Int)) (by kernel_rfl) (by kernel_rfl) (by kernel_rfl) rfl (by rfl) (fun W hSw => by go_simp; rw [IntKind.wrap_u32]; omega) (fun _ _ _ h => h) HS.out ?_
      try simp only [Act.put, List.setIfInBounds_toArray, List.set_cons_zero, List.set_cons_succ]
      refine hd_take 7 (o := ⟨some 21, _, _, _, _, _⟩) (.slice (some x) 128 cap) (by kernel_rfl) (by kernel_rfl) (by kernel_rfl) rfl (by rfl) (fun W hSw => by go_simp) (fun _ _ _ h => h) HS.out ?_
      try simp only [Act.put, List.setIfInBounds_toArray, List.set_cons_zero, List.set_cons_succ]
      refine hd_take 8 (o := ⟨some 22, _, _, _, _, _⟩) (.int .i64 (k : Int)) (by kernel_rfl) (by kernel_rfl) (by kernel_rfl) rfl (by rfl) (fun W hSw => by go_simp) (fun _ _ _ h => h) HS.out ?_
      try simp only [Act.put, List.setIfInBounds_toArray, List.set_cons_zero, List.set_cons_succ]
      refine hd_take 9 (o := ⟨some 23, _, _, _, _, _⟩) (.int .i64 (q : Int)) (by kernel_rfl) (by kernel_rfl) (by kernel_rfl) rfl (by rfl) (fun W hSw => by go_simp) (fun _ _ _ h => h) HS.out ?_
      try simp only [Act.put, List.setIfInBounds_toArray, List.set_cons_zero, List.set_cons_succ]
      refine hd_take 10 (o := ⟨some 24, _, _, _, _, _⟩) (.int .i64 ((q : Int) + 1)) (by kernel_rfl) (by kernel_rfl) (by kernel_rfl) rfl (by rfl) (fun W hSw => by go_simp) (fun _ _ _ h => h) HS.out ?_
      try simp only [Act.put, List.setIfInBounds_toArray, List.set_cons_zero, List.set_cons_succ]
      refine hd_take 11 (o := ⟨some 25, _, _, _, _, _⟩) (.pointer (some (⟨x.block, x.off + (q + 1), none⟩))) (by kernel_rfl) (by kernel_rfl) (by kernel_rfl) rfl (by rfl) (fun W hSw => by go_simp; first | (intro h9; omega) | (rw [if_pos (by omega), show ((q : Int) + 1).toNat = q + 1 by omega]; simp [Addr.add])) (fun _ _ _ h => h) HS.out ?_
      try simp only [Act.put, List.setIfInBounds_toArray, List.set_cons_zero, List.set_cons_succ]
      refine hd_take 12 (o := ⟨some 26, _, _, _, _, _⟩) (.int .u8 (z1 : Int)) (by kernel_rfl) (by kernel_rfl) (by kernel_rfl) rfl (by rfl) (fun W hSw => by obtain ⟨s0, s1, s2, s3⟩ := hSw; go_simp) (fun _ _ _ h => h) HS.out ?_
      try simp only [Act.put, List.setIfInBounds_toArray, List.set_cons_zero, List.set_cons_succ]
      refine hd_take 13 (o := ⟨some 27, _, _, _, _, _⟩) (.int .u32 (z1 : Int)) (by kernel_rfl) (by kernel_rfl) (by kernel_rfl) rfl (by rfl) (fun W hSw => by go_simp; rw [IntKind.wrap_u32]; omega) (fun _ _ _ h => h) HS.out ?_
      try simp only [Act.put, List.setIfInBounds_toArray, List.set_cons_zero, List.set_cons_succ]
      refine hd_take 14 (o := ⟨some 28, _, _, _, _, _⟩) (.int .u32 (256 * (z1 : Int))) (by kernel_rfl) (by kernel_rfl) (by kernel_rfl) rfl (by rfl) (fun W hSw => by go_simp) (fun _ _ _ h => h) HS.out ?_
      try simp only [Act.put, List.setIfInBounds_toArray, List.set_cons_zero, List.set_cons_succ]
      refine hd_take 15 (o := ⟨some 29, _, _, _, _, _⟩) (.int .u32 ((z0 : Int) + 256 * (z1 : Int))) (by kernel_rfl) (by kernel_rfl) (by kernel_rfl) rfl (by rfl) (fun W hSw => by go_simp) (fun _ _ _ h => h) HS.out ?_
      try simp only [Act.put, List.setIfInBounds_toArray, List.set_cons_zero, List.set_cons_succ]
      refine hd_take 16 (o := ⟨some 30, _, _, _, _, _⟩) (.slice (some x) 128 cap) (by kernel_rfl) (by kernel_rfl) (by kernel_rfl) rfl (by rfl) (fun W hSw => by go_simp) (fun _ _ _ h => h) HS.out ?_
      try simp only [Act.put, List.setIfInBounds_toArray, List.set_cons_zero, List.set_cons_succ]
      refine hd_take 17 (o := ⟨some 31, _, _, _, _, _⟩) (.int .i64 (k : Int)) (by kernel_rfl) (by kernel_rfl) (by kernel_rfl) rfl (by rfl) (fun W hSw => by go_simp) (fun _ _ _ h => h) HS.out ?_
      try simp only [Act.put, List.setIfInBounds_toArray, List.set_cons_zero, List.set_cons_succ]
      refine hd_take 18 (o := ⟨some 32, _, _, _, _, _⟩) (.int .i64 (q : Int)) (by kernel_rfl) (by kernel_rfl) (by kernel_rfl) rfl (by rfl) (fun W hSw => by go_simp) (fun _ _ _ h => h) HS.out ?_
      try simp only [Act.put, List.setIfInBounds_toArray, List.set_cons_zero, List.set_cons_succ]
      refine hd_take 19 (o := ⟨some 33, _, _, _, _, _⟩) (.int .i64 ((q : Int) + 2)) (by kernel_rfl) (by kernel_rfl) (by kernel_rfl) rfl (by rfl) (fun W hSw => by go_simp) (fun _ _ _ h => h) HS.out ?_
      try simp only [Act.put, List.setIfInBounds_toArray, List.set_cons_zero, List.set_cons_succ]
      refine hd_take 20 (o := ⟨some 34, _, _, _, _, _⟩) (.pointer (some (⟨x.block, x.off + (q + 2), none⟩))) (by kernel_rfl) (by kernel_rfl) (by kernel_rfl) rfl (by rfl) (fun W hSw => by go_simp; first | (intro h9; omega) | (rw [if_pos (by omega), show ((q : Int) + 2).toNat = q + 2 by omega]; simp [Addr.add])) (fun _ _ _ h => h) HS.out ?_
      try simp only [Act.put, List.setIfInBounds_toArray, List.set_cons_zero, List.set_cons_succ]
      refine hd_take 21 (o := ⟨some 35, _, _, _, _, _⟩) (.int .u8 (z2 : Int)) (by kernel_rfl) (by kernel_rfl) (by kernel_rfl) rfl (by rfl) (fun W hSw => by obtain ⟨s0, s1, s2, s3⟩ := hSw; go_simp) (fun _ _ _ h => h) HS.out ?_
      try simp only [Act.put, List.setIfInBounds_toArray, List.set_cons_zero, List.set_cons_succ]
      refine hd_take 22 (o := ⟨some 36, _, _, _, _, _⟩) (.int .u32 (z2 : Int)) (by kernel_rfl) (by kernel_rfl) (by kernel_rfl) rfl (by rfl) (fun W hSw => by go_simp; rw [IntKind.wrap_u32]; omega) (fun _ _ _ h => h) HS.out ?_
      try simp only [Act.put, List.setIfInBounds_toArray, List.set_cons_zero, List.set_cons_succ]
      refine hd_take 23 (o := ⟨some 37, _, _, _, _, _⟩) (.int .u32 (65536 * (z2 : Int))) (by kernel_rfl) (by kernel_rfl) (by kernel_rfl) rfl (by rfl) (fun W hSw => by go_simp) (fun _ _ _ h => h) HS.out ?_
      try simp only [Act.put, List.setIfInBounds_toArray, List.set_cons_zero, List.set_cons_succ]
      refine hd_take 24 (o := ⟨some 38, _, _, _, _, _⟩) (.int .u32 ((z0 : Int) + 256 * (z1 : Int) + 65536 * (z2 : Int))) (by kernel_rfl) (by kernel_rfl) (by kernel_rfl) rfl (by rfl) (fun W hSw => by go_simp) (fun _ _ _ h => h) HS.out ?_
      try simp only [Act.put, List.setIfInBounds_toArray, List.set_cons_zero, List.set_cons_succ]
      refine hd_take 25 (o := ⟨some 39, _, _, _, _, _⟩) (.slice (some x) 128 cap) (by kernel_rfl) (by kernel_rfl) (by kernel_rfl) rfl (by rfl) (fun W hSw => by go_simp) (fun _ _ _ h => h) HS.out ?_
      try simp only [Act.put, List.setIfInBounds_toArray, List.set_cons_zero, List.set_cons_succ]
      refine hd_take 26 (o := ⟨some 40, _, _, _, _, _⟩) (.int .i64 (k : Int)) (by kernel_rfl) (by kernel_rfl) (by kernel_rfl) rfl (by rfl) (fun W hSw => by go_simp) (fun _ _ _ h => h) HS.out ?_
      try simp only [Act.put, List.setIfInBounds_toArray, List.set_cons_zero, List.set_cons_succ]
      refine hd_take 27 (o := ⟨some 41, _, _, _, _, _⟩) (.int .i64 (q : Int)) (by kernel_rfl) (by kernel_rfl) (by kernel_rfl) rfl (by rfl) (fun W hSw => by go_simp) (fun _ _ _ h => h) HS.out ?_
      try simp only [Act.put, List.setIfInBounds_toArray, List.set_cons_zero, List.set_cons_succ]
      refine hd_take 28 (o := ⟨some 42, _, _, _, _, _⟩) (.int .i64 ((q : Int) + 3)) (by kernel_rfl) (by kernel_rfl) (by kernel_rfl) rfl (by rfl) (fun W hSw => by go_simp) (fun _ _ _ h => h) HS.out ?_
      try simp only [Act.put, List.setIfInBounds_toArray, List.set_cons_zero, List.set_cons_succ]
      refine hd_take 29 (o := ⟨some 43, _, _, _, _, _⟩) (.pointer (some (⟨x.block, x.off + (q + 3), none⟩))) (by kernel_rfl) (by kernel_rfl) (by kernel_rfl) rfl (by rfl) (fun W hSw => by go_simp; first | (intro h9; omega) | (rw [if_pos (by omega), show ((q : Int) + 3).toNat = q + 3 by omega]; simp [Addr.add])) (fun _ _ _ h => h) HS.out ?_
      try simp only [Act.put, List.setIfInBounds_toArray, List.set_cons_zero, List.set_cons_succ]
      refine hd_take 30 (o := ⟨some 44, _, _, _, _, _⟩) (.int .u8 (z3 : Int)) (by kernel_rfl) (by kernel_rfl) (by kernel_rfl) rfl (by rfl) (fun W hSw => by obtain ⟨s0, s1, s2, s3⟩ := hSw; go_simp) (fun _ _ _ h => h) HS.out ?_
      try simp only [Act.put, List.setIfInBounds_toArray, List.set_cons_zero, List.set_cons_succ]
      refine hd_take 31 (o := ⟨some 45, _, _, _, _, _⟩) (.int .u32 (z3 : Int)) (by kernel_rfl) (by kernel_rfl) (by kernel_rfl) rfl (by rfl) (fun W hSw => by go_simp; rw [IntKind.wrap_u32]; omega) (fun _ _ _ h => h) HS.out ?_
      try simp only [Act.put, List.setIfInBounds_toArray, List.set_cons_zero, List.set_cons_succ]
      refine hd_take 32 (o := ⟨some 46, _, _, _, _, _⟩) (.int .u32 (16777216 * (z3 : Int))) (by kernel_rfl) (by kernel_rfl) (by kernel_rfl) rfl (by rfl) (fun W hSw => by go_simp) (fun _ _ _ h => h) HS.out ?_
      try simp only [Act.put, List.setIfInBounds_toArray, List.set_cons_zero, List.set_cons_succ]
      refine hd_take 33 (o := ⟨some 47, _, _, _, _, _⟩) (.int .u32 ((z0 : Int) + 256 * (z1 : Int) + 65536 * (z2 : Int) + 16777216 * (z3 : Int))) (by kernel_rfl) (by kernel_rfl) (by kernel_rfl) rfl (by rfl) (fun W hSw => by go_simp) (fun _ _ _ h => h) HS.out ?_
      try simp only [Act.put, List.setIfInBounds_toArray, List.set_cons_zero, List.set_cons_succ]
      refine hd_take 34 (o := ⟨some 48, _, _, _, _, _⟩) (.pointer (some ⟨P, k, none⟩)) (by kernel_rfl) (by kernel_rfl) (by kernel_rfl) rfl (by rfl) (fun W hSw => by go_simp) (fun _ _ _ h => h) HS.out ?_
      try simp only [Act.put, List.setIfInBounds_toArray, List.set_cons_zero, List.set_cons_succ]
      refine hd_call 35 (o := ⟨none, _, _, _, _, _⟩) (by kernel_rfl) rfl (by rfl) (fun K hK => ?_)
      go_simp
      refine hK _ _ ⟨by rw [World.cell?_setCell_far _ _ _ _ (Ne.symm hbx)]; exact HS.out.1, by rw [World.cell?_setCell_far _ _ _ _ (Ne.symm hbx1)]; exact HS.out.2.1, by rw [World.cell?_setCell_far _ _ _ _ (Ne.symm hbx1)]; exact HS.out.2.2.1, by rw [World.cell?_setCell_far _ _ _ _ (Ne.symm hbx1)]; exact HS.out.2.2.2⟩ ?_
      refine wpAnyH_done (by kernel_rfl) ?_ _
      clear hK K HS
      go_wp2
      go_roundw
      case rel =>
        first
          | exact ⟨k + 1, by omega, by go_num, HXd.out _ rfl⟩
          | ((repeat apply Exists.intro); refine ⟨?_, rfl⟩; exact ⟨k + 1, by omega, by go_num, HXd.out _ rfl⟩)
      case measure => simp [intOf]; omega
    · have hd : decide ((k : Int) < 32) = false := by simp; omega
      have hP' : Pg wr P (unk f 128) := ⟨by rw [hP.out, page_congr (fun i hi => by rw [if_pos (by omega)])]⟩
      have hRo := hR.out
      have rP := hP'.range
      have HB := hide hb
      clear hP hP' hR hb
      go_wp2_with (first | refine load24 rfl _ rfl P 0 rfl _ rP ?_ | refine wpList_store_row rfl 24 _ _ rfl w.heap.size (page (unk f 128)).toArray rfl rfl 24 _ hRo info24 rfl (page_all _) ?_)
      refine bodyPost_ret (results_row2 rfl _ _ w.heap.size 24 (page (unk f 128)).toArray (0, 0) _ rfl (setRow_heap _ _ _ _ _ _ hRo) Try.underlying24 rfl info24) rfl ?_
      exact ⟨rfl, below_setRow HB.out (Nat.le_refl _) _⟩
end Go.Proofs.Ytihkkbbphdgagaa
