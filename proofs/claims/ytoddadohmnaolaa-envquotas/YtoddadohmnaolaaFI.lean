import Derived.Test.YtoddadohmnaolaaFH
namespace Go.Proofs.Ytoddadohmnaolaa
open Go.RowKit Go.Shelf

set_option maxHeartbeats 1600000 in
theorem addOne_any (w : World) (p q : Qt) (hp : p.ok) (hq : q.ok) : Calls Try.prog 22 #[p.val, q.val, .int .i64 1] w fun e w' => e = .returned (p.plus q).val ∧ Below w.heap.size w w' := by
  obtain ⟨⟨h1, h2⟩, ⟨h3, h4⟩, ⟨h5, h6⟩⟩ := hp
  obtain ⟨⟨k1, k2⟩, ⟨k3, k4⟩, ⟨k5, k6⟩⟩ := hq
  have hb1 := (Below.refl w.heap.size w).alloc (Nat.le_refl _) (.cells #[.int .i64 p.f, .int .i64 p.e, .int .i64 p.x] 39)
  have hb2 := hb1.alloc hb1.size (.cells #[.int .i64 q.f, .int .i64 q.e, .int .i64 q.x] 39)
  have hb3 := hb2.alloc hb2.size (.cells #[.int .i64 0, .int .i64 0, .int .i64 0] 39)
  have a1 := heap_alloc_new w (.cells #[.int .i64 p.f, .int .i64 p.e, .int .i64 p.x] 39)
  have a2 := heap_alloc_new (w.alloc (.cells #[.int .i64 p.f, .int .i64 p.e, .int .i64 p.x] 39)) (.cells #[.int .i64 q.f, .int .i64 q.e, .int .i64 q.x] 39)
  have a3 := heap_alloc_new ((w.alloc (.cells #[.int .i64 p.f, .int .i64 p.e, .int .i64 p.x] 39)).alloc (.cells #[.int .i64 q.f, .int .i64 q.e, .int .i64 q.x] 39)) (.cells #[.int .i64 0, .int .i64 0, .int .i64 0] 39)
  have e2 : (w.alloc (.cells #[.int .i64 p.f, .int .i64 p.e, .int .i64 p.x] 39)).heap.size = w.heap.size + 1 := by simp
  have e3 : ((w.alloc (.cells #[.int .i64 p.f, .int .i64 p.e, .int .i64 p.x] 39)).alloc (.cells #[.int .i64 q.f, .int .i64 q.e, .int .i64 q.x] 39)).heap.size = w.heap.size + 2 := by simp
  have b1 := (Below.heap_alloc _ (.cells #[.int .i64 0, .int .i64 0, .int .i64 0] 39) w.heap.size (by rw [e3]; omega)).trans ((Below.heap_alloc _ (.cells #[.int .i64 q.f, .int .i64 q.e, .int .i64 q.x] 39) w.heap.size (by rw [e2]; omega)).trans a1)
  rw [e2] at a2
  have b2 := (Below.heap_alloc _ (.cells #[.int .i64 0, .int .i64 0, .int .i64 0] 39) (w.heap.size + 1) (by rw [e3]; omega)).trans a2
  rw [e3] at a3
  have HB3 := hide hb3
  clear hb1 hb2 hb3 a1 a2 e2 e3
  unfold Qt.val
  go_enter Try.func22, Try.ntmps22
  go_upto_region 1 with fail
  generalize ((w.alloc (.cells #[.int .i64 p.f, .int .i64 p.e, .int .i64 p.x] 39)).alloc (.cells #[.int .i64 q.f, .int .i64 q.e, .int .i64 q.x] 39)).alloc (.cells #[.int .i64 0, .int .i64 0, .int .i64 0] 39) = w3 at *
  obtain ⟨c0, c1, c2, -, -, -⟩ := blk3 b1
  obtain ⟨d0, d1, d2, -, -, -⟩ := blk3 b2
  obtain ⟨r0, r1, r2, f0, f1, f2⟩ := blk3 a3
  have HS := hide (fun a b c => set3 a3 a b c)
  clear b1 b2 a3
  go_wp2
  refine bodyPost_ret (results_row1 rfl _ _ (w.heap.size + 2) 39 #[.int .i64 (p.f + q.f), .int .i64 (p.e + q.e), .int .i64 (p.x + q.x)] (0, 0) _ rfl (HS.out _ _ _) Try.underlying39 rfl (by kernel_rfl)) rfl ?_
  exact ⟨rfl, below3 HB3.out (by omega) _ _ _⟩
set_option maxHeartbeats 1600000 in
theorem addNeg_any (w : World) (p q : Qt) (hp : p.ok) (hq : q.ok) : Calls Try.prog 22 #[p.val, q.val, .int .i64 (-1)] w fun e w' => e = .returned (p.less q).val ∧ Below w.heap.size w w' := by
  obtain ⟨⟨h1, h2⟩, ⟨h3, h4⟩, ⟨h5, h6⟩⟩ := hp
  obtain ⟨⟨k1, k2⟩, ⟨k3, k4⟩, ⟨k5, k6⟩⟩ := hq
  have hb1 := (Below.refl w.heap.size w).alloc (Nat.le_refl _) (.cells #[.int .i64 p.f, .int .i64 p.e, .int .i64 p.x] 39)
  have hb2 := hb1.alloc hb1.size (.cells #[.int .i64 q.f, .int .i64 q.e, .int .i64 q.x] 39)
  have hb3 := hb2.alloc hb2.size (.cells #[.int .i64 0, .int .i64 0, .int .i64 0] 39)
  have a1 := heap_alloc_new w (.cells #[.int .i64 p.f, .int .i64 p.e, .int .i64 p.x] 39)
  have a2 := heap_alloc_new (w.alloc (.cells #[.int .i64 p.f, .int .i64 p.e, .int .i64 p.x] 39)) (.cells #[.int .i64 q.f, .int .i64 q.e, .int .i64 q.x] 39)
  have a3 := heap_alloc_new ((w.alloc (.cells #[.int .i64 p.f, .int .i64 p.e, .int .i64 p.x] 39)).alloc (.cells #[.int .i64 q.f, .int .i64 q.e, .int .i64 q.x] 39)) (.cells #[.int .i64 0, .int .i64 0, .int .i64 0] 39)
  have e2 : (w.alloc (.cells #[.int .i64 p.f, .int .i64 p.e, .int .i64 p.x] 39)).heap.size = w.heap.size + 1 := by simp
  have e3 : ((w.alloc (.cells #[.int .i64 p.f, .int .i64 p.e, .int .i64 p.x] 39)).alloc (.cells #[.int .i64 q.f, .int .i64 q.e, .int .i64 q.x] 39)).heap.size = w.heap.size + 2 := by simp
  have b1 := (Below.heap_alloc _ (.cells #[.int .i64 0, .int .i64 0, .int .i64 0] 39) w.heap.size (by rw [e3]; omega)).trans ((Below.heap_alloc _ (.cells #[.int .i64 q.f, .int .i64 q.e, .int .i64 q.x] 39) w.heap.size (by rw [e2]; omega)).trans a1)
  rw [e2] at a2
  have b2 := (Below.heap_alloc _ (.cells #[.int .i64 0, .int .i64 0, .int .i64 0] 39) (w.heap.size + 1) (by rw [e3]; omega)).trans a2
  rw [e3] at a3
  have HB3 := hide hb3
  clear hb1 hb2 hb3 a1 a2 e2 e3
  unfold Qt.val
  go_enter Try.func22, Try.ntmps22
  go_upto_region 1 with fail
  generalize ((w.alloc (.cells #[.int .i64 p.f, .int .i64 p.e, .int .i64 p.x] 39)).alloc (.cells #[.int .i64 q.f, .int .i64 q.e, .int .i64 q.x] 39)).alloc (.cells #[.int .i64 0, .int .i64 0, .int .i64 0] 39) = w3 at *
  obtain ⟨c0, c1, c2, -, -, -⟩ := blk3 b1
  obtain ⟨d0, d1, d2, -, -, -⟩ := blk3 b2
  obtain ⟨r0, r1, r2, f0, f1, f2⟩ := blk3 a3
  have HS := hide (fun a b c => set3 a3 a b c)
  clear b1 b2 a3
  go_wp2
  refine bodyPost_ret (results_row1 rfl _ _ (w.heap.size + 2) 39 #[.int .i64 (p.f - q.f), .int .i64 (p.e - q.e), .int .i64 (p.x - q.x)] (0, 0) _ rfl (HS.out _ _ _) Try.underlying39 rfl (by kernel_rfl)) rfl ?_
  exact ⟨rfl, below3 HB3.out (by omega) _ _ _⟩
section
variable {w w' w1 : World} {F : Nat → Prop} {T B : Nat} {rs : List (Option Er)} {last : Int}
theorem lives_any (h : Bq w B rs last) (k : Nat) (hk : k < 16) : Calls Try.prog 21 #[.pointer (some ⟨B, 0, none⟩), .int .i64 (k : Int)] w fun x w' => x = .returned (.bool (lvb rs k)) ∧ w' = w := by
  obtain ⟨c, _⟩ := h.cell hk
  have hk2 : (k : Int) < 16 := by omega
  generalize lvb rs k = b at *
  clear h
  go_enter Try.func21, Try.ntmps21
  go_wp2
  go_ret
  exact ⟨rfl, rfl⟩
theorem Bq.setPaid (h : Bq w B rs last) {k : Nat} {r r' : Er} (hr : rs[k]? = some (some r)) (hk : k < 16) (hs : Same rs (rs.set k (some r'))) : Bq (((w.setCell ⟨B, 16 + k * 3, none⟩ (.int .i64 r'.pd.f)).setCell ⟨B, 16 + k * 3 + 1, none⟩ (.int .i64 r'.pd.e)).setCell ⟨B, 16 + k * 3 + 2, none⟩ (.int .i64 r'.pd.x)) B (rs.set k (some r')) last := by
  obtain ⟨cs, h1, h2⟩ := h.out
  have hl := h2.len
  refine ⟨((cs.set (16 + k * 3) (.int .i64 r'.pd.f)).set (16 + k * 3 + 1) (.int .i64 r'.pd.e)).set (16 + k * 3 + 2) (.int .i64 r'.pd.x), ?_, ⟨by simpa using hl, fun i hi => ?_, fun i hi => ?_, ?_⟩⟩
  · have e1 := heap_setCell_same _ B (16 + k * 3) _ _ (.int .i64 r'.pd.f) h1
    have e2 := heap_setCell_same _ B (16 + k * 3 + 1) _ _ (.int .i64 r'.pd.e) e1
    rw [heap_setCell_same _ B (16 + k * 3 + 2) _ _ (.int .i64 r'.pd.x) e2]
    simp
  · rw [List.getElem?_set_ne (by omega), List.getElem?_set_ne (by omega), List.getElem?_set_ne (by omega), h2.live i hi]
    unfold lvb; rw [hs.2 i]
  · by_cases e : i = k
    · subst e
      refine ⟨r'.pd, ?_, ?_, ?_, fun r9 h9 => ?_⟩
      · rw [List.getElem?_set_ne (by omega), List.getElem?_set_ne (by omega), List.getElem?_set_self (by omega)]
      · rw [List.getElem?_set_ne (by omega), List.getElem?_set_self (by simp; omega)]
      · rw [List.getElem?_set_self (by simp; omega)]
      · rw [List.getElem?_set_self (List.getElem?_eq_some_iff.1 hr).1] at h9; cases h9; rfl
    · obtain ⟨p, p1, p2, p3, p4⟩ := h2.paid i hi
      refine ⟨p, ?_, ?_, ?_, fun r9 h9 => p4 r9 (by rw [List.getElem?_set_ne (fun e' => e e'.symm)] at h9; exact h9)⟩
      · rw [List.getElem?_set_ne (by omega), List.getElem?_set_ne (by omega), List.getElem?_set_ne (by omega)]; exact p1
      · rw [List.getElem?_set_ne (by omega), List.getElem?_set_ne (by omega), List.getElem?_set_ne (by omega)]; exact p2
      · rw [List.getElem?_set_ne (by omega), List.getElem?_set_ne (by omega), List.getElem?_set_ne (by omega)]; exact p3
  · rw [List.getElem?_set_ne (by omega), List.getElem?_set_ne (by omega), List.getElem?_set_ne (by omega)]; exact h2.lst
theorem payE_zero {e : Int} {q : Qt} (h : payE rs e q = 0) : ∃ (k : Nat) (r : Er), e = (k : Int) ∧ rs[k]? = some (some r) ∧ q.good ∧ payS rs e q = rs.set k (some { r with pd := r.pd.plus q, le := r.le.less q }) := by
  unfold payE at h
  unfold payS
  cases hl : look rs e with
  | none => rw [hl] at h; cases h
  | some r =>
    obtain ⟨k, rfl, hr⟩ := look_some hl
    rw [hl] at h
    simp only [] at h ⊢
    by_cases hg : q.good
    · rw [if_pos hg] at h ⊢
      by_cases hf : q.le r.le
      · rw [if_pos hf]; exact ⟨k, r, rfl, hr, hg, rfl⟩
      · rw [if_neg hf] at h; cases h
    · rw [if_neg hg] at h; cases h
theorem payE_not {e : Int} {q : Qt} (h : payE rs e q ≠ 0) : payS rs e q = rs := by
  unfold payE at h
  unfold payS
  cases hl : look rs e with
  | none => rfl
  | some r =>
    rw [hl] at h
    simp only [] at h ⊢
    by_cases hg : q.good
    · rw [if_pos hg] at h ⊢
      by_cases hf : q.le r.le
      · rw [if_pos hf] at h; exact absurd rfl h
      · rw [if_neg hf]
    · rw [if_neg hg]
theorem refE_zero {e : Int} {q : Qt} (h : refE rs e q = 0) : ∃ (k : Nat) (r : Er), e = (k : Int) ∧ rs[k]? = some (some r) ∧ q.good ∧ refS rs e q = rs.set k (some { r with pd := r.pd.less q, le := r.le.plus q }) := by
  unfold refE at h
  unfold refS
  cases hl : look rs e with
  | none => rw [hl] at h; cases h
  | some r =>
    obtain ⟨k, rfl, hr⟩ := look_some hl
    rw [hl] at h
    simp only [] at h ⊢
    by_cases hc : q.good ∧ q.le r.pd
    · rw [if_pos hc]; exact ⟨k, r, rfl, hr, hc.1, rfl⟩
    · rw [if_neg hc] at h; cases h
theorem refE_not {e : Int} {q : Qt} (h : refE rs e q ≠ 0) : refS rs e q = rs := by
  unfold refE at h
  unfold refS
  cases hl : look rs e with
  | none => rfl
  | some r =>
    rw [hl] at h
    simp only [] at h ⊢
    by_cases hc : q.good ∧ q.le r.pd
    · rw [if_pos hc] at h; exact absurd rfl h
    · rw [if_neg hc]
theorem Ns.oks (h : Ns w F T B rs last) (e : Int) : ∀ r, look rs e = some r → r.le.ok ∧ r.pd.ok := fun r hl => by
  obtain ⟨k, rfl, hr⟩ := look_some hl
  exact ⟨(h.iv.oks hr).1, (h.iv.oks hr).2.1⟩
theorem lvb_yes {k : Nat} {r : Er} (hr : rs[k]? = some (some r)) : lvb rs k = true := by unfold lvb; rw [core_at hr]; rfl
set_option maxRecDepth 100000 in
set_option maxHeartbeats 6400000 in
theorem noted_pay (h : Ns w F T B rs last) (t e n m : Int) (q : Qt) (g : Nat → Nat) (pc : Nat) (on : Bool) : Calls Try.prog 16 #[.pointer (some ⟨B, 0, none⟩), .pointer (some ⟨T, 0, none⟩), .agg #[.int .i64 11, .int .i64 t, .int .i64 e, .int .i64 n, .int .i64 m, .int .i64 q.f, .int .i64 q.e, .int .i64 q.x, .int .u32 (g 0 : Nat), .int .u32 (g 1 : Nat), .int .u32 (g 2 : Nat), .int .u32 (g 3 : Nat), .int .u32 (g 4 : Nat), .int .u32 (g 5 : Nat), .int .u32 (g 6 : Nat), .int .u32 (g 7 : Nat), .int .u32 (pc : Nat), .bool on]] w fun x w' => x = .returned (.bool true) ∧ Np w F T B w' := by
  have hb := (Below.refl w.heap.size w).alloc (Nat.le_refl _) (.cells #[.int .i64 11, .int .i64 t, .int .i64 e, .int .i64 n, .int .i64 m, .int .i64 q.f, .int .i64 q.e, .int .i64 q.x, .int .u32 (g 0 : Nat), .int .u32 (g 1 : Nat), .int .u32 (g 2 : Nat), .int .u32 (g 3 : Nat), .int .u32 (g 4 : Nat), .int .u32 (g 5 : Nat), .int .u32 (g 6 : Nat), .int .u32 (g 7 : Nat), .int .u32 (pc : Nat), .bool on] 47)
  have a1 := heap_alloc_new w (.cells #[.int .i64 11, .int .i64 t, .int .i64 e, .int .i64 n, .int .i64 m, .int .i64 q.f, .int .i64 q.e, .int .i64 q.x, .int .u32 (g 0 : Nat), .int .u32 (g 1 : Nat), .int .u32 (g 2 : Nat), .int .u32 (g 3 : Nat), .int .u32 (g 4 : Nat), .int .u32 (g 5 : Nat), .int .u32 (g 6 : Nat), .int .u32 (g 7 : Nat), .int .u32 (pc : Nat), .bool on] 47)
  have HS := hide (h.below hb)
  have HB := hide hb
  have HA := hide a1
  have HNB : Hid (w.heap.size ≠ B) := hide (fun e => by have := h.bq.lt; omega)
  have HNF : Hid (¬ F w.heap.size) := hide (fun e => by have := h.et.lt _ e; omega)
  have HC := hide (pay_any HS.out.et e q (HS.out.oks e))
  unfold Qt.val at HC
  clear h hb a1
  go_enter Try.func16, Try.ntmps16
  go_wp2_with fail
  refine HC.out.mono ?_
  rintro x w1 ⟨rfl, hE, hM⟩
  by_cases hz : payE rs e q = 0
  · obtain ⟨k, r, rfl, hr, hg, hS⟩ := payE_zero hz
    have hk := lv_lt HS.out.iv.tr ⟨r, hr⟩
    have hkz : (k : Int) < 16 := by omega
    rw [hS] at hE
    have hIv := HS.out.iv.pay (k : Int) q
    rw [hS] at hIv
    have HI := hide hIv
    have HE := hide hE
    have HQ := hide (HS.out.bq.keep (hM.block B HS.out.bq.lt HS.out.ne))
    have HA1 : Hid (w1.heap[w.heap.size]? = some (.cells #[.int .i64 11, .int .i64 t, .int .i64 (k : Int), .int .i64 n, .int .i64 m, .int .i64 q.f, .int .i64 q.e, .int .i64 q.x, .int .u32 (g 0 : Nat), .int .u32 (g 1 : Nat), .int .u32 (g 2 : Nat), .int .u32 (g 3 : Nat), .int .u32 (g 4 : Nat), .int .u32 (g 5 : Nat), .int .u32 (g 6 : Nat), .int .u32 (g 7 : Nat), .int .u32 (pc : Nat), .bool on] 47 (0, 0))) := hide ((hM.block _ (Array.getElem?_eq_some_iff.1 HA.out).1 HNF.out).trans HA.out)
    have HM : Hid (Mod F w w1) := hide ((Mod.of_below HB.out).trans hM)
    have HLv := hide (lives_any HQ.out k hk)
    rw [lvb_yes hr] at HLv
    have HR := hide hr
    have HWd := hide HS.out.wd
    have HNe := hide HS.out.ne
    have HSm : Hid (Same rs (rs.set k (some { r with pd := r.pd.plus q, le := r.le.less q }))) := hide (Same.set hr rfl rfl rfl)
    have HAdd := hide (fun W => addOne_any W r.pd q (HS.out.iv.oks hr).2.1 (good_ok hg))
    unfold Qt.val at HAdd
    have c2 : w1.cell? ⟨w.heap.size, 2, none⟩ = some (.int .i64 (k : Int)) := by rw [cell_of_row _ _ _ _ _ _ HA1.out]; rfl
    rw [hz]
    clear hE hM hS hIv HS HB HA hg hr hz
    generalize w.heap.size = N at *
    go_wp2_with fail
    refine HLv.out.mono ?_
    rintro x w2 ⟨rfl, rfl⟩
    go_upto_region 27 with fail
    obtain ⟨w3, hw3⟩ : ∃ w3, w3 = w2.drew := ⟨_, rfl⟩
    have hb3 : Below w2.heap.size w2 w3 := by rw [hw3]; exact ⟨rfl, rfl, rfl, Nat.le_refl _, fun _ _ => rfl⟩
    have HA3 : Hid (w3.heap[N]? = some (.cells #[.int .i64 11, .int .i64 t, .int .i64 (k : Int), .int .i64 n, .int .i64 m, .int .i64 q.f, .int .i64 q.e, .int .i64 q.x, .int .u32 (g 0 : Nat), .int .u32 (g 1 : Nat), .int .u32 (g 2 : Nat), .int .u32 (g 3 : Nat), .int .u32 (g 4 : Nat), .int .u32 (g 5 : Nat), .int .u32 (g 6 : Nat), .int .u32 (g 7 : Nat), .int .u32 (pc : Nat), .bool on] 47 (0, 0))) := hide ((hb3.block N (Array.getElem?_eq_some_iff.1 HA1.out).1).trans HA1.out)
    have HE3 := hide (HE.out.below hb3)
    have HQ3 := hide (HQ.out.keep (hb3.block B HQ.out.lt))
    have HM3 : Hid (Mod F w w3) := hide (HM.out.trans (Mod.of_below hb3))
    clear HA1 HE HQ HM hb3 c2 HLv
    refine wp_region_held_drew (S := fun W => W.heap[N]? = some (.cells #[.int .i64 11, .int .i64 t, .int .i64 (k : Int), .int .i64 n, .int .i64 m, .int .i64 q.f, .int .i64 q.e, .int .i64 q.x, .int .u32 (g 0 : Nat), .int .u32 (g 1 : Nat), .int .u32 (g 2 : Nat), .int .u32 (g 3 : Nat), .int .u32 (g 4 : Nat), .int .u32 (g 5 : Nat), .int .u32 (g 6 : Nat), .int .u32 (g 7 : Nat), .int .u32 (pc : Nat), .bool on] 47 (0, 0))) (by kernel_rfl) (by rw [← hw3]; exact HA3.out) (fun _ => ?_)
    rw [← hw3]
    clear hw3
    refine hd_take 0 (o := ⟨some 140, _, _, _, _, _⟩) (.pointer (some ⟨B, 0, none⟩)) (by kernel_rfl) (by kernel_rfl) (by kernel_rfl) rfl (by rfl) (fun W hSw => by go_simp) (fun _ _ _ h => h) HA3.out ?_
    try simp only [Act.put, List.setIfInBounds_toArray, List.set_cons_zero, List.set_cons_succ]
    refine hd_take 1 (o := ⟨some 141, _, _, _, _, _⟩) (.pointer (some ⟨N, 2, none⟩)) (by kernel_rfl) (by kernel_rfl) (by kernel_rfl) rfl (by rfl) (fun W hSw => by go_simp) (fun _ _ _ h => h) HA3.out ?_
    try simp only [Act.put, List.setIfInBounds_toArray, List.set_cons_zero, List.set_cons_succ]
    refine hd_take 2 (o := ⟨some 142, _, _, _, _, _⟩) (.int .i64 (k : Int)) (by kernel_rfl) (by kernel_rfl) (by kernel_rfl) rfl (by rfl) (fun W hSw => by have q2 : W.cell? ⟨N, 2, none⟩ = some (.int .i64 (k : Int)) := by { rw [cell_of_row _ _ _ _ _ _ hSw]; rfl }; go_simp) (fun _ _ _ h => h) HA3.out ?_
    try simp only [Act.put, List.setIfInBounds_toArray, List.set_cons_zero, List.set_cons_succ]
    refine hd_take 3 (o := ⟨some 143, _, _, _, _, _⟩) (.pointer (some ⟨B, 0, none⟩)) (by kernel_rfl) (by kernel_rfl) (by kernel_rfl) rfl (by rfl) (fun W hSw => by go_simp) (fun _ _ _ h => h) HA3.out ?_
    try simp only [Act.put, List.setIfInBounds_toArray, List.set_cons_zero, List.set_cons_succ]
    refine hd_take 4 (o := ⟨some 144, _, _, _, _, _⟩) (.pointer (some ⟨N, 2, none⟩)) (by kernel_rfl) (by kernel_rfl) (by kernel_rfl) rfl (by rfl) (fun W hSw => by go_simp) (fun _ _ _ h => h) HA3.out ?_
    try simp only [Act.put, List.setIfInBounds_toArray, List.set_cons_zero, List.set_cons_succ]
    refine hd_take 5 (o := ⟨some 145, _, _, _, _, _⟩) (.int .i64 (k : Int)) (by kernel_rfl) (by kernel_rfl) (by kernel_rfl) rfl (by rfl) (fun W hSw => by have q2 : W.cell? ⟨N, 2, none⟩ = some (.int .i64 (k : Int)) := by { rw [cell_of_row _ _ _ _ _ _ hSw]; rfl }; go_simp) (fun _ _ _ h => h) HA3.out ?_
    try simp only [Act.put, List.setIfInBounds_toArray, List.set_cons_zero, List.set_cons_succ]
    refine hd_take 6 (o := ⟨some 146, _, _, _, _, _⟩) (.pointer (some ⟨B, 0, none⟩)) (by kernel_rfl) (by kernel_rfl) (by kernel_rfl) rfl (by rfl) (fun W hSw => by go_simp) (fun _ _ _ h => h) HA3.out ?_
    try simp only [Act.put, List.setIfInBounds_toArray, List.set_cons_zero, List.set_cons_succ]
    refine hd_take 7 (o := ⟨some 147, _, _, _, _, _⟩) (.pointer (some ⟨B, 16, none⟩)) (by kernel_rfl) (by kernel_rfl) (by kernel_rfl) rfl (by rfl) (fun W hSw => by go_simp) (fun _ _ _ h => h) HA3.out ?_
    try simp only [Act.put, List.setIfInBounds_toArray, List.set_cons_zero, List.set_cons_succ]
    refine hd_take 8 (o := ⟨some 148, _, _, _, _, _⟩) (.pointer (some ⟨B, 16 + k * 3, none⟩)) (by kernel_rfl) (by kernel_rfl) (by kernel_rfl) rfl (by rfl) (fun W hSw => by go_simp) (fun _ _ _ h => h) HA3.out ?_
    try simp only [Act.put, List.setIfInBounds_toArray, List.set_cons_zero, List.set_cons_succ]
    refine hd_take 10 (o := ⟨some 150, _, _, _, _, _⟩) (.pointer (some ⟨N, 5, none⟩)) (by kernel_rfl) (by kernel_rfl) (by kernel_rfl) rfl (by rfl) (fun W hSw => by go_simp) (fun _ _ _ h => h) HA3.out ?_
    try simp only [Act.put, List.setIfInBounds_toArray, List.set_cons_zero, List.set_cons_succ]
    refine hd_take 11 (o := ⟨some 151, _, _, _, _, _⟩) (.agg #[.int .i64 q.f, .int .i64 q.e, .int .i64 q.x]) (by kernel_rfl) (by kernel_rfl) (by kernel_rfl) rfl (by rfl) (fun W hSw => by have q5 : W.cell? ⟨N, 5, none⟩ = some (.int .i64 q.f) := by { rw [cell_of_row _ _ _ _ _ _ hSw]; rfl }; have q6 : W.cell? ⟨N, 6, none⟩ = some (.int .i64 q.e) := by { rw [cell_of_row _ _ _ _ _ _ hSw]; rfl }; have q7 : W.cell? ⟨N, 7, none⟩ = some (.int .i64 q.x) := by { rw [cell_of_row _ _ _ _ _ _ hSw]; rfl }; go_simp) (fun _ _ _ h => h) HA3.out ?_
    try simp only [Act.put, List.setIfInBounds_toArray, List.set_cons_zero, List.set_cons_succ]
    refine hd_take 13 (o := ⟨some 153, _, _, _, _, _⟩) (.pointer (some ⟨B, 0, none⟩)) (by kernel_rfl) (by kernel_rfl) (by kernel_rfl) rfl (by rfl) (fun W hSw => by go_simp) (fun _ _ _ h => h) HA3.out ?_
    try simp only [Act.put, List.setIfInBounds_toArray, List.set_cons_zero, List.set_cons_succ]
    refine hd_take 14 (o := ⟨some 154, _, _, _, _, _⟩) (.pointer (some ⟨B, 16, none⟩)) (by kernel_rfl) (by kernel_rfl) (by kernel_rfl) rfl (by rfl) (fun W hSw => by go_simp) (fun _ _ _ h => h) HA3.out ?_
    try simp only [Act.put, List.setIfInBounds_toArray, List.set_cons_zero, List.set_cons_succ]
    obtain ⟨d0, d1, d2⟩ := HQ3.out.paidc HR.out hk
    refine hd_call 9 (o := ⟨some 149, _, _, _, _, _⟩) (by kernel_rfl) rfl (by rfl) (fun K hK => ?_)
    go_simp
    refine hK _ _ HA3.out ?_
    clear hK K d0 d1 d2
    try simp only [Act.put, List.setIfInBounds_toArray, List.set_cons_zero, List.set_cons_succ]
    refine hd_call 12 (o := ⟨some 152, _, _, _, _, _⟩) (by kernel_rfl) rfl (by rfl) (fun K hK => ?_)
    go_simp
    go_wp2_with (go_at_call 22; refine (HAdd.out _).mono ?_; rintro e1 w4 ⟨rfl, hb4⟩)
    have HA4 : Hid (w4.heap[N]? = some (.cells #[.int .i64 11, .int .i64 t, .int .i64 (k : Int), .int .i64 n, .int .i64 m, .int .i64 q.f, .int .i64 q.e, .int .i64 q.x, .int .u32 (g 0 : Nat), .int .u32 (g 1 : Nat), .int .u32 (g 2 : Nat), .int .u32 (g 3 : Nat), .int .u32 (g 4 : Nat), .int .u32 (g 5 : Nat), .int .u32 (g 6 : Nat), .int .u32 (g 7 : Nat), .int .u32 (pc : Nat), .bool on] 47 (0, 0))) := hide ((hb4.block N (Array.getElem?_eq_some_iff.1 HA3.out).1).trans HA3.out)
    have HE4 := hide (HE3.out.below hb4)
    have HQ4 := hide (HQ3.out.keep (hb4.block B HQ3.out.lt))
    have HM4 : Hid (Mod F w w4) := hide (HM3.out.trans (Mod.of_below hb4))
    clear hb4 HA3 HE3 HQ3 HM3
    refine hK _ _ HA4.out ?_
    clear hK K
    try simp only [Act.put, List.setIfInBounds_toArray, List.set_cons_zero, List.set_cons_succ]
    refine hd_take 15 (o := ⟨some 155, _, _, _, _, _⟩) (.pointer (some ⟨B, 16 + k * 3, none⟩)) (by kernel_rfl) (by kernel_rfl) (by kernel_rfl) rfl (by rfl) (fun W hSw => by go_simp) (fun _ _ _ h => h) HA4.out ?_
    try simp only [Act.put, List.setIfInBounds_toArray, List.set_cons_zero, List.set_cons_succ]
    obtain ⟨d0, d1, d2⟩ := HQ4.out.paidc HR.out hk
    have f0 := HQ4.out.frz (16 + k * 3)
    have f1 := HQ4.out.frz (16 + k * 3 + 1)
    have f2 := HQ4.out.frz (16 + k * 3 + 2)
    refine hd_call 16 (o := ⟨none, _, _, _, _, _⟩) (by kernel_rfl) rfl (by rfl) (fun K hK => ?_)
    go_simp
    refine hK _ _ (by rw [heap_setCell_other _ _ _ _ HNB.out, heap_setCell_other _ _ _ _ HNB.out, heap_setCell_other _ _ _ _ HNB.out]; exact HA4.out) ?_
    clear hK K
    refine wpAnyH_done (by kernel_rfl) ?_ _
    have HQ5 := hide (HQ4.out.setPaid HR.out hk HSm.out)
    have HF : Hid (∃ W5, W5 = (((w4.setCell ⟨B, 16 + k * 3, none⟩ (.int .i64 (r.pd.plus q).f)).setCell ⟨B, 16 + k * 3 + 1, none⟩ (.int .i64 (r.pd.plus q).e)).setCell ⟨B, 16 + k * 3 + 2, none⟩ (.int .i64 (r.pd.plus q).x)) ∧ Np w F T B W5) := hide ⟨_, rfl, _, last, F, ⟨HE4.out.keep (by simp [World.setCell]) (fun b hb => by
        have hbB : b ≠ B := fun e => HNe.out (e ▸ hb)
        rw [heap_setCell_other _ _ _ _ hbB, heap_setCell_other _ _ _ _ hbB, heap_setCell_other _ _ _ _ hbB]), HI.out, HWd.out.set (HWd.out k r HR.out), HQ5.out, HNe.out⟩, ⟨((((⟨HM4.out.os, HM4.out.tape, HM4.out.output, HM4.out.size, fun b hb hf => HM4.out.block b hb (fun e => hf (.inr e))⟩ : Mod (wi B F) w w4).setCell (p := ⟨B, 16 + k * 3, none⟩) (.inl (.inl rfl)) _).setCell (p := ⟨B, 16 + k * 3 + 1, none⟩) (.inl (.inl rfl)) _).setCell (p := ⟨B, 16 + k * 3 + 2, none⟩) (.inl (.inl rfl)) _), fun _ hb => .inl hb⟩⟩
    obtain ⟨W5, hW5, hNp⟩ := HF.out
    rw [← hW5]
    have HP := hide hNp
    clear hW5 hNp HF HQ5 HQ4 HE4 HM4 HA4 d0 d1 d2 f0 f1 f2
    go_wp2
    go_ret
    exact ⟨rfl, HP.out⟩
  · rw [payE_not hz] at hE
    have HP := hide (HS.out.qu HB.out ⟨rs, hE, hM, HS.out.iv, HS.out.wd, KQ.refl _⟩)
    have hzb : (payE rs e q == 0) = false := by simp [hz]
    clear hE hM HS HB HA HC
    generalize payE rs e q = c at *
    go_wp2
    go_ret
    exact ⟨rfl, HP.out⟩
set_option maxRecDepth 100000 in
set_option maxHeartbeats 6400000 in
theorem noted_refund (h : Ns w F T B rs last) (t e n m : Int) (q : Qt) (g : Nat → Nat) (pc : Nat) (on : Bool) : Calls Try.prog 16 #[.pointer (some ⟨B, 0, none⟩), .pointer (some ⟨T, 0, none⟩), .agg #[.int .i64 12, .int .i64 t, .int .i64 e, .int .i64 n, .int .i64 m, .int .i64 q.f, .int .i64 q.e, .int .i64 q.x, .int .u32 (g 0 : Nat), .int .u32 (g 1 : Nat), .int .u32 (g 2 : Nat), .int .u32 (g 3 : Nat), .int .u32 (g 4 : Nat), .int .u32 (g 5 : Nat), .int .u32 (g 6 : Nat), .int .u32 (g 7 : Nat), .int .u32 (pc : Nat), .bool on]] w fun x w' => x = .returned (.bool true) ∧ Np w F T B w' := by
  have hb := (Below.refl w.heap.size w).alloc (Nat.le_refl _) (.cells #[.int .i64 12, .int .i64 t, .int .i64 e, .int .i64 n, .int .i64 m, .int .i64 q.f, .int .i64 q.e, .int .i64 q.x, .int .u32 (g 0 : Nat), .int .u32 (g 1 : Nat), .int .u32 (g 2 : Nat), .int .u32 (g 3 : Nat), .int .u32 (g 4 : Nat), .int .u32 (g 5 : Nat), .int .u32 (g 6 : Nat), .int .u32 (g 7 : Nat), .int .u32 (pc : Nat), .bool on] 47)
  have a1 := heap_alloc_new w (.cells #[.int .i64 12, .int .i64 t, .int .i64 e, .int .i64 n, .int .i64 m, .int .i64 q.f, .int .i64 q.e, .int .i64 q.x, .int .u32 (g 0 : Nat), .int .u32 (g 1 : Nat), .int .u32 (g 2 : Nat), .int .u32 (g 3 : Nat), .int .u32 (g 4 : Nat), .int .u32 (g 5 : Nat), .int .u32 (g 6 : Nat), .int .u32 (g 7 : Nat), .int .u32 (pc : Nat), .bool on] 47)
  have HS := hide (h.below hb)
  have HB := hide hb
  have HA := hide a1
  have HNB : Hid (w.heap.size ≠ B) := hide (fun e => by have := h.bq.lt; omega)
  have HNF : Hid (¬ F w.heap.size) := hide (fun e => by have := h.et.lt _ e; omega)
  have HC := hide (refund_any HS.out.et e q (HS.out.oks e))
  unfold Qt.val at HC
  clear h hb a1
  go_enter Try.func16, Try.ntmps16
  go_wp2_with fail
  refine HC.out.mono ?_
  rintro x w1 ⟨rfl, hE, hM⟩
  by_cases hz : refE rs e q = 0
  · obtain ⟨k, r, rfl, hr, hg, hS⟩ := refE_zero hz
    have hk := lv_lt HS.out.iv.tr ⟨r, hr⟩
    have hkz : (k : Int) < 16 := by omega
    rw [hS] at hE
    have hIv := HS.out.iv.refund (k : Int) q
    rw [hS] at hIv
    have HI := hide hIv
    have HE := hide hE
    have HQ := hide (HS.out.bq.keep (hM.block B HS.out.bq.lt HS.out.ne))
    have HA1 : Hid (w1.heap[w.heap.size]? = some (.cells #[.int .i64 12, .int .i64 t, .int .i64 (k : Int), .int .i64 n, .int .i64 m, .int .i64 q.f, .int .i64 q.e, .int .i64 q.x, .int .u32 (g 0 : Nat), .int .u32 (g 1 : Nat), .int .u32 (g 2 : Nat), .int .u32 (g 3 : Nat), .int .u32 (g 4 : Nat), .int .u32 (g 5 : Nat), .int .u32 (g 6 : Nat), .int .u32 (g 7 : Nat), .int .u32 (pc : Nat), .bool on] 47 (0, 0))) := hide ((hM.block _ (Array.getElem?_eq_some_iff.1 HA.out).1 HNF.out).trans HA.out)
    have HM : Hid (Mod F w w1) := hide ((Mod.of_below HB.out).trans hM)
    have HLv := hide (lives_any HQ.out k hk)
    rw [lvb_yes hr] at HLv
    have HR := hide hr
    have HWd := hide HS.out.wd
    have HNe := hide HS.out.ne
    have HSm : Hid (Same rs (rs.set k (some { r with pd := r.pd.less q, le := r.le.plus q }))) := hide (Same.set hr rfl rfl rfl)
    have HAdd := hide (fun W => addNeg_any W r.pd q (HS.out.iv.oks hr).2.1 (good_ok hg))
    unfold Qt.val at HAdd
    have c2 : w1.cell? ⟨w.heap.size, 2, none⟩ = some (.int .i64 (k : Int)) := by rw [cell_of_row _ _ _ _ _ _ HA1.out]; rfl
    rw [hz]
    clear hE hM hS hIv HS HB HA hg hr hz
    generalize w.heap.size = N at *
    go_wp2_with fail
    refine HLv.out.mono ?_
    rintro x w2 ⟨rfl, rfl⟩
    go_upto_region 33 with fail
    obtain ⟨w3, hw3⟩ : ∃ w3, w3 = w2.drew := ⟨_, rfl⟩
    have hb3 : Below w2.heap.size w2 w3 := by rw [hw3]; exact ⟨rfl, rfl, rfl, Nat.le_refl _, fun _ _ => rfl⟩
    have HA3 : Hid (w3.heap[N]? = some (.cells #[.int .i64 12, .int .i64 t, .int .i64 (k : Int), .int .i64 n, .int .i64 m, .int .i64 q.f, .int .i64 q.e, .int .i64 q.x, .int .u32 (g 0 : Nat), .int .u32 (g 1 : Nat), .int .u32 (g 2 : Nat), .int .u32 (g 3 : Nat), .int .u32 (g 4 : Nat), .int .u32 (g 5 : Nat), .int .u32 (g 6 : Nat), .int .u32 (g 7 : Nat), .int .u32 (pc : Nat), .bool on] 47 (0, 0))) := hide ((hb3.block N (Array.getElem?_eq_some_iff.1 HA1.out).1).trans HA1.out)
    have HE3 := hide (HE.out.below hb3)
    have HQ3 := hide (HQ.out.keep (hb3.block B HQ.out.lt))
    have HM3 : Hid (Mod F w w3) := hide (HM.out.trans (Mod.of_below hb3))
    clear HA1 HE HQ HM hb3 c2 HLv
    refine wp_region_held_drew (S := fun W => W.heap[N]? = some (.cells #[.int .i64 12, .int .i64 t, .int .i64 (k : Int), .int .i64 n, .int .i64 m, .int .i64 q.f, .int .i64 q.e, .int .i64 q.x, .int .u32 (g 0 : Nat), .int .u32 (g 1 : Nat), .int .u32 (g 2 : Nat), .int .u32 (g 3 : Nat), .int .u32 (g 4 : Nat), .int .u32 (g 5 : Nat), .int .u32 (g 6 : Nat), .int .u32 (g 7 : Nat), .int .u32 (pc : Nat), .bool on] 47 (0, 0))) (by kernel_rfl) (by rw [← hw3]; exact HA3.out) (fun _ => ?_)
    rw [← hw3]
    clear hw3
    refine hd_take 0 (o := ⟨some 171, _, _, _, _, _⟩) (.pointer (some ⟨B, 0, none⟩)) (by kernel_rfl) (by kernel_rfl) (by kernel_rfl) rfl (by rfl) (fun W hSw => by go_simp) (fun _ _ _ h => h) HA3.out ?_
    try simp only [Act.put, List.setIfInBounds_toArray, List.set_cons_zero, List.set_cons_succ]
    refine hd_take 1 (o := ⟨some 172, _, _, _, _, _⟩) (.pointer (some ⟨N, 2, none⟩)) (by kernel_rfl) (by kernel_rfl) (by kernel_rfl) rfl (by rfl) (fun W hSw => by go_simp) (fun _ _ _ h => h) HA3.out ?_
    try simp only [Act.put, List.setIfInBounds_toArray, List.set_cons_zero, List.set_cons_succ]
    refine hd_take 2 (o := ⟨some 173, _, _, _, _, _⟩) (.int .i64 (k : Int)) (by kernel_rfl) (by kernel_rfl) (by kernel_rfl) rfl (by rfl) (fun W hSw => by have q2 : W.cell? ⟨N, 2, none⟩ = some (.int .i64 (k : Int)) := by { rw [cell_of_row _ _ _ _ _ _ hSw]; rfl }; go_simp) (fun _ _ _ h => h) HA3.out ?_
    try simp only [Act.put, List.setIfInBounds_toArray, List.set_cons_zero, List.set_cons_succ]
    refine hd_take 3 (o := ⟨some 174, _, _, _, _, _⟩) (.pointer (some ⟨B, 0, none⟩)) (by kernel_rfl) (by kernel_rfl) (by kernel_rfl) rfl (by rfl) (fun W hSw => by go_simp) (fun _ _ _ h => h) HA3.out ?_
    try simp only [Act.put, List.setIfInBounds_toArray, List.set_cons_zero, List.set_cons_succ]
    refine hd_take 4 (o := ⟨some 175, _, _, _, _, _⟩) (.pointer (some ⟨N, 2, none⟩)) (by kernel_rfl) (by kernel_rfl) (by kernel_rfl) rfl (by rfl) (fun W hSw => by go_simp) (fun _ _ _ h => h) HA3.out ?_
    try simp only [Act.put, List.setIfInBounds_toArray, List.set_cons_zero, List.set_cons_succ]
    refine hd_take 5 (o := ⟨some 176, _, _, _, _, _⟩) (.int .i64 (k : Int)) (by kernel_rfl) (by kernel_rfl) (by kernel_rfl) rfl (by rfl) (fun W hSw => by have q2 : W.cell? ⟨N, 2, none⟩ = some (.int .i64 (k : Int)) := by { rw [cell_of_row _ _ _ _ _ _ hSw]; rfl }; go_simp) (fun _ _ _ h => h) HA3.out ?_
    try simp only [Act.put, List.setIfInBounds_toArray, List.set_cons_zero, List.set_cons_succ]
    refine hd_take 6 (o := ⟨some 177, _, _, _, _, _⟩) (.pointer (some ⟨B, 0, none⟩)) (by kernel_rfl) (by kernel_rfl) (by kernel_rfl) rfl (by rfl) (fun W hSw => by go_simp) (fun _ _ _ h => h) HA3.out ?_
    try simp only [Act.put, List.setIfInBounds_toArray, List.set_cons_zero, List.set_cons_succ]
    refine hd_take 7 (o := ⟨some 178, _, _, _, _, _⟩) (.pointer (some ⟨B, 16, none⟩)) (by kernel_rfl) (by kernel_rfl) (by kernel_rfl) rfl (by rfl) (fun W hSw => by go_simp) (fun _ _ _ h => h) HA3.out ?_
    try simp only [Act.put, List.setIfInBounds_toArray, List.set_cons_zero, List.set_cons_succ]
    refine hd_take 8 (o := ⟨some 179, _, _, _, _, _⟩) (.pointer (some ⟨B, 16 + k * 3, none⟩)) (by kernel_rfl) (by kernel_rfl) (by kernel_rfl) rfl (by rfl) (fun W hSw => by go_simp) (fun _ _ _ h => h) HA3.out ?_
    try simp only [Act.put, List.setIfInBounds_toArray, List.set_cons_zero, List.set_cons_succ]
    refine hd_take 10 (o := ⟨some 181, _, _, _, _, _⟩) (.pointer (some ⟨N, 5, none⟩)) (by kernel_rfl) (by kernel_rfl) (by kernel_rfl) rfl (by rfl) (fun W hSw => by go_simp) (fun _ _ _ h => h) HA3.out ?_
    try simp only [Act.put, List.setIfInBounds_toArray, List.set_cons_zero, List.set_cons_succ]
    refine hd_take 11 (o := ⟨some 182, _, _, _, _, _⟩) (.agg #[.int .i64 q.f, .int .i64 q.e, .int .i64 q.x]) (by kernel_rfl) (by kernel_rfl) (by kernel_rfl) rfl (by rfl) (fun W hSw => by have q5 : W.cell? ⟨N, 5, none⟩ = some (.int .i64 q.f) := by { rw [cell_of_row _ _ _ _ _ _ hSw]; rfl }; have q6 : W.cell? ⟨N, 6, none⟩ = some (.int .i64 q.e) := by { rw [cell_of_row _ _ _ _ _ _ hSw]; rfl }; have q7 : W.cell? ⟨N, 7, none⟩ = some (.int .i64 q.x) := by { rw [cell_of_row _ _ _ _ _ _ hSw]; rfl }; go_simp) (fun _ _ _ h => h) HA3.out ?_
    try simp only [Act.put, List.setIfInBounds_toArray, List.set_cons_zero, List.set_cons_succ]
    refine hd_take 13 (o := ⟨some 184, _, _, _, _, _⟩) (.pointer (some ⟨B, 0, none⟩)) (by kernel_rfl) (by kernel_rfl) (by kernel_rfl) rfl (by rfl) (fun W hSw => by go_simp) (fun _ _ _ h => h) HA3.out ?_
    try simp only [Act.put, List.setIfInBounds_toArray, List.set_cons_zero, List.set_cons_succ]
    refine hd_take 14 (o := ⟨some 185, _, _, _, _, _⟩) (.pointer (some ⟨B, 16, none⟩)) (by kernel_rfl) (by kernel_rfl) (by kernel_rfl) rfl (by rfl) (fun W hSw => by go_simp) (fun _ _ _ h => h) HA3.out ?_
    try simp only [Act.put, List.setIfInBounds_toArray, List.set_cons_zero, List.set_cons_succ]
    obtain ⟨d0, d1, d2⟩ := HQ3.out.paidc HR.out hk
    refine hd_call 9 (o := ⟨some 180, _, _, _, _, _⟩) (by kernel_rfl) rfl (by rfl) (fun K hK => ?_)
    go_simp
    refine hK _ _ HA3.out ?_
    clear hK K d0 d1 d2
    try simp only [Act.put, List.setIfInBounds_toArray, List.set_cons_zero, List.set_cons_succ]
    refine hd_call 12 (o := ⟨some 183, _, _, _, _, _⟩) (by kernel_rfl) rfl (by rfl) (fun K hK => ?_)
    go_simp
    go_wp2_with (go_at_call 22; refine (HAdd.out _).mono ?_; rintro e1 w4 ⟨rfl, hb4⟩)
    have HA4 : Hid (w4.heap[N]? = some (.cells #[.int .i64 12, .int .i64 t, .int .i64 (k : Int), .int .i64 n, .int .i64 m, .int .i64 q.f, .int .i64 q.e, .int .i64 q.x, .int .u32 (g 0 : Nat), .int .u32 (g 1 : Nat), .int .u32 (g 2 : Nat), .int .u32 (g 3 : Nat), .int .u32 (g 4 : Nat), .int .u32 (g 5 : Nat), .int .u32 (g 6 : Nat), .int .u32 (g 7 : Nat), .int .u32 (pc : Nat), .bool on] 47 (0, 0))) := hide ((hb4.block N (Array.getElem?_eq_some_iff.1 HA3.out).1).trans HA3.out)
    have HE4 := hide (HE3.out.below hb4)
    have HQ4 := hide (HQ3.out.keep (hb4.block B HQ3.out.lt))
    have HM4 : Hid (Mod F w w4) := hide (HM3.out.trans (Mod.of_below hb4))
    clear hb4 HA3 HE3 HQ3 HM3
    refine hK _ _ HA4.out ?_
    clear hK K
    try simp only [Act.put, List.setIfInBounds_toArray, List.set_cons_zero, List.set_cons_succ]
    refine hd_take 15 (o := ⟨some 186, _, _, _, _, _⟩) (.pointer (some ⟨B, 16 + k * 3, none⟩)) (by kernel_rfl) (by kernel_rfl) (by kernel_rfl) rfl (by rfl) (fun W hSw => by go_simp) (fun _ _ _ h => h) HA4.out ?_
    try simp only [Act.put, List.setIfInBounds_toArray, List.set_cons_zero, List.set_cons_succ]
    obtain ⟨d0, d1, d2⟩ := HQ4.out.paidc HR.out hk
    have f0 := HQ4.out.frz (16 + k * 3)
    have f1 := HQ4.out.frz (16 + k * 3 + 1)
    have f2 := HQ4.out.frz (16 + k * 3 + 2)
    refine hd_call 16 (o := ⟨none, _, _, _, _, _⟩) (by kernel_rfl) rfl (by rfl) (fun K hK => ?_)
    go_simp
    refine hK _ _ (by rw [heap_setCell_other _ _ _ _ HNB.out, heap_setCell_other _ _ _ _ HNB.out, heap_setCell_other _ _ _ _ HNB.out]; exact HA4.out) ?_
    clear hK K
    refine wpAnyH_done (by kernel_rfl) ?_ _
    have HQ5 := hide (HQ4.out.setPaid HR.out hk HSm.out)
    have HF : Hid (∃ W5, W5 = (((w4.setCell ⟨B, 16 + k * 3, none⟩ (.int .i64 (r.pd.less q).f)).setCell ⟨B, 16 + k * 3 + 1, none⟩ (.int .i64 (r.pd.less q).e)).setCell ⟨B, 16 + k * 3 + 2, none⟩ (.int .i64 (r.pd.less q).x)) ∧ Np w F T B W5) := hide ⟨_, rfl, _, last, F, ⟨HE4.out.keep (by simp [World.setCell]) (fun b hb => by
        have hbB : b ≠ B := fun e => HNe.out (e ▸ hb)
        rw [heap_setCell_other _ _ _ _ hbB, heap_setCell_other _ _ _ _ hbB, heap_setCell_other _ _ _ _ hbB]), HI.out, HWd.out.set (HWd.out k r HR.out), HQ5.out, HNe.out⟩, ⟨((((⟨HM4.out.os, HM4.out.tape, HM4.out.output, HM4.out.size, fun b hb hf => HM4.out.block b hb (fun e => hf (.inr e))⟩ : Mod (wi B F) w w4).setCell (p := ⟨B, 16 + k * 3, none⟩) (.inl (.inl rfl)) _).setCell (p := ⟨B, 16 + k * 3 + 1, none⟩) (.inl (.inl rfl)) _).setCell (p := ⟨B, 16 + k * 3 + 2, none⟩) (.inl (.inl rfl)) _), fun _ hb => .inl hb⟩⟩
    obtain ⟨W5, hW5, hNp⟩ := HF.out
    rw [← hW5]
    have HP := hide hNp
    clear hW5 hNp HF HQ5 HQ4 HE4 HM4 HA4 d0 d1 d2 f0 f1 f2
    go_wp2
    go_ret
    exact ⟨rfl, HP.out⟩
  · rw [refE_not hz] at hE
    have HP := hide (HS.out.qu HB.out ⟨rs, hE, hM, HS.out.iv, HS.out.wd, KQ.refl _⟩)
    have hzb : (refE rs e q == 0) = false := by simp [hz]
    clear hE hM HS HB HA HC
    generalize refE rs e q = c at *
    go_wp2
    go_ret
    exact ⟨rfl, HP.out⟩
end
end Go.Proofs.Ytoddadohmnaolaa
