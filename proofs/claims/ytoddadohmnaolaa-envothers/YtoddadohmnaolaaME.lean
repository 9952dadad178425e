import Derived.Test.YtoddadohmnaolaaFG
namespace Go.Proofs.Ytoddadohmnaolaa
open Go.RowKit Go.Shelf

def lvb (rs : List (Option Er)) (i : Nat) : Bool := (core rs i).isSome
/-- the law's book tells what lives, what was paid, the last serial -/
structure Bc (cs : List Value) (rs : List (Option Er)) (last : Int) : Prop where
  len : cs.length = 65
  live : ∀ i, i < 16 → cs[i]? = some (.bool (lvb rs i))
  paid : ∀ i, i < 16 → ∃ p : Qt, cs[16 + i * 3]? = some (.int .i64 p.f) ∧ cs[16 + i * 3 + 1]? = some (.int .i64 p.e) ∧ cs[16 + i * 3 + 2]? = some (.int .i64 p.x) ∧ ∀ r, rs[i]? = some (some r) → p = r.pd
  lst : cs[64]? = some (.int .i64 last)
structure Bq (w : World) (B : Nat) (rs : List (Option Er)) (last : Int) : Prop where
  out : ∃ cs : List Value, w.heap[B]? = some (.cells cs.toArray 58 (0, 0)) ∧ Bc cs rs last
section
variable {w w' : World} {B : Nat} {rs rs' : List (Option Er)} {last : Int}
theorem Bq.lt (h : Bq w B rs last) : B < w.heap.size := by obtain ⟨cs, h, _⟩ := h.out; exact (Array.getElem?_eq_some_iff.1 h).1
theorem Bq.keep (h : Bq w B rs last) (hk : w'.heap[B]? = w.heap[B]?) : Bq w' B rs last := by obtain ⟨cs, h1, h2⟩ := h.out; exact ⟨cs, hk.trans h1, h2⟩
theorem Bq.cell (h : Bq w B rs last) {i : Nat} (hi : i < 16) : w.cell? ⟨B, i, none⟩ = some (.bool (lvb rs i)) ∧ w.frozen? ⟨B, i, none⟩ = false := by
  obtain ⟨cs, h1, h2⟩ := h.out
  refine ⟨?_, frozen_of_row _ _ _ _ _ h1⟩
  rw [cell_of_row _ _ _ _ _ _ h1]
  simpa using h2.live i hi
theorem Bq.lastc (h : Bq w B rs last) : w.cell? ⟨B, 64, none⟩ = some (.int .i64 last) ∧ w.frozen? ⟨B, 64, none⟩ = false := by
  obtain ⟨cs, h1, h2⟩ := h.out
  refine ⟨?_, frozen_of_row _ _ _ _ _ h1⟩
  rw [cell_of_row _ _ _ _ _ _ h1]
  simpa using h2.lst
theorem Bq.frz (h : Bq w B rs last) (i : Nat) : w.frozen? ⟨B, i, none⟩ = false := by
  obtain ⟨cs, h1, h2⟩ := h.out
  exact frozen_of_row _ _ _ _ _ h1
theorem Bq.paidc (h : Bq w B rs last) {i : Nat} {r : Er} (hr : rs[i]? = some (some r)) (hi : i < 16) : w.cell? ⟨B, 16 + i * 3, none⟩ = some (.int .i64 r.pd.f) ∧ w.cell? ⟨B, 16 + i * 3 + 1, none⟩ = some (.int .i64 r.pd.e) ∧ w.cell? ⟨B, 16 + i * 3 + 2, none⟩ = some (.int .i64 r.pd.x) := by
  obtain ⟨cs, h1, h2⟩ := h.out
  obtain ⟨p, p1, p2, p3, p4⟩ := h2.paid i hi
  obtain rfl := p4 r hr
  refine ⟨?_, ?_, ?_⟩ <;> rw [cell_of_row _ _ _ _ _ _ h1] <;> simpa using ‹_›
theorem KQ.book (h : KQ rs rs') {cs : List Value} (hb : Bc cs rs last) : Bc cs rs' last := by
  refine ⟨hb.len, fun i hi => ?_, fun i hi => ?_, hb.lst⟩
  · rw [hb.live i hi]
    unfold lvb
    rw [h.1.2 i]
  · obtain ⟨p, p1, p2, p3, p4⟩ := hb.paid i hi
    refine ⟨p, p1, p2, p3, fun r' hr' => ?_⟩
    obtain ⟨r, h1, h2, _⟩ := h.2 i r' hr'
    rw [h2]; exact p4 r h1
theorem Bq.kq (h : Bq w B rs last) (hk : KQ rs rs') : Bq w B rs' last := by obtain ⟨cs, h1, h2⟩ := h.out; exact ⟨cs, h1, hk.book h2⟩
end
/-- what the law has in its hands -/
structure Ns (w : World) (F : Nat → Prop) (T B : Nat) (rs : List (Option Er)) (last : Int) : Prop where
  et : Et w F T rs last
  iv : Iv rs last
  wd : Wd rs
  bq : Bq w B rs last
  ne : ¬ F B
def wi (B : Nat) (F : Nat → Prop) : Nat → Prop := fun b => b = B ∨ F b
/-- what a step leaves -/
def Nx (w : World) (F : Nat → Prop) (T B : Nat) (rs' : List (Option Er)) (last' : Int) (w' : World) : Prop := ∃ F', Ns w' F' T B rs' last' ∧ Ext (wi B F) w (wi B F') w'
section
variable {w w' w1 : World} {F : Nat → Prop} {T B : Nat} {rs : List (Option Er)} {last : Int}
theorem Ns.below (h : Ns w F T B rs last) (hb : Below w.heap.size w w') : Ns w' F T B rs last := ⟨h.et.below hb, h.iv, h.wd, h.bq.keep (hb.block B h.bq.lt), h.ne⟩
theorem Ns.qu {rs' : List (Option Er)} (h : Ns w1 F T B rs last) (hb : Below w.heap.size w w1) (hq : Qu w1 F T rs last rs' w') : Nx w F T B rs' last w' := by
  obtain ⟨h1, h2, h3, h4, h5⟩ := hq
  refine ⟨F, ⟨h1, h3, h4, (h.bq.keep (h2.block B h.bq.lt h.ne)).kq h5, h.ne⟩, ⟨⟨h2.os.trans hb.os, h2.tape.trans hb.tape, h2.output.trans hb.output, Nat.le_trans hb.size h2.size, fun b hb' hf => ?_⟩, fun _ hb' => .inl hb'⟩⟩
  rw [h2.block b (Nat.lt_of_lt_of_le hb' hb.size) (fun e => hf (.inr e)), hb.block b hb']
theorem Ns.nothing (h : Ns w1 F T B rs last) (hb : Below w.heap.size w w1) : Nx w F T B rs last w1 := ⟨F, h, ⟨⟨hb.os, hb.tape, hb.output, hb.size, fun b hb' _ => hb.block b hb'⟩, fun _ hb' => .inl hb'⟩⟩
set_option maxRecDepth 100000 in
set_option maxHeartbeats 3200000 in
theorem noted_wait (h : Ns w F T B rs last) (t e n m : Int) (q : Qt) (g : Nat → Nat) (pc : Nat) (on : Bool) : Calls Try.prog 16 #[.pointer (some ⟨B, 0, none⟩), .pointer (some ⟨T, 0, none⟩), .agg #[.int .i64 9, .int .i64 t, .int .i64 e, .int .i64 n, .int .i64 m, .int .i64 q.f, .int .i64 q.e, .int .i64 q.x, .int .u32 (g 0 : Nat), .int .u32 (g 1 : Nat), .int .u32 (g 2 : Nat), .int .u32 (g 3 : Nat), .int .u32 (g 4 : Nat), .int .u32 (g 5 : Nat), .int .u32 (g 6 : Nat), .int .u32 (g 7 : Nat), .int .u32 (pc : Nat), .bool on]] w fun x w' => x = .returned (.bool true) ∧ Nx w F T B (waS rs e) last w' := by
  have hb := (Below.refl w.heap.size w).alloc (Nat.le_refl _) (.cells #[.int .i64 9, .int .i64 t, .int .i64 e, .int .i64 n, .int .i64 m, .int .i64 q.f, .int .i64 q.e, .int .i64 q.x, .int .u32 (g 0 : Nat), .int .u32 (g 1 : Nat), .int .u32 (g 2 : Nat), .int .u32 (g 3 : Nat), .int .u32 (g 4 : Nat), .int .u32 (g 5 : Nat), .int .u32 (g 6 : Nat), .int .u32 (g 7 : Nat), .int .u32 (pc : Nat), .bool on] 47)
  have HS := hide (h.below hb)
  have HB := hide hb
  clear h hb
  go_enter Try.func16, Try.ntmps16
  go_wp2_with fail
  refine (wait_q HS.out.et HS.out.iv HS.out.wd e).mono ?_
  rintro x w1 ⟨⟨c, d, rfl⟩, hq⟩
  have HP := hide (HS.out.qu HB.out hq)
  clear hq HS HB
  go_wp2
  go_ret
  exact ⟨rfl, HP.out⟩
set_option maxRecDepth 100000 in
set_option maxHeartbeats 3200000 in
theorem noted_notify (h : Ns w F T B rs last) (t e n m : Int) (q : Qt) (g : Nat → Nat) (pc : Nat) (on : Bool) : Calls Try.prog 16 #[.pointer (some ⟨B, 0, none⟩), .pointer (some ⟨T, 0, none⟩), .agg #[.int .i64 8, .int .i64 t, .int .i64 e, .int .i64 n, .int .i64 m, .int .i64 q.f, .int .i64 q.e, .int .i64 q.x, .int .u32 (g 0 : Nat), .int .u32 (g 1 : Nat), .int .u32 (g 2 : Nat), .int .u32 (g 3 : Nat), .int .u32 (g 4 : Nat), .int .u32 (g 5 : Nat), .int .u32 (g 6 : Nat), .int .u32 (g 7 : Nat), .int .u32 (pc : Nat), .bool on]] w fun x w' => x = .returned (.bool true) ∧ Nx w F T B (noS rs e n) last w' := by
  have hb := (Below.refl w.heap.size w).alloc (Nat.le_refl _) (.cells #[.int .i64 8, .int .i64 t, .int .i64 e, .int .i64 n, .int .i64 m, .int .i64 q.f, .int .i64 q.e, .int .i64 q.x, .int .u32 (g 0 : Nat), .int .u32 (g 1 : Nat), .int .u32 (g 2 : Nat), .int .u32 (g 3 : Nat), .int .u32 (g 4 : Nat), .int .u32 (g 5 : Nat), .int .u32 (g 6 : Nat), .int .u32 (g 7 : Nat), .int .u32 (pc : Nat), .bool on] 47)
  have HS := hide (h.below hb)
  have HB := hide hb
  clear h hb
  go_enter Try.func16, Try.ntmps16
  go_wp2_with fail
  refine (notify_q HS.out.et HS.out.iv HS.out.wd e n).mono ?_
  rintro x w1 ⟨⟨c, rfl⟩, hq⟩
  have HP := hide (HS.out.qu HB.out hq)
  clear hq HS HB
  go_wp2
  go_ret
  exact ⟨rfl, HP.out⟩
set_option maxRecDepth 100000 in
set_option maxHeartbeats 3200000 in
theorem noted_bits (h : Ns w F T B rs last) (t e n m : Int) (q : Qt) (g : Nat → Nat) (pc : Nat) (on : Bool) : Calls Try.prog 16 #[.pointer (some ⟨B, 0, none⟩), .pointer (some ⟨T, 0, none⟩), .agg #[.int .i64 7, .int .i64 t, .int .i64 e, .int .i64 n, .int .i64 m, .int .i64 q.f, .int .i64 q.e, .int .i64 q.x, .int .u32 (g 0 : Nat), .int .u32 (g 1 : Nat), .int .u32 (g 2 : Nat), .int .u32 (g 3 : Nat), .int .u32 (g 4 : Nat), .int .u32 (g 5 : Nat), .int .u32 (g 6 : Nat), .int .u32 (g 7 : Nat), .int .u32 (pc : Nat), .bool on]] w fun x w' => x = .returned (.bool true) ∧ Nx w F T B (btS rs e n) last w' := by
  have hb := (Below.refl w.heap.size w).alloc (Nat.le_refl _) (.cells #[.int .i64 7, .int .i64 t, .int .i64 e, .int .i64 n, .int .i64 m, .int .i64 q.f, .int .i64 q.e, .int .i64 q.x, .int .u32 (g 0 : Nat), .int .u32 (g 1 : Nat), .int .u32 (g 2 : Nat), .int .u32 (g 3 : Nat), .int .u32 (g 4 : Nat), .int .u32 (g 5 : Nat), .int .u32 (g 6 : Nat), .int .u32 (g 7 : Nat), .int .u32 (pc : Nat), .bool on] 47)
  have HS := hide (h.below hb)
  have HB := hide hb
  clear h hb
  go_enter Try.func16, Try.ntmps16
  go_wp2_with fail
  refine (setBits_q HS.out.et HS.out.iv HS.out.wd e n).mono ?_
  rintro x w1 ⟨⟨c, rfl⟩, hq⟩
  have HP := hide (HS.out.qu HB.out hq)
  clear hq HS HB
  go_wp2
  go_ret
  exact ⟨rfl, HP.out⟩
set_option maxRecDepth 100000 in
set_option maxHeartbeats 3200000 in
theorem noted_state (h : Ns w F T B rs last) (t e n m : Int) (q : Qt) (g : Nat → Nat) (pc : Nat) (on : Bool) : Calls Try.prog 16 #[.pointer (some ⟨B, 0, none⟩), .pointer (some ⟨T, 0, none⟩), .agg #[.int .i64 6, .int .i64 t, .int .i64 e, .int .i64 n, .int .i64 m, .int .i64 q.f, .int .i64 q.e, .int .i64 q.x, .int .u32 (g 0 : Nat), .int .u32 (g 1 : Nat), .int .u32 (g 2 : Nat), .int .u32 (g 3 : Nat), .int .u32 (g 4 : Nat), .int .u32 (g 5 : Nat), .int .u32 (g 6 : Nat), .int .u32 (g 7 : Nat), .int .u32 (pc : Nat), .bool on]] w fun x w' => x = .returned (.bool true) ∧ Nx w F T B (stS rs e n m) last w' := by
  have hb := (Below.refl w.heap.size w).alloc (Nat.le_refl _) (.cells #[.int .i64 6, .int .i64 t, .int .i64 e, .int .i64 n, .int .i64 m, .int .i64 q.f, .int .i64 q.e, .int .i64 q.x, .int .u32 (g 0 : Nat), .int .u32 (g 1 : Nat), .int .u32 (g 2 : Nat), .int .u32 (g 3 : Nat), .int .u32 (g 4 : Nat), .int .u32 (g 5 : Nat), .int .u32 (g 6 : Nat), .int .u32 (g 7 : Nat), .int .u32 (pc : Nat), .bool on] 47)
  have HS := hide (h.below hb)
  have HB := hide hb
  clear h hb
  go_enter Try.func16, Try.ntmps16
  go_wp2_with fail
  refine (setState_q HS.out.et HS.out.iv HS.out.wd e n m).mono ?_
  rintro x w1 ⟨⟨c, rfl⟩, hq⟩
  have HP := hide (HS.out.qu HB.out hq)
  clear hq HS HB
  go_wp2
  go_ret
  exact ⟨rfl, HP.out⟩
set_option maxRecDepth 100000 in
set_option maxHeartbeats 3200000 in
theorem noted_freeze (h : Ns w F T B rs last) (t e n m : Int) (q : Qt) (g : Nat → Nat) (pc : Nat) (on : Bool) : Calls Try.prog 16 #[.pointer (some ⟨B, 0, none⟩), .pointer (some ⟨T, 0, none⟩), .agg #[.int .i64 10, .int .i64 t, .int .i64 e, .int .i64 n, .int .i64 m, .int .i64 q.f, .int .i64 q.e, .int .i64 q.x, .int .u32 (g 0 : Nat), .int .u32 (g 1 : Nat), .int .u32 (g 2 : Nat), .int .u32 (g 3 : Nat), .int .u32 (g 4 : Nat), .int .u32 (g 5 : Nat), .int .u32 (g 6 : Nat), .int .u32 (g 7 : Nat), .int .u32 (pc : Nat), .bool on]] w fun x w' => x = .returned (.bool true) ∧ Nx w F T B (frS rs e on) last w' := by
  have hb := (Below.refl w.heap.size w).alloc (Nat.le_refl _) (.cells #[.int .i64 10, .int .i64 t, .int .i64 e, .int .i64 n, .int .i64 m, .int .i64 q.f, .int .i64 q.e, .int .i64 q.x, .int .u32 (g 0 : Nat), .int .u32 (g 1 : Nat), .int .u32 (g 2 : Nat), .int .u32 (g 3 : Nat), .int .u32 (g 4 : Nat), .int .u32 (g 5 : Nat), .int .u32 (g 6 : Nat), .int .u32 (g 7 : Nat), .int .u32 (pc : Nat), .bool on] 47)
  have HS := hide (h.below hb)
  have HB := hide hb
  clear h hb
  go_enter Try.func16, Try.ntmps16
  go_wp2_with fail
  refine (freeze_q HS.out.et HS.out.iv HS.out.wd e on).mono ?_
  rintro x w1 ⟨⟨c, rfl⟩, hq⟩
  have HP := hide (HS.out.qu HB.out hq)
  clear hq HS HB
  go_wp2
  go_ret
  exact ⟨rfl, HP.out⟩
set_option maxRecDepth 100000 in
set_option maxHeartbeats 3200000 in
theorem noted_none (h : Ns w F T B rs last) (kd : Int) (k2 : kd ≠ 2) (k3 : kd ≠ 3) (k5 : kd ≠ 5) (k6 : kd ≠ 6) (k7 : kd ≠ 7) (k8 : kd ≠ 8) (k9 : kd ≠ 9) (k10 : kd ≠ 10) (k11 : kd ≠ 11) (k12 : kd ≠ 12) (t e n m : Int) (q : Qt) (g : Nat → Nat) (pc : Nat) (on : Bool) : Calls Try.prog 16 #[.pointer (some ⟨B, 0, none⟩), .pointer (some ⟨T, 0, none⟩), .agg #[.int .i64 kd, .int .i64 t, .int .i64 e, .int .i64 n, .int .i64 m, .int .i64 q.f, .int .i64 q.e, .int .i64 q.x, .int .u32 (g 0 : Nat), .int .u32 (g 1 : Nat), .int .u32 (g 2 : Nat), .int .u32 (g 3 : Nat), .int .u32 (g 4 : Nat), .int .u32 (g 5 : Nat), .int .u32 (g 6 : Nat), .int .u32 (g 7 : Nat), .int .u32 (pc : Nat), .bool on]] w fun x w' => x = .returned (.bool true) ∧ Nx w F T B rs last w' := by
  have hb := (Below.refl w.heap.size w).alloc (Nat.le_refl _) (.cells #[.int .i64 kd, .int .i64 t, .int .i64 e, .int .i64 n, .int .i64 m, .int .i64 q.f, .int .i64 q.e, .int .i64 q.x, .int .u32 (g 0 : Nat), .int .u32 (g 1 : Nat), .int .u32 (g 2 : Nat), .int .u32 (g 3 : Nat), .int .u32 (g 4 : Nat), .int .u32 (g 5 : Nat), .int .u32 (g 6 : Nat), .int .u32 (g 7 : Nat), .int .u32 (pc : Nat), .bool on] 47)
  have HP := hide ((h.below hb).nothing hb)
  clear h hb
  go_enter Try.func16, Try.ntmps16
  go_wp2
  go_ret
  exact ⟨rfl, HP.out⟩
end
end Go.Proofs.Ytoddadohmnaolaa

namespace Go.Proofs.Ytoddadohmnaolaa
open Go.RowKit Go.Shelf

set_option maxHeartbeats 1600000 in
theorem addOne_any (w : World) (p q : Qt) (hp : p.ok) (hq : q.ok) : Calls Try.prog 22 #[p.val, q.val, .int .i64 1] w fun e w' => e = .returned (p.plus q).val ∧ Below w.heap.size w w' := by
  obtain ⟨⟨h1, h2⟩, ⟨h3, h4⟩, ⟨h5, h6⟩⟩ := hp
  obtain ⟨⟨k1, k2⟩, ⟨k3, k4⟩, ⟨k5, k6⟩⟩ := hq
  have hb1 := (Below.refl w.heap.size w).alloc (Nat.le_refl _) (.cells #[.int .i64 p.f, .int .i64 p.e, .int .i64 p.x] 39)
  have hb2 := hb1.alloc hb1.size (.cells #[.int .i64 q.f, .int .i64 q.e, .int .i64 q.x] 39)
  have hb3 := hb2.alloc hb2.size (.cells #[.int .i64 0, .int .i64 0, .int .i64 0] 39)
  have a1 := heap_alloc_new w (.cells #[.int .i64 p.f, .int .i64 p.e, .int .i64 p.x] 39)
  have a2 := heap_alloc_new (w.alloc (.cells #[.int .i64 p.f, .int .i64 p.e, .int .i64 p.x] 39)) (.cells #[.int .i64 q.f, .int .i64 q.e, .int .i64 q.x] 39)
  have a3 := heap_alloc_new ((w.alloc (.cells #[.int .i64 p.f, .int .i64 p.e, .int .i64 p.x] 39)).alloc (.cells #[.int .i64 q.f, .int .i64 q.e, .int .i64 q.x] 39)) (.cells #[.int .i64 0, .int .i64 0, .int .i64 0] 39)
  have e2 : (w.alloc (.cells #[.int .i64 p.f, .int .i64 p.e, .int .i64 p.x] 39)).heap.size = w.heap.size + 1 := by simp
  have e3 : ((w.alloc (.cells #[.int .i64 p.f, .int .i64 p.e, .int .i64 p.x] 39)).alloc (.cells #[.int .i64 q.f, .int .i64 q.e, .int .i64 q.x] 39)).heap.size = w.heap.size + 2 := by simp
  have b1 := (Below.heap_alloc _ (.cells #[.int .i64 0, .int .i64 0, .int .i64 0] 39) w.heap.size (by rw [e3]; omega)).trans ((Below.heap_alloc _ (.cells #[.int .i64 q.f, .int .i64 q.e, .int .i64 q.x] 39) w.heap.size (by rw [e2]; omega)).trans a1)
  rw [e2] at a2
  have b2 := (Below.heap_alloc _ (.cells #[.int .i64 0, .int .i64 0, .int .i64 0] 39) (w.heap.size + 1) (by rw [e3]; omega)).trans a2
  rw [e3] at a3
  have HB3 := hide hb3
  clear hb1 hb2 hb3 a1 a2 e2 e3
  unfold Qt.val
  go_enter Try.func22, Try.ntmps22
  go_upto_region 1 with fail
  generalize ((w.alloc (.cells #[.int .i64 p.f, .int .i64 p.e, .int .i64 p.x] 39)).alloc (.cells #[.int .i64 q.f, .int .i64 q.e, .int .i64 q.x] 39)).alloc (.cells #[.int .i64 0, .int .i64 0, .int .i64 0] 39) = w3 at *
  obtain ⟨c0, c1, c2, -, -, -⟩ := blk3 b1
  obtain ⟨d0, d1, d2, -, -, -⟩ := blk3 b2
  obtain ⟨r0, r1, r2, f0, f1, f2⟩ := blk3 a3
  have HS := hide (fun a b c => set3 a3 a b c)
  clear b1 b2 a3
  go_wp2
  refine bodyPost_ret (results_row1 rfl _ _ (w.heap.size + 2) 39 #[.int .i64 (p.f + q.f), .int .i64 (p.e + q.e), .int .i64 (p.x + q.x)] (0, 0) _ rfl (HS.out _ _ _) Try.underlying39 rfl (by kernel_rfl)) rfl ?_
  exact ⟨rfl, below3 HB3.out (by omega) _ _ _⟩
set_option maxHeartbeats 1600000 in
theorem addNeg_any (w : World) (p q : Qt) (hp : p.ok) (hq : q.ok) : Calls Try.prog 22 #[p.val, q.val, .int .i64 (-1)] w fun e w' => e = .returned (p.less q).val ∧ Below w.heap.size w w' := by
  obtain ⟨⟨h1, h2⟩, ⟨h3, h4⟩, ⟨h5, h6⟩⟩ := hp
  obtain ⟨⟨k1, k2⟩, ⟨k3, k4⟩, ⟨k5, k6⟩⟩ := hq
  have hb1 := (Below.refl w.heap.size w).alloc (Nat.le_refl _) (.cells #[.int .i64 p.f, .int .i64 p.e, .int .i64 p.x] 39)
  have hb2 := hb1.alloc hb1.size (.cells #[.int .i64 q.f, .int .i64 q.e, .int .i64 q.x] 39)
  have hb3 := hb2.alloc hb2.size (.cells #[.int .i64 0, .int .i64 0, .int .i64 0] 39)
  have a1 := heap_alloc_new w (.cells #[.int .i64 p.f, .int .i64 p.e, .int .i64 p.x] 39)
  have a2 := heap_alloc_new (w.alloc (.cells #[.int .i64 p.f, .int .i64 p.e, .int .i64 p.x] 39)) (.cells #[.int .i64 q.f, .int .i64 q.e, .int .i64 q.x] 39)
  have a3 := heap_alloc_new ((w.alloc (.cells #[.int .i64 p.f, .int .i64 p.e, .int .i64 p.x] 39)).alloc (.cells #[.int .i64 q.f, .int .i64 q.e, .int .i64 q.x] 39)) (.cells #[.int .i64 0, .int .i64 0, .int .i64 0] 39)
  have e2 : (w.alloc (.cells #[.int .i64 p.f, .int .i64 p.e, .int .i64 p.x] 39)).heap.size = w.heap.size + 1 := by simp
  have e3 : ((w.alloc (.cells #[.int .i64 p.f, .int .i64 p.e, .int .i64 p.x] 39)).alloc (.cells #[.int .i64 q.f, .int .i64 q.e, .int .i64 q.x] 39)).heap.size = w.heap.size + 2 := by simp
  have b1 := (Below.heap_alloc _ (.cells #[.int .i64 0, .int .i64 0, .int .i64 0] 39) w.heap.size (by rw [e3]; omega)).trans ((Below.heap_alloc _ (.cells #[.int .i64 q.f, .int .i64 q.e, .int .i64 q.x] 39) w.heap.size (by rw [e2]; omega)).trans a1)
  rw [e2] at a2
  have b2 := (Below.heap_alloc _ (.cells #[.int .i64 0, .int .i64 0, .int .i64 0] 39) (w.heap.size + 1) (by rw [e3]; omega)).trans a2
  rw [e3] at a3
  have HB3 := hide hb3
  clear hb1 hb2 hb3 a1 a2 e2 e3
  unfold Qt.val
  go_enter Try.func22, Try.ntmps22
  go_upto_region 1 with fail
  generalize ((w.alloc (.cells #[.int .i64 p.f, .int .i64 p.e, .int .i64 p.x] 39)).alloc (.cells #[.int .i64 q.f, .int .i64 q.e, .int .i64 q.x] 39)).alloc (.cells #[.int .i64 0, .int .i64 0, .int .i64 0] 39) = w3 at *
  obtain ⟨c0, c1, c2, -, -, -⟩ := blk3 b1
  obtain ⟨d0, d1, d2, -, -, -⟩ := blk3 b2
  obtain ⟨r0, r1, r2, f0, f1, f2⟩ := blk3 a3
  have HS := hide (fun a b c => set3 a3 a b c)
  clear b1 b2 a3
  go_wp2
  refine bodyPost_ret (results_row1 rfl _ _ (w.heap.size + 2) 39 #[.int .i64 (p.f - q.f), .int .i64 (p.e - q.e), .int .i64 (p.x - q.x)] (0, 0) _ rfl (HS.out _ _ _) Try.underlying39 rfl (by kernel_rfl)) rfl ?_
  exact ⟨rfl, below3 HB3.out (by omega) _ _ _⟩
section
variable {w w' w1 : World} {F : Nat → Prop} {T B : Nat} {rs : List (Option Er)} {last : Int}
theorem lives_any (h : Bq w B rs last) (k : Nat) (hk : k < 16) : Calls Try.prog 21 #[.pointer (some ⟨B, 0, none⟩), .int .i64 (k : Int)] w fun x w' => x = .returned (.bool (lvb rs k)) ∧ w' = w := by
  obtain ⟨c, _⟩ := h.cell hk
  have hk2 : (k : Int) < 16 := by omega
  generalize lvb rs k = b at *
  clear h
  go_enter Try.func21, Try.ntmps21
  go_wp2
  go_ret
  exact ⟨rfl, rfl⟩
theorem Bq.setPaid (h : Bq w B rs last) {k : Nat} {r r' : Er} (hr : rs[k]? = some (some r)) (hk : k < 16) (hs : Same rs (rs.set k (some r'))) : Bq (((w.setCell ⟨B, 16 + k * 3, none⟩ (.int .i64 r'.pd.f)).setCell ⟨B, 16 + k * 3 + 1, none⟩ (.int .i64 r'.pd.e)).setCell ⟨B, 16 + k * 3 + 2, none⟩ (.int .i64 r'.pd.x)) B (rs.set k (some r')) last := by
  obtain ⟨cs, h1, h2⟩ := h.out
  have hl := h2.len
  refine ⟨((cs.set (16 + k * 3) (.int .i64 r'.pd.f)).set (16 + k * 3 + 1) (.int .i64 r'.pd.e)).set (16 + k * 3 + 2) (.int .i64 r'.pd.x), ?_, ⟨by simpa using hl, fun i hi => ?_, fun i hi => ?_, ?_⟩⟩
  · have e1 := heap_setCell_same _ B (16 + k * 3) _ _ (.int .i64 r'.pd.f) h1
    have e2 := heap_setCell_same _ B (16 + k * 3 + 1) _ _ (.int .i64 r'.pd.e) e1
    rw [heap_setCell_same _ B (16 + k * 3 + 2) _ _ (.int .i64 r'.pd.x) e2]
    simp
  · rw [List.getElem?_set_ne (by omega), List.getElem?_set_ne (by omega), List.getElem?_set_ne (by omega), h2.live i hi]
    unfold lvb; rw [hs.2 i]
  · by_cases e : i = k
    · subst e
      refine ⟨r'.pd, ?_, ?_, ?_, fun r9 h9 => ?_⟩
      · rw [List.getElem?_set_ne (by omega), List.getElem?_set_ne (by omega), List.getElem?_set_self (by omega)]
      · rw [List.getElem?_set_ne (by omega), List.getElem?_set_self (by simp; omega)]
      · rw [List.getElem?_set_self (by simp; omega)]
      · rw [List.getElem?_set_self (List.getElem?_eq_some_iff.1 hr).1] at h9; cases h9; rfl
    · obtain ⟨p, p1, p2, p3, p4⟩ := h2.paid i hi
      refine ⟨p, ?_, ?_, ?_, fun r9 h9 => p4 r9 (by rw [List.getElem?_set_ne (fun e' => e e'.symm)] at h9; exact h9)⟩
      · rw [List.getElem?_set_ne (by omega), List.getElem?_set_ne (by omega), List.getElem?_set_ne (by omega)]; exact p1
      · rw [List.getElem?_set_ne (by omega), List.getElem?_set_ne (by omega), List.getElem?_set_ne (by omega)]; exact p2
      · rw [List.getElem?_set_ne (by omega), List.getElem?_set_ne (by omega), List.getElem?_set_ne (by omega)]; exact p3
  · rw [List.getElem?_set_ne (by omega), List.getElem?_set_ne (by omega), List.getElem?_set_ne (by omega)]; exact h2.lst
theorem payE_zero {e : Int} {q : Qt} (h : payE rs e q = 0) : ∃ (k : Nat) (r : Er), e = (k : Int) ∧ rs[k]? = some (some r) ∧ q.good ∧ payS rs e q = rs.set k (some { r with pd := r.pd.plus q, le := r.le.less q }) := by
  unfold payE at h
  unfold payS
  cases hl : look rs e with
  | none => rw [hl] at h; cases h
  | some r =>
    obtain ⟨k, rfl, hr⟩ := look_some hl
    rw [hl] at h
    simp only [] at h ⊢
    by_cases hg : q.good
    · rw [if_pos hg] at h ⊢
      by_cases hf : q.le r.le
      · rw [if_pos hf]; exact ⟨k, r, rfl, hr, hg, rfl⟩
      · rw [if_neg hf] at h; cases h
    · rw [if_neg hg] at h; cases h
theorem payE_not {e : Int} {q : Qt} (h : payE rs e q ≠ 0) : payS rs e q = rs := by
  unfold payE at h
  unfold payS
  cases hl : look rs e with
  | none => rfl
  | some r =>
    rw [hl] at h
    simp only [] at h ⊢
    by_cases hg : q.good
    · rw [if_pos hg] at h ⊢
      by_cases hf : q.le r.le
      · rw [if_pos hf] at h; exact absurd rfl h
      · rw [if_neg hf]
    · rw [if_neg hg]
theorem refE_zero {e : Int} {q : Qt} (h : refE rs e q = 0) : ∃ (k : Nat) (r : Er), e = (k : Int) ∧ rs[k]? = some (some r) ∧ q.good ∧ refS rs e q = rs.set k (some { r with pd := r.pd.less q, le := r.le.plus q }) := by
  unfold refE at h
  unfold refS
  cases hl : look rs e with
  | none => rw [hl] at h; cases h
  | some r =>
    obtain ⟨k, rfl, hr⟩ := look_some hl
    rw [hl] at h
    simp only [] at h ⊢
    by_cases hc : q.good ∧ q.le r.pd
    · rw [if_pos hc]; exact ⟨k, r, rfl, hr, hc.1, rfl⟩
    · rw [if_neg hc] at h; cases h
theorem refE_not {e : Int} {q : Qt} (h : refE rs e q ≠ 0) : refS rs e q = rs := by
  unfold refE at h
  unfold refS
  cases hl : look rs e with
  | none => rfl
  | some r =>
    rw [hl] at h
    simp only [] at h ⊢
    by_cases hc : q.good ∧ q.le r.pd
    · rw [if_pos hc] at h; exact absurd rfl h
    · rw [if_neg hc]
theorem Ns.oks (h : Ns w F T B rs last) (e : Int) : ∀ r, look rs e = some r → r.le.ok ∧ r.pd.ok := fun r hl => by
  obtain ⟨k, rfl, hr⟩ := look_some hl
  exact ⟨(h.iv.oks hr).1, (h.iv.oks hr).2.1⟩
theorem lvb_yes {k : Nat} {r : Er} (hr : rs[k]? = some (some r)) : lvb rs k = true := by unfold lvb; rw [core_at hr]; rfl
set_option maxRecDepth 100000 in
set_option maxHeartbeats 6400000 in
theorem noted_pay (h : Ns w F T B rs last) (t e n m : Int) (q : Qt) (g : Nat → Nat) (pc : Nat) (on : Bool) : Calls Try.prog 16 #[.pointer (some ⟨B, 0, none⟩), .pointer (some ⟨T, 0, none⟩), .agg #[.int .i64 11, .int .i64 t, .int .i64 e, .int .i64 n, .int .i64 m, .int .i64 q.f, .int .i64 q.e, .int .i64 q.x, .int .u32 (g 0 : Nat), .int .u32 (g 1 : Nat), .int .u32 (g 2 : Nat), .int .u32 (g 3 : Nat), .int .u32 (g 4 : Nat), .int .u32 (g 5 : Nat), .int .u32 (g 6 : Nat), .int .u32 (g 7 : Nat), .int .u32 (pc : Nat), .bool on]] w fun x w' => x = .returned (.bool true) ∧ Nx w F T B (payS rs e q) last w' := by
  have hb := (Below.refl w.heap.size w).alloc (Nat.le_refl _) (.cells #[.int .i64 11, .int .i64 t, .int .i64 e, .int .i64 n, .int .i64 m, .int .i64 q.f, .int .i64 q.e, .int .i64 q.x, .int .u32 (g 0 : Nat), .int .u32 (g 1 : Nat), .int .u32 (g 2 : Nat), .int .u32 (g 3 : Nat), .int .u32 (g 4 : Nat), .int .u32 (g 5 : Nat), .int .u32 (g 6 : Nat), .int .u32 (g 7 : Nat), .int .u32 (pc : Nat), .bool on] 47)
  have a1 := heap_alloc_new w (.cells #[.int .i64 11, .int .i64 t, .int .i64 e, .int .i64 n, .int .i64 m, .int .i64 q.f, .int .i64 q.e, .int .i64 q.x, .int .u32 (g 0 : Nat), .int .u32 (g 1 : Nat), .int .u32 (g 2 : Nat), .int .u32 (g 3 : Nat), .int .u32 (g 4 : Nat), .int .u32 (g 5 : Nat), .int .u32 (g 6 : Nat), .int .u32 (g 7 : Nat), .int .u32 (pc : Nat), .bool on] 47)
  have HS := hide (h.below hb)
  have HB := hide hb
  have HA := hide a1
  have HNB : Hid (w.heap.size ≠ B) := hide (fun e => by have := h.bq.lt; omega)
  have HNF : Hid (¬ F w.heap.size) := hide (fun e => by have := h.et.lt _ e; omega)
  have HC := hide (pay_any HS.out.et e q (HS.out.oks e))
  unfold Qt.val at HC
  clear h hb a1
  go_enter Try.func16, Try.ntmps16
  go_wp2_with fail
  refine HC.out.mono ?_
  rintro x w1 ⟨rfl, hE, hM⟩
  by_cases hz : payE rs e q = 0
  · obtain ⟨k, r, rfl, hr, hg, hS⟩ := payE_zero hz
    have hk := lv_lt HS.out.iv.tr ⟨r, hr⟩
    have hkz : (k : Int) < 16 := by omega
    have HSq := hide hS
    rw [hS] at hE
    have hIv := HS.out.iv.pay (k : Int) q
    rw [hS] at hIv
    have HI := hide hIv
    have HE := hide hE
    have HQ := hide (HS.out.bq.keep (hM.block B HS.out.bq.lt HS.out.ne))
    have HA1 : Hid (w1.heap[w.heap.size]? = some (.cells #[.int .i64 11, .int .i64 t, .int .i64 (k : Int), .int .i64 n, .int .i64 m, .int .i64 q.f, .int .i64 q.e, .int .i64 q.x, .int .u32 (g 0 : Nat), .int .u32 (g 1 : Nat), .int .u32 (g 2 : Nat), .int .u32 (g 3 : Nat), .int .u32 (g 4 : Nat), .int .u32 (g 5 : Nat), .int .u32 (g 6 : Nat), .int .u32 (g 7 : Nat), .int .u32 (pc : Nat), .bool on] 47 (0, 0))) := hide ((hM.block _ (Array.getElem?_eq_some_iff.1 HA.out).1 HNF.out).trans HA.out)
    have HM : Hid (Mod F w w1) := hide ((Mod.of_below HB.out).trans hM)
    have HLv := hide (lives_any HQ.out k hk)
    rw [lvb_yes hr] at HLv
    have HR := hide hr
    have HWd := hide HS.out.wd
    have HNe := hide HS.out.ne
    have HSm : Hid (Same rs (rs.set k (some { r with pd := r.pd.plus q, le := r.le.less q }))) := hide (Same.set hr rfl rfl rfl)
    have HAdd := hide (fun W => addOne_any W r.pd q (HS.out.iv.oks hr).2.1 (good_ok hg))
    unfold Qt.val at HAdd
    have c2 : w1.cell? ⟨w.heap.size, 2, none⟩ = some (.int .i64 (k : Int)) := by rw [cell_of_row _ _ _ _ _ _ HA1.out]; rfl
    rw [hz]
    clear hE hM hS hIv HS HB HA hg hr hz
    generalize w.heap.size = N at *
    go_wp2_with fail
    refine HLv.out.mono ?_
    rintro x w2 ⟨rfl, rfl⟩
    go_upto_region 27 with fail
    obtain ⟨w3, hw3⟩ : ∃ w3, w3 = w2.drew := ⟨_, rfl⟩
    have hb3 : Below w2.heap.size w2 w3 := by rw [hw3]; exact ⟨rfl, rfl, rfl, Nat.le_refl _, fun _ _ => rfl⟩
    have HA3 : Hid (w3.heap[N]? = some (.cells #[.int .i64 11, .int .i64 t, .int .i64 (k : Int), .int .i64 n, .int .i64 m, .int .i64 q.f, .int .i64 q.e, .int .i64 q.x, .int .u32 (g 0 : Nat), .int .u32 (g 1 : Nat), .int .u32 (g 2 : Nat), .int .u32 (g 3 : Nat), .int .u32 (g 4 : Nat), .int .u32 (g 5 : Nat), .int .u32 (g 6 : Nat), .int .u32 (g 7 : Nat), .int .u32 (pc : Nat), .bool on] 47 (0, 0))) := hide ((hb3.block N (Array.getElem?_eq_some_iff.1 HA1.out).1).trans HA1.out)
    have HE3 := hide (HE.out.below hb3)
    have HQ3 := hide (HQ.out.keep (hb3.block B HQ.out.lt))
    have HM3 : Hid (Mod F w w3) := hide (HM.out.trans (Mod.of_below hb3))
    clear HA1 HE HQ HM hb3 c2 HLv
    refine wp_region_held_drew (S := fun W => W.heap[N]? = some (.cells #[.int .i64 11, .int .i64 t, .int .i64 (k : Int), .int .i64 n, .int .i64 m, .int .i64 q.f, .int .i64 q.e, .int .i64 q.x, .int .u32 (g 0 : Nat), .int .u32 (g 1 : Nat), .int .u32 (g 2 : Nat), .int .u32 (g 3 : Nat), .int .u32 (g 4 : Nat), .int .u32 (g 5 : Nat), .int .u32 (g 6 : Nat), .int .u32 (g 7 : Nat), .int .u32 (pc : Nat), .bool on] 47 (0, 0))) (by kernel_rfl) (by rw [← hw3]; exact HA3.out) (fun _ => ?_)
    rw [← hw3]
    clear hw3
    refine hd_take 0 (o := ⟨some 140, _, _, _, _, _⟩) (.pointer (some ⟨B, 0, none⟩)) (by kernel_rfl) (by kernel_rfl) (by kernel_rfl) rfl (by rfl) (fun W hSw => by go_simp) (fun _ _ _ h => h) HA3.out ?_
    try simp only [Act.put, List.setIfInBounds_toArray, List.set_cons_zero, List.set_cons_succ]
    refine hd_take 1 (o := ⟨some 141, _, _, _, _, _⟩) (.pointer (some ⟨N, 2, none⟩)) (by kernel_rfl) (by kernel_rfl) (by kernel_rfl) rfl (by rfl) (fun W hSw => by go_simp) (fun _ _ _ h => h) HA3.out ?_
    try simp only [Act.put, List.setIfInBounds_toArray, List.set_cons_zero, List.set_cons_succ]
    refine hd_take 2 (o := ⟨some 142, _, _, _, _, _⟩) (.int .i64 (k : Int)) (by kernel_rfl) (by kernel_rfl) (by kernel_rfl) rfl (by rfl) (fun W hSw => by have q2 : W.cell? ⟨N, 2, none⟩ = some (.int .i64 (k : Int)) := by { rw [cell_of_row _ _ _ _ _ _ hSw]; rfl }; go_simp) (fun _ _ _ h => h) HA3.out ?_
    try simp only [Act.put, List.setIfInBounds_toArray, List.set_cons_zero, List.set_cons_succ]
    refine hd_take 3 (o := ⟨some 143, _, _, _, _, _⟩) (.pointer (some ⟨B, 0, none⟩)) (by kernel_rfl) (by kernel_rfl) (by kernel_rfl) rfl (by rfl) (fun W hSw => by go_simp) (fun _ _ _ h => h) HA3.out ?_
    try simp only [Act.put, List.setIfInBounds_toArray, List.set_cons_zero, List.set_cons_succ]
    refine hd_take 4 (o := ⟨some 144, _, _, _, _, _⟩) (.pointer (some ⟨N, 2, none⟩)) (by kernel_rfl) (by kernel_rfl) (by kernel_rfl) rfl (by rfl) (fun W hSw => by go_simp) (fun _ _ _ h => h) HA3.out ?_
    try simp only [Act.put, List.setIfInBounds_toArray, List.set_cons_zero, List.set_cons_succ]
    refine hd_take 5 (o := ⟨some 145, _, _, _, _, _⟩) (.int .i64 (k : Int)) (by kernel_rfl) (by kernel_rfl) (by kernel_rfl) rfl (by rfl) (fun W hSw => by have q2 : W.cell? ⟨N, 2, none⟩ = some (.int .i64 (k : Int)) := by { rw [cell_of_row _ _ _ _ _ _ hSw]; rfl }; go_simp) (fun _ _ _ h => h) HA3.out ?_
    try simp only [Act.put, List.setIfInBounds_toArray, List.set_cons_zero, List.set_cons_succ]
    refine hd_take 6 (o := ⟨some 146, _, _, _, _, _⟩) (.pointer (some ⟨B, 0, none⟩)) (by kernel_rfl) (by kernel_rfl) (by kernel_rfl) rfl (by rfl) (fun W hSw => by go_simp) (fun _ _ _ h => h) HA3.out ?_
    try simp only [Act.put, List.setIfInBounds_toArray, List.set_cons_zero, List.set_cons_succ]
    refine hd_take 7 (o := ⟨some 147, _, _, _, _, _⟩) (.pointer (some ⟨B, 16, none⟩)) (by kernel_rfl) (by kernel_rfl) (by kernel_rfl) rfl (by rfl) (fun W hSw => by go_simp) (fun _ _ _ h => h) HA3.out ?_
    try simp only [Act.put, List.setIfInBounds_toArray, List.set_cons_zero, List.set_cons_succ]
    refine hd_take 8 (o := ⟨some 148, _, _, _, _, _⟩) (.pointer (some ⟨B, 16 + k * 3, none⟩)) (by kernel_rfl) (by kernel_rfl) (by kernel_rfl) rfl (by rfl) (fun W hSw => by go_simp) (fun _ _ _ h => h) HA3.out ?_
    try simp only [Act.put, List.setIfInBounds_toArray, List.set_cons_zero, List.set_cons_succ]
    refine hd_take 10 (o := ⟨some 150, _, _, _, _, _⟩) (.pointer (some ⟨N, 5, none⟩)) (by kernel_rfl) (by kernel_rfl) (by kernel_rfl) rfl (by rfl) (fun W hSw => by go_simp) (fun _ _ _ h => h) HA3.out ?_
    try simp only [Act.put, List.setIfInBounds_toArray, List.set_cons_zero, List.set_cons_succ]
    refine hd_take 11 (o := ⟨some 151, _, _, _, _, _⟩) (.agg #[.int .i64 q.f, .int .i64 q.e, .int .i64 q.x]) (by kernel_rfl) (by kernel_rfl) (by kernel_rfl) rfl (by rfl) (fun W hSw => by have q5 : W.cell? ⟨N, 5, none⟩ = some (.int .i64 q.f) := by { rw [cell_of_row _ _ _ _ _ _ hSw]; rfl }; have q6 : W.cell? ⟨N, 6, none⟩ = some (.int .i64 q.e) := by { rw [cell_of_row _ _ _ _ _ _ hSw]; rfl }; have q7 : W.cell? ⟨N, 7, none⟩ = some (.int .i64 q.x) := by { rw [cell_of_row _ _ _ _ _ _ hSw]; rfl }; go_simp) (fun _ _ _ h => h) HA3.out ?_
    try simp only [Act.put, List.setIfInBounds_toArray, List.set_cons_zero, List.set_cons_succ]
    refine hd_take 13 (o := ⟨some 153, _, _, _, _, _⟩) (.pointer (some ⟨B, 0, none⟩)) (by kernel_rfl) (by kernel_rfl) (by kernel_rfl) rfl (by rfl) (fun W hSw => by go_simp) (fun _ _ _ h => h) HA3.out ?_
    try simp only [Act.put, List.setIfInBounds_toArray, List.set_cons_zero, List.set_cons_succ]
    refine hd_take 14 (o := ⟨some 154, _, _, _, _, _⟩) (.pointer (some ⟨B, 16, none⟩)) (by kernel_rfl) (by kernel_rfl) (by kernel_rfl) rfl (by rfl) (fun W hSw => by go_simp) (fun _ _ _ h => h) HA3.out ?_
    try simp only [Act.put, List.setIfInBounds_toArray, List.set_cons_zero, List.set_cons_succ]
    obtain ⟨d0, d1, d2⟩ := HQ3.out.paidc HR.out hk
    refine hd_call 9 (o := ⟨some 149, _, _, _, _, _⟩) (by kernel_rfl) rfl (by rfl) (fun K hK => ?_)
    go_simp
    refine hK _ _ HA3.out ?_
    clear hK K d0 d1 d2
    try simp only [Act.put, List.setIfInBounds_toArray, List.set_cons_zero, List.set_cons_succ]
    refine hd_call 12 (o := ⟨some 152, _, _, _, _, _⟩) (by kernel_rfl) rfl (by rfl) (fun K hK => ?_)
    go_simp
    go_wp2_with (go_at_call 22; refine (HAdd.out _).mono ?_; rintro e1 w4 ⟨rfl, hb4⟩)
    have HA4 : Hid (w4.heap[N]? = some (.cells #[.int .i64 11, .int .i64 t, .int .i64 (k : Int), .int .i64 n, .int .i64 m, .int .i64 q.f, .int .i64 q.e, .int .i64 q.x, .int .u32 (g 0 : Nat), .int .u32 (g 1 : Nat), .int .u32 (g 2 : Nat), .int .u32 (g 3 : Nat), .int .u32 (g 4 : Nat), .int .u32 (g 5 : Nat), .int .u32 (g 6 : Nat), .int .u32 (g 7 : Nat), .int .u32 (pc : Nat), .bool on] 47 (0, 0))) := hide ((hb4.block N (Array.getElem?_eq_some_iff.1 HA3.out).1).trans HA3.out)
    have HE4 := hide (HE3.out.below hb4)
    have HQ4 := hide (HQ3.out.keep (hb4.block B HQ3.out.lt))
    have HM4 : Hid (Mod F w w4) := hide (HM3.out.trans (Mod.of_below hb4))
    clear hb4 HA3 HE3 HQ3 HM3
    refine hK _ _ HA4.out ?_
    clear hK K
    try simp only [Act.put, List.setIfInBounds_toArray, List.set_cons_zero, List.set_cons_succ]
    refine hd_take 15 (o := ⟨some 155, _, _, _, _, _⟩) (.pointer (some ⟨B, 16 + k * 3, none⟩)) (by kernel_rfl) (by kernel_rfl) (by kernel_rfl) rfl (by rfl) (fun W hSw => by go_simp) (fun _ _ _ h => h) HA4.out ?_
    try simp only [Act.put, List.setIfInBounds_toArray, List.set_cons_zero, List.set_cons_succ]
    obtain ⟨d0, d1, d2⟩ := HQ4.out.paidc HR.out hk
    have f0 := HQ4.out.frz (16 + k * 3)
    have f1 := HQ4.out.frz (16 + k * 3 + 1)
    have f2 := HQ4.out.frz (16 + k * 3 + 2)
    refine hd_call 16 (o := ⟨none, _, _, _, _, _⟩) (by kernel_rfl) rfl (by rfl) (fun K hK => ?_)
    go_simp
    refine hK _ _ (by rw [heap_setCell_other _ _ _ _ HNB.out, heap_setCell_other _ _ _ _ HNB.out, heap_setCell_other _ _ _ _ HNB.out]; exact HA4.out) ?_
    clear hK K
    refine wpAnyH_done (by kernel_rfl) ?_ _
    have HQ5 := hide (HQ4.out.setPaid HR.out hk HSm.out)
    have HF : Hid (∃ W5, W5 = (((w4.setCell ⟨B, 16 + k * 3, none⟩ (.int .i64 (r.pd.plus q).f)).setCell ⟨B, 16 + k * 3 + 1, none⟩ (.int .i64 (r.pd.plus q).e)).setCell ⟨B, 16 + k * 3 + 2, none⟩ (.int .i64 (r.pd.plus q).x)) ∧ Nx w F T B (rs.set k (some { r with pd := r.pd.plus q, le := r.le.less q })) last W5) := hide ⟨_, rfl, F, ⟨HE4.out.keep (by simp [World.setCell]) (fun b hb => by
        have hbB : b ≠ B := fun e => HNe.out (e ▸ hb)
        rw [heap_setCell_other _ _ _ _ hbB, heap_setCell_other _ _ _ _ hbB, heap_setCell_other _ _ _ _ hbB]), HI.out, HWd.out.set (HWd.out k r HR.out), HQ5.out, HNe.out⟩, ⟨((((⟨HM4.out.os, HM4.out.tape, HM4.out.output, HM4.out.size, fun b hb hf => HM4.out.block b hb (fun e => hf (.inr e))⟩ : Mod (wi B F) w w4).setCell (p := ⟨B, 16 + k * 3, none⟩) (.inl (.inl rfl)) _).setCell (p := ⟨B, 16 + k * 3 + 1, none⟩) (.inl (.inl rfl)) _).setCell (p := ⟨B, 16 + k * 3 + 2, none⟩) (.inl (.inl rfl)) _), fun _ hb => .inl hb⟩⟩
    obtain ⟨W5, hW5, hNp⟩ := HF.out
    rw [← hW5]
    have HP := hide hNp
    clear hW5 hNp HF HQ5 HQ4 HE4 HM4 HA4 d0 d1 d2 f0 f1 f2
    go_wp2
    go_ret
    exact ⟨rfl, by rw [HSq.out]; exact HP.out⟩
  · have HSq := hide (payE_not hz)
    rw [payE_not hz] at hE
    have HP := hide (HS.out.qu HB.out ⟨hE, hM, HS.out.iv, HS.out.wd, KQ.refl _⟩)
    have hzb : (payE rs e q == 0) = false := by simp [hz]
    clear hE hM HS HB HA HC
    generalize payE rs e q = c at *
    go_wp2
    go_ret
    exact ⟨rfl, by rw [HSq.out]; exact HP.out⟩
set_option maxRecDepth 100000 in
set_option maxHeartbeats 6400000 in
theorem noted_refund (h : Ns w F T B rs last) (t e n m : Int) (q : Qt) (g : Nat → Nat) (pc : Nat) (on : Bool) : Calls Try.prog 16 #[.pointer (some ⟨B, 0, none⟩), .pointer (some ⟨T, 0, none⟩), .agg #[.int .i64 12, .int .i64 t, .int .i64 e, .int .i64 n, .int .i64 m, .int .i64 q.f, .int .i64 q.e, .int .i64 q.x, .int .u32 (g 0 : Nat), .int .u32 (g 1 : Nat), .int .u32 (g 2 : Nat), .int .u32 (g 3 : Nat), .int .u32 (g 4 : Nat), .int .u32 (g 5 : Nat), .int .u32 (g 6 : Nat), .int .u32 (g 7 : Nat), .int .u32 (pc : Nat), .bool on]] w fun x w' => x = .returned (.bool true) ∧ Nx w F T B (refS rs e q) last w' := by
  have hb := (Below.refl w.heap.size w).alloc (Nat.le_refl _) (.cells #[.int .i64 12, .int .i64 t, .int .i64 e, .int .i64 n, .int .i64 m, .int .i64 q.f, .int .i64 q.e, .int .i64 q.x, .int .u32 (g 0 : Nat), .int .u32 (g 1 : Nat), .int .u32 (g 2 : Nat), .int .u32 (g 3 : Nat), .int .u32 (g 4 : Nat), .int .u32 (g 5 : Nat), .int .u32 (g 6 : Nat), .int .u32 (g 7 : Nat), .int .u32 (pc : Nat), .bool on] 47)
  have a1 := heap_alloc_new w (.cells #[.int .i64 12, .int .i64 t, .int .i64 e, .int .i64 n, .int .i64 m, .int .i64 q.f, .int .i64 q.e, .int .i64 q.x, .int .u32 (g 0 : Nat), .int .u32 (g 1 : Nat), .int .u32 (g 2 : Nat), .int .u32 (g 3 : Nat), .int .u32 (g 4 : Nat), .int .u32 (g 5 : Nat), .int .u32 (g 6 : Nat), .int .u32 (g 7 : Nat), .int .u32 (pc : Nat), .bool on] 47)
  have HS := hide (h.below hb)
  have HB := hide hb
  have HA := hide a1
  have HNB : Hid (w.heap.size ≠ B) := hide (fun e => by have := h.bq.lt; omega)
  have HNF : Hid (¬ F w.heap.size) := hide (fun e => by have := h.et.lt _ e; omega)
  have HC := hide (refund_any HS.out.et e q (HS.out.oks e))
  unfold Qt.val at HC
  clear h hb a1
  go_enter Try.func16, Try.ntmps16
  go_wp2_with fail
  refine HC.out.mono ?_
  rintro x w1 ⟨rfl, hE, hM⟩
  by_cases hz : refE rs e q = 0
  · obtain ⟨k, r, rfl, hr, hg, hS⟩ := refE_zero hz
    have hk := lv_lt HS.out.iv.tr ⟨r, hr⟩
    have hkz : (k : Int) < 16 := by omega
    have HSq := hide hS
    rw [hS] at hE
    have hIv := HS.out.iv.refund (k : Int) q
    rw [hS] at hIv
    have HI := hide hIv
    have HE := hide hE
    have HQ := hide (HS.out.bq.keep (hM.block B HS.out.bq.lt HS.out.ne))
    have HA1 : Hid (w1.heap[w.heap.size]? = some (.cells #[.int .i64 12, .int .i64 t, .int .i64 (k : Int), .int .i64 n, .int .i64 m, .int .i64 q.f, .int .i64 q.e, .int .i64 q.x, .int .u32 (g 0 : Nat), .int .u32 (g 1 : Nat), .int .u32 (g 2 : Nat), .int .u32 (g 3 : Nat), .int .u32 (g 4 : Nat), .int .u32 (g 5 : Nat), .int .u32 (g 6 : Nat), .int .u32 (g 7 : Nat), .int .u32 (pc : Nat), .bool on] 47 (0, 0))) := hide ((hM.block _ (Array.getElem?_eq_some_iff.1 HA.out).1 HNF.out).trans HA.out)
    have HM : Hid (Mod F w w1) := hide ((Mod.of_below HB.out).trans hM)
    have HLv := hide (lives_any HQ.out k hk)
    rw [lvb_yes hr] at HLv
    have HR := hide hr
    have HWd := hide HS.out.wd
    have HNe := hide HS.out.ne
    have HSm : Hid (Same rs (rs.set k (some { r with pd := r.pd.less q, le := r.le.plus q }))) := hide (Same.set hr rfl rfl rfl)
    have HAdd := hide (fun W => addNeg_any W r.pd q (HS.out.iv.oks hr).2.1 (good_ok hg))
    unfold Qt.val at HAdd
    have c2 : w1.cell? ⟨w.heap.size, 2, none⟩ = some (.int .i64 (k : Int)) := by rw [cell_of_row _ _ _ _ _ _ HA1.out]; rfl
    rw [hz]
    clear hE hM hS hIv HS HB HA hg hr hz
    generalize w.heap.size = N at *
    go_wp2_with fail
    refine HLv.out.mono ?_
    rintro x w2 ⟨rfl, rfl⟩
    go_upto_region 33 with fail
    obtain ⟨w3, hw3⟩ : ∃ w3, w3 = w2.drew := ⟨_, rfl⟩
    have hb3 : Below w2.heap.size w2 w3 := by rw [hw3]; exact ⟨rfl, rfl, rfl, Nat.le_refl _, fun _ _ => rfl⟩
    have HA3 : Hid (w3.heap[N]? = some (.cells #[.int .i64 12, .int .i64 t, .int .i64 (k : Int), .int .i64 n, .int .i64 m, .int .i64 q.f, .int .i64 q.e, .int .i64 q.x, .int .u32 (g 0 : Nat), .int .u32 (g 1 : Nat), .int .u32 (g 2 : Nat), .int .u32 (g 3 : Nat), .int .u32 (g 4 : Nat), .int .u32 (g 5 : Nat), .int .u32 (g 6 : Nat), .int .u32 (g 7 : Nat), .int .u32 (pc : Nat), .bool on] 47 (0, 0))) := hide ((hb3.block N (Array.getElem?_eq_some_iff.1 HA1.out).1).trans HA1.out)
    have HE3 := hide (HE.out.below hb3)
    have HQ3 := hide (HQ.out.keep (hb3.block B HQ.out.lt))
    have HM3 : Hid (Mod F w w3) := hide (HM.out.trans (Mod.of_below hb3))
    clear HA1 HE HQ HM hb3 c2 HLv
    refine wp_region_held_drew (S := fun W => W.heap[N]? = some (.cells #[.int .i64 12, .int .i64 t, .int .i64 (k : Int), .int .i64 n, .int .i64 m, .int .i64 q.f, .int .i64 q.e, .int .i64 q.x, .int .u32 (g 0 : Nat), .int .u32 (g 1 : Nat), .int .u32 (g 2 : Nat), .int .u32 (g 3 : Nat), .int .u32 (g 4 : Nat), .int .u32 (g 5 : Nat), .int .u32 (g 6 : Nat), .int .u32 (g 7 : Nat), .int .u32 (pc : Nat), .bool on] 47 (0, 0))) (by kernel_rfl) (by rw [← hw3]; exact HA3.out) (fun _ => ?_)
    rw [← hw3]
    clear hw3
    refine hd_take 0 (o := ⟨some 171, _, _, _, _, _⟩) (.pointer (some ⟨B, 0, none⟩)) (by kernel_rfl) (by kernel_rfl) (by kernel_rfl) rfl (by rfl) (fun W hSw => by go_simp) (fun _ _ _ h => h) HA3.out ?_
    try simp only [Act.put, List.setIfInBounds_toArray, List.set_cons_zero, List.set_cons_succ]
    refine hd_take 1 (o := ⟨some 172, _, _, _, _, _⟩) (.pointer (some ⟨N, 2, none⟩)) (by kernel_rfl) (by kernel_rfl) (by kernel_rfl) rfl (by rfl) (fun W hSw => by go_simp) (fun _ _ _ h => h) HA3.out ?_
    try simp only [Act.put, List.setIfInBounds_toArray, List.set_cons_zero, List.set_cons_succ]
    refine hd_take 2 (o := ⟨some 173, _, _, _, _, _⟩) (.int .i64 (k : Int)) (by kernel_rfl) (by kernel_rfl) (by kernel_rfl) rfl (by rfl) (fun W hSw => by have q2 : W.cell? ⟨N, 2, none⟩ = some (.int .i64 (k : Int)) := by { rw [cell_of_row _ _ _ _ _ _ hSw]; rfl }; go_simp) (fun _ _ _ h => h) HA3.out ?_
    try simp only [Act.put, List.setIfInBounds_toArray, List.set_cons_zero, List.set_cons_succ]
    refine hd_take 3 (o := ⟨some 174, _, _, _, _, _⟩) (.pointer (some ⟨B, 0, none⟩)) (by kernel_rfl) (by kernel_rfl) (by kernel_rfl) rfl (by rfl) (fun W hSw => by go_simp) (fun _ _ _ h => h) HA3.out ?_
    try simp only [Act.put, List.setIfInBounds_toArray, List.set_cons_zero, List.set_cons_succ]
    refine hd_take 4 (o := ⟨some 175, _, _, _, _, _⟩) (.pointer (some ⟨N, 2, none⟩)) (by kernel_rfl) (by kernel_rfl) (by kernel_rfl) rfl (by rfl) (fun W hSw => by go_simp) (fun _ _ _ h => h) HA3.out ?_
    try simp only [Act.put, List.setIfInBounds_toArray, List.set_cons_zero, List.set_cons_succ]
    refine hd_take 5 (o := ⟨some 176, _, _, _, _, _⟩) (.int .i64 (k : Int)) (by kernel_rfl) (by kernel_rfl) (by kernel_rfl) rfl (by rfl) (fun W hSw => by have q2 : W.cell? ⟨N, 2, none⟩ = some (.int .i64 (k : Int)) := by { rw [cell_of_row _ _ _ _ _ _ hSw]; rfl }; go_simp) (fun _ _ _ h => h) HA3.out ?_
    try simp only [Act.put, List.setIfInBounds_toArray, List.set_cons_zero, List.set_cons_succ]
    refine hd_take 6 (o := ⟨some 177, _, _, _, _, _⟩) (.pointer (some ⟨B, 0, none⟩)) (by kernel_rfl) (by kernel_rfl) (by kernel_rfl) rfl (by rfl) (fun W hSw => by go_simp) (fun _ _ _ h => h) HA3.out ?_
    try simp only [Act.put, List.setIfInBounds_toArray, List.set_cons_zero, List.set_cons_succ]
    refine hd_take 7 (o := ⟨some 178, _, _, _, _, _⟩) (.pointer (some ⟨B, 16, none⟩)) (by kernel_rfl) (by kernel_rfl) (by kernel_rfl) rfl (by rfl) (fun W hSw => by go_simp) (fun _ _ _ h => h) HA3.out ?_
    try simp only [Act.put, List.setIfInBounds_toArray, List.set_cons_zero, List.set_cons_succ]
    refine hd_take 8 (o := ⟨some 179, _, _, _, _, _⟩) (.pointer (some ⟨B, 16 + k * 3, none⟩)) (by kernel_rfl) (by kernel_rfl) (by kernel_rfl) rfl (by rfl) (fun W hSw => by go_simp) (fun _ _ _ h => h) HA3.out ?_
    try simp only [Act.put, List.setIfInBounds_toArray, List.set_cons_zero, List.set_cons_succ]
    refine hd_take 10 (o := ⟨some 181, _, _, _, _, _⟩) (.pointer (some ⟨N, 5, none⟩)) (by kernel_rfl) (by kernel_rfl) (by kernel_rfl) rfl (by rfl) (fun W hSw => by go_simp) (fun _ _ _ h => h) HA3.out ?_
    try simp only [Act.put, List.setIfInBounds_toArray, List.set_cons_zero, List.set_cons_succ]
    refine hd_take 11 (o := ⟨some 182, _, _, _, _, _⟩) (.agg #[.int .i64 q.f, .int .i64 q.e, .int .i64 q.x]) (by kernel_rfl) (by kernel_rfl) (by kernel_rfl) rfl (by rfl) (fun W hSw => by have q5 : W.cell? ⟨N, 5, none⟩ = some (.int .i64 q.f) := by { rw [cell_of_row _ _ _ _ _ _ hSw]; rfl }; have q6 : W.cell? ⟨N, 6, none⟩ = some (.int .i64 q.e) := by { rw [cell_of_row _ _ _ _ _ _ hSw]; rfl }; have q7 : W.cell? ⟨N, 7, none⟩ = some (.int .i64 q.x) := by { rw [cell_of_row _ _ _ _ _ _ hSw]; rfl }; go_simp) (fun _ _ _ h => h) HA3.out ?_
    try simp only [Act.put, List.setIfInBounds_toArray, List.set_cons_zero, List.set_cons_succ]
    refine hd_take 13 (o := ⟨some 184, _, _, _, _, _⟩) (.pointer (some ⟨B, 0, none⟩)) (by kernel_rfl) (by kernel_rfl) (by kernel_rfl) rfl (by rfl) (fun W hSw => by go_simp) (fun _ _ _ h => h) HA3.out ?_
    try simp only [Act.put, List.setIfInBounds_toArray, List.set_cons_zero, List.set_cons_succ]
    refine hd_take 14 (o := ⟨some 185, _, _, _, _, _⟩) (.pointer (some ⟨B, 16, none⟩)) (by kernel_rfl) (by kernel_rfl) (by kernel_rfl) rfl (by rfl) (fun W hSw => by go_simp) (fun _ _ _ h => h) HA3.out ?_
    try simp only [Act.put, List.setIfInBounds_toArray, List.set_cons_zero, List.set_cons_succ]
    obtain ⟨d0, d1, d2⟩ := HQ3.out.paidc HR.out hk
    refine hd_call 9 (o := ⟨some 180, _, _, _, _, _⟩) (by kernel_rfl) rfl (by rfl) (fun K hK => ?_)
    go_simp
    refine hK _ _ HA3.out ?_
    clear hK K d0 d1 d2
    try simp only [Act.put, List.setIfInBounds_toArray, List.set_cons_zero, List.set_cons_succ]
    refine hd_call 12 (o := ⟨some 183, _, _, _, _, _⟩) (by kernel_rfl) rfl (by rfl) (fun K hK => ?_)
    go_simp
    go_wp2_with (go_at_call 22; refine (HAdd.out _).mono ?_; rintro e1 w4 ⟨rfl, hb4⟩)
    have HA4 : Hid (w4.heap[N]? = some (.cells #[.int .i64 12, .int .i64 t, .int .i64 (k : Int), .int .i64 n, .int .i64 m, .int .i64 q.f, .int .i64 q.e, .int .i64 q.x, .int .u32 (g 0 : Nat), .int .u32 (g 1 : Nat), .int .u32 (g 2 : Nat), .int .u32 (g 3 : Nat), .int .u32 (g 4 : Nat), .int .u32 (g 5 : Nat), .int .u32 (g 6 : Nat), .int .u32 (g 7 : Nat), .int .u32 (pc : Nat), .bool on] 47 (0, 0))) := hide ((hb4.block N (Array.getElem?_eq_some_iff.1 HA3.out).1).trans HA3.out)
    have HE4 := hide (HE3.out.below hb4)
    have HQ4 := hide (HQ3.out.keep (hb4.block B HQ3.out.lt))
    have HM4 : Hid (Mod F w w4) := hide (HM3.out.trans (Mod.of_below hb4))
    clear hb4 HA3 HE3 HQ3 HM3
    refine hK _ _ HA4.out ?_
    clear hK K
    try simp only [Act.put, List.setIfInBounds_toArray, List.set_cons_zero, List.set_cons_succ]
    refine hd_take 15 (o := ⟨some 186, _, _, _, _, _⟩) (.pointer (some ⟨B, 16 + k * 3, none⟩)) (by kernel_rfl) (by kernel_rfl) (by kernel_rfl) rfl (by rfl) (fun W hSw => by go_simp) (fun _ _ _ h => h) HA4.out ?_
    try simp only [Act.put, List.setIfInBounds_toArray, List.set_cons_zero, List.set_cons_succ]
    obtain ⟨d0, d1, d2⟩ := HQ4.out.paidc HR.out hk
    have f0 := HQ4.out.frz (16 + k * 3)
    have f1 := HQ4.out.frz (16 + k * 3 + 1)
    have f2 := HQ4.out.frz (16 + k * 3 + 2)
    refine hd_call 16 (o := ⟨none, _, _, _, _, _⟩) (by kernel_rfl) rfl (by rfl) (fun K hK => ?_)
    go_simp
    refine hK _ _ (by rw [heap_setCell_other _ _ _ _ HNB.out, heap_setCell_other _ _ _ _ HNB.out, heap_setCell_other _ _ _ _ HNB.out]; exact HA4.out) ?_
    clear hK K
    refine wpAnyH_done (by kernel_rfl) ?_ _
    have HQ5 := hide (HQ4.out.setPaid HR.out hk HSm.out)
    have HF : Hid (∃ W5, W5 = (((w4.setCell ⟨B, 16 + k * 3, none⟩ (.int .i64 (r.pd.less q).f)).setCell ⟨B, 16 + k * 3 + 1, none⟩ (.int .i64 (r.pd.less q).e)).setCell ⟨B, 16 + k * 3 + 2, none⟩ (.int .i64 (r.pd.less q).x)) ∧ Nx w F T B (rs.set k (some { r with pd := r.pd.less q, le := r.le.plus q })) last W5) := hide ⟨_, rfl, F, ⟨HE4.out.keep (by simp [World.setCell]) (fun b hb => by
        have hbB : b ≠ B := fun e => HNe.out (e ▸ hb)
        rw [heap_setCell_other _ _ _ _ hbB, heap_setCell_other _ _ _ _ hbB, heap_setCell_other _ _ _ _ hbB]), HI.out, HWd.out.set (HWd.out k r HR.out), HQ5.out, HNe.out⟩, ⟨((((⟨HM4.out.os, HM4.out.tape, HM4.out.output, HM4.out.size, fun b hb hf => HM4.out.block b hb (fun e => hf (.inr e))⟩ : Mod (wi B F) w w4).setCell (p := ⟨B, 16 + k * 3, none⟩) (.inl (.inl rfl)) _).setCell (p := ⟨B, 16 + k * 3 + 1, none⟩) (.inl (.inl rfl)) _).setCell (p := ⟨B, 16 + k * 3 + 2, none⟩) (.inl (.inl rfl)) _), fun _ hb => .inl hb⟩⟩
    obtain ⟨W5, hW5, hNp⟩ := HF.out
    rw [← hW5]
    have HP := hide hNp
    clear hW5 hNp HF HQ5 HQ4 HE4 HM4 HA4 d0 d1 d2 f0 f1 f2
    go_wp2
    go_ret
    exact ⟨rfl, by rw [HSq.out]; exact HP.out⟩
  · have HSq := hide (refE_not hz)
    rw [refE_not hz] at hE
    have HP := hide (HS.out.qu HB.out ⟨hE, hM, HS.out.iv, HS.out.wd, KQ.refl _⟩)
    have hzb : (refE rs e q == 0) = false := by simp [hz]
    clear hE hM HS HB HA HC
    generalize refE rs e q = c at *
    go_wp2
    go_ret
    exact ⟨rfl, by rw [HSq.out]; exact HP.out⟩
end
end Go.Proofs.Ytoddadohmnaolaa

namespace Go.Proofs.Ytoddadohmnaolaa
open Go.RowKit Go.Shelf

section
variable {w w' w1 : World} {F : Nat → Prop} {T B : Nat} {rs : List (Option Er)} {last : Int}
theorem crE_zero {e s : Int} {q : Qt} (h : crE rs last e s q = 0) : ∃ (k : Nat) (r : Er), e = (k : Int) ∧ rs[k]? = some (some r) ∧ last < s ∧ ff rs < 16 ∧ crN rs last e s q = ((ff rs : Nat) : Int) ∧ crL rs last e s q = s ∧ crS rs last e s q = (rs.set (ff rs) (some (Er.new s e q))).set k (some { r with le := r.le.less (q.plus Qt.one) }) := by
  have h0 := h
  unfold crE at h
  cases hl : look rs e with
  | none => rw [hl] at h; cases h
  | some r =>
    obtain ⟨k, rfl, hr⟩ := look_some hl
    rw [hl] at h
    simp only [] at h
    by_cases h1 : q.good ∧ last < s ∧ s ≤ 4611686018427387903
    · rw [if_pos h1] at h
      by_cases h2 : (q.plus Qt.one).le r.le ∧ ff rs < 16
      · refine ⟨k, r, rfl, hr, h1.2.1, h2.2, ?_, ?_, ?_⟩
        · unfold crN; rw [if_pos h0]
        · unfold crL; rw [if_pos h0]
        · unfold crS; rw [hl]; simp only []; rw [if_pos h0]; rfl
      · rw [if_neg h2] at h; cases h
    · rw [if_neg h1] at h; cases h
theorem crE_not {e s : Int} {q : Qt} (h : crE rs last e s q ≠ 0) : crN rs last e s q = -1 ∧ crL rs last e s q = last ∧ crS rs last e s q = rs := by
  refine ⟨by unfold crN; rw [if_neg h], by unfold crL; rw [if_neg h], ?_⟩
  unfold crS
  cases hl : look rs e with
  | none => rfl
  | some r => simp only []; rw [if_neg h]
theorem Wd.crS (h : Wd rs) (e s : Int) (q : Qt) : Wd (crS rs last e s q) := by
  by_cases hz : crE rs last e s q = 0
  · obtain ⟨k, r, rfl, hr, _, _, _, _, hS⟩ := crE_zero hz
    rw [hS]
    exact (h.set (show (0 : Int) ≤ 0 ∧ (0 : Int) ≤ 4294967295 from ⟨by decide, by decide⟩)).set (h k r hr)
  · rw [(crE_not hz).2.2]; exact h
theorem Ns.ext (h : Ns w1 F T B rs last) (hb : Below w.heap.size w w1) {rs' : List (Option Er)} {last' : Int} {F' : Nat → Prop} (h1 : Et w' F' T rs' last') (h2 : Ext F w1 F' w') (h3 : Iv rs' last') (h4 : Wd rs') (h5 : Bq w' B rs' last') : Nx w F T B rs' last' w' := by
  refine ⟨F', ⟨h1, h3, h4, h5, fun e => ?_⟩, ⟨⟨h2.mod.os.trans hb.os, h2.mod.tape.trans hb.tape, h2.mod.output.trans hb.output, Nat.le_trans hb.size h2.mod.size, fun b hb' hf => ?_⟩, fun b hb' => ?_⟩⟩
  · rcases h2.new B e with h9 | h9
    · exact h.ne h9
    · have := h.bq.lt; omega
  · rw [h2.mod.block b (Nat.lt_of_lt_of_le hb' hb.size) (fun e => hf (.inr e)), hb.block b hb']
  · rcases hb' with e | e
    · exact .inl (.inl e)
    · rcases h2.new b e with h9 | h9
      · exact .inl (.inr h9)
      · exact .inr (Nat.le_trans hb.size h9)
/-- the same world but for the book -/
theorem Nx.book {rs' : List (Option Er)} {last' : Int} {F' : Nat → Prop} (h1 : Et w1 F' T rs' last') (h0 : Ext (wi B F) w (wi B F') w1) (hn : ¬ F' B) (h3 : Iv rs' last') (h4 : Wd rs') (ha : At w1 B w') (h5 : Bq w' B rs' last') : Nx w F T B rs' last' w' := by
  refine ⟨F', ⟨h1.keep ha.size (fun b hb => ha.block b (h1.lt b hb) (fun e => hn (e ▸ hb))), h3, h4, h5, hn⟩, h0.trans ⟨ha.mod (.inl rfl), fun _ e => .inl e⟩⟩
theorem lvb_no {i : Nat} (h : rs[i]? = some none) : lvb rs i = false := by
  unfold lvb core; rw [look_nat, h]; rfl
theorem Bq.make (h : Bq w B rs last) {i k : Nat} {r : Er} {s : Int} {q : Qt} (hi : rs[i]? = some none) (hi16 : i < 16) (hr : rs[k]? = some (some r)) (le' : Qt) :
    Bq (((((w.setCell ⟨B, i, none⟩ (.bool true)).setCell ⟨B, 16 + i * 3, none⟩ (.int .i64 0)).setCell ⟨B, 16 + i * 3 + 1, none⟩ (.int .i64 0)).setCell ⟨B, 16 + i * 3 + 2, none⟩ (.int .i64 0)).setCell ⟨B, 64, none⟩ (.int .i64 s)) B ((rs.set i (some (Er.new s k q))).set k (some { r with le := le' })) s := by
  obtain ⟨cs, h1, h2⟩ := h.out
  have hl := h2.len
  have hil := (List.getElem?_eq_some_iff.1 hi).1
  have hki : k ≠ i := fun e => by rw [e, hi] at hr; cases hr
  have hr1 : (rs.set i (some (Er.new s k q)))[k]? = some (some r) := by rw [List.getElem?_set_ne (fun e => hki e.symm)]; exact hr
  have hS : Same (rs.set i (some (Er.new s k q))) ((rs.set i (some (Er.new s k q))).set k (some { r with le := le' })) := Same.set hr1 rfl rfl rfl
  have hc : ∀ j, core ((rs.set i (some (Er.new s k q))).set k (some { r with le := le' })) j = if j = i then some (s, (k : Int), q) else core rs j := fun j => by
    rw [hS.2 j, core_set hil]; rfl
  refine ⟨((((cs.set i (.bool true)).set (16 + i * 3) (.int .i64 0)).set (16 + i * 3 + 1) (.int .i64 0)).set (16 + i * 3 + 2) (.int .i64 0)).set 64 (.int .i64 s), ?_, ⟨by simpa using hl, fun j hj => ?_, fun j hj => ?_, ?_⟩⟩
  · have e0 := heap_setCell_same _ B i _ _ (.bool true) h1
    have e1 := heap_setCell_same _ B (16 + i * 3) _ _ (.int .i64 0) e0
    have e2 := heap_setCell_same _ B (16 + i * 3 + 1) _ _ (.int .i64 0) e1
    have e3 := heap_setCell_same _ B (16 + i * 3 + 2) _ _ (.int .i64 0) e2
    rw [heap_setCell_same _ B 64 _ _ (.int .i64 s) e3]
    simp
  · rw [List.getElem?_set_ne (by omega), List.getElem?_set_ne (by omega), List.getElem?_set_ne (by omega), List.getElem?_set_ne (by omega)]
    unfold lvb
    rw [hc j]
    by_cases e : j = i
    · subst e; rw [List.getElem?_set_self (by omega), if_pos rfl]; rfl
    · rw [List.getElem?_set_ne (fun e' => e e'.symm), if_neg e]; exact h2.live j hj
  · by_cases e : j = i
    · subst e
      refine ⟨Qt.zero, ?_, ?_, ?_, fun r9 h9 => ?_⟩
      · rw [List.getElem?_set_ne (by omega), List.getElem?_set_ne (by omega), List.getElem?_set_ne (by omega), List.getElem?_set_self (by simp; omega)]; rfl
      · rw [List.getElem?_set_ne (by omega), List.getElem?_set_ne (by omega), List.getElem?_set_self (by simp; omega)]; rfl
      · rw [List.getElem?_set_ne (by omega), List.getElem?_set_self (by simp; omega)]; rfl
      · rw [List.getElem?_set_ne hki, List.getElem?_set_self hil] at h9; cases h9; rfl
    · obtain ⟨p, p1, p2, p3, p4⟩ := h2.paid j hj
      refine ⟨p, ?_, ?_, ?_, fun r9 h9 => ?_⟩
      · rw [List.getElem?_set_ne (by omega), List.getElem?_set_ne (by omega), List.getElem?_set_ne (by omega), List.getElem?_set_ne (by omega), List.getElem?_set_ne (by omega)]; exact p1
      · rw [List.getElem?_set_ne (by omega), List.getElem?_set_ne (by omega), List.getElem?_set_ne (by omega), List.getElem?_set_ne (by omega), List.getElem?_set_ne (by omega)]; exact p2
      · rw [List.getElem?_set_ne (by omega), List.getElem?_set_ne (by omega), List.getElem?_set_ne (by omega), List.getElem?_set_ne (by omega), List.getElem?_set_ne (by omega)]; exact p3
      · by_cases e2 : j = k
        · subst e2
          rw [List.getElem?_set_self (List.getElem?_eq_some_iff.1 hr1).1] at h9
          cases h9
          exact p4 r hr
        · rw [List.getElem?_set_ne (fun e' => e2 e'.symm), List.getElem?_set_ne (fun e' => e e'.symm)] at h9
          exact p4 r9 h9
  · rw [List.getElem?_set_self (by simp; omega)]
set_option maxRecDepth 100000 in
set_option maxHeartbeats 6400000 in
theorem noted_create (h : Ns w F T B rs last) (t e n m : Int) (q : Qt) (g : Nat → Nat) (pc : Nat) (on : Bool) : Calls Try.prog 16 #[.pointer (some ⟨B, 0, none⟩), .pointer (some ⟨T, 0, none⟩), .agg #[.int .i64 2, .int .i64 t, .int .i64 e, .int .i64 n, .int .i64 m, .int .i64 q.f, .int .i64 q.e, .int .i64 q.x, .int .u32 (g 0 : Nat), .int .u32 (g 1 : Nat), .int .u32 (g 2 : Nat), .int .u32 (g 3 : Nat), .int .u32 (g 4 : Nat), .int .u32 (g 5 : Nat), .int .u32 (g 6 : Nat), .int .u32 (g 7 : Nat), .int .u32 (pc : Nat), .bool on]] w fun x w' => x = .returned (.bool true) ∧ Nx w F T B (crS rs last e n q) (crL rs last e n q) w' := by
  have hb := (Below.refl w.heap.size w).alloc (Nat.le_refl _) (.cells #[.int .i64 2, .int .i64 t, .int .i64 e, .int .i64 n, .int .i64 m, .int .i64 q.f, .int .i64 q.e, .int .i64 q.x, .int .u32 (g 0 : Nat), .int .u32 (g 1 : Nat), .int .u32 (g 2 : Nat), .int .u32 (g 3 : Nat), .int .u32 (g 4 : Nat), .int .u32 (g 5 : Nat), .int .u32 (g 6 : Nat), .int .u32 (g 7 : Nat), .int .u32 (pc : Nat), .bool on] 47)
  have a1 := heap_alloc_new w (.cells #[.int .i64 2, .int .i64 t, .int .i64 e, .int .i64 n, .int .i64 m, .int .i64 q.f, .int .i64 q.e, .int .i64 q.x, .int .u32 (g 0 : Nat), .int .u32 (g 1 : Nat), .int .u32 (g 2 : Nat), .int .u32 (g 3 : Nat), .int .u32 (g 4 : Nat), .int .u32 (g 5 : Nat), .int .u32 (g 6 : Nat), .int .u32 (g 7 : Nat), .int .u32 (pc : Nat), .bool on] 47)
  have HS := hide (h.below hb)
  have HB := hide hb
  have HA := hide a1
  have HNF : Hid (¬ F w.heap.size) := hide (fun e => by have := h.et.lt _ e; omega)
  have HNB : Hid (w.heap.size ≠ B) := hide (fun e => by have := h.bq.lt; omega)
  have HC := hide (create_any HS.out.et HS.out.iv e n q)
  unfold Qt.val at HC
  clear h hb a1
  go_enter Try.func16, Try.ntmps16
  go_wp2_with fail
  refine HC.out.mono ?_
  rintro x w1 ⟨rfl, F', hE, hX⟩
  have HQ := hide (HS.out.bq.keep (hX.mod.block B HS.out.bq.lt HS.out.ne))
  by_cases hz : crE rs last e n q = 0
  · have hIv := HS.out.iv.crS e n q
    have hWd := HS.out.wd.crS (last := last) e n q
    obtain ⟨k, r, rfl, hr, hls, hff, hN, hL, hS⟩ := crE_zero hz
    rw [hL] at hE hIv
    rw [hS] at hE hIv hWd
    have hfn := ff_none HS.out.iv.tr hff
    obtain ⟨i, hi⟩ : ∃ i, ff rs = i := ⟨_, rfl⟩
    have hS9 := hS
    rw [hi] at hS9
    have HSq := hide (And.intro hL hS9)
    rw [hi] at hff hN hE hIv hWd hfn
    have hnB : ¬ F' B := fun e => by
      rcases hX.new B e with h9 | h9
      · exact HS.out.ne h9
      · have := HS.out.bq.lt; omega
    have HX0 : Hid (Ext (wi B F) w (wi B F') w1) := hide ⟨⟨hX.mod.os.trans HB.out.os, hX.mod.tape.trans HB.out.tape, hX.mod.output.trans HB.out.output, Nat.le_trans HB.out.size hX.mod.size, fun b hb' hf => by
      rw [hX.mod.block b (Nat.lt_of_lt_of_le hb' HB.out.size) (fun e => hf (.inr e)), HB.out.block b hb']⟩, fun b hb' => by
      rcases hb' with e | e
      · exact .inl (.inl e)
      · rcases hX.new b e with h9 | h9
        · exact .inl (.inr h9)
        · exact .inr (Nat.le_trans HB.out.size h9)⟩
    have HMk : Hid (∀ W, Bq W B rs last → Bq (((((W.setCell ⟨B, i, none⟩ (.bool true)).setCell ⟨B, 16 + i * 3, none⟩ (.int .i64 0)).setCell ⟨B, 16 + i * 3 + 1, none⟩ (.int .i64 0)).setCell ⟨B, 16 + i * 3 + 2, none⟩ (.int .i64 0)).setCell ⟨B, 64, none⟩ (.int .i64 n)) B ((rs.set i (some (Er.new n k q))).set k (some { r with le := r.le.less (q.plus Qt.one) })) n) := hide (fun W hQ => hQ.make (s := n) (q := q) hfn hff hr (r.le.less (q.plus Qt.one)))
    have HEt := hide hE
    have HQ1 := HQ
    have HIv := hide hIv
    have HWd := hide hWd
    have HnB := hide hnB
    obtain ⟨ci, fi⟩ := HQ.out.cell hff
    rw [lvb_no hfn] at ci
    obtain ⟨c64, f64⟩ := HQ.out.lastc
    obtain ⟨v0, v1, v2, p0, p1, p2⟩ : ∃ a b c, w1.cell? ⟨B, 16 + i * 3, none⟩ = some a ∧ w1.cell? ⟨B, 16 + i * 3 + 1, none⟩ = some b ∧ w1.cell? ⟨B, 16 + i * 3 + 2, none⟩ = some c := by
      obtain ⟨cs, q1, q2⟩ := HQ.out.out
      obtain ⟨p, r1, r2, r3, _⟩ := q2.paid i hff
      refine ⟨.int .i64 p.f, .int .i64 p.e, .int .i64 p.x, ?_, ?_, ?_⟩ <;> rw [cell_of_row _ _ _ _ _ _ q1]
      · simpa using r1
      · simpa using r2
      · simpa using r3
    have g0 := HQ.out.frz (16 + i * 3)
    have g1 := HQ.out.frz (16 + i * 3 + 1)
    have g2 := HQ.out.frz (16 + i * 3 + 2)
    have a2 := (hX.mod.block _ (Array.getElem?_eq_some_iff.1 HA.out).1 HNF.out).trans HA.out
    have cN : w1.cell? ⟨w.heap.size, 3, none⟩ = some (.int .i64 n) := by rw [cell_of_row _ _ _ _ _ _ a2]; rfl
    have hi16 : (i : Int) < 16 := by omega
    have hnl : ¬ n ≤ last := by omega
    rw [hz, hN]
    clear hS9 hE hX hIv hWd hz hls hff hN hL hS hfn hi hnB hr HS HB HA HC HQ a2
    go_upto_region 6 with fail
    go_quiet (fail)
    have bN : Below w1.heap.size w1 (w1.drewN nq) := ⟨rfl, rfl, rfl, Nat.le_refl _, fun _ _ => rfl⟩
    have HE2 := hide (HEt.out.below bN)
    have HX2 : Hid (Ext (wi B F) w (wi B F') (w1.drewN nq)) := hide (HX0.out.trans ⟨Mod.of_below bN, fun _ h => .inl h⟩)
    have HQ2 := hide (HQ1.out.keep (bN.block B HQ1.out.lt))
    have cN2 : (w1.drewN nq).cell? ⟨w.heap.size, 3, none⟩ = some (.int .i64 n) := cN
    have ci2 : (w1.drewN nq).cell? ⟨B, i, none⟩ = some (.bool false) := ci
    have c642 : (w1.drewN nq).cell? ⟨B, 64, none⟩ = some (.int .i64 last) := c64
    have p02 : (w1.drewN nq).cell? ⟨B, 16 + i * 3, none⟩ = some v0 := p0
    have p12 : (w1.drewN nq).cell? ⟨B, 16 + i * 3 + 1, none⟩ = some v1 := p1
    have p22 : (w1.drewN nq).cell? ⟨B, 16 + i * 3 + 2, none⟩ = some v2 := p2
    have hfz := HQ2.out.frz
    clear HEt HX0 HQ1 ci fi c64 f64 p0 p1 p2 g0 g1 g2 cN bN
    generalize w1.drewN nq = w2 at *
    have cN3 : ((((w2.setCell ⟨B, i, none⟩ (.bool true)).setCell ⟨B, 16 + i * 3, none⟩ (.int .i64 0)).setCell ⟨B, 16 + i * 3 + 1, none⟩ (.int .i64 0)).setCell ⟨B, 16 + i * 3 + 2, none⟩ (.int .i64 0)).cell? ⟨w.heap.size, 3, none⟩ = some (.int .i64 n) := by
      rw [World.cell?_of_block (heap_setCell_other _ _ _ _ HNB.out), World.cell?_of_block (heap_setCell_other _ _ _ _ HNB.out), World.cell?_of_block (heap_setCell_other _ _ _ _ HNB.out), World.cell?_of_block (heap_setCell_other _ _ _ _ HNB.out)]
      exact cN2
    obtain ⟨c3, f3⟩ : ((((w2.setCell ⟨B, i, none⟩ (.bool true)).setCell ⟨B, 16 + i * 3, none⟩ (.int .i64 0)).setCell ⟨B, 16 + i * 3 + 1, none⟩ (.int .i64 0)).setCell ⟨B, 16 + i * 3 + 2, none⟩ (.int .i64 0)).cell? ⟨B, 64, none⟩ = some (.int .i64 last) ∧ ((((w2.setCell ⟨B, i, none⟩ (.bool true)).setCell ⟨B, 16 + i * 3, none⟩ (.int .i64 0)).setCell ⟨B, 16 + i * 3 + 1, none⟩ (.int .i64 0)).setCell ⟨B, 16 + i * 3 + 2, none⟩ (.int .i64 0)).frozen? ⟨B, 64, none⟩ = false := by
      obtain ⟨cs, h1, h2⟩ := HQ2.out.out
      have e0 := heap_setCell_same _ B i _ _ (.bool true) h1
      have e1 := heap_setCell_same _ B (16 + i * 3) _ _ (.int .i64 0) e0
      have e2 := heap_setCell_same _ B (16 + i * 3 + 1) _ _ (.int .i64 0) e1
      have e3 := heap_setCell_same _ B (16 + i * 3 + 2) _ _ (.int .i64 0) e2
      refine ⟨?_, frozen_of_row _ _ _ _ _ e3⟩
      rw [cell_of_row _ _ _ _ _ _ e3, Array.getElem?_setIfInBounds_ne (by omega), Array.getElem?_setIfInBounds_ne (by omega), Array.getElem?_setIfInBounds_ne (by omega), Array.getElem?_setIfInBounds_ne (by omega)]
      simpa using h2.lst
    have HAt : Hid (At w2 B (((((w2.setCell ⟨B, i, none⟩ (.bool true)).setCell ⟨B, 16 + i * 3, none⟩ (.int .i64 0)).setCell ⟨B, 16 + i * 3 + 1, none⟩ (.int .i64 0)).setCell ⟨B, 16 + i * 3 + 2, none⟩ (.int .i64 0)).setCell ⟨B, 64, none⟩ (.int .i64 n))) := hide ((((((At.refl w2 B).set i _).set (16 + i * 3) _).set (16 + i * 3 + 1) _).set (16 + i * 3 + 2) _).set 64 _)
    have HP := hide (Nx.book HE2.out HX2.out HnB.out HIv.out HWd.out HAt.out (HMk.out w2 HQ2.out))
    clear HE2 HX2 HQ2 HIv HWd HMk HAt
    go_upto_region 10 with fail
    clear ci2 c642 p02 p12 p22 cN2 hfz
    generalize ((((w2.setCell ⟨B, i, none⟩ (.bool true)).setCell ⟨B, 16 + i * 3, none⟩ (.int .i64 0)).setCell ⟨B, 16 + i * 3 + 1, none⟩ (.int .i64 0)).setCell ⟨B, 16 + i * 3 + 2, none⟩ (.int .i64 0)) = w3 at *
    go_wp2
    go_ret
    exact ⟨rfl, by rw [HSq.out.1, HSq.out.2]; exact HP.out⟩
  · obtain ⟨hN, hL, hS⟩ := crE_not hz
    have HSq := hide (And.intro hL hS)
    rw [hL, hS] at hE
    have HP := hide (HS.out.ext HB.out hE hX HS.out.iv HS.out.wd HQ.out)
    have hzb : (crE rs last e n q == 0) = false := by simp [hz]
    have hzd : decide (crE rs last e n q = 0) = false := by simp [hz]
    rw [hN]
    clear hE hX HS HB HA HC HQ hN hL hS
    generalize crE rs last e n q = c at *
    go_wp2
    go_ret
    exact ⟨by simp, by rw [HSq.out.1, HSq.out.2]; exact HP.out⟩
end
end Go.Proofs.Ytoddadohmnaolaa

namespace Go.Proofs.Ytoddadohmnaolaa
open Go.RowKit Go.Shelf

section
variable {w w' w1 : World} {F : Nat → Prop} {T B : Nat} {rs : List (Option Er)} {last : Int}
set_option maxRecDepth 100000 in
set_option maxHeartbeats 3200000 in
theorem noted_regs (h : Ns w F T B rs last) (t e n m : Int) (q : Qt) (g : Nat → Nat) (pc : Nat) (on : Bool) : Calls Try.prog 16 #[.pointer (some ⟨B, 0, none⟩), .pointer (some ⟨T, 0, none⟩), .agg #[.int .i64 5, .int .i64 t, .int .i64 e, .int .i64 n, .int .i64 m, .int .i64 q.f, .int .i64 q.e, .int .i64 q.x, .int .u32 (g 0 : Nat), .int .u32 (g 1 : Nat), .int .u32 (g 2 : Nat), .int .u32 (g 3 : Nat), .int .u32 (g 4 : Nat), .int .u32 (g 5 : Nat), .int .u32 (g 6 : Nat), .int .u32 (g 7 : Nat), .int .u32 (pc : Nat), .bool on]] w fun x w' => x = .returned (.bool true) ∧ Nx w F T B (rgS rs e g pc) last w' := by
  have hb := (Below.refl w.heap.size w).alloc (Nat.le_refl _) (.cells #[.int .i64 5, .int .i64 t, .int .i64 e, .int .i64 n, .int .i64 m, .int .i64 q.f, .int .i64 q.e, .int .i64 q.x, .int .u32 (g 0 : Nat), .int .u32 (g 1 : Nat), .int .u32 (g 2 : Nat), .int .u32 (g 3 : Nat), .int .u32 (g 4 : Nat), .int .u32 (g 5 : Nat), .int .u32 (g 6 : Nat), .int .u32 (g 7 : Nat), .int .u32 (pc : Nat), .bool on] 47)
  have HS := hide (h.below hb)
  have HB := hide hb
  clear h hb
  go_enter Try.func16, Try.ntmps16
  go_wp2_with fail
  refine (setRegs_q HS.out.et HS.out.iv HS.out.wd e g pc).mono ?_
  rintro x w1 ⟨⟨c, rfl⟩, hq⟩
  have HP := hide (HS.out.qu HB.out hq)
  clear hq HS HB
  go_wp2
  go_ret
  exact ⟨rfl, HP.out⟩
theorem dsE_zero {e : Int} (h : dsE rs e = 0) : ∃ (k : Nat) (r : Er), e = (k : Int) ∧ rs[k]? = some (some r) ∧ k ≠ 0 ∧ dsL rs e = wk rs 17 k ∧ dsS rs e = drops (dsP rs r) (wk rs 17 k) := by
  have h0 := h
  unfold dsE at h
  cases hl : look rs e with
  | none => rw [hl] at h; cases h
  | some r =>
    obtain ⟨k, rfl, hr⟩ := look_some hl
    rw [hl] at h
    simp only [] at h
    by_cases hk : (k : Int) = 0
    · rw [if_pos hk] at h; cases h
    · refine ⟨k, r, rfl, hr, by omega, ?_, ?_⟩
      · unfold dsL; rw [if_pos h0]; rfl
      · unfold dsS; rw [hl]; simp only []; rw [if_neg hk]; rfl
theorem dsE_not {e : Int} (h : dsE rs e ≠ 0) : dsL rs e = [] ∧ dsS rs e = rs := by
  refine ⟨by unfold dsL; rw [if_neg h], ?_⟩
  unfold dsE at h
  unfold dsS
  cases hl : look rs e with
  | none => rfl
  | some r =>
    rw [hl] at h
    simp only [] at h ⊢
    by_cases hk : e = 0
    · rw [if_pos hk]
    · rw [if_neg hk] at h; exact absurd rfl h
theorem dsP_keeps (r : Er) : ∀ (i : Nat) (r' : Er), (dsP rs r)[i]? = some (some r') → ∃ r0, rs[i]? = some (some r0) ∧ r'.pd = r0.pd ∧ r'.bi = r0.bi := by
  intro i r' h
  unfold dsP at h
  cases hl : look rs r.pa with
  | none => rw [hl] at h; exact ⟨r', h, rfl, rfl⟩
  | some rp =>
    obtain ⟨p, hp, hr⟩ := look_some hl
    rw [hl] at h
    simp only [] at h
    rw [hp] at h
    by_cases e : i = p
    · subst e
      rw [show ((i : Int)).toNat = i by omega, List.getElem?_set_self (List.getElem?_eq_some_iff.1 hr).1] at h
      cases h
      exact ⟨rp, hr, rfl, rfl⟩
    · rw [show ((p : Int)).toNat = p by omega, List.getElem?_set_ne (fun e' => e e'.symm)] at h
      exact ⟨r', h, rfl, rfl⟩
theorem dsP_same (r : Er) : Same rs (dsP rs r) := by
  unfold dsP
  cases hl : look rs r.pa with
  | none => exact ⟨rfl, fun _ => rfl⟩
  | some rp =>
    obtain ⟨p, hp, hr⟩ := look_some hl
    simp only []
    rw [hp, show ((p : Int)).toNat = p by omega]
    exact Same.set hr rfl rfl rfl
theorem drops_some {l : List Nat} {i : Nat} {r : Er} (h : (drops rs l)[i]? = some (some r)) : i ∉ l ∧ rs[i]? = some (some r) := by
  have hi : i ∉ l := fun hm => by
    have hlt := (List.getElem?_eq_some_iff.1 h).1
    rw [drops_len] at hlt
    rw [drops_gone l rs i hm hlt] at h; cases h
  exact ⟨hi, by rw [drops_other l rs i hi] at h; exact h⟩
theorem Wd.dsS (h : Wd rs) (e : Int) : Wd (dsS rs e) := by
  by_cases hz : dsE rs e = 0
  · obtain ⟨k, r, rfl, hr, _, _, hS⟩ := dsE_zero hz
    rw [hS]
    intro i ri hi
    obtain ⟨_, h1⟩ := drops_some hi
    obtain ⟨r0, h2, _, h3⟩ := dsP_keeps r i ri h1
    rw [h3]; exact h i r0 h2
  · rw [(dsE_not hz).2]; exact h
/-- the book while numbers are struck out -/
structure Bm (w : World) (B : Nat) (rs : List (Option Er)) (last : Int) (l : List Nat) : Prop where
  out : ∃ cs : List Value, w.heap[B]? = some (.cells cs.toArray 58 (0, 0)) ∧ cs.length = 65 ∧ (∀ i, i < 16 → cs[i]? = some (.bool (lvb rs i && !(l.contains i)))) ∧
    (∀ i, i < 16 → ∃ p : Qt, cs[16 + i * 3]? = some (.int .i64 p.f) ∧ cs[16 + i * 3 + 1]? = some (.int .i64 p.e) ∧ cs[16 + i * 3 + 2]? = some (.int .i64 p.x) ∧ ∀ r, rs[i]? = some (some r) → p = r.pd) ∧ cs[64]? = some (.int .i64 last)
theorem Bq.bm (h : Bq w B rs last) : Bm w B rs last [] := by
  obtain ⟨cs, h1, h2⟩ := h.out
  exact ⟨cs, h1, h2.len, fun i hi => by rw [h2.live i hi]; simp, h2.paid, h2.lst⟩
theorem Bm.keep {l : List Nat} (h : Bm w B rs last l) (hk : w'.heap[B]? = w.heap[B]?) : Bm w' B rs last l := by obtain ⟨cs, h1, h2⟩ := h.out; exact ⟨cs, hk.trans h1, h2⟩
theorem Bm.cell {l : List Nat} (h : Bm w B rs last l) {i : Nat} (hi : i < 16) : w.cell? ⟨B, i, none⟩ = some (.bool (lvb rs i && !(l.contains i))) ∧ w.frozen? ⟨B, i, none⟩ = false := by
  obtain ⟨cs, h1, _, h2, _⟩ := h.out
  refine ⟨?_, frozen_of_row _ _ _ _ _ h1⟩
  rw [cell_of_row _ _ _ _ _ _ h1]
  simpa using h2 i hi
theorem Bm.step {l : List Nat} (h : Bm w B rs last l) {c : Nat} (hc : c < 16) : Bm (w.setCell ⟨B, c, none⟩ (.bool false)) B rs last (l ++ [c]) := by
  obtain ⟨cs, h1, h2, h3, h4, h5⟩ := h.out
  refine ⟨cs.set c (.bool false), ?_, by simpa using h2, fun i hi => ?_, fun i hi => ?_, ?_⟩
  · rw [heap_setCell_same _ B c _ _ (.bool false) h1]; simp
  · by_cases e : i = c
    · subst e; rw [List.getElem?_set_self (by omega)]; simp
    · rw [List.getElem?_set_ne (fun e' => e e'.symm), h3 i hi]
      congr 2
      simp [e]
  · obtain ⟨p, p1, p2, p3, p4⟩ := h4 i hi
    exact ⟨p, by rw [List.getElem?_set_ne (by omega)]; exact p1, by rw [List.getElem?_set_ne (by omega)]; exact p2, by rw [List.getElem?_set_ne (by omega)]; exact p3, p4⟩
  · rw [List.getElem?_set_ne (by omega)]; exact h5
theorem Bm.done {l : List Nat} (h : Bm w B rs last l) (hl : rs.length = 16) (r : Er) : Bq w B (drops (dsP rs r) l) last := by
  obtain ⟨cs, h1, h2, h3, h4, h5⟩ := h.out
  have hS := dsP_same (rs := rs) r
  refine ⟨cs, h1, ⟨h2, fun i hi => ?_, fun i hi => ?_, h5⟩⟩
  · rw [h3 i hi]
    congr 2
    by_cases hm : i ∈ l
    · have e1 : lvb (drops (dsP rs r) l) i = false := lvb_no (drops_gone l _ i hm (by rw [hS.1, hl]; exact hi))
      rw [e1]; simp [hm]
    · have e1 : lvb (drops (dsP rs r) l) i = lvb rs i := by
        unfold lvb
        rw [← hS.2 i]
        unfold core
        rw [look_nat, look_nat, drops_other l _ i hm]
      rw [e1]; simp [hm]
  · obtain ⟨p, p1, p2, p3, p4⟩ := h4 i hi
    refine ⟨p, p1, p2, p3, fun r' hr' => ?_⟩
    obtain ⟨_, h6⟩ := drops_some hr'
    obtain ⟨r0, h7, h8, _⟩ := dsP_keeps r i r' h6
    rw [h8]; exact p4 r0 h7
theorem lives_cell (k : Nat) (hk : k < 16) (b : Bool) (c : w.cell? ⟨B, k, none⟩ = some (.bool b)) : Calls Try.prog 21 #[.pointer (some ⟨B, 0, none⟩), .int .i64 (k : Int)] w fun x w' => x = .returned (.bool b) ∧ w' = w := by
  have hk2 : (k : Int) < 16 := by omega
  go_enter Try.func21, Try.ntmps21
  go_wp2
  go_ret
  exact ⟨rfl, rfl⟩
set_option maxRecDepth 100000 in
set_option maxHeartbeats 6400000 in
theorem noted_destroy (h : Ns w F T B rs last) (t e n m : Int) (q : Qt) (g : Nat → Nat) (pc : Nat) (on : Bool) : Calls Try.prog 16 #[.pointer (some ⟨B, 0, none⟩), .pointer (some ⟨T, 0, none⟩), .agg #[.int .i64 3, .int .i64 t, .int .i64 e, .int .i64 n, .int .i64 m, .int .i64 q.f, .int .i64 q.e, .int .i64 q.x, .int .u32 (g 0 : Nat), .int .u32 (g 1 : Nat), .int .u32 (g 2 : Nat), .int .u32 (g 3 : Nat), .int .u32 (g 4 : Nat), .int .u32 (g 5 : Nat), .int .u32 (g 6 : Nat), .int .u32 (g 7 : Nat), .int .u32 (pc : Nat), .bool on]] w fun x w' => x = .returned (.bool true) ∧ Nx w F T B (dsS rs e) last w' := by
  have hb := (Below.refl w.heap.size w).alloc (Nat.le_refl _) (.cells #[.int .i64 3, .int .i64 t, .int .i64 e, .int .i64 n, .int .i64 m, .int .i64 q.f, .int .i64 q.e, .int .i64 q.x, .int .u32 (g 0 : Nat), .int .u32 (g 1 : Nat), .int .u32 (g 2 : Nat), .int .u32 (g 3 : Nat), .int .u32 (g 4 : Nat), .int .u32 (g 5 : Nat), .int .u32 (g 6 : Nat), .int .u32 (g 7 : Nat), .int .u32 (pc : Nat), .bool on] 47)
  have a1 := heap_alloc_new w (.cells #[.int .i64 3, .int .i64 t, .int .i64 e, .int .i64 n, .int .i64 m, .int .i64 q.f, .int .i64 q.e, .int .i64 q.x, .int .u32 (g 0 : Nat), .int .u32 (g 1 : Nat), .int .u32 (g 2 : Nat), .int .u32 (g 3 : Nat), .int .u32 (g 4 : Nat), .int .u32 (g 5 : Nat), .int .u32 (g 6 : Nat), .int .u32 (g 7 : Nat), .int .u32 (pc : Nat), .bool on] 47)
  have HS := hide (h.below hb)
  have HB := hide hb
  have HA := hide a1
  have HNF : Hid (¬ F w.heap.size) := hide (fun e => by have := h.et.lt _ e; omega)
  have HBl : Hid (B < w.heap.size) := hide h.bq.lt
  have HC := hide (destroy_any HS.out.et HS.out.iv e)
  clear h hb a1
  go_enter Try.func16, Try.ntmps16
  go_wp2_with fail
  refine HC.out.mono ?_
  rintro x w1 ⟨v, rfl, hE, hV, hM⟩
  have HQ := hide (HS.out.bq.keep (hM.block B HS.out.bq.lt HS.out.ne))
  have hlen := HS.out.iv.tr.len
  by_cases hz : dsE rs e = 0
  · have hIv := HS.out.iv.dsS e
    have hWd := HS.out.wd.dsS e
    have hT := HS.out.iv.tr
    obtain ⟨k, r, rfl, hr, hk0, hL, hS⟩ := dsE_zero hz
    have HSq := hide hS
    rw [hS] at hE hIv hWd
    rw [hL] at hV
    have HND := hide (wk_nodup hT 17 k)
    have HLv := hide (fun c (hc : c ∈ wk rs 17 k) => wk_lv 17 ⟨r, hr⟩ hc)
    have HN0 : Hid (0 ∉ wk rs 17 k) := hide (fun hc => by
      rcases wk_up 17 hc with e | ⟨q, _, e⟩
      · exact hk0 e.symm
      · exact (kid_ser hT e).2.1 rfl)
    have HHd : Hid ((wk rs 17 k)[0]? = some k) := hide rfl
    have HL16 := hide (wk_len hT 17 ⟨r, hr⟩)
    generalize wk rs 17 k = l at *
    obtain ⟨L, hL2⟩ : ∃ L, l.length = L := ⟨_, rfl⟩
    rw [hL2] at hV HL16
    have hL0 : 0 < L := by have := (List.getElem?_eq_some_iff.1 HHd.out).1; omega
    have hLe := HL16.out
    obtain ⟨gv, cv', rfl, hgl⟩ : ∃ gv cv', v = .slice (some ⟨gv, 0, none⟩) L cv' ∧ w.heap.size < gv := by
      obtain ⟨_, ⟨_, h0⟩ | ⟨g9, cp, cur, h0, h8, _⟩⟩ := hV
      · omega
      · exact ⟨g9, cp, h0, by simp at h8; omega⟩
    have HRowV := hide hV
    have HEt := hide hE
    have HIv := hide hIv
    have HWd := hide hWd
    have HX0 : Hid (Ext (wi B F) w (wi B F) w1) := hide ⟨⟨hM.os.trans HB.out.os, hM.tape.trans HB.out.tape, hM.output.trans HB.out.output, Nat.le_trans HB.out.size hM.size, fun b hb' hf => by
      rw [hM.block b (Nat.lt_of_lt_of_le hb' HB.out.size) (fun e => hf (.inr e)), HB.out.block b hb']⟩, fun _ hb' => .inl hb'⟩
    have HNe := hide HS.out.ne
    have hA2 := (hM.block _ (Array.getElem?_eq_some_iff.1 HA.out).1 HNF.out).trans HA.out
    have HA2 := hide hA2
    have HMb := hide HQ.out.bm
    have HTk : Hid (∀ j c, l[j]? = some c → l.take (j + 1) = l.take j ++ [c] ∧ c ∉ l.take j ∧ Lv rs c ∧ 0 < c ∧ c < 16) := hide (fun j c hc => by
      have h9 := List.getElem?_eq_some_iff.1 hc
      have htk : l.take (j + 1) = l.take j ++ [c] := by rw [List.take_succ_eq_append_getElem h9.1, h9.2]
      have hmem := List.mem_of_getElem? hc
      refine ⟨htk, fun h7 => ?_, HLv.out c hmem, ?_, lv_lt hT (HLv.out c hmem)⟩
      · have h8 : (l.take (j + 1)).Nodup := HND.out.sublist (List.take_sublist _ _)
        rw [htk, List.nodup_append] at h8
        exact h8.2.2 c h7 c (by simp) rfl
      · rcases Nat.eq_zero_or_pos c with e | e
        · exact absurd (e ▸ hmem) HN0.out
        · exact e)
    rw [hz]
    clear hE hV hM hIv hWd hT hr hk0 hL hS HS HB HA HC HND HLv HN0 hz hA2 HQ
    generalize w.heap.size = N at *
    go_upto_region 16 with fail
    have HRow0 : Hid (∀ j c : Nat, l[j]? = some c → w1.cell? ⟨gv, j, none⟩ = some (.int .i64 (c : Int))) := hide (fun j c hc => by
      have := World.ownsRow.cells HRowV.out rfl j (.int .i64 (c : Int)) (by simp [numN, hc])
      rw [add0] at this
      exact this)
    have hgB : gv ≠ B := by have := HBl.out; omega
    have HgB := hide hgB
    have K0 : Hid (Bm w1 B rs last (l.take 0)) := HMb
    go_loopw [11] (fun x wr => ∃ j : Nat, j ≤ L ∧ x = .int .i64 (j : Int) ∧ Hid (Bm wr B rs last (l.take j)) ∧ Hid (At w1 B wr)) (fun x _ => L - (intOf x).toNat)
    case atStart => exact ⟨0, by omega, rfl, K0, At.refl _ _⟩
    case round =>
    clear K0 HMb
    obtain ⟨j, hj, rfl, KM, KA⟩ := hrel
    by_cases hlt : j < L
    · have hd : decide ((j : Int) < (L : Int)) = true := by simp; omega
      have hj3 : (j : Int) < (L : Int) := by omega
      obtain ⟨c, hc⟩ : ∃ c, l[j]? = some c := ⟨_, List.getElem?_eq_getElem (by omega)⟩
      obtain ⟨htk, hnm, hlv, hc0, hc16⟩ := HTk.out j c hc
      have hgl2 : gv < w1.heap.size := World.block_lt_of_cell? _ _ (HRow0.out j c hc)
      have cj : wr.cell? ⟨gv, j, none⟩ = some (.int .i64 (c : Int)) := by
        rw [World.cell?_of_block (KA.out.block gv hgl2 HgB.out)]; exact HRow0.out j c hc
      obtain ⟨cc, fc⟩ := KM.out.cell hc16
      have hb1 : (lvb rs c && !((l.take j).contains c)) = true := by
        obtain ⟨rc, hrc⟩ := hlv
        rw [lvb_yes hrc]; simpa using hnm
      rw [hb1] at cc
      have HLi := hide (lives_cell (w := wr) (B := B) c hc16 true cc)
      have hcz : ¬ (c : Int) ≤ 0 := by omega
      have hc3 : (c : Int) < 16 := by omega
      have HTk2 := hide htk
      clear htk hnm hlv hb1 hc
      go_wp2_with fail
      refine HLi.out.mono ?_
      rintro x w2 ⟨rfl, rfl⟩
      go_upto_region 20 with fail
      obtain ⟨w3, hw3⟩ : ∃ w3, w3 = w2.drew := ⟨_, rfl⟩
      have HSd : Hid (w3.cell? ⟨gv, j, none⟩ = some (.int .i64 (c : Int))) := by rw [hw3]; exact hide cj
      have KM3 : Hid (Bm w3 B rs last (l.take j)) := by rw [hw3]; exact hide (KM.out.keep rfl)
      have KA3 : Hid (At w1 B w3) := by rw [hw3]; exact ⟨KA.out.os, KA.out.tape, KA.out.output, KA.out.size, KA.out.block⟩
      clear KM KA cj cc fc HLi
      refine wp_region_held_drew (S := fun W => W.cell? ⟨gv, j, none⟩ = some (.int .i64 (c : Int))) (by kernel_rfl) (by rw [← hw3]; exact HSd.out) (fun _ => ?_)
      rw [← hw3]
      clear hw3
      refine hd_take 0 (o := ⟨some 106, _, _, _, _, _⟩) (.pointer (some ⟨B, 0, none⟩)) (by kernel_rfl) (by kernel_rfl) (by kernel_rfl) rfl (by rfl) (fun W hSw => by go_simp) (fun _ _ _ h => h) HSd.out ?_
      try simp only [Act.put, List.setIfInBounds_toArray, List.set_cons_zero, List.set_cons_succ]
      refine hd_take 1 (o := ⟨some 107, _, _, _, _, _⟩) (.slice (some ⟨gv, 0, none⟩) L cv') (by kernel_rfl) (by kernel_rfl) (by kernel_rfl) rfl (by rfl) (fun W hSw => by go_simp) (fun _ _ _ h => h) HSd.out ?_
      try simp only [Act.put, List.setIfInBounds_toArray, List.set_cons_zero, List.set_cons_succ]
      refine hd_take 2 (o := ⟨some 108, _, _, _, _, _⟩) (.int .i64 (j : Int)) (by kernel_rfl) (by kernel_rfl) (by kernel_rfl) rfl (by rfl) (fun W hSw => by go_simp) (fun _ _ _ h => h) HSd.out ?_
      try simp only [Act.put, List.setIfInBounds_toArray, List.set_cons_zero, List.set_cons_succ]
      refine hd_take 3 (o := ⟨some 109, _, _, _, _, _⟩) (.pointer (some ⟨gv, j, none⟩)) (by kernel_rfl) (by kernel_rfl) (by kernel_rfl) rfl (by rfl) (fun W hSw => by go_simp) (fun _ _ _ h => h) HSd.out ?_
      try simp only [Act.put, List.setIfInBounds_toArray, List.set_cons_zero, List.set_cons_succ]
      refine hd_take 4 (o := ⟨some 110, _, _, _, _, _⟩) (.int .i64 (c : Int)) (by kernel_rfl) (by kernel_rfl) (by kernel_rfl) rfl (by rfl) (fun W hSw => by go_simp) (fun _ _ _ h => h) HSd.out ?_
      try simp only [Act.put, List.setIfInBounds_toArray, List.set_cons_zero, List.set_cons_succ]
      refine hd_take 5 (o := ⟨some 111, _, _, _, _, _⟩) (.pointer (some ⟨B, 0, none⟩)) (by kernel_rfl) (by kernel_rfl) (by kernel_rfl) rfl (by rfl) (fun W hSw => by go_simp) (fun _ _ _ h => h) HSd.out ?_
      try simp only [Act.put, List.setIfInBounds_toArray, List.set_cons_zero, List.set_cons_succ]
      refine hd_take 6 (o := ⟨some 112, _, _, _, _, _⟩) (.pointer (some ⟨B, 0, none⟩)) (by kernel_rfl) (by kernel_rfl) (by kernel_rfl) rfl (by rfl) (fun W hSw => by go_simp) (fun _ _ _ h => h) HSd.out ?_
      try simp only [Act.put, List.setIfInBounds_toArray, List.set_cons_zero, List.set_cons_succ]
      refine hd_take 7 (o := ⟨some 113, _, _, _, _, _⟩) (.pointer (some ⟨B, c, none⟩)) (by kernel_rfl) (by kernel_rfl) (by kernel_rfl) rfl (by rfl) (fun W hSw => by go_simp) (fun _ _ _ h => h) HSd.out ?_
      try simp only [Act.put, List.setIfInBounds_toArray, List.set_cons_zero, List.set_cons_succ]
      obtain ⟨cc, fc⟩ := KM3.out.cell hc16
      refine hd_call 8 (o := ⟨none, _, _, _, _, _⟩) (by kernel_rfl) rfl (by rfl) (fun K hK => ?_)
      go_simp
      refine hK _ _ (by rw [World.cell?_of_block (heap_setCell_other _ _ _ _ HgB.out)]; exact HSd.out) ?_
      clear hK K
      refine wpAnyH_done (by kernel_rfl) ?_ _
      have K1 : Hid (Bm (w3.setCell ⟨B, c, none⟩ (.bool false)) B rs last (l.take (j + 1))) := by rw [HTk2.out]; exact hide (KM3.out.step hc16)
      have K2 := hide (KA3.out.set c (.bool false))
      clear cc fc KM3 KA3 HSd HTk2
      generalize w3.setCell ⟨B, c, none⟩ (.bool false) = w4 at *
      go_wp2
      go_roundw
      case rel =>
        first
          | exact ⟨j + 1, by omega, by go_num, K1, K2⟩
          | ((repeat apply Exists.intro); refine ⟨?_, rfl⟩; exact ⟨j + 1, by omega, by go_num, K1, K2⟩)
      case measure => simp [intOf]; omega
    · obtain rfl : j = L := by omega
      have hd : decide ((j : Int) < (j : Int)) = false := by simp
      have hjp : decide ((0 : Int) < (j : Int)) = true := by simp; omega
      have hjp2 : (0 : Int) < (j : Int) := by omega
      have KD := KM.out
      rw [← hL2, List.take_length] at KD
      have HBq := hide (KD.done hlen r)
      have hgl2 : gv < w1.heap.size := World.block_lt_of_cell? _ _ (HRow0.out 0 k HHd.out)
      have c0 : wr.cell? ⟨gv, 0, none⟩ = some (.int .i64 (k : Int)) := by
        rw [World.cell?_of_block (KA.out.block gv hgl2 HgB.out)]; exact HRow0.out 0 k HHd.out
      have cE : wr.cell? ⟨N, 2, none⟩ = some (.int .i64 (k : Int)) := by
        rw [World.cell?_of_block (KA.out.block N (Array.getElem?_eq_some_iff.1 HA2.out).1 (by have := HBl.out; omega)), cell_of_row _ _ _ _ _ _ HA2.out]; rfl
      have HAll : Hid (∀ nq, Nx w F T B (drops (dsP rs r) l) last (wr.drewN nq)) := hide (fun nq => Nx.book HEt.out HX0.out HNe.out HIv.out HWd.out ⟨KA.out.os, KA.out.tape, KA.out.output, KA.out.size, KA.out.block⟩ (HBq.out.keep rfl))
      clear KD KM HBq KA HEt HIv HWd HX0 HRow0 HTk HRowV HA2
      go_upto_region 21 with fail
      go_quiet (fail)
      have HP := hide (HAll.out nq)
      clear HAll c0 cE
      go_wp2
      go_ret
      exact ⟨by simp, by rw [HSq.out]; exact HP.out⟩
  · obtain ⟨hL, hS⟩ := dsE_not hz
    have HSq := hide hS
    rw [hL] at hV
    rw [hS] at hE
    obtain ⟨va, vc, rfl⟩ := own_shape hV
    have HP := hide (HS.out.qu HB.out ⟨hE, hM, HS.out.iv, HS.out.wd, KQ.refl _⟩)
    have hzb : (dsE rs e == 0) = false := by simp [hz]
    clear hE hM hV HS HB HA HC HQ hL hS
    generalize dsE rs e = c at *
    go_wp2
    go_ret
    exact ⟨by simp, by rw [HSq.out]; exact HP.out⟩
end
end Go.Proofs.Ytoddadohmnaolaa

namespace Go.Proofs.Ytoddadohmnaolaa
open Go.RowKit Go.Shelf

/-- what a step leaves -/
def Np (w : World) (F : Nat → Prop) (T B : Nat) (w' : World) : Prop := ∃ rs' last' F', Ns w' F' T B rs' last' ∧ Ext (wi B F) w (wi B F') w'
/-- the table behind a step -/
def nS (kd e n m : Int) (q : Qt) (g : Nat → Nat) (pc : Nat) (on : Bool) (rs : List (Option Er)) (last : Int) : List (Option Er) :=
  if kd = 2 then crS rs last e n q else if kd = 3 then dsS rs e else if kd = 5 then rgS rs e g pc else if kd = 6 then stS rs e n m else if kd = 7 then btS rs e n else if kd = 8 then noS rs e n else if kd = 9 then waS rs e else if kd = 10 then frS rs e on else if kd = 11 then payS rs e q else if kd = 12 then refS rs e q else rs
def nL (kd e n : Int) (q : Qt) (rs : List (Option Er)) (last : Int) : Int := if kd = 2 then crL rs last e n q else last
section
variable {w : World} {F : Nat → Prop} {T B : Nat} {rs : List (Option Er)} {last : Int}
/-- a step of the law, and what it leaves -/
theorem noted_ex (h : Ns w F T B rs last) (kd t e n m : Int) (q : Qt) (g : Nat → Nat) (pc : Nat) (on : Bool) : Calls Try.prog 16 #[.pointer (some ⟨B, 0, none⟩), .pointer (some ⟨T, 0, none⟩), .agg #[.int .i64 kd, .int .i64 t, .int .i64 e, .int .i64 n, .int .i64 m, .int .i64 q.f, .int .i64 q.e, .int .i64 q.x, .int .u32 (g 0 : Nat), .int .u32 (g 1 : Nat), .int .u32 (g 2 : Nat), .int .u32 (g 3 : Nat), .int .u32 (g 4 : Nat), .int .u32 (g 5 : Nat), .int .u32 (g 6 : Nat), .int .u32 (g 7 : Nat), .int .u32 (pc : Nat), .bool on]] w fun x w' => x = .returned (.bool true) ∧ Nx w F T B (nS kd e n m q g pc on rs last) (nL kd e n q rs last) w' := by
  by_cases k2 : kd = 2
  · subst k2
    rw [show nS 2 e n m q g pc on rs last = crS rs last e n q from rfl, show nL 2 e n q rs last = crL rs last e n q from rfl]
    exact noted_create h t e n m q g pc on
  by_cases k3 : kd = 3
  · subst k3
    rw [show nS 3 e n m q g pc on rs last = dsS rs e from rfl, show nL 3 e n q rs last = last from rfl]
    exact noted_destroy h t e n m q g pc on
  by_cases k5 : kd = 5
  · subst k5
    rw [show nS 5 e n m q g pc on rs last = rgS rs e g pc from rfl, show nL 5 e n q rs last = last from rfl]
    exact noted_regs h t e n m q g pc on
  by_cases k6 : kd = 6
  · subst k6
    rw [show nS 6 e n m q g pc on rs last = stS rs e n m from rfl, show nL 6 e n q rs last = last from rfl]
    exact noted_state h t e n m q g pc on
  by_cases k7 : kd = 7
  · subst k7
    rw [show nS 7 e n m q g pc on rs last = btS rs e n from rfl, show nL 7 e n q rs last = last from rfl]
    exact noted_bits h t e n m q g pc on
  by_cases k8 : kd = 8
  · subst k8
    rw [show nS 8 e n m q g pc on rs last = noS rs e n from rfl, show nL 8 e n q rs last = last from rfl]
    exact noted_notify h t e n m q g pc on
  by_cases k9 : kd = 9
  · subst k9
    rw [show nS 9 e n m q g pc on rs last = waS rs e from rfl, show nL 9 e n q rs last = last from rfl]
    exact noted_wait h t e n m q g pc on
  by_cases k10 : kd = 10
  · subst k10
    rw [show nS 10 e n m q g pc on rs last = frS rs e on from rfl, show nL 10 e n q rs last = last from rfl]
    exact noted_freeze h t e n m q g pc on
  by_cases k11 : kd = 11
  · subst k11
    rw [show nS 11 e n m q g pc on rs last = payS rs e q from rfl, show nL 11 e n q rs last = last from rfl]
    exact noted_pay h t e n m q g pc on
  by_cases k12 : kd = 12
  · subst k12
    rw [show nS 12 e n m q g pc on rs last = refS rs e q from rfl, show nL 12 e n q rs last = last from rfl]
    exact noted_refund h t e n m q g pc on
  rw [show nS kd e n m q g pc on rs last = rs by unfold nS; rw [if_neg k2, if_neg k3, if_neg k5, if_neg k6, if_neg k7, if_neg k8, if_neg k9, if_neg k10, if_neg k11, if_neg k12], show nL kd e n q rs last = last by unfold nL; rw [if_neg k2]]
  exact noted_none h kd k2 k3 k5 k6 k7 k8 k9 k10 k11 k12 t e n m q g pc on
/-- a step of the law -/
theorem noted_any (h : Ns w F T B rs last) (kd t e n m : Int) (q : Qt) (g : Nat → Nat) (pc : Nat) (on : Bool) : Calls Try.prog 16 #[.pointer (some ⟨B, 0, none⟩), .pointer (some ⟨T, 0, none⟩), .agg #[.int .i64 kd, .int .i64 t, .int .i64 e, .int .i64 n, .int .i64 m, .int .i64 q.f, .int .i64 q.e, .int .i64 q.x, .int .u32 (g 0 : Nat), .int .u32 (g 1 : Nat), .int .u32 (g 2 : Nat), .int .u32 (g 3 : Nat), .int .u32 (g 4 : Nat), .int .u32 (g 5 : Nat), .int .u32 (g 6 : Nat), .int .u32 (g 7 : Nat), .int .u32 (pc : Nat), .bool on]] w fun x w' => x = .returned (.bool true) ∧ Np w F T B w' := by
  refine (noted_ex h kd t e n m q g pc on).mono ?_
  rintro x w' ⟨h1, F', h2, h3⟩
  exact ⟨h1, _, _, F', h2, h3⟩
end
end Go.Proofs.Ytoddadohmnaolaa
