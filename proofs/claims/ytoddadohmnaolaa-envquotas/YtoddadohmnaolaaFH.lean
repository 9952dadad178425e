import Derived.Test.YtoddadohmnaolaaFG
namespace Go.Proofs.Ytoddadohmnaolaa
open Go.RowKit Go.Shelf

def lvb (rs : List (Option Er)) (i : Nat) : Bool := (core rs i).isSome
/-- the law's book tells what lives, what was paid, the last serial -/
structure Bc (cs : List Value) (rs : List (Option Er)) (last : Int) : Prop where
  len : cs.length = 65
  live : ∀ i, i < 16 → cs[i]? = some (.bool (lvb rs i))
  paid : ∀ i, i < 16 → ∃ p : Qt, cs[16 + i * 3]? = some (.int .i64 p.f) ∧ cs[16 + i * 3 + 1]? = some (.int .i64 p.e) ∧ cs[16 + i * 3 + 2]? = some (.int .i64 p.x) ∧ ∀ r, rs[i]? = some (some r) → p = r.pd
  lst : cs[64]? = some (.int .i64 last)
structure Bq (w : World) (B : Nat) (rs : List (Option Er)) (last : Int) : Prop where
  out : ∃ cs : List Value, w.heap[B]? = some (.cells cs.toArray 58 (0, 0)) ∧ Bc cs rs last
section
variable {w w' : World} {B : Nat} {rs rs' : List (Option Er)} {last : Int}
theorem Bq.lt (h : Bq w B rs last) : B < w.heap.size := by obtain ⟨cs, h, _⟩ := h.out; exact (Array.getElem?_eq_some_iff.1 h).1
theorem Bq.keep (h : Bq w B rs last) (hk : w'.heap[B]? = w.heap[B]?) : Bq w' B rs last := by obtain ⟨cs, h1, h2⟩ := h.out; exact ⟨cs, hk.trans h1, h2⟩
theorem Bq.cell (h : Bq w B rs last) {i : Nat} (hi : i < 16) : w.cell? ⟨B, i, none⟩ = some (.bool (lvb rs i)) ∧ w.frozen? ⟨B, i, none⟩ = false := by
  obtain ⟨cs, h1, h2⟩ := h.out
  refine ⟨?_, frozen_of_row _ _ _ _ _ h1⟩
  rw [cell_of_row _ _ _ _ _ _ h1]
  simpa using h2.live i hi
theorem Bq.lastc (h : Bq w B rs last) : w.cell? ⟨B, 64, none⟩ = some (.int .i64 last) ∧ w.frozen? ⟨B, 64, none⟩ = false := by
  obtain ⟨cs, h1, h2⟩ := h.out
  refine ⟨?_, frozen_of_row _ _ _ _ _ h1⟩
  rw [cell_of_row _ _ _ _ _ _ h1]
  simpa using h2.lst
theorem Bq.frz (h : Bq w B rs last) (i : Nat) : w.frozen? ⟨B, i, none⟩ = false := by
  obtain ⟨cs, h1, h2⟩ := h.out
  exact frozen_of_row _ _ _ _ _ h1
theorem Bq.paidc (h : Bq w B rs last) {i : Nat} {r : Er} (hr : rs[i]? = some (some r)) (hi : i < 16) : w.cell? ⟨B, 16 + i * 3, none⟩ = some (.int .i64 r.pd.f) ∧ w.cell? ⟨B, 16 + i * 3 + 1, none⟩ = some (.int .i64 r.pd.e) ∧ w.cell? ⟨B, 16 + i * 3 + 2, none⟩ = some (.int .i64 r.pd.x) := by
  obtain ⟨cs, h1, h2⟩ := h.out
  obtain ⟨p, p1, p2, p3, p4⟩ := h2.paid i hi
  obtain rfl := p4 r hr
  refine ⟨?_, ?_, ?_⟩ <;> rw [cell_of_row _ _ _ _ _ _ h1] <;> simpa using ‹_›
theorem KQ.book (h : KQ rs rs') {cs : List Value} (hb : Bc cs rs last) : Bc cs rs' last := by
  refine ⟨hb.len, fun i hi => ?_, fun i hi => ?_, hb.lst⟩
  · rw [hb.live i hi]
    unfold lvb
    rw [h.1.2 i]
  · obtain ⟨p, p1, p2, p3, p4⟩ := hb.paid i hi
    refine ⟨p, p1, p2, p3, fun r' hr' => ?_⟩
    obtain ⟨r, h1, h2, _⟩ := h.2 i r' hr'
    rw [h2]; exact p4 r h1
theorem Bq.kq (h : Bq w B rs last) (hk : KQ rs rs') : Bq w B rs' last := by obtain ⟨cs, h1, h2⟩ := h.out; exact ⟨cs, h1, hk.book h2⟩
end
/-- what the law has in its hands -/
structure Ns (w : World) (F : Nat → Prop) (T B : Nat) (rs : List (Option Er)) (last : Int) : Prop where
  et : Et w F T rs last
  iv : Iv rs last
  wd : Wd rs
  bq : Bq w B rs last
  ne : ¬ F B
def wi (B : Nat) (F : Nat → Prop) : Nat → Prop := fun b => b = B ∨ F b
/-- what a step leaves -/
def Np (w : World) (F : Nat → Prop) (T B : Nat) (w' : World) : Prop := ∃ rs' last' F', Ns w' F' T B rs' last' ∧ Ext (wi B F) w (wi B F') w'
section
variable {w w' w1 : World} {F : Nat → Prop} {T B : Nat} {rs : List (Option Er)} {last : Int}
theorem Ns.below (h : Ns w F T B rs last) (hb : Below w.heap.size w w') : Ns w' F T B rs last := ⟨h.et.below hb, h.iv, h.wd, h.bq.keep (hb.block B h.bq.lt), h.ne⟩
theorem Ns.qu (h : Ns w1 F T B rs last) (hb : Below w.heap.size w w1) (hq : Qu w1 F T rs last w') : Np w F T B w' := by
  obtain ⟨rs', h1, h2, h3, h4, h5⟩ := hq
  refine ⟨rs', last, F, ⟨h1, h3, h4, (h.bq.keep (h2.block B h.bq.lt h.ne)).kq h5, h.ne⟩, ⟨⟨h2.os.trans hb.os, h2.tape.trans hb.tape, h2.output.trans hb.output, Nat.le_trans hb.size h2.size, fun b hb' hf => ?_⟩, fun _ hb' => .inl hb'⟩⟩
  rw [h2.block b (Nat.lt_of_lt_of_le hb' hb.size) (fun e => hf (.inr e)), hb.block b hb']
theorem Ns.nothing (h : Ns w1 F T B rs last) (hb : Below w.heap.size w w1) : Np w F T B w1 := ⟨rs, last, F, h, ⟨⟨hb.os, hb.tape, hb.output, hb.size, fun b hb' _ => hb.block b hb'⟩, fun _ hb' => .inl hb'⟩⟩
set_option maxRecDepth 100000 in
set_option maxHeartbeats 3200000 in
theorem noted_wait (h : Ns w F T B rs last) (t e n m : Int) (q : Qt) (g : Nat → Nat) (pc : Nat) (on : Bool) : Calls Try.prog 16 #[.pointer (some ⟨B, 0, none⟩), .pointer (some ⟨T, 0, none⟩), .agg #[.int .i64 9, .int .i64 t, .int .i64 e, .int .i64 n, .int .i64 m, .int .i64 q.f, .int .i64 q.e, .int .i64 q.x, .int .u32 (g 0 : Nat), .int .u32 (g 1 : Nat), .int .u32 (g 2 : Nat), .int .u32 (g 3 : Nat), .int .u32 (g 4 : Nat), .int .u32 (g 5 : Nat), .int .u32 (g 6 : Nat), .int .u32 (g 7 : Nat), .int .u32 (pc : Nat), .bool on]] w fun x w' => x = .returned (.bool true) ∧ Np w F T B w' := by
  have hb := (Below.refl w.heap.size w).alloc (Nat.le_refl _) (.cells #[.int .i64 9, .int .i64 t, .int .i64 e, .int .i64 n, .int .i64 m, .int .i64 q.f, .int .i64 q.e, .int .i64 q.x, .int .u32 (g 0 : Nat), .int .u32 (g 1 : Nat), .int .u32 (g 2 : Nat), .int .u32 (g 3 : Nat), .int .u32 (g 4 : Nat), .int .u32 (g 5 : Nat), .int .u32 (g 6 : Nat), .int .u32 (g 7 : Nat), .int .u32 (pc : Nat), .bool on] 47)
  have HS := hide (h.below hb)
  have HB := hide hb
  clear h hb
  go_enter Try.func16, Try.ntmps16
  go_wp2_with fail
  refine (wait_q HS.out.et HS.out.iv HS.out.wd e).mono ?_
  rintro x w1 ⟨⟨c, d, rfl⟩, hq⟩
  have HP := hide (HS.out.qu HB.out hq)
  clear hq HS HB
  go_wp2
  go_ret
  exact ⟨rfl, HP.out⟩
set_option maxRecDepth 100000 in
set_option maxHeartbeats 3200000 in
theorem noted_notify (h : Ns w F T B rs last) (t e n m : Int) (q : Qt) (g : Nat → Nat) (pc : Nat) (on : Bool) : Calls Try.prog 16 #[.pointer (some ⟨B, 0, none⟩), .pointer (some ⟨T, 0, none⟩), .agg #[.int .i64 8, .int .i64 t, .int .i64 e, .int .i64 n, .int .i64 m, .int .i64 q.f, .int .i64 q.e, .int .i64 q.x, .int .u32 (g 0 : Nat), .int .u32 (g 1 : Nat), .int .u32 (g 2 : Nat), .int .u32 (g 3 : Nat), .int .u32 (g 4 : Nat), .int .u32 (g 5 : Nat), .int .u32 (g 6 : Nat), .int .u32 (g 7 : Nat), .int .u32 (pc : Nat), .bool on]] w fun x w' => x = .returned (.bool true) ∧ Np w F T B w' := by
  have hb := (Below.refl w.heap.size w).alloc (Nat.le_refl _) (.cells #[.int .i64 8, .int .i64 t, .int .i64 e, .int .i64 n, .int .i64 m, .int .i64 q.f, .int .i64 q.e, .int .i64 q.x, .int .u32 (g 0 : Nat), .int .u32 (g 1 : Nat), .int .u32 (g 2 : Nat), .int .u32 (g 3 : Nat), .int .u32 (g 4 : Nat), .int .u32 (g 5 : Nat), .int .u32 (g 6 : Nat), .int .u32 (g 7 : Nat), .int .u32 (pc : Nat), .bool on] 47)
  have HS := hide (h.below hb)
  have HB := hide hb
  clear h hb
  go_enter Try.func16, Try.ntmps16
  go_wp2_with fail
  refine (notify_q HS.out.et HS.out.iv HS.out.wd e n).mono ?_
  rintro x w1 ⟨⟨c, rfl⟩, hq⟩
  have HP := hide (HS.out.qu HB.out hq)
  clear hq HS HB
  go_wp2
  go_ret
  exact ⟨rfl, HP.out⟩
set_option maxRecDepth 100000 in
set_option maxHeartbeats 3200000 in
theorem noted_bits (h : Ns w F T B rs last) (t e n m : Int) (q : Qt) (g : Nat → Nat) (pc : Nat) (on : Bool) : Calls Try.prog 16 #[.pointer (some ⟨B, 0, none⟩), .pointer (some ⟨T, 0, none⟩), .agg #[.int .i64 7, .int .i64 t, .int .i64 e, .int .i64 n, .int .i64 m, .int .i64 q.f, .int .i64 q.e, .int .i64 q.x, .int .u32 (g 0 : Nat), .int .u32 (g 1 : Nat), .int .u32 (g 2 : Nat), .int .u32 (g 3 : Nat), .int .u32 (g 4 : Nat), .int .u32 (g 5 : Nat), .int .u32 (g 6 : Nat), .int .u32 (g 7 : Nat), .int .u32 (pc : Nat), .bool on]] w fun x w' => x = .returned (.bool true) ∧ Np w F T B w' := by
  have hb := (Below.refl w.heap.size w).alloc (Nat.le_refl _) (.cells #[.int .i64 7, .int .i64 t, .int .i64 e, .int .i64 n, .int .i64 m, .int .i64 q.f, .int .i64 q.e, .int .i64 q.x, .int .u32 (g 0 : Nat), .int .u32 (g 1 : Nat), .int .u32 (g 2 : Nat), .int .u32 (g 3 : Nat), .int .u32 (g 4 : Nat), .int .u32 (g 5 : Nat), .int .u32 (g 6 : Nat), .int .u32 (g 7 : Nat), .int .u32 (pc : Nat), .bool on] 47)
  have HS := hide (h.below hb)
  have HB := hide hb
  clear h hb
  go_enter Try.func16, Try.ntmps16
  go_wp2_with fail
  refine (setBits_q HS.out.et HS.out.iv HS.out.wd e n).mono ?_
  rintro x w1 ⟨⟨c, rfl⟩, hq⟩
  have HP := hide (HS.out.qu HB.out hq)
  clear hq HS HB
  go_wp2
  go_ret
  exact ⟨rfl, HP.out⟩
set_option maxRecDepth 100000 in
set_option maxHeartbeats 3200000 in
theorem noted_state (h : Ns w F T B rs last) (t e n m : Int) (q : Qt) (g : Nat → Nat) (pc : Nat) (on : Bool) : Calls Try.prog 16 #[.pointer (some ⟨B, 0, none⟩), .pointer (some ⟨T, 0, none⟩), .agg #[.int .i64 6, .int .i64 t, .int .i64 e, .int .i64 n, .int .i64 m, .int .i64 q.f, .int .i64 q.e, .int .i64 q.x, .int .u32 (g 0 : Nat), .int .u32 (g 1 : Nat), .int .u32 (g 2 : Nat), .int .u32 (g 3 : Nat), .int .u32 (g 4 : Nat), .int .u32 (g 5 : Nat), .int .u32 (g 6 : Nat), .int .u32 (g 7 : Nat), .int .u32 (pc : Nat), .bool on]] w fun x w' => x = .returned (.bool true) ∧ Np w F T B w' := by
  have hb := (Below.refl w.heap.size w).alloc (Nat.le_refl _) (.cells #[.int .i64 6, .int .i64 t, .int .i64 e, .int .i64 n, .int .i64 m, .int .i64 q.f, .int .i64 q.e, .int .i64 q.x, .int .u32 (g 0 : Nat), .int .u32 (g 1 : Nat), .int .u32 (g 2 : Nat), .int .u32 (g 3 : Nat), .int .u32 (g 4 : Nat), .int .u32 (g 5 : Nat), .int .u32 (g 6 : Nat), .int .u32 (g 7 : Nat), .int .u32 (pc : Nat), .bool on] 47)
  have HS := hide (h.below hb)
  have HB := hide hb
  clear h hb
  go_enter Try.func16, Try.ntmps16
  go_wp2_with fail
  refine (setState_q HS.out.et HS.out.iv HS.out.wd e n m).mono ?_
  rintro x w1 ⟨⟨c, rfl⟩, hq⟩
  have HP := hide (HS.out.qu HB.out hq)
  clear hq HS HB
  go_wp2
  go_ret
  exact ⟨rfl, HP.out⟩
set_option maxRecDepth 100000 in
set_option maxHeartbeats 3200000 in
theorem noted_freeze (h : Ns w F T B rs last) (t e n m : Int) (q : Qt) (g : Nat → Nat) (pc : Nat) (on : Bool) : Calls Try.prog 16 #[.pointer (some ⟨B, 0, none⟩), .pointer (some ⟨T, 0, none⟩), .agg #[.int .i64 10, .int .i64 t, .int .i64 e, .int .i64 n, .int .i64 m, .int .i64 q.f, .int .i64 q.e, .int .i64 q.x, .int .u32 (g 0 : Nat), .int .u32 (g 1 : Nat), .int .u32 (g 2 : Nat), .int .u32 (g 3 : Nat), .int .u32 (g 4 : Nat), .int .u32 (g 5 : Nat), .int .u32 (g 6 : Nat), .int .u32 (g 7 : Nat), .int .u32 (pc : Nat), .bool on]] w fun x w' => x = .returned (.bool true) ∧ Np w F T B w' := by
  have hb := (Below.refl w.heap.size w).alloc (Nat.le_refl _) (.cells #[.int .i64 10, .int .i64 t, .int .i64 e, .int .i64 n, .int .i64 m, .int .i64 q.f, .int .i64 q.e, .int .i64 q.x, .int .u32 (g 0 : Nat), .int .u32 (g 1 : Nat), .int .u32 (g 2 : Nat), .int .u32 (g 3 : Nat), .int .u32 (g 4 : Nat), .int .u32 (g 5 : Nat), .int .u32 (g 6 : Nat), .int .u32 (g 7 : Nat), .int .u32 (pc : Nat), .bool on] 47)
  have HS := hide (h.below hb)
  have HB := hide hb
  clear h hb
  go_enter Try.func16, Try.ntmps16
  go_wp2_with fail
  refine (freeze_q HS.out.et HS.out.iv HS.out.wd e on).mono ?_
  rintro x w1 ⟨⟨c, rfl⟩, hq⟩
  have HP := hide (HS.out.qu HB.out hq)
  clear hq HS HB
  go_wp2
  go_ret
  exact ⟨rfl, HP.out⟩
set_option maxRecDepth 100000 in
set_option maxHeartbeats 3200000 in
theorem noted_none (h : Ns w F T B rs last) (kd : Int) (k2 : kd ≠ 2) (k3 : kd ≠ 3) (k5 : kd ≠ 5) (k6 : kd ≠ 6) (k7 : kd ≠ 7) (k8 : kd ≠ 8) (k9 : kd ≠ 9) (k10 : kd ≠ 10) (k11 : kd ≠ 11) (k12 : kd ≠ 12) (t e n m : Int) (q : Qt) (g : Nat → Nat) (pc : Nat) (on : Bool) : Calls Try.prog 16 #[.pointer (some ⟨B, 0, none⟩), .pointer (some ⟨T, 0, none⟩), .agg #[.int .i64 kd, .int .i64 t, .int .i64 e, .int .i64 n, .int .i64 m, .int .i64 q.f, .int .i64 q.e, .int .i64 q.x, .int .u32 (g 0 : Nat), .int .u32 (g 1 : Nat), .int .u32 (g 2 : Nat), .int .u32 (g 3 : Nat), .int .u32 (g 4 : Nat), .int .u32 (g 5 : Nat), .int .u32 (g 6 : Nat), .int .u32 (g 7 : Nat), .int .u32 (pc : Nat), .bool on]] w fun x w' => x = .returned (.bool true) ∧ Np w F T B w' := by
  have hb := (Below.refl w.heap.size w).alloc (Nat.le_refl _) (.cells #[.int .i64 kd, .int .i64 t, .int .i64 e, .int .i64 n, .int .i64 m, .int .i64 q.f, .int .i64 q.e, .int .i64 q.x, .int .u32 (g 0 : Nat), .int .u32 (g 1 : Nat), .int .u32 (g 2 : Nat), .int .u32 (g 3 : Nat), .int .u32 (g 4 : Nat), .int .u32 (g 5 : Nat), .int .u32 (g 6 : Nat), .int .u32 (g 7 : Nat), .int .u32 (pc : Nat), .bool on] 47)
  have HP := hide ((h.below hb).nothing hb)
  clear h hb
  go_enter Try.func16, Try.ntmps16
  go_wp2
  go_ret
  exact ⟨rfl, HP.out⟩
end
end Go.Proofs.Ytoddadohmnaolaa
