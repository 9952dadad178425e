import Derived.ProofKit
import Derived.OpenShut
import Derived.Deep.Slices
import Derived.Test.YtoddadohmnaolabOI
import Derived.Test.YtoddadohmnaolabNA
import Derived.Test.YtoddadohmnaolabNB
namespace Go.Proofs.Ytoddadohmnaolab
open Go.RowKit Go.Shelf

section
variable {w : World} {F : Nat → Prop} {T B : Nat} {rs : List (Option Er)} {last : Int}
set_option maxHeartbeats 800000 in
theorem childrenT_any (h : Et w F T rs last) (hD : Dis rs) (k : Nat) (hk : Lv rs k) : Calls Try.prog 21 #[.pointer (some ⟨T, 0, none⟩), .int .i64 (k : Int)] w fun x w' => ∃ v, x = .returned (.tuple #[v, .int .i64 0]) ∧ w'.ownsRow w.heap.size 3 1 v (kids rs (k : Int)).length (numN (kids rs (k : Int))) ∧ Below w.heap.size w w' := by
  have HC := hide (children_any w F T last h hD (k : Int))
  obtain ⟨r, hr⟩ := hk
  obtain ⟨S, G, m, h⟩ := h
  have c0 := h.cell.1
  have HG := hide (getL_any _ G S m h.tab (k : Int))
  rcases h.cases (k : Int) with ⟨_, h1⟩ | ⟨k', b, r', e1, hm, h3, h4, _, hR⟩
  · rw [look_nat, hr] at h1; cases h1
  · obtain rfl : k = k' := by omega
    rw [h4] at HG
    simp only [ptr, Option.isSome_some] at HG
    clear h h4 hR
    go_enter Try.func21, Try.ntmps21
    go_wp2_with fail
    refine HG.out.mono ?_
    rintro e1 w1 ⟨rfl, rfl⟩
    go_wp2_with fail
    refine HC.out.mono ?_
    rintro e1 w2 ⟨v, rfl, ho, hb⟩
    obtain ⟨va, vc, rfl⟩ := own_shape ho
    have HO := hide ho
    have HB := hide hb
    clear ho hb
    go_wp2
    go_ret2
    exact ⟨_, rfl, HO.out, HB.out⟩
end
/-- sums over lists -/
theorem sum_filter (P : Nat → Bool) (g : Nat → Int) : ∀ l : List Nat, ((l.filter P).map g).sum = (l.map (fun i => if P i = true then g i else 0)).sum
  | [] => rfl
  | x :: l => by
    by_cases h : P x = true
    · rw [List.filter_cons_of_pos h]; simp only [List.map_cons, List.sum_cons, h, if_true, sum_filter P g l]
    · rw [List.filter_cons_of_neg h]; simp only [List.map_cons, List.sum_cons, if_neg h, sum_filter P g l]; omega
theorem tot_range (f : Nat → Int) : ((List.range 16).map f).sum = tot f := by
  unfold tot
  simp only [List.range, List.range.loop, List.map_cons, List.map_nil, List.sum_cons, List.sum_nil]
  omega
theorem sum_perm {a b : List Nat} (h : a.Perm b) (g : Nat → Int) : (a.map g).sum = (b.map g).sum := by
  induction h with
  | nil => rfl
  | cons x _ ih => simp only [List.map_cons, List.sum_cons, ih]
  | swap x y l => simp only [List.map_cons, List.sum_cons]; omega
  | trans _ _ h1 h2 => exact h1.trans h2
section
variable {rs : List (Option Er)} {last : Int}
theorem kids_perm (h : Tr rs last) (e : Int) : (kids rs e).Perm ((List.range 16).filter (kid rs e)) := by
  refine (List.perm_ext_iff_of_nodup (kids_nodup e) (List.Pairwise.filter _ List.nodup_range)).2 (fun k => ?_)
  rw [List.mem_filter, List.mem_range]
  exact ⟨fun hk => ⟨lv_lt h (kid_lv (kids_kid hk)), kids_kid hk⟩, fun hk => kid_kids hk.2⟩
/-- what the children carve, child by child -/
theorem kids_sum (h : Tr rs last) (s : Qt → Int) (e : Nat) : ((kids rs (e : Int)).map (fun i => s (prc rs i))).sum = tot (tm s rs e) := by
  rw [sum_perm (kids_perm h _) _, sum_filter, tot_range]
  rfl
end
/-- the law's own beginning -/
theorem live_rs3 {i : Nat} {r : Er} (h : rs3[i]? = some (some r)) : (i = 0 ∧ r = e0) ∨ (i = 1 ∧ r = e1) ∨ (i = 2 ∧ r = e2) := by
  unfold rs3 at h
  match i with
  | 0 => left; simp at h; exact ⟨rfl, h.symm⟩
  | 1 => right; left; simp at h; exact ⟨rfl, h.symm⟩
  | 2 => right; right; simp at h; exact ⟨rfl, h.symm⟩
  | i + 3 =>
    have h9 : (List.replicate 13 (none : Option Er))[i]? = some (some r) := h
    rw [List.getElem?_replicate] at h9
    split at h9 <;> cases h9
theorem tr_rs3 : Tr rs3 3 := by
  have s0 : ser rs3 0 = 1 := rfl
  have s1 : ser rs3 1 = 2 := rfl
  have s2 : ser rs3 2 = 3 := rfl
  refine ⟨rfl, ⟨e0, rfl, rfl⟩, fun k r hr h0 => ?_, fun k ⟨r, hr⟩ => ?_, fun a b ⟨ra, ha⟩ ⟨rb, hb⟩ e => ?_⟩
  · rcases live_rs3 hr with ⟨rfl, rfl⟩ | ⟨rfl, rfl⟩ | ⟨rfl, rfl⟩
    · exact absurd rfl h0
    · exact ⟨0, rfl, ⟨e0, rfl⟩, by rw [s0, s1]; decide⟩
    · exact ⟨1, rfl, ⟨e1, rfl⟩, by rw [s1, s2]; decide⟩
  · rcases live_rs3 hr with ⟨rfl, rfl⟩ | ⟨rfl, rfl⟩ | ⟨rfl, rfl⟩
    · rw [s0]; decide
    · rw [s1]; decide
    · rw [s2]; decide
  · rcases live_rs3 ha with ⟨rfl, rfl⟩ | ⟨rfl, rfl⟩ | ⟨rfl, rfl⟩ <;> rcases live_rs3 hb with ⟨rfl, rfl⟩ | ⟨rfl, rfl⟩ | ⟨rfl, rfl⟩ <;> first | rfl | (simp only [s0, s1, s2] at e; omega)
theorem iv_rs3 : Iv rs3 3 := by
  refine ⟨tr_rs3, fun k r hr => ?_⟩
  rcases live_rs3 hr with ⟨rfl, rfl⟩ | ⟨rfl, rfl⟩ | ⟨rfl, rfl⟩
  · refine ⟨⟨rfl, rfl, rfl⟩, ⟨by decide, by decide, by decide⟩, ⟨by decide, by decide, by decide⟩, qt_ext ?_ ?_ ?_⟩ <;> decide +kernel
  · refine ⟨⟨rfl, rfl, rfl⟩, ⟨by decide, by decide, by decide⟩, ⟨by decide, by decide, by decide⟩, qt_ext ?_ ?_ ?_⟩ <;> decide +kernel
  · refine ⟨⟨rfl, rfl, rfl⟩, ⟨by decide, by decide, by decide⟩, ⟨by decide, by decide, by decide⟩, qt_ext ?_ ?_ ?_⟩ <;> decide +kernel
theorem wd_rs3 : Wd rs3 := by
  intro k r hr
  rcases live_rs3 hr with ⟨rfl, rfl⟩ | ⟨rfl, rfl⟩ | ⟨rfl, rfl⟩ <;> exact ⟨by decide, by decide⟩
theorem Bk.bq {w : World} {B : Nat} (h : Bk w B 3) : Bq w B rs3 3 := by
  refine ⟨bookL 3, h, ⟨rfl, fun i hi => ?_, fun i hi => ⟨Qt.zero, ?_, ?_, ?_, fun r hr => ?_⟩, rfl⟩⟩
  · have : i = 0 ∨ i = 1 ∨ i = 2 ∨ i = 3 ∨ i = 4 ∨ i = 5 ∨ i = 6 ∨ i = 7 ∨ i = 8 ∨ i = 9 ∨ i = 10 ∨ i = 11 ∨ i = 12 ∨ i = 13 ∨ i = 14 ∨ i = 15 := by omega
    rcases this with rfl | rfl | rfl | rfl | rfl | rfl | rfl | rfl | rfl | rfl | rfl | rfl | rfl | rfl | rfl | rfl <;> rfl
  · have : i = 0 ∨ i = 1 ∨ i = 2 ∨ i = 3 ∨ i = 4 ∨ i = 5 ∨ i = 6 ∨ i = 7 ∨ i = 8 ∨ i = 9 ∨ i = 10 ∨ i = 11 ∨ i = 12 ∨ i = 13 ∨ i = 14 ∨ i = 15 := by omega
    rcases this with rfl | rfl | rfl | rfl | rfl | rfl | rfl | rfl | rfl | rfl | rfl | rfl | rfl | rfl | rfl | rfl <;> rfl
  · have : i = 0 ∨ i = 1 ∨ i = 2 ∨ i = 3 ∨ i = 4 ∨ i = 5 ∨ i = 6 ∨ i = 7 ∨ i = 8 ∨ i = 9 ∨ i = 10 ∨ i = 11 ∨ i = 12 ∨ i = 13 ∨ i = 14 ∨ i = 15 := by omega
    rcases this with rfl | rfl | rfl | rfl | rfl | rfl | rfl | rfl | rfl | rfl | rfl | rfl | rfl | rfl | rfl | rfl <;> rfl
  · have : i = 0 ∨ i = 1 ∨ i = 2 ∨ i = 3 ∨ i = 4 ∨ i = 5 ∨ i = 6 ∨ i = 7 ∨ i = 8 ∨ i = 9 ∨ i = 10 ∨ i = 11 ∨ i = 12 ∨ i = 13 ∨ i = 14 ∨ i = 15 := by omega
    rcases this with rfl | rfl | rfl | rfl | rfl | rfl | rfl | rfl | rfl | rfl | rfl | rfl | rfl | rfl | rfl | rfl <;> rfl
  · rcases live_rs3 hr with ⟨rfl, rfl⟩ | ⟨rfl, rfl⟩ | ⟨rfl, rfl⟩ <;> rfl
theorem first_ns (w : World) : Calls Try.prog 6 #[] w fun x w' => ∃ T B, x = .returned (.tuple #[.pointer (some ⟨T, 0, none⟩), .pointer (some ⟨B, 0, none⟩)]) ∧ w.heap.size ≤ B ∧ ∃ F, Ns w' F T B rs3 3 ∧ (∀ b, F b → w.heap.size ≤ b) ∧ Below w.heap.size w w' := by
  refine (first_any w).mono ?_
  rintro x w' ⟨T, B, rfl, hB, hl, F, hE, hn, hF, hb⟩
  exact ⟨T, B, rfl, hl, F, ⟨hE, iv_rs3, wd_rs3, hB.bq, hn⟩, hF, hb⟩
end Go.Proofs.Ytoddadohmnaolab

namespace Go.Proofs.Ytoddadohmnaolab
open Go.RowKit Go.Shelf

section
variable {rs : List (Option Er)} {last : Int}
def ps (rs : List (Option Er)) (l : List Nat) : Qt := ⟨(l.map (fun i => (prc rs i).f)).sum, (l.map (fun i => (prc rs i).e)).sum, (l.map (fun i => (prc rs i).x)).sum⟩
theorem ps_app (l m : List Nat) : ps rs (l ++ m) = (ps rs l).plus (ps rs m) := by
  unfold ps Qt.plus
  simp only [List.map_append, List.sum_append]
theorem ps_one (c : Nat) : ps rs [c] = prc rs c := by
  unfold ps
  simp
theorem ps_take {l : List Nat} {j c : Nat} (hc : l[j]? = some c) : ps rs (l.take (j + 1)) = (ps rs (l.take j)).plus (prc rs c) := by
  rw [List.take_add_one, hc, ps_app]
  show _ = _
  rw [show (some c).toList = [c] from rfl, ps_one]
theorem ps_nn : ∀ l : List Nat, (∀ i ∈ l, (prc rs i).nn) → (ps rs l).nn
  | [], _ => ⟨Int.le_refl _, Int.le_refl _, Int.le_refl _⟩
  | c :: l, h => by
    have h1 := ps_nn l (fun i hi => h i (List.mem_cons_of_mem _ hi))
    have h2 := h c List.mem_cons_self
    have h3 : ps rs (c :: l) = (prc rs c).plus (ps rs l) := by rw [← ps_one (rs := rs) c, ← ps_app]; rfl
    rw [h3]
    obtain ⟨a1, a2, a3⟩ := h1
    obtain ⟨b1, b2, b3⟩ := h2
    exact ⟨by simp only [Qt.plus]; omega, by simp only [Qt.plus]; omega, by simp only [Qt.plus]; omega⟩
theorem ps_kids (h : Tr rs last) (e : Nat) : ps rs (kids rs (e : Int)) = cv rs e := by
  unfold ps cv
  rw [← kids_sum h Qt.f e, ← kids_sum h Qt.e e, ← kids_sum h Qt.x e]
theorem kids_at {e c : Nat} (hc : c ∈ kids rs (e : Int)) : ∃ rc, rs[c]? = some (some rc) ∧ rc.pa = (e : Int) := by
  have h1 := kids_mem.1 hc
  obtain ⟨rc, hrc⟩ := kidsU_lv h1
  refine ⟨rc, hrc, ?_⟩
  have h2 : kid rs (e : Int) c = true := by
    unfold kidsU fitK at h1
    exact (List.mem_filter.1 h1).2
  rw [kid_core, core_at hrc] at h2
  exact of_decide_eq_true h2
def acc (rs : List (Option Er)) (k : Nat) (r : Er) (j : Nat) : Qt := (r.le.plus r.pd).plus (ps rs ((kids rs (k : Int)).take j))
theorem acc_zero (k : Nat) (r : Er) : acc rs k r 0 = r.le.plus r.pd := by
  unfold acc ps Qt.plus
  simp
theorem acc_step {k j c : Nat} {r rc : Er} (hc : (kids rs (k : Int))[j]? = some c) (hrc : rs[c]? = some (some rc)) : acc rs k r (j + 1) = ((acc rs k r j).plus rc.qu).plus Qt.one := by
  unfold acc
  rw [ps_take hc, prc_at hrc]
  unfold Qt.plus
  simp only [Qt.mk.injEq]
  exact ⟨by omega, by omega, by omega⟩
theorem acc_end (h : Iv rs last) {k : Nat} {r : Er} (hr : rs[k]? = some (some r)) : acc rs k r (kids rs (k : Int)).length = r.qu := by
  have h1 := (h.q k r hr).sum
  unfold acc
  rw [List.take_length, ps_kids h.tr, h1]
  unfold Qt.plus
  simp only [Qt.mk.injEq]
  exact ⟨by omega, by omega, by omega⟩
theorem kid_nn (h : Iv rs last) {e c : Nat} (hc : c ∈ kids rs (e : Int)) : (prc rs c).nn := by
  obtain ⟨rc, hrc, -⟩ := kids_at hc
  rw [prc_at hrc]
  obtain ⟨g1, g2, g3⟩ := good_bounds (h.q c rc hrc).good
  exact ⟨by simp only [Qt.plus, Qt.one]; omega, by simp only [Qt.plus, Qt.one]; omega, by simp only [Qt.plus, Qt.one]; omega⟩
theorem acc_ok (h : Iv rs last) {k : Nat} {r : Er} (hr : rs[k]? = some (some r)) (j : Nat) : (acc rs k r j).ok := by
  have h1 := acc_end h hr
  have h2 := ps_nn (rs := rs) ((kids rs (k : Int)).take j) (fun i hi => kid_nn h (List.mem_of_mem_take hi))
  have h3 := ps_nn (rs := rs) ((kids rs (k : Int)).drop j) (fun i hi => kid_nn h (List.mem_of_mem_drop hi))
  have h4 := ps_app (rs := rs) ((kids rs (k : Int)).take j) ((kids rs (k : Int)).drop j)
  rw [List.take_append_drop] at h4
  unfold acc at h1 ⊢
  rw [List.take_length, h4] at h1
  obtain ⟨l1, l2, l3⟩ := (h.q k r hr).le
  obtain ⟨p1, p2, p3⟩ := (h.q k r hr).pd
  obtain ⟨⟨u1, u2⟩, ⟨u3, u4⟩, ⟨u5, u6⟩⟩ := (h.oks hr).2.2
  rw [← h1] at u1 u2 u3 u4 u5 u6
  obtain ⟨a1, a2, a3⟩ := h2
  obtain ⟨b1, b2, b3⟩ := h3
  simp only [Qt.plus] at u1 u2 u3 u4 u5 u6
  exact ⟨⟨by simp only [Qt.plus]; omega, by simp only [Qt.plus]; omega⟩, ⟨by simp only [Qt.plus]; omega, by simp only [Qt.plus]; omega⟩, ⟨by simp only [Qt.plus]; omega, by simp only [Qt.plus]; omega⟩⟩
end
end Go.Proofs.Ytoddadohmnaolab

namespace Go.Proofs.Ytoddadohmnaolab
open Go.ChangeShapes Go.WideShapes Go.ChangeAt Go.RowKit Go.Deep

/-- a step that came in -/
structure Ov where
  kd : Int
  t : Int
  e : Int
  n : Int
  m : Int
  q : Qt
  g : Nat → Nat
  pc : Nat
  on : Bool
def Ov.cells (o : Ov) : List Value := [.int .i64 o.kd, .int .i64 o.t, .int .i64 o.e, .int .i64 o.n, .int .i64 o.m, .int .i64 o.q.f, .int .i64 o.q.e, .int .i64 o.q.x, .int .u32 (o.g 0 : Nat), .int .u32 (o.g 1 : Nat), .int .u32 (o.g 2 : Nat), .int .u32 (o.g 3 : Nat), .int .u32 (o.g 4 : Nat), .int .u32 (o.g 5 : Nat), .int .u32 (o.g 6 : Nat), .int .u32 (o.g 7 : Nat), .int .u32 (o.pc : Nat), .bool o.on]
def Ov.nil : Ov := ⟨0, 0, 0, 0, 0, Qt.zero, fun _ => 0, 0, false⟩
theorem ov_len (v : Ov) : v.cells.length = 18 := rfl
/-- steps that came in -/
def IsOps (w : World) (a : Option Addr) (len : Nat) (O : Nat → Ov) : Prop :=
  ∀ k, k < len → ∃ x, a = some x ∧ ∀ (j : Nat) (v : Value), (O k).cells[j]? = some v → w.cell? ((x.add (k * 18)).add j) = some v
theorem IsOps.below {w w' : World} {a : Option Addr} {len : Nat} {O : Nat → Ov} (h : IsOps w a len O) (hb : Below w.heap.size w w') : IsOps w' a len O := by
  intro k hk
  obtain ⟨x, h1, h2⟩ := h k hk
  refine ⟨x, h1, fun j v hv => ?_⟩
  have h3 := h2 j v hv
  rw [hb.cell (World.block_lt_of_cell? w _ h3)]; exact h3
section
variable {H : Type} {enc : TypeId × Value → H} {w : World} {base : Nat} {spare : Nat → Bool} {held : Bool}
theorem bool_cell {t : TypeId} {n : Nat} {v : Value} {y : DataW H × List MemPlace} (ht : Try.prog.underlying t = some .bool) (h : DataW.trod enc Try.prog w base spare held n t [v] = some y) : ∃ z : Bool, v = .bool z := by
  obtain ⟨z, h1, _⟩ := DataW.trod_bool ht h
  exact ⟨z, by simpa using h1⟩
theorem u32_cell {t : TypeId} {n : Nat} {v : Value} {y : DataW H × List MemPlace} (ht : Try.prog.underlying t = some (.int .u32)) (h : DataW.trod enc Try.prog w base spare held n t [v] = some y) : ∃ z : Nat, v = .int .u32 (z : Int) := by
  obtain ⟨z, h1, _, h2⟩ := DataW.trod_int ht h
  have h3 : 0 ≤ z ∧ z ≤ 4294967295 := by simpa [Lit.wf, IntKind.min, IntKind.max, IntKind.signed, IntKind.bits] using h2
  refine ⟨z.toNat, ?_⟩
  simp at h1
  rw [h1, Int.toNat_of_nonneg h3.1]
set_option maxRecDepth 20000 in
theorem open_op {n : Nat} {cs : List Value} {y : DataW H × List MemPlace} (hl : cs.length = 18) (h : DataW.trod enc Try.prog w base spare held n 38 cs = some y) : ∃ o : Ov, cs = o.cells := by
  obtain ⟨xs, k, hk, hxy, _, hxl, hf⟩ := DataW.trod_struct Try.underlying38 h
  match xs, hxl with
  | [y0, y1, y2, y3, y4, y5, y6, y7], _ =>
    have g0 := hf 0 _ rfl
    have g1 := hf 1 _ rfl
    have g2 := hf 2 _ rfl
    have g3 := hf 3 _ rfl
    have g4 := hf 4 _ rfl
    have g5 := hf 5 _ rfl
    have g6 := hf 6 _ rfl
    have g7 := hf 7 _ rfl
    have e1 : Try.prog.cellsOf 3 = 1 := by kernel_rfl
    have e2 : Try.prog.cellsOf 4 = 1 := by kernel_rfl
    have e3 : Try.prog.cellsOf 32 = 3 := by kernel_rfl
    have e4 : Try.prog.cellsOf 36 = 9 := by kernel_rfl
    have e5 : Try.prog.cellsOf 33 = 1 := by kernel_rfl
    have e6 : Try.prog.cellsOf 34 = 8 := by kernel_rfl
    match cs, hl with
    | [v0, v1, v2, v3, v4, a0, a1, a2, b0, b1, b2, b3, b4, b5, b6, b7, b8, vz], _ =>
      simp [e1, e2, e3, e4] at g0 g1 g2 g3 g4 g5 g6 g7
      obtain ⟨z0, rfl⟩ := int_cell Try.underlying3 g0
      obtain ⟨z1, rfl⟩ := int_cell Try.underlying3 g1
      obtain ⟨z2, rfl⟩ := int_cell Try.underlying3 g2
      obtain ⟨z3, rfl⟩ := int_cell Try.underlying3 g3
      obtain ⟨z4, rfl⟩ := int_cell Try.underlying3 g4
      obtain ⟨on, rfl⟩ := bool_cell Try.underlying4 g7
      obtain ⟨xs, k, hk, hxy, _, hxl, hf⟩ := DataW.trod_struct Try.underlying32 g5
      match xs, hxl with
      | [y0, y1, y2], _ =>
        have g0 := hf 0 _ rfl
        have g1 := hf 1 _ rfl
        have g2 := hf 2 _ rfl
        simp [e1] at g0 g1 g2
        obtain ⟨q0, rfl⟩ := int_cell Try.underlying3 g0
        obtain ⟨q1, rfl⟩ := int_cell Try.underlying3 g1
        obtain ⟨q2, rfl⟩ := int_cell Try.underlying3 g2
        obtain ⟨xs, k, hk, hxy, _, hxl, hf⟩ := DataW.trod_struct Try.underlying36 g6
        match xs, hxl with
        | [y0, y1], _ =>
          have g0 := hf 0 _ rfl
          have g1 := hf 1 _ rfl
          simp [e5, e6] at g0 g1
          obtain ⟨pc, rfl⟩ := u32_cell Try.underlying33 g1
          obtain ⟨xs, k, hk, hxy, _, hxl, hf⟩ := DataW.trod_array Try.underlying34 g0
          match xs, hxl with
          | [x0, x1, x2, x3, x4, x5, x6, x7], _ =>
            have d0 := hf 0 (by omega)
            have d1 := hf 1 (by omega)
            have d2 := hf 2 (by omega)
            have d3 := hf 3 (by omega)
            have d4 := hf 4 (by omega)
            have d5 := hf 5 (by omega)
            have d6 := hf 6 (by omega)
            have d7 := hf 7 (by omega)
            simp [e5] at d0 d1 d2 d3 d4 d5 d6 d7
            obtain ⟨r0, rfl⟩ := u32_cell Try.underlying33 d0
            obtain ⟨r1, rfl⟩ := u32_cell Try.underlying33 d1
            obtain ⟨r2, rfl⟩ := u32_cell Try.underlying33 d2
            obtain ⟨r3, rfl⟩ := u32_cell Try.underlying33 d3
            obtain ⟨r4, rfl⟩ := u32_cell Try.underlying33 d4
            obtain ⟨r5, rfl⟩ := u32_cell Try.underlying33 d5
            obtain ⟨r6, rfl⟩ := u32_cell Try.underlying33 d6
            obtain ⟨r7, rfl⟩ := u32_cell Try.underlying33 d7
            exact ⟨⟨z0, z1, z2, z3, z4, ⟨q0, q1, q2⟩, fun i => [r0, r1, r2, r3, r4, r5, r6, r7].getD i 0, pc, on⟩, rfl⟩
theorem open_ops {fuel : Nat} {cs : List Value} {x : DataW H × List MemPlace} (h : DataW.trod enc Try.prog w base spare held fuel 22 cs = some x) :
    ∃ (a : Option Addr) (len cap : Nat) (O : Nat → Ov), cs = [.slice a len cap] ∧ len ≤ maxLen ∧ IsOps w a len O := by
  rcases open_slice Try.underlying22 h with ⟨rfl, _⟩ | ⟨a, len, cap, m, n, D, Pl, rfl, hb, hl, hm, hmm, rfl, hx⟩
  · exact ⟨none, 0, 0, fun _ => Ov.nil, rfl, Nat.zero_le _, fun k hk => by omega⟩
  have hlm : len ≤ m := by rw [hmm]; split <;> omega
  have ce : Try.prog.cellsOf 38 = 18 := by kernel_rfl
  have each : ∀ i, i < len → ∃ o : Ov, ∀ (j : Nat) (v : Value), o.cells[j]? = some v → w.cell? ((a.add (i * 18)).add j) = some v := by
    intro i hi
    obtain ⟨cs', h1, h2⟩ := hx i (by omega)
    rw [ce] at h1
    obtain ⟨_, hlen, hcell⟩ := World.cells?_some h1
    obtain ⟨o, rfl⟩ := open_op hlen h2
    refine ⟨o, fun j v hv => ?_⟩
    have hj : j < 18 := by have := (List.getElem?_eq_some_iff.1 hv).1; rwa [ov_len] at this
    rw [hcell j hj]; exact hv
  haveI : Inhabited Ov := ⟨Ov.nil⟩
  obtain ⟨O, hO⟩ := choose_lt each
  exact ⟨some a, len, cap, O, rfl, Nat.le_trans hl hm, fun k hk => ⟨a, rfl, hO k hk⟩⟩
end
end Go.Proofs.Ytoddadohmnaolab

namespace Go.Proofs.Ytoddadohmnaolab
open Go.RowKit Go.Shelf

theorem infoOp : (Try.prog.info? 38).map (·.size) = some 18 := by kernel_rfl
theorem loadOp (o : Ov) {ops : Array Oper} {rest : List Oper} {op : Oper} {a : Act} {w : World} {Q : Exit → Act → World → Prop} (hw : Region.wanted op (yielded ops a.tmps) = true) (x : Operand) (ho : op.op = .load 38 x) (ad : Addr)
    (hx : a.eval x = .pointer (some ad)) (hc : ∀ (j : Nat) (v : Value), o.cells[j]? = some v → w.cell? (ad.add j) = some v) (h : wpList Try.prog ops Q rest (a.put op.dst (.agg o.cells.toArray)) w) : wpList Try.prog ops Q (op :: rest) a w :=
  loadT Try.underlying38 rfl o.cells (by rw [ov_len]; exact infoOp) hw x ho ad hx hc h
theorem lvb_some {rs : List (Option Er)} {i : Nat} (h : lvb rs i = true) : ∃ r, rs[i]? = some (some r) := by
  exact lv_core.2 h
end Go.Proofs.Ytoddadohmnaolab

namespace Go.Proofs.Ytoddadohmnaolab
open Go.ChangeShapes Go.WideShapes Go.ChangeAt Go.RowKit Go.Deep Go.Shelf Go.Great

theorem all_one {l : List Nat} {m : Nat} (hn : l.Nodup) (h1 : m ∈ l) (h2 : ∀ x ∈ l, x = m) : l = [m] := by
  match l, hn, h1, h2 with
  | [], _, h1, _ => cases h1
  | [x], _, _, h2 => rw [h2 x List.mem_cons_self]
  | x :: y :: l, hn, _, h2 =>
    have e1 := h2 x List.mem_cons_self
    have e2 := h2 y (List.mem_cons_of_mem _ List.mem_cons_self)
    rw [e1, e2] at hn
    simp at hn
section
variable {rs : List (Option Er)} {last : Int}
theorem kids_nil (h : Tr rs last) {c : Nat} (hs : ∀ x, Lv rs x → ser rs x ≤ ser rs c) : kids rs ((c : Nat) : Int) = [] := by
  rcases hq : kids rs ((c : Nat) : Int) with _ | ⟨x, l⟩
  · rfl
  · have hk := kids_kid (rs := rs) (e := ((c : Nat) : Int)) (k := x) (by rw [hq]; simp)
    have h1 := (kid_ser h hk).1
    have h2 := hs x (kid_lv hk)
    omega
/-- made, one made below it, and both ended: all as it was -/
theorem cr_cr_ds (h : Iv rs last) {e s s2 : Int} {q q2 : Qt} (hc : crE rs last e s q = 0) (hc2 : crE (crS rs last e s q) s ((ff rs : Nat) : Int) s2 q2 = 0) :
    dsE (crS (crS rs last e s q) s ((ff rs : Nat) : Int) s2 q2) ((ff rs : Nat) : Int) = 0 ∧ dsL (crS (crS rs last e s q) s ((ff rs : Nat) : Int) s2 q2) ((ff rs : Nat) : Int) = [ff rs, ff (crS rs last e s q)] ∧ dsS (crS (crS rs last e s q) s ((ff rs : Nat) : Int) s2 q2) ((ff rs : Nat) : Int) = rs := by
  have h1 := h.crS e s q
  rw [show crL rs last e s q = s by unfold crL; rw [if_pos hc]] at h1
  have h2 := h1.crS ((ff rs : Nat) : Int) s2 q2
  rw [show crL (crS rs last e s q) s ((ff rs : Nat) : Int) s2 q2 = s2 by unfold crL; rw [if_pos hc2]] at h2
  obtain ⟨k, r, he, hr, hg, hls, hs, hle, hf⟩ := crE_zero2 hc
  obtain ⟨k2, r2, he2, hr2, hg2, hls2, hs2, hle2, hf2⟩ := crE_zero2 hc2
  have hcs := crS_at hc he hr
  have hnf := ff_none h.tr hf
  have hcs2 := crS_at hc2 he2 hr2
  have hnf2 := ff_none h1.tr hf2
  generalize ff rs = n at *
  generalize crS rs last e s q = rs1 at *
  generalize ff rs1 = m at *
  obtain rfl : n = k2 := by omega
  generalize crS rs1 s ((n : Nat) : Int) s2 q2 = rs2 at *
  have hnk : n ≠ k := fun e9 => by rw [e9, hr] at hnf; cases hnf
  have hkl := (List.getElem?_eq_some_iff.1 hr).1
  have hnl := (List.getElem?_eq_some_iff.1 hnf).1
  have hn1 : rs1[n]? = some (some (Er.new s e q)) := by
    rw [hcs, List.getElem?_set_ne (fun e9 => hnk e9.symm), List.getElem?_set_self hnl]
  rw [hn1] at hr2
  obtain rfl : Er.new s e q = r2 := by simpa using hr2
  have hk1 : rs1[k]? = some (some { r with le := r.le.less (q.plus Qt.one) }) := by
    rw [hcs, List.getElem?_set_self (by simpa using hkl)]
  have hmn : m ≠ n := fun e9 => by rw [e9, hn1] at hnf2; cases hnf2
  have hmk : m ≠ k := fun e9 => by rw [e9, hk1] at hnf2; cases hnf2
  have hml := (List.getElem?_eq_some_iff.1 hnf2).1
  have hl1 : rs1.length = rs.length := by rw [hcs]; simp
  have hn2 : rs2[n]? = some (some { Er.new s e q with le := (Er.new s e q).le.less (q2.plus Qt.one) }) := by
    rw [hcs2, List.getElem?_set_self (by simp; omega)]
  have hm2 : rs2[m]? = some (some (Er.new s2 ((n : Nat) : Int) q2)) := by
    rw [hcs2, List.getElem?_set_ne (fun e9 => hmn e9.symm), List.getElem?_set_self hml]
  have hk2 : rs2[k]? = some (some { r with le := r.le.less (q.plus Qt.one) }) := by
    rw [hcs2, List.getElem?_set_ne hnk, List.getElem?_set_ne hmk, hk1]
  have ho2 : ∀ x, x ≠ n → x ≠ m → rs2[x]? = rs1[x]? := fun x hx1 hx2 => by
    rw [hcs2, List.getElem?_set_ne (fun e9 => hx1 e9.symm), List.getElem?_set_ne (fun e9 => hx2 e9.symm)]
  have hn0 : n ≠ 0 := fun e9 => by
    obtain ⟨r0, h0, _⟩ := h.tr.root
    rw [e9, h0] at hnf; cases hnf
  have hsn : ser rs2 n = s := by rw [ser_core, core_at hn2]; rfl
  have hsm : ser rs2 m = s2 := by rw [ser_core, core_at hm2]; rfl
  have hE : dsE rs2 ((n : Nat) : Int) = 0 := by
    unfold dsE
    rw [look_at hn2]
    simp only []
    rw [if_neg (by omega)]
  have hkm : kids rs2 ((m : Nat) : Int) = [] := kids_nil h2.tr (fun x hx => by rw [hsm]; exact h2.tr.old x hx)
  have hkn : kids rs2 ((n : Nat) : Int) = [m] := by
    refine all_one (kids_nodup _) (kid_kids ?_) (fun x hx => ?_)
    · rw [kid_at hm2]; simp [Er.new]
    · refine Classical.byContradiction (fun hxm => ?_)
      have hkx := kids_kid hx
      have h9 := (kid_ser h2.tr hkx).1
      have hxn : x ≠ n := fun e9 => by rw [e9] at h9; omega
      obtain ⟨rx, hrx⟩ := kid_lv hkx
      have hrx1 : rs1[x]? = some (some rx) := by rw [← ho2 x hxn hxm]; exact hrx
      have h8 := h1.tr.old x ⟨rx, hrx1⟩
      have h7 : ser rs2 x = ser rs1 x := by rw [ser_core, ser_core, core_at hrx, core_at hrx1]
      rw [hsn, h7] at h9
      omega
  have hwk : wk rs2 17 n = [n, m] := by
    show n :: (kids rs2 ((n : Nat) : Int)).flatMap (wk rs2 16) = [n, m]
    rw [hkn]
    show n :: ([m].flatMap (wk rs2 16)) = [n, m]
    rw [List.flatMap_cons, List.flatMap_nil, List.append_nil]
    show n :: (m :: (kids rs2 ((m : Nat) : Int)).flatMap (wk rs2 15)) = [n, m]
    rw [hkm]; rfl
  refine ⟨hE, ?_, ?_⟩
  · unfold dsL
    rw [hE, if_pos rfl, Int.toNat_natCast, hwk]
  · unfold dsS
    rw [look_at hn2]
    simp only []
    rw [if_neg (by omega), Int.toNat_natCast, hwk, dsP_at (p := k) he hk2]
    have hrr : (some { ({ r with le := r.le.less (q.plus Qt.one) } : Er) with le := (r.le.less (q.plus Qt.one)).plus ((Er.new s e q).qu.plus Qt.one) } : Option Er) = some r := by
      have h9 : (r.le.less (q.plus Qt.one)).plus ((Er.new s e q).qu.plus Qt.one) = r.le := by
        refine qt_ext ?_ ?_ ?_ <;> simp only [Qt.plus, Qt.less, Qt.one, Er.new] <;> omega
      rw [h9]
    rw [hrr]
    show ((rs2.set k (some r)).set n none).set m none = rs
    refine List.ext_getElem? (fun i => ?_)
    have hl2 : rs2.length = rs.length := by rw [hcs2]; simp [hl1]
    by_cases e0 : i = m
    · subst e0
      have hmo : rs[i]? = some none := by
        rw [hcs, List.getElem?_set_ne (fun e9 => hmk e9.symm), List.getElem?_set_ne (fun e9 => hmn e9.symm)] at hnf2
        exact hnf2
      rw [List.getElem?_set_self (by simp; omega), hmo]
    · rw [List.getElem?_set_ne (fun e9 => e0 e9.symm)]
      by_cases e1 : i = n
      · subst e1
        rw [List.getElem?_set_self (by simp; omega), hnf]
      · rw [List.getElem?_set_ne (fun e9 => e1 e9.symm)]
        by_cases e2 : i = k
        · subst e2
          rw [List.getElem?_set_self (by omega), hr]
        · rw [List.getElem?_set_ne (fun e9 => e2 e9.symm), ho2 i e1 e0, hcs, List.getElem?_set_ne (fun e9 => e2 e9.symm), List.getElem?_set_ne (fun e9 => e1 e9.symm)]
end
/-- what is told, laid into a variable -/
structure Tb (w : World) (N : Nat) (cs : List Value) : Prop where
  out : w.heap[N]? = some (.cells cs.toArray 62 (0, 0))
def freshT (w : World) (cs : List Value) : World := (w.alloc (.cells zT.toArray 62)).setCells w.heap.size 0 cs
theorem freshT_tb (w : World) {cs : List Value} (h : cs.length = 352) : Tb (freshT w cs) w.heap.size cs := by
  have h9 := heap_setCells_row w.heap.size 62 cs 0 _ zT (heap_alloc_new w (.cells zT.toArray 62))
  rw [setsL_all zT cs (by rw [zT_tc.len, h])] at h9
  exact ⟨h9⟩
theorem freshT_below (w : World) (cs : List Value) : Below w.heap.size w (freshT w cs) :=
  below_setCells ((Below.refl w.heap.size w).alloc (Nat.le_refl _) _) (Nat.le_refl _) _ _
theorem Tb.lt {w : World} {N : Nat} {cs : List Value} (h : Tb w N cs) : N < w.heap.size := (Array.getElem?_eq_some_iff.1 h.out).1
theorem Tb.keep {w w' : World} {N : Nat} {cs : List Value} (h : Tb w N cs) (hk : w'.heap[N]? = w.heap[N]?) : Tb w' N cs := ⟨hk.trans h.out⟩
theorem Tb.cell {w : World} {N : Nat} {cs : List Value} (h : Tb w N cs) (j : Nat) (v : Value) (hv : cs[j]? = some v) : w.cell? ((⟨N, 0, none⟩ : Addr).add j) = some v := by
  rw [add_nat, cell_of_row _ _ _ _ _ _ h.out]; simpa using hv
theorem allocTold {ops : Array Oper} {rest : List Oper} {op : Oper} {a : Act} {w : World} {Q : Exit → Act → World → Prop} (hw : Region.wanted op (yielded ops a.tmps) = true) (ho : op.op = .alloc 62)
    (h : wpList Try.prog ops Q rest (a.put op.dst (.pointer (some ⟨w.heap.size, 0, none⟩))) (w.alloc (.cells zT.toArray 62))) : wpList Try.prog ops Q (op :: rest) a w :=
  BigFrame.wpList_want hw fun _ hK => by
    have hrun : (execOp a.eval op).run Try.prog w = .ok (.value (.pointer (some ⟨w.heap.size, 0, none⟩))) (w.alloc (.cells zT.toArray 62)) := by
      unfold execOp
      rw [ho]
      kernel_rfl
    unfold Oper.wp
    rw [hrun, Oper.upon_value]
    exact hK _ _ h
/-- a struct loaded: what the operation yields -/
theorem run_loadT {t : TypeId} {d : TypeDesc} (hu : Try.prog.underlying t = some d) (hd : (match d with | .struct _ | .array _ _ => true | _ => false) = true) (cs : List Value) (hi : (Try.prog.info? t).map (·.size) = some cs.length) {op : Oper} {a : Act} {w : World} (x : Operand) (ho : op.op = .load t x) (ad : Addr)
    (hx : a.eval x = .pointer (some ad)) (hc : ∀ (j : Nat) (v : Value), cs[j]? = some v → w.cell? (ad.add j) = some v) : (execOp a.eval op).run Try.prog w = .ok (.value (.agg cs.toArray)) w := by
  have hl : (loadCells ad cs.length).run Try.prog w = .ok cs.toArray w := run_loadCells_list w ad cs hc
  have hv : (loadVar t ad).run Try.prog w = .ok (.agg cs.toArray) w := by
    cases hq : Try.prog.info? t with
    | none => simp [hq] at hi
    | some i =>
      have hs : i.size = cs.length := by simpa [hq] using hi
      have hagg : (isAgg t).run Try.prog w = .ok true w := by
        unfold isAgg
        rw [Sem.run_bind, run_underlying hu w]
        cases d <;> simp_all
      simp [loadVar, Sem.run_bind, hagg, sizeOf, typeInfo, hq, hs, hl]
  unfold execOp
  simp only [ho, hx, Instr.loadAt, Instr.sureAddr, Sem.run_bind, Sem.run_pure, Result.andThen_ok, hv]
theorem run_eqlT {t t' : TypeId} (xs : Array Value) (hse : Se 10000 t (.agg xs)) (hm : Try.prog.eqGuardType Try.prog.depth t = false) {op : Oper} {a : Act} {w : World} (x y : Operand) (ho : op.op = .binOp .eql t x y t')
    (hx : a.eval x = .agg xs) (hy : a.eval y = .agg xs) : (execOp a.eval op).run Try.prog w = .ok (.value (.bool true)) w := by
  unfold execOp
  simp only [ho, hx, hy, Sem.run_bind, run_eqGuard_agg w .eql t x y xs xs hm, run_eql_struct, hse w, Result.andThen_ok, Sem.run_pure]
theorem run_neqT {t t' : TypeId} (xs : Array Value) (hse : Se 10000 t (.agg xs)) (hm : Try.prog.eqGuardType Try.prog.depth t = false) {op : Oper} {a : Act} {w : World} (x y : Operand) (ho : op.op = .binOp .neq t x y t')
    (hx : a.eval x = .agg xs) (hy : a.eval y = .agg xs) : (execOp a.eval op).run Try.prog w = .ok (.value (.bool false)) w := by
  unfold execOp
  simp only [ho, hx, hy, Sem.run_bind, run_eqGuard_agg w .neq t x y xs xs hm, run_neq_struct, hse w, Result.andThen_ok, Sem.run_pure, Bool.not_true]
end Go.Proofs.Ytoddadohmnaolab

namespace Go.Proofs.Ytoddadohmnaolab
open Go.ChangeShapes Go.WideShapes Go.ChangeAt Go.RowKit Go.Deep Go.Shelf Go.Great

section
variable {rs : List (Option Er)} {last : Int}
theorem fr_look (rs : List (Option Er)) (e z : Int) (on : Bool) : look (frS rs e on) z = if z = e then (look rs z).map (fun r => { r with fz := on }) else look rs z := by
  unfold frS
  cases hl : look rs e with
  | none =>
    rw [atE_none hl]
    by_cases hz : z = e
    · rw [if_pos hz, hz, hl]; rfl
    · rw [if_neg hz]
  | some r =>
    obtain ⟨k, rfl, hr⟩ := look_some hl
    rw [atE_some hl]
    by_cases hz : z = (k : Int)
    · rw [if_pos hz, hz, hl, look_nat, List.getElem?_set_self (List.getElem?_eq_some_iff.1 hr).1]; rfl
    · rw [if_neg hz]
      unfold look
      by_cases h0 : z < 0
      · rw [if_pos h0, if_pos h0]
      · rw [if_neg h0, if_neg h0, List.getElem?_set_ne (fun e9 => hz (by omega))]
theorem fr_ln (e : Int) (on : Bool) : ∀ (n : Nat) (z : Int), upF (frS rs e on) n z = upF rs n z
  | 0, _ => rfl
  | n + 1, z => by
    simp only [upF, fr_look]
    by_cases hz : z = e
    · rw [if_pos hz]
      cases look rs z with
      | none => rfl
      | some r => simp only [Option.map_some]; rw [fr_ln e on n]
    · rw [if_neg hz]
      cases look rs z with
      | none => rfl
      | some r => simp only []; rw [fr_ln e on n]
theorem fr_flg (e z : Int) (on : Bool) : flg (frS rs e on) z = if z = e ∧ look rs z ≠ none then on else flg rs z := by
  unfold flg
  rw [fr_look]
  by_cases hz : z = e
  · rw [if_pos hz]
    cases hl : look rs z with
    | none => simp
    | some r => simp [hz]
  · rw [if_neg hz, if_neg (fun h => hz h.1)]
theorem line_mem {e : Int} {l : List Int} (h : Line rs e l) {z : Int} (hz : z ∈ l) : look rs z ≠ none := by
  obtain ⟨k, r, rfl, hr⟩ := line_lives h z hz
  rw [look_at hr]; simp
/-- frozen: what ran runs on just if it isn't inside -/
theorem fr_runs (iv : Tr rs last) (e z : Int) : rn (frS (frS rs e false) e true) z = (rn (frS rs e false) z && !decide (e ∈ ln (frS (frS rs e false) e true) z)) := by
  have hA : Line rs z (ln rs z) := (ln_line iv z).1
  have e1 : ln (frS (frS rs e false) e true) z = ln rs z := by unfold ln; rw [fr_ln, fr_ln]
  have e2 : ln (frS rs e false) z = ln rs z := by unfold ln; rw [fr_ln]
  have hany : (ln rs z).any (flg (frS (frS rs e false) e true)) = (decide (e ∈ ln rs z) || (ln rs z).any (flg (frS rs e false))) := by
    rw [Bool.eq_iff_iff]
    simp only [List.any_eq_true, Bool.or_eq_true, decide_eq_true_eq]
    constructor
    · rintro ⟨y, hy, hf⟩
      by_cases hye : y = e
      · left; rw [← hye]; exact hy
      · right
        rw [fr_flg, if_neg (fun h => hye h.1)] at hf
        exact ⟨y, hy, hf⟩
    · rintro (hm | ⟨y, hy, hf⟩)
      · refine ⟨e, hm, ?_⟩
        have h8 : look (frS rs e false) e ≠ none := by
          rw [fr_look, if_pos rfl]
          intro h9
          exact line_mem hA hm (by simpa using h9)
        rw [fr_flg, if_pos ⟨rfl, h8⟩]
      · refine ⟨y, hy, ?_⟩
        rw [fr_flg]
        split
        · rfl
        · exact hf
  unfold rn
  rw [e1, e2, hany, fr_look (frS rs e false)]
  by_cases hz : z = e
  · rw [if_pos hz]
    cases look (frS rs e false) z with
    | none => simp
    | some r => simp only [Option.map_some]; cases decide (r.st = 1) <;> cases decide (e ∈ ln rs z) <;> cases (ln rs z).any (flg (frS rs e false)) <;> rfl
  · rw [if_neg hz]
    cases look (frS rs e false) z with
    | none => simp
    | some r => simp only []; cases decide (r.st = 1) <;> cases decide (e ∈ ln rs z) <;> cases (ln rs z).any (flg (frS rs e false)) <;> rfl
theorem fr_back (e : Int) : frS (frS (frS rs e false) e true) e false = frS rs e false := by
  have h : ∀ on, frS rs e on = match look rs e with | none => rs | some r => rs.set e.toNat (some { r with fz := on }) := fun on => rfl
  cases hl : look rs e with
  | none =>
    have h1 : ∀ on, frS rs e on = rs := fun on => by unfold frS; exact atE_none hl
    rw [h1, h1, h1]
  | some r =>
    obtain ⟨k, rfl, hr⟩ := look_some hl
    have hk := (List.getElem?_eq_some_iff.1 hr).1
    have h1 : frS rs (k : Int) false = rs.set k (some { r with fz := false }) := by unfold frS; rw [atE_some hl]
    have l1 : look (frS rs (k : Int) false) (k : Int) = some { r with fz := false } := by rw [fr_look, if_pos rfl, hl]; rfl
    have h2 : frS (frS rs (k : Int) false) (k : Int) true = (rs.set k (some { r with fz := false })).set k (some { r with fz := true }) := by unfold frS at l1 h1 ⊢; rw [atE_some l1, h1]
    have l2 : look (frS (frS rs (k : Int) false) (k : Int) true) (k : Int) = some { r with fz := true } := by rw [fr_look, if_pos rfl, l1]; rfl
    have h3 : frS (frS (frS rs (k : Int) false) (k : Int) true) (k : Int) false = ((rs.set k (some { r with fz := false })).set k (some { r with fz := true })).set k (some { r with fz := false }) := by
      unfold frS at l2 h2 ⊢; rw [atE_some l2, h2]
    rw [h3, h1]
    simp
def fzE (rs : List (Option Er)) (e : Int) : Int := match look rs e with | none => 90 | some _ => 0
end
section
variable {w : World} {F : Nat → Prop} {T B : Nat} {rs : List (Option Er)} {last : Int}
theorem freeze_ns (h : Ns w F T B rs last) (e : Int) (on : Bool) : Calls Try.prog 12 #[.pointer (some ⟨T, 0, none⟩), .int .i64 e, .bool on] w fun x w' => x = .returned (.int .i64 (fzE rs e)) ∧ Ns w' F T B (frS rs e on) last ∧ Mod F w w' := by
  unfold fzE
  cases hl : look rs e with
  | none =>
    rw [show frS rs e on = rs by unfold frS; exact atE_none hl]
    exact (freezeNone_any w F T rs last h.et e hl on).mono (fun x w' ⟨h1, h2⟩ => ⟨h1, by rw [h2]; exact h, by rw [h2]; exact Mod.refl _ _⟩)
  | some r =>
    obtain ⟨k, rfl, hr⟩ := look_some hl
    rw [show frS rs (k : Int) on = rs.set k (some { r with fz := on }) by unfold frS; rw [atE_some hl]]
    refine (freeze_any w F T rs last h.et k r hr on).mono (fun x w' ⟨h1, h2, h3⟩ => ⟨h1, ?_, h3⟩)
    have hq := Qu.at h.iv h.wd hr h2 h3 rfl rfl rfl rfl rfl (h.wd k r hr)
    exact ⟨h2, hq.2.2.1, hq.2.2.2.1, (h.bq.keep (h3.block B h.bq.lt h.ne)).kq hq.2.2.2.2, h.ne⟩
theorem lives_all (h : Ns w F T B rs last) (e : Int) : Calls Try.prog 14 #[.pointer (some ⟨B, 0, none⟩), .int .i64 e] w fun x w' => x = .returned (.bool (decide (fzE rs e = 0))) ∧ w' = w := by
  unfold fzE
  cases hl : look rs e with
  | none => exact lives_no h.bq e hl
  | some r =>
    obtain ⟨k, rfl, hr⟩ := look_some hl
    have := lives_any h.bq k (lv_lt h.iv.tr ⟨r, hr⟩)
    rw [show lvb rs k = true by unfold lvb; rw [core_at hr]; rfl] at this
    exact this
end
theorem below_mg {F : Nat → Prop} {w0 w1 w2 : World} (h : Below w0.heap.size w0 w1) (hF : ∀ b, F b → w0.heap.size ≤ b) (hm : Mod F w1 w2) : Below w0.heap.size w0 w2 :=
  ⟨hm.os.trans h.os, hm.tape.trans h.tape, hm.output.trans h.output, Nat.le_trans h.size hm.size, fun b hb => (hm.block b (Nat.lt_of_lt_of_le hb h.size) (fun hf => by have := hF b hf; omega)).trans (h.block b hb)⟩
theorem rn_first : rn (stS rs3 2 1 0) 2 = true := by decide +kernel
end Go.Proofs.Ytoddadohmnaolab
