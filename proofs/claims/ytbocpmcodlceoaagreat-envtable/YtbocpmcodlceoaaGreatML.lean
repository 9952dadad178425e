import Derived.Test.YtbocpmcodlceoaaGreatMF
import Derived.Test.YtbocpmcodlceoaaGreatMK
namespace Go.Proofs.YtbocpmcodlceoaaGreat
open Go.RowKit Go.Shelf

/-- sums over lists -/
theorem sum_filter (P : Nat → Bool) (g : Nat → Int) : ∀ l : List Nat, ((l.filter P).map g).sum = (l.map (fun i => if P i = true then g i else 0)).sum
  | [] => rfl
  | x :: l => by
    by_cases h : P x = true
    · rw [List.filter_cons_of_pos h]; simp only [List.map_cons, List.sum_cons, h, if_true, sum_filter P g l]
    · rw [List.filter_cons_of_neg h]; simp only [List.map_cons, List.sum_cons, if_neg h, sum_filter P g l]; omega
theorem tot_range (f : Nat → Int) : ((List.range 16).map f).sum = tot f := by
  unfold tot
  simp only [List.range, List.range.loop, List.map_cons, List.map_nil, List.sum_cons, List.sum_nil]
  omega
theorem sum_perm {a b : List Nat} (h : a.Perm b) (g : Nat → Int) : (a.map g).sum = (b.map g).sum := by
  induction h with
  | nil => rfl
  | cons x _ ih => simp only [List.map_cons, List.sum_cons, ih]
  | swap x y l => simp only [List.map_cons, List.sum_cons]; omega
  | trans _ _ h1 h2 => exact h1.trans h2
section
variable {rs : List (Option Er)} {last : Int}
theorem kids_perm (h : Tr rs last) (e : Int) : (kids rs e).Perm ((List.range 16).filter (kid rs e)) := by
  refine (List.perm_ext_iff_of_nodup (kids_nodup e) (List.Pairwise.filter _ List.nodup_range)).2 (fun k => ?_)
  rw [List.mem_filter, List.mem_range]
  exact ⟨fun hk => ⟨lv_lt h (kid_lv (kids_kid hk)), kids_kid hk⟩, fun hk => kid_kids hk.2⟩
/-- what the children carve, child by child -/
theorem kids_sum (h : Tr rs last) (s : Qt → Int) (e : Nat) : ((kids rs (e : Int)).map (fun i => s (prc rs i))).sum = tot (tm s rs e) := by
  rw [sum_perm (kids_perm h _) _, sum_filter, tot_range]
  rfl
def ps (rs : List (Option Er)) (l : List Nat) : Qt := ⟨(l.map (fun i => (prc rs i).f)).sum, (l.map (fun i => (prc rs i).e)).sum, (l.map (fun i => (prc rs i).x)).sum⟩
theorem ps_app (l m : List Nat) : ps rs (l ++ m) = (ps rs l).plus (ps rs m) := by
  unfold ps Qt.plus
  simp only [List.map_append, List.sum_append]
theorem ps_one (c : Nat) : ps rs [c] = prc rs c := by
  unfold ps
  simp
theorem ps_nn : ∀ l : List Nat, (∀ i ∈ l, (prc rs i).nn) → (ps rs l).nn
  | [], _ => ⟨Int.le_refl _, Int.le_refl _, Int.le_refl _⟩
  | c :: l, h => by
    have h1 := ps_nn l (fun i hi => h i (List.mem_cons_of_mem _ hi))
    have h2 := h c List.mem_cons_self
    have h3 : ps rs (c :: l) = (prc rs c).plus (ps rs l) := by rw [← ps_one (rs := rs) c, ← ps_app]; rfl
    rw [h3]
    obtain ⟨a1, a2, a3⟩ := h1
    obtain ⟨b1, b2, b3⟩ := h2
    exact ⟨by simp only [Qt.plus]; omega, by simp only [Qt.plus]; omega, by simp only [Qt.plus]; omega⟩
theorem ps_kids (h : Tr rs last) (e : Nat) : ps rs (kids rs (e : Int)) = cv rs e := by
  unfold ps cv
  rw [← kids_sum h Qt.f e, ← kids_sum h Qt.e e, ← kids_sum h Qt.x e]
theorem kids_at {e c : Nat} (hc : c ∈ kids rs (e : Int)) : ∃ rc, rs[c]? = some (some rc) ∧ rc.pa = (e : Int) := by
  have h1 := kids_mem.1 hc
  obtain ⟨rc, hrc⟩ := kidsU_lv h1
  refine ⟨rc, hrc, ?_⟩
  have h2 : kid rs (e : Int) c = true := by
    unfold kidsU fitK at h1
    exact (List.mem_filter.1 h1).2
  rw [kid_core, core_at hrc] at h2
  exact of_decide_eq_true h2
theorem kid_nn (h : Iv rs last) {e c : Nat} (hc : c ∈ kids rs (e : Int)) : (prc rs c).nn := by
  obtain ⟨rc, hrc, -⟩ := kids_at hc
  rw [prc_at hrc]
  obtain ⟨g1, g2, g3⟩ := good_bounds (h.q c rc hrc).good
  exact ⟨by simp only [Qt.plus, Qt.one]; omega, by simp only [Qt.plus, Qt.one]; omega, by simp only [Qt.plus, Qt.one]; omega⟩
end
theorem take_get {α : Type} {K : List α} {k : Nat} {y : α} (h : K[k]? = some y) : K.take (k + 1) = K.take k ++ [y] := by
  rw [List.take_add_one, h]; rfl
section
variable {rs : List (Option Er)} {K : List Rw} {last : Int}
/-- the children among the rows -/
def kf (n : Int) (K : List Rw) : List Nat := (K.filter (fun y => decide (y.2.pa = n))).map Prod.fst
theorem kf_app (n : Int) (K L : List Rw) : kf n (K ++ L) = kf n K ++ kf n L := by simp [kf]
theorem kf_yes {n : Int} {k a : Nat} {r : Er} (h : K[k]? = some (a, r)) (hp : r.pa = n) : kf n (K.take (k + 1)) = kf n (K.take k) ++ [a] := by
  rw [take_get h, kf_app]; simp [kf, hp]
theorem kf_no {n : Int} {k a : Nat} {r : Er} (h : K[k]? = some (a, r)) (hp : r.pa ≠ n) : kf n (K.take (k + 1)) = kf n (K.take k) := by
  rw [take_get h, kf_app]; simp [kf, hp]
theorem Ag.kids (ha : Ag rs K) (tr : Tr rs last) (n : Int) : kf n K = kids rs n := by
  refine kids_eq tr.dis ?_ ?_
  · refine (List.perm_ext_iff_of_nodup ?_ ?_).2 (fun k => ?_)
    · exact ha.nodup.sublist (List.filter_sublist.map _)
    · exact ((List.mergeSort_perm (kidsU rs n) _).nodup_iff).1 (kids_nodup n)
    · rw [← kids_mem]
      constructor
      · intro hk
        obtain ⟨⟨a, r⟩, hy, rfl⟩ := List.mem_map.1 hk
        obtain ⟨h1, h2⟩ := List.mem_filter.1 hy
        have hr := (ha.mem a r).1 h1
        exact kid_kids (by rw [kid_at hr]; exact h2)
      · intro hk
        obtain ⟨r, hr, hp⟩ := kid_of (kids_kid hk)
        exact List.mem_map.2 ⟨(k, r), List.mem_filter.2 ⟨(ha.mem k r).2 hr, by simpa using hp⟩, rfl⟩
  · unfold kf
    rw [List.pairwise_map]
    refine (ha.srt.sublist List.filter_sublist).imp_of_mem (fun {a b} h1 h2 hab => ?_)
    have e1 := ser_at ((ha.mem a.1 a.2).1 (List.mem_filter.1 h1).1)
    have e2 := ser_at ((ha.mem b.1 b.2).1 (List.mem_filter.1 h2).1)
    rw [e1, e2]
    exact Int.le_of_lt hab
/-- what is left, some children taken off -/
def lq (rs : List (Option Er)) (r : Er) (l : List Nat) : Qt := (r.qu.less r.pd).less (ps rs l)
theorem lq_nil (r : Er) : lq rs r [] = r.qu.less r.pd := by
  unfold lq ps Qt.less; simp
theorem lq_step {r rc : Er} {l : List Nat} {c : Nat} (hrc : rs[c]? = some (some rc)) : lq rs r (l ++ [c]) = ⟨((lq rs r l).less rc.qu).f, ((lq rs r l).less rc.qu).e - 1, ((lq rs r l).less rc.qu).x⟩ := by
  unfold lq
  rw [ps_app, ps_one, prc_at hrc]
  unfold Qt.less Qt.plus Qt.one
  simp only [Qt.mk.injEq]
  exact ⟨by omega, by omega, by omega⟩
theorem lq_all (iv : Iv rs last) {n : Nat} {r : Er} (hr : rs[n]? = some (some r)) : lq rs r (Go.Proofs.YtbocpmcodlceoaaGreat.kids rs (n : Int)) = r.le := by
  obtain ⟨p1, p2, p3⟩ := (iv.q n r hr).parts
  unfold lq
  rw [ps_kids iv.tr]
  unfold Qt.less
  cases hle : r.le with
  | mk a b c =>
    rw [hle] at p1 p2 p3
    simp only [Qt.mk.injEq]
    simp only at p1 p2 p3
    exact ⟨by omega, by omega, by omega⟩
theorem lq_bnd (iv : Iv rs last) {n : Nat} {r : Er} (hr : rs[n]? = some (some r)) {l m : List Nat} (hk : Go.Proofs.YtbocpmcodlceoaaGreat.kids rs (n : Int) = l ++ m) : (0 ≤ (lq rs r l).f ∧ (lq rs r l).f ≤ 4611686018427387903) ∧ (0 ≤ (lq rs r l).e ∧ (lq rs r l).e ≤ 4611686018427387903) ∧ (0 ≤ (lq rs r l).x ∧ (lq rs r l).x ≤ 4611686018427387903) := by
  have hq := iv.q n r hr
  obtain ⟨p1, p2, p3⟩ := hq.parts
  obtain ⟨g1, g2, g3⟩ := good_bounds hq.good
  obtain ⟨b1, b2, b3⟩ := hq.le
  obtain ⟨a1, a2, a3⟩ := hq.pd
  have hs := ps_kids iv.tr n
  rw [hk, ps_app] at hs
  obtain ⟨c1, c2, c3⟩ := ps_nn (rs := rs) l (fun c hc => kid_nn iv (e := n) (by rw [hk]; exact List.mem_append_left _ hc))
  obtain ⟨d1, d2, d3⟩ := ps_nn (rs := rs) m (fun c hc => kid_nn iv (e := n) (by rw [hk]; exact List.mem_append_right _ hc))
  have e1 : (ps rs l).f + (ps rs m).f = (cv rs n).f := congrArg Qt.f hs
  have e2 : (ps rs l).e + (ps rs m).e = (cv rs n).e := congrArg Qt.e hs
  have e3 : (ps rs l).x + (ps rs m).x = (cv rs n).x := congrArg Qt.x hs
  unfold lq Qt.less
  refine ⟨⟨?_, ?_⟩, ⟨?_, ?_⟩, ⟨?_, ?_⟩⟩ <;> simp only <;> omega
theorem kf_split (ha : Ag rs K) (tr : Tr rs last) (n : Int) (k : Nat) : Go.Proofs.YtbocpmcodlceoaaGreat.kids rs n = kf n (K.take k) ++ kf n (K.drop k) := by
  rw [← kf_app, List.take_append_drop, ha.kids tr]
end
end Go.Proofs.YtbocpmcodlceoaaGreat

namespace Go.Proofs.YtbocpmcodlceoaaGreat
open Go.ChangeShapes Go.WideShapes Go.ChangeAt Go.RowKit Go.Deep

def qtL (q : Qt) : List Value := [.int .i64 q.f, .int .i64 q.e, .int .i64 q.x]
theorem qtL_len (q : Qt) : (qtL q).length = 3 := rfl
theorem qtL_one (q : Qt) : ∀ u ∈ qtL q, u.oneCell' = true := by
  intro u hu
  simp [qtL] at hu
  rcases hu with rfl | rfl | rfl <;> rfl
theorem infoQ : (Tryz.prog.info? 30).map (·.size) = some 3 := by kernel_rfl
theorem wp_loadT {t : TypeId} {d : TypeDesc} (hu : Tryz.prog.underlying t = some d) (hd : (match d with | .struct _ | .array _ _ => true | _ => false) = true) (cs : List Value) (hi : (Tryz.prog.info? t).map (·.size) = some cs.length) {op : Oper} {a : Act} {w : World} {K : Act → World → Prop} {Q : Exit → Act → World → Prop} (x : Operand) (ho : op.op = .load t x) (ad : Addr)
    (hx : a.eval x = .pointer (some ad)) (hc : ∀ (j : Nat) (v : Value), cs[j]? = some v → w.cell? (ad.add j) = some v) (h : K (a.put op.dst (.agg cs.toArray)) w) : op.wp Tryz.prog a w K Q := by
  unfold Oper.wp
  rw [run_loadT hu hd cs hi x ho ad hx hc]
  exact h
theorem wp_storeT {t : TypeId} (vs : List Value) (hi : (Tryz.prog.info? t).map (·.size) = some vs.length) (h1 : ∀ u ∈ vs, u.oneCell' = true) {op : Oper} {a : Act} {w : World} {K : Act → World → Prop} {Q : Exit → Act → World → Prop} (x y : Operand) (ho : op.op = .store t x y) (N o : Nat)
    (hx : a.eval x = .pointer (some ⟨N, o, none⟩)) (hy : a.eval y = .agg vs.toArray) (ht : w.there N o vs.length) (h : K (a.put op.dst undef) (w.setCells N o vs)) : op.wp Tryz.prog a w K Q :=
  wp_store_mid t x y ho N o vs.toArray hx hy (by rw [List.size_toArray]; exact ht) (by rw [List.size_toArray]; exact hi) (all_oneCell_toArray h1) h
theorem there_row {w : World} {N t : Nat} {cs : List Value} (h : w.heap[N]? = some (.cells cs.toArray t (0, 0))) {n : Nat} (hn : n ≤ cs.length) : w.there N 0 n := fun j hj => by
  refine ⟨?_, frozen_of_row _ _ _ _ _ h⟩
  rw [cell_of_row _ _ _ _ _ _ h]
  have : j < cs.length := by omega
  simp [this]
theorem qt_set {w : World} {N : Nat} {p q : Qt} (h : w.heap[N]? = some (.cells #[.int .i64 p.f, .int .i64 p.e, .int .i64 p.x] 30 (0, 0))) : (w.setCells N 0 (qtL q)).heap[N]? = some (.cells #[.int .i64 q.f, .int .i64 q.e, .int .i64 q.x] 30 (0, 0)) :=
  heap_setCells_row N 30 (qtL q) 0 w (qtL p) h
theorem qcell {x : Rw} {o : Nat} {q : Qt} (h0 : (encW1 x)[o]? = some (.int .i64 q.f)) (h1 : (encW1 x)[o + 1]? = some (.int .i64 q.e)) (h2 : (encW1 x)[o + 2]? = some (.int .i64 q.x)) (j : Nat) (v : Value) (hv : (qtL q)[j]? = some v) : (encW1 x)[o + j]? = some v := by
  match j with
  | 0 => exact h0.trans hv
  | 1 => exact h1.trans hv
  | 2 => exact h2.trans hv
  | j + 3 => simp [qtL] at hv
theorem wrap64 (z : Int) (h1 : -9223372036854775808 ≤ z) (h2 : z ≤ 9223372036854775807) : IntKind.i64.wrap z = z := by
  simp [IntKind.wrap, IntKind.signed, IntKind.bits]; omega
section
variable {w : World} {R : Nat} {v : Value} {K : List Rw} {last : Int} {rs : List (Option Er)} {F : Nat → Prop}
theorem rt_cell {g L c k j : Nat} {x : Rw} {u : Value} (h : RtAt w R (.slice (some ⟨g, 0, none⟩) L c) K last) (hx : K[k]? = some x) (hj : (encW1 x)[j]? = some u) : w.cell? ⟨g, k * 25 + j, none⟩ = some u := by
  obtain ⟨g', c', hv, hrow⟩ := h.at hx
  have := hrow j u hj
  cases hv
  exact this
theorem rt_cell0 {g L c k : Nat} {x : Rw} (h : RtAt w R (.slice (some ⟨g, 0, none⟩) L c) K last) (hx : K[k]? = some x) : w.cell? ⟨g, k * 25, none⟩ = some (.int .i64 (x.1 : Int)) := by
  have := rt_cell h hx (j := 0) (u := .int .i64 (x.1 : Int)) rfl
  rwa [Nat.add_zero] at this
theorem rt_q {g L c k o : Nat} {x : Rw} {cs : List Value} (h : RtAt w R (.slice (some ⟨g, 0, none⟩) L c) K last) (hx : K[k]? = some x) (hj : ∀ (j : Nat) (v : Value), cs[j]? = some v → (encW1 x)[o + j]? = some v) (j : Nat) (v : Value) (hv : cs[j]? = some v) : w.cell? ((⟨g, k * 25 + o, none⟩ : Addr).add j) = some v := by
  rw [add_off, Nat.add_assoc]
  exact rt_cell h hx (hj j v hv)
set_option maxRecDepth 8000 in
set_option maxHeartbeats 1600000 in
/-- what is left, added up -/
theorem leftD_any (h : RtAt w R v K last) (ha : Ag rs K) (iv : Iv rs last) {i n : Nat} {r : Er} (hi : K[i]? = some (n, r)) : Calls Tryz.prog 61 #[tp R, .int .i64 (i : Int)] w fun x w' => x = .returned r.le.val ∧ Below w.heap.size w w' := by
  have hr := (ha.mem n r).1 (List.mem_of_getElem? hi)
  have hkl := ha.len iv.tr.len
  obtain ⟨g, c, hv, -⟩ := h.at hi
  have hil := (List.getElem?_eq_some_iff.1 hi).1
  obtain ⟨L, hL⟩ : ∃ L, K.length = L := ⟨_, rfl⟩
  rw [hL] at hv hkl hil
  have hii : (i : Int) < (L : Int) := by omega
  subst hv
  have hb1 := (Below.refl w.heap.size w).alloc (Nat.le_refl _) (.cells #[.int .i64 0, .int .i64 0, .int .i64 0] 30)
  have HRt : Hid (∀ W, Below w.heap.size w W → RtAt W R (.slice (some ⟨g, 0, none⟩) L c) K last) := hide (fun W hW => h.below hW)
  have HRt1 := hide (h.below hb1)
  have HA1 := hide (heap_alloc_new w (.cells #[.int .i64 0, .int .i64 0, .int .i64 0] 30))
  have HB1 := hide hb1
  have HIx := hide hi
  have HL := hide hL
  have HLs := hide (fun W => lessD_any W r.qu r.pd (iv.oks hr).2.2 (iv.oks hr).2.1)
  have HQ0 : Hid (r.qu.less r.pd = lq rs r (kf (n : Int) (K.take 0))) := hide (lq_nil r).symm
  have HQL : Hid (lq rs r (kf (n : Int) (K.take L)) = r.le) := hide (by rw [List.take_of_length_le (by omega), ha.kids iv.tr]; exact lq_all iv hr)
  have HBn : Hid (∀ k, (0 ≤ (lq rs r (kf (n : Int) (K.take k))).f ∧ (lq rs r (kf (n : Int) (K.take k))).f ≤ 4611686018427387903) ∧ (0 ≤ (lq rs r (kf (n : Int) (K.take k))).e ∧ (lq rs r (kf (n : Int) (K.take k))).e ≤ 4611686018427387903) ∧ (0 ≤ (lq rs r (kf (n : Int) (K.take k))).x ∧ (lq rs r (kf (n : Int) (K.take k))).x ≤ 4611686018427387903)) := hide (fun k => lq_bnd iv hr (kf_split ha iv.tr (n : Int) k))
  have HIv := hide iv
  have HAg := hide ha
  clear h ha iv hi hr hL hb1
  go_enter Tryz.func61, Tryz.ntmps61
  go_upto_region 1 with fail
  show Code.wp _ _ _ _ (w.alloc (.cells #[.int .i64 0, .int .i64 0, .int .i64 0] 30))
  generalize w.alloc (.cells #[.int .i64 0, .int .i64 0, .int .i64 0] 30) = w1 at *
  obtain ⟨A, hA⟩ : ∃ A, w.heap.size = A := ⟨_, rfl⟩
  rw [hA] at HA1 ⊢
  have HAA : Hid (w.heap.size ≤ A) := hide (Nat.le_of_eq hA)
  clear hA
  refine wp_region_held_drew (S := fun W : World => RtAt W R (.slice (some ⟨g, 0, none⟩) L c) K last) (by kernel_rfl) (HRt1.out.below (below_drew _)) (fun _ => ?_)
  generalize hw2 : w1.drew = w2
  have hb2 : Below w1.heap.size w1 w2 := by rw [← hw2]; exact below_drew _
  have HRt2 := hide (HRt1.out.below hb2)
  have HA2 := hide ((hb2.block A (Array.getElem?_eq_some_iff.1 HA1.out).1).trans HA1.out)
  have HB2 := hide (HB1.out.trans (hb2.mono HB1.out.size))
  clear hw2 hb2 HRt1 HA1 HB1
  refine hd_take 0 (o := ⟨some 7, _, _, _, _, _⟩) (.pointer (some ⟨R, 0, none⟩)) (by kernel_rfl) (by kernel_rfl) (by kernel_rfl) rfl (by rfl) (fun W hSw => by go_simp) (fun _ _ _ h => h) HRt2.out ?_
  simp only [Act.put, List.setIfInBounds_toArray, List.set_cons_zero, List.set_cons_succ]
  refine hd_take 1 (o := ⟨some 8, _, _, _, _, _⟩) (.pointer (some ⟨R, 0, none⟩)) (by kernel_rfl) (by kernel_rfl) (by kernel_rfl) rfl (by rfl) (fun W hSw => by go_simp) (fun _ _ _ h => h) HRt2.out ?_
  simp only [Act.put, List.setIfInBounds_toArray, List.set_cons_zero, List.set_cons_succ]
  refine hd_take 2 (o := ⟨some 9, _, _, _, _, _⟩) (.pointer (some ⟨R, 0, none⟩)) (by kernel_rfl) (by kernel_rfl) (by kernel_rfl) rfl (by rfl) (fun W hSw => by go_simp) (fun _ _ _ h => h) HRt2.out ?_
  simp only [Act.put, List.setIfInBounds_toArray, List.set_cons_zero, List.set_cons_succ]
  refine hd_take 3 (o := ⟨some 10, _, _, _, _, _⟩) (.slice (some ⟨g, 0, none⟩) L c) (by kernel_rfl) (by kernel_rfl) (by kernel_rfl) rfl (by rfl) (fun W hSw => by have s1 := hSw.rowc; go_simp) (fun _ _ _ h => h) HRt2.out ?_
  simp only [Act.put, List.setIfInBounds_toArray, List.set_cons_zero, List.set_cons_succ]
  refine hd_take 4 (o := ⟨some 11, _, _, _, _, _⟩) (.int .i64 (i : Int)) (by kernel_rfl) (by kernel_rfl) (by kernel_rfl) rfl (by rfl) (fun W hSw => by go_simp) (fun _ _ _ h => h) HRt2.out ?_
  simp only [Act.put, List.setIfInBounds_toArray, List.set_cons_zero, List.set_cons_succ]
  refine hd_take 5 (o := ⟨some 12, _, _, _, _, _⟩) (.pointer (some ⟨g, i * 25, none⟩)) (by kernel_rfl) (by kernel_rfl) (by kernel_rfl) rfl (by rfl) (fun W hSw => by go_simp) (fun _ _ _ h => h) HRt2.out ?_
  simp only [Act.put, List.setIfInBounds_toArray, List.set_cons_zero, List.set_cons_succ]
  refine hd_take 6 (o := ⟨some 13, _, _, _, _, _⟩) (.pointer (some ⟨g, i * 25 + 1, none⟩)) (by kernel_rfl) (by kernel_rfl) (by kernel_rfl) rfl (by rfl) (fun W hSw => by go_simp) (fun _ _ _ h => h) HRt2.out ?_
  simp only [Act.put, List.setIfInBounds_toArray, List.set_cons_zero, List.set_cons_succ]
  refine hd_take 7 (o := ⟨some 14, _, _, _, _, _⟩) (.pointer (some ⟨g, i * 25 + 16, none⟩)) (by kernel_rfl) (by kernel_rfl) (by kernel_rfl) rfl (by rfl) (fun W hSw => by go_simp) (fun _ _ _ h => h) HRt2.out ?_
  simp only [Act.put, List.setIfInBounds_toArray, List.set_cons_zero, List.set_cons_succ]
  refine hd_take 8 (o := ⟨some 15, _, _, _, _, _⟩) (r.qu.val) (by kernel_rfl) (by kernel_rfl) (by kernel_rfl) rfl (by rfl) (fun W hSw => by exact run_loadT Tryz.underlying30 rfl (qtL r.qu) infoQ _ rfl ⟨g, i * 25 + 16, none⟩ rfl (rt_q hSw HIx.out (qcell rfl rfl rfl))) (fun _ _ _ h => h) HRt2.out ?_
  simp only [Act.put, List.setIfInBounds_toArray, List.set_cons_zero, List.set_cons_succ]
  refine hd_take 9 (o := ⟨some 16, _, _, _, _, _⟩) (.pointer (some ⟨R, 0, none⟩)) (by kernel_rfl) (by kernel_rfl) (by kernel_rfl) rfl (by rfl) (fun W hSw => by go_simp) (fun _ _ _ h => h) HRt2.out ?_
  simp only [Act.put, List.setIfInBounds_toArray, List.set_cons_zero, List.set_cons_succ]
  refine hd_take 10 (o := ⟨some 17, _, _, _, _, _⟩) (.pointer (some ⟨R, 0, none⟩)) (by kernel_rfl) (by kernel_rfl) (by kernel_rfl) rfl (by rfl) (fun W hSw => by go_simp) (fun _ _ _ h => h) HRt2.out ?_
  simp only [Act.put, List.setIfInBounds_toArray, List.set_cons_zero, List.set_cons_succ]
  refine hd_take 11 (o := ⟨some 18, _, _, _, _, _⟩) (.pointer (some ⟨R, 0, none⟩)) (by kernel_rfl) (by kernel_rfl) (by kernel_rfl) rfl (by rfl) (fun W hSw => by go_simp) (fun _ _ _ h => h) HRt2.out ?_
  simp only [Act.put, List.setIfInBounds_toArray, List.set_cons_zero, List.set_cons_succ]
  refine hd_take 12 (o := ⟨some 19, _, _, _, _, _⟩) (.slice (some ⟨g, 0, none⟩) L c) (by kernel_rfl) (by kernel_rfl) (by kernel_rfl) rfl (by rfl) (fun W hSw => by have s1 := hSw.rowc; go_simp) (fun _ _ _ h => h) HRt2.out ?_
  simp only [Act.put, List.setIfInBounds_toArray, List.set_cons_zero, List.set_cons_succ]
  refine hd_take 13 (o := ⟨some 20, _, _, _, _, _⟩) (.int .i64 (i : Int)) (by kernel_rfl) (by kernel_rfl) (by kernel_rfl) rfl (by rfl) (fun W hSw => by go_simp) (fun _ _ _ h => h) HRt2.out ?_
  simp only [Act.put, List.setIfInBounds_toArray, List.set_cons_zero, List.set_cons_succ]
  refine hd_take 14 (o := ⟨some 21, _, _, _, _, _⟩) (.pointer (some ⟨g, i * 25, none⟩)) (by kernel_rfl) (by kernel_rfl) (by kernel_rfl) rfl (by rfl) (fun W hSw => by go_simp) (fun _ _ _ h => h) HRt2.out ?_
  simp only [Act.put, List.setIfInBounds_toArray, List.set_cons_zero, List.set_cons_succ]
  refine hd_take 15 (o := ⟨some 22, _, _, _, _, _⟩) (.pointer (some ⟨g, i * 25 + 22, none⟩)) (by kernel_rfl) (by kernel_rfl) (by kernel_rfl) rfl (by rfl) (fun W hSw => by go_simp) (fun _ _ _ h => h) HRt2.out ?_
  simp only [Act.put, List.setIfInBounds_toArray, List.set_cons_zero, List.set_cons_succ]
  refine hd_take 16 (o := ⟨some 23, _, _, _, _, _⟩) (r.pd.val) (by kernel_rfl) (by kernel_rfl) (by kernel_rfl) rfl (by rfl) (fun W hSw => by exact run_loadT Tryz.underlying30 rfl (qtL r.pd) infoQ _ rfl ⟨g, i * 25 + 22, none⟩ rfl (rt_q hSw HIx.out (qcell rfl rfl rfl))) (fun _ _ _ h => h) HRt2.out ?_
  simp only [Act.put, List.setIfInBounds_toArray, List.set_cons_zero, List.set_cons_succ]
  refine hd_both 17 18 (o1 := ⟨some 24, _, _, _, _, _⟩) (o2 := ⟨some 5, _, _, _, _, _⟩) (by kernel_rfl) rfl rfl (by rfl) (by rfl) (fun K' hK => ?_) (fun K' hK => ?_)
  · skip
    go_simp
    go_wp2_with (go_at_call 71; refine (HLs.out w2).mono ?_; rintro e1 w3 ⟨rfl, hb3⟩)
    have HRt3 := hide (HRt2.out.below hb3)
    have HB3 := hide (HB2.out.trans (hb3.mono HB2.out.size))
    have HA3 := hide ((hb3.block A (Array.getElem?_eq_some_iff.1 HA2.out).1).trans HA2.out)
    clear hb3
    refine hK _ _ HRt3.out ?_
    clear hK K'
    try simp only [Act.put, List.setIfInBounds_toArray, List.set_cons_zero, List.set_cons_succ]
    have hb4 := (Below.refl w3.heap.size w3).alloc (Nat.le_refl _) (.cells #[.int .i64 0, .int .i64 0, .int .i64 0] 30)
    have HRt4 := hide (HRt3.out.below hb4)
    have HN4 := hide (heap_alloc_new w3 (.cells #[.int .i64 0, .int .i64 0, .int .i64 0] 30))
    have hb5 := below_setCells hb4 (Nat.le_refl w3.heap.size) 0 (qtL (r.qu.less r.pd))
    have HRt5 := hide (HRt3.out.below hb5)
    have HB5 := hide (HB3.out.trans (hb5.mono HB3.out.size))
    have HA5 := hide ((hb5.block A (Array.getElem?_eq_some_iff.1 HA3.out).1).trans HA3.out)
    have HQN := hide (qt_set (p := Qt.zero) (q := r.qu.less r.pd) HN4.out)
    have HNEQ : Hid (w3.heap.size ≠ A) := hide (fun e => by have := (Array.getElem?_eq_some_iff.1 HA3.out).1; omega)
    have HNLE : Hid (w.heap.size ≤ w3.heap.size) := hide HB3.out.size
    clear hb4 hb5
    refine hd_call 18 (o := ⟨some 5, _, _, _, _, _⟩) (by kernel_rfl) rfl (by rfl) (fun K' hK => ?_)
    go_simp
    refine hK _ _ HRt4.out ?_
    clear hK K'
    try simp only [Act.put, List.setIfInBounds_toArray, List.set_cons_zero, List.set_cons_succ]
    refine hd_call 19 (o := ⟨none, _, _, _, _, _⟩) (by kernel_rfl) rfl (by rfl) (fun K' hK => ?_)
    refine wp_storeT (t := 30) (qtL (r.qu.less r.pd)) infoQ (qtL_one _) _ _ rfl w3.heap.size 0 rfl rfl (there_row HN4.out (Nat.le_refl 3)) ?_
    refine hK _ _ HRt5.out ?_
    clear hK K'
    try simp only [Act.put]
    refine wpAnyH_done (by kernel_rfl) ?_ _
    have HQ0' : Hid (((w3.alloc (.cells #[.int .i64 0, .int .i64 0, .int .i64 0] 30)).setCells w3.heap.size 0 (qtL (r.qu.less r.pd))).heap[w3.heap.size]? = some (.cells #[.int .i64 (r.qu.less r.pd).f, .int .i64 (r.qu.less r.pd).e, .int .i64 (r.qu.less r.pd).x] 30 (0, 0))) := HQN
    clear HQN HRt3 HRt4 HN4 HA3 HB3 HRt2 HA2 HB2 HLs
    have HNA : Hid (w3.heap.size ≠ A) := HNEQ
    have HNw : Hid (w.heap.size ≤ w3.heap.size) := HNLE
    clear HNEQ HNLE
    generalize (w3.alloc (.cells #[.int .i64 0, .int .i64 0, .int .i64 0] 30)).setCells w3.heap.size 0 (qtL (r.qu.less r.pd)) = w6 at *
    generalize hN : w3.heap.size = N at *
    rw [HQ0.out] at HQ0'
    clear hN HQ0
    go_upto_region 3 with fail
    go_loopw [6] (fun x wr => ∃ k : Nat, k ≤ L ∧ x = .int .i64 (k : Int) ∧ Hid (wr.heap[N]? = some (.cells #[.int .i64 (lq rs r (kf (n : Int) (K.take k))).f, .int .i64 (lq rs r (kf (n : Int) (K.take k))).e, .int .i64 (lq rs r (kf (n : Int) (K.take k))).x] 30 (0, 0))) ∧ Hid (wr.heap[A]? = some (.cells #[.int .i64 0, .int .i64 0, .int .i64 0] 30 (0, 0))) ∧ Hid (Below w.heap.size w wr) ∧ Hid (RtAt wr R (.slice (some ⟨g, 0, none⟩) L c) K last)) (fun x _ => L - (intOf x).toNat)
    case atStart => exact ⟨0, by omega, rfl, HQ0', HA5, HB5, HRt5⟩
    case round =>
    clear HQ0' HA5 HB5 HRt5
    obtain ⟨k, hk, rfl, HQ6, HA6, HB6, HRt6⟩ := hrel
    have c16 := HRt6.out.rowc
    by_cases hlt : k < L
    · have hd : decide ((k : Int) < (L : Int)) = true := by simp; omega
      have hki : (k : Int) < (L : Int) := by omega
      obtain ⟨⟨yn, yr⟩, hy⟩ : ∃ y, K[k]? = some y := ⟨_, List.getElem?_eq_getElem (by rw [HL.out]; exact hlt)⟩
      have HY := hide hy
      have hyr := (HAg.out.mem yn yr).1 (List.mem_of_getElem? hy)
      obtain ⟨q, hq⟩ : ∃ q, lq rs r (kf (n : Int) (K.take k)) = q := ⟨_, rfl⟩
      have hbq := HBn.out k
      have hbq' := HBn.out (k + 1)
      rw [hq] at HQ6 hbq
      have HL2 : Hid (∀ W, Calls Tryz.prog 71 #[q.val, yr.qu.val] W fun e w' => e = .returned (q.less yr.qu).val ∧ Below W.heap.size W w') := hide (fun W => lessD_any W q yr.qu (by unfold Qt.ok; omega) (HIv.out.oks hyr).2.2)
      go_upto_region 5 with fail
      clear c16
      refine wp_region_held_drew (S := fun W : World => RtAt W R (.slice (some ⟨g, 0, none⟩) L c) K last) (by kernel_rfl) (HRt6.out.below (below_drew _)) (fun _ => ?_)
      generalize hw7 : wr.drew = w7
      have hb7 : Below wr.heap.size wr w7 := by rw [← hw7]; exact below_drew _
      have HRt7 := hide (HRt6.out.below hb7)
      have HA7 := hide ((hb7.block A (Array.getElem?_eq_some_iff.1 HA6.out).1).trans HA6.out)
      have HQ7 := hide ((hb7.block N (Array.getElem?_eq_some_iff.1 HQ6.out).1).trans HQ6.out)
      have HB7 := hide (HB6.out.trans (hb7.mono HB6.out.size))
      clear hw7 hb7 HRt6 HA6 HQ6 HB6
      by_cases hp : yr.pa = (n : Int)
      · have hpb : (yr.pa == (n : Int)) = true := by simp [hp]
        have HNext : Hid (lq rs r (kf (n : Int) (K.take (k + 1))) = ⟨(q.less yr.qu).f, (q.less yr.qu).e - 1, (q.less yr.qu).x⟩) := hide (by rw [kf_yes hy hp, lq_step hyr, hq])
        have HBq := hide hbq'
        clear hy hyr hq hbq hbq' hp
        refine hd_take 0 (o := ⟨some 34, _, _, _, _, _⟩) (.pointer (some ⟨R, 0, none⟩)) (by kernel_rfl) (by kernel_rfl) (by kernel_rfl) rfl (by rfl) (fun W hSw => by go_simp) (fun _ _ _ h => h) HRt7.out ?_
        simp only [Act.put, List.setIfInBounds_toArray, List.set_cons_zero, List.set_cons_succ]
        refine hd_take 1 (o := ⟨some 35, _, _, _, _, _⟩) (.pointer (some ⟨R, 0, none⟩)) (by kernel_rfl) (by kernel_rfl) (by kernel_rfl) rfl (by rfl) (fun W hSw => by go_simp) (fun _ _ _ h => h) HRt7.out ?_
        simp only [Act.put, List.setIfInBounds_toArray, List.set_cons_zero, List.set_cons_succ]
        refine hd_take 2 (o := ⟨some 36, _, _, _, _, _⟩) (.pointer (some ⟨R, 0, none⟩)) (by kernel_rfl) (by kernel_rfl) (by kernel_rfl) rfl (by rfl) (fun W hSw => by go_simp) (fun _ _ _ h => h) HRt7.out ?_
        simp only [Act.put, List.setIfInBounds_toArray, List.set_cons_zero, List.set_cons_succ]
        refine hd_take 3 (o := ⟨some 37, _, _, _, _, _⟩) (.slice (some ⟨g, 0, none⟩) L c) (by kernel_rfl) (by kernel_rfl) (by kernel_rfl) rfl (by rfl) (fun W hSw => by have s1 := hSw.rowc; go_simp) (fun _ _ _ h => h) HRt7.out ?_
        simp only [Act.put, List.setIfInBounds_toArray, List.set_cons_zero, List.set_cons_succ]
        refine hd_take 4 (o := ⟨some 38, _, _, _, _, _⟩) (.int .i64 (k : Int)) (by kernel_rfl) (by kernel_rfl) (by kernel_rfl) rfl (by rfl) (fun W hSw => by go_simp) (fun _ _ _ h => h) HRt7.out ?_
        simp only [Act.put, List.setIfInBounds_toArray, List.set_cons_zero, List.set_cons_succ]
        refine hd_take 5 (o := ⟨some 39, _, _, _, _, _⟩) (.pointer (some ⟨g, k * 25, none⟩)) (by kernel_rfl) (by kernel_rfl) (by kernel_rfl) rfl (by rfl) (fun W hSw => by go_simp) (fun _ _ _ h => h) HRt7.out ?_
        simp only [Act.put, List.setIfInBounds_toArray, List.set_cons_zero, List.set_cons_succ]
        refine hd_take 6 (o := ⟨some 40, _, _, _, _, _⟩) (.pointer (some ⟨g, k * 25 + 1, none⟩)) (by kernel_rfl) (by kernel_rfl) (by kernel_rfl) rfl (by rfl) (fun W hSw => by go_simp) (fun _ _ _ h => h) HRt7.out ?_
        simp only [Act.put, List.setIfInBounds_toArray, List.set_cons_zero, List.set_cons_succ]
        refine hd_take 7 (o := ⟨some 41, _, _, _, _, _⟩) (.pointer (some ⟨g, k * 25 + 2, none⟩)) (by kernel_rfl) (by kernel_rfl) (by kernel_rfl) rfl (by rfl) (fun W hSw => by go_simp) (fun _ _ _ h => h) HRt7.out ?_
        simp only [Act.put, List.setIfInBounds_toArray, List.set_cons_zero, List.set_cons_succ]
        refine hd_take 8 (o := ⟨some 42, _, _, _, _, _⟩) (.int .i64 yr.pa) (by kernel_rfl) (by kernel_rfl) (by kernel_rfl) rfl (by rfl) (fun W hSw => by have s1 := rt_cell hSw HY.out (j := 2) rfl; go_simp) (fun _ _ _ h => h) HRt7.out ?_
        simp only [Act.put, List.setIfInBounds_toArray, List.set_cons_zero, List.set_cons_succ]
        refine hd_take 9 (o := ⟨some 43, _, _, _, _, _⟩) (.pointer (some ⟨R, 0, none⟩)) (by kernel_rfl) (by kernel_rfl) (by kernel_rfl) rfl (by rfl) (fun W hSw => by go_simp) (fun _ _ _ h => h) HRt7.out ?_
        simp only [Act.put, List.setIfInBounds_toArray, List.set_cons_zero, List.set_cons_succ]
        refine hd_take 10 (o := ⟨some 44, _, _, _, _, _⟩) (.pointer (some ⟨R, 0, none⟩)) (by kernel_rfl) (by kernel_rfl) (by kernel_rfl) rfl (by rfl) (fun W hSw => by go_simp) (fun _ _ _ h => h) HRt7.out ?_
        simp only [Act.put, List.setIfInBounds_toArray, List.set_cons_zero, List.set_cons_succ]
        refine hd_take 11 (o := ⟨some 45, _, _, _, _, _⟩) (.pointer (some ⟨R, 0, none⟩)) (by kernel_rfl) (by kernel_rfl) (by kernel_rfl) rfl (by rfl) (fun W hSw => by go_simp) (fun _ _ _ h => h) HRt7.out ?_
        simp only [Act.put, List.setIfInBounds_toArray, List.set_cons_zero, List.set_cons_succ]
        refine hd_take 12 (o := ⟨some 46, _, _, _, _, _⟩) (.slice (some ⟨g, 0, none⟩) L c) (by kernel_rfl) (by kernel_rfl) (by kernel_rfl) rfl (by rfl) (fun W hSw => by have s1 := hSw.rowc; go_simp) (fun _ _ _ h => h) HRt7.out ?_
        simp only [Act.put, List.setIfInBounds_toArray, List.set_cons_zero, List.set_cons_succ]
        refine hd_take 13 (o := ⟨some 47, _, _, _, _, _⟩) (.int .i64 (i : Int)) (by kernel_rfl) (by kernel_rfl) (by kernel_rfl) rfl (by rfl) (fun W hSw => by go_simp) (fun _ _ _ h => h) HRt7.out ?_
        simp only [Act.put, List.setIfInBounds_toArray, List.set_cons_zero, List.set_cons_succ]
        refine hd_take 14 (o := ⟨some 48, _, _, _, _, _⟩) (.pointer (some ⟨g, i * 25, none⟩)) (by kernel_rfl) (by kernel_rfl) (by kernel_rfl) rfl (by rfl) (fun W hSw => by go_simp) (fun _ _ _ h => h) HRt7.out ?_
        simp only [Act.put, List.setIfInBounds_toArray, List.set_cons_zero, List.set_cons_succ]
        refine hd_take 15 (o := ⟨some 49, _, _, _, _, _⟩) (.pointer (some ⟨g, i * 25, none⟩)) (by kernel_rfl) (by kernel_rfl) (by kernel_rfl) rfl (by rfl) (fun W hSw => by go_simp) (fun _ _ _ h => h) HRt7.out ?_
        simp only [Act.put, List.setIfInBounds_toArray, List.set_cons_zero, List.set_cons_succ]
        refine hd_take 16 (o := ⟨some 50, _, _, _, _, _⟩) (.int .i64 (n : Int)) (by kernel_rfl) (by kernel_rfl) (by kernel_rfl) rfl (by rfl) (fun W hSw => by have s1 := rt_cell0 hSw HIx.out; go_simp) (fun _ _ _ h => h) HRt7.out ?_
        simp only [Act.put, List.setIfInBounds_toArray, List.set_cons_zero, List.set_cons_succ]
        refine hd_take 17 (o := ⟨some 51, _, _, _, _, _⟩) (.bool true) (by kernel_rfl) (by kernel_rfl) (by kernel_rfl) rfl (by rfl) (fun W hSw => by go_simp) (fun _ _ _ h => h) HRt7.out ?_
        simp only [Act.put, List.setIfInBounds_toArray, List.set_cons_zero, List.set_cons_succ]
        refine wpAnyH_done (by kernel_rfl) ?_ _
        clear hpb
        go_upto_region 6 with fail
        refine wp_region_held_drew (S := fun W : World => RtAt W R (.slice (some ⟨g, 0, none⟩) L c) K last) (by kernel_rfl) (HRt7.out.below (below_drew _)) (fun _ => ?_)
        generalize hw8 : w7.drew = w8
        have hb8 : Below w7.heap.size w7 w8 := by rw [← hw8]; exact below_drew _
        have HRt8 := hide (HRt7.out.below hb8)
        have HA8 := hide ((hb8.block A (Array.getElem?_eq_some_iff.1 HA7.out).1).trans HA7.out)
        have HQ8 := hide ((hb8.block N (Array.getElem?_eq_some_iff.1 HQ7.out).1).trans HQ7.out)
        have HB8 := hide (HB7.out.trans (hb8.mono HB7.out.size))
        clear hw8 hb8 HRt7 HA7 HQ7 HB7
        refine hd_take 1 (o := ⟨some 53, _, _, _, _, _⟩) (.pointer (some ⟨R, 0, none⟩)) (by kernel_rfl) (by kernel_rfl) (by kernel_rfl) rfl (by rfl) (fun W hSw => by go_simp) (fun _ _ _ h => h) HRt8.out ?_
        simp only [Act.put, List.setIfInBounds_toArray, List.set_cons_zero, List.set_cons_succ]
        refine hd_take 2 (o := ⟨some 54, _, _, _, _, _⟩) (.pointer (some ⟨R, 0, none⟩)) (by kernel_rfl) (by kernel_rfl) (by kernel_rfl) rfl (by rfl) (fun W hSw => by go_simp) (fun _ _ _ h => h) HRt8.out ?_
        simp only [Act.put, List.setIfInBounds_toArray, List.set_cons_zero, List.set_cons_succ]
        refine hd_take 3 (o := ⟨some 55, _, _, _, _, _⟩) (.pointer (some ⟨R, 0, none⟩)) (by kernel_rfl) (by kernel_rfl) (by kernel_rfl) rfl (by rfl) (fun W hSw => by go_simp) (fun _ _ _ h => h) HRt8.out ?_
        simp only [Act.put, List.setIfInBounds_toArray, List.set_cons_zero, List.set_cons_succ]
        refine hd_take 4 (o := ⟨some 56, _, _, _, _, _⟩) (.slice (some ⟨g, 0, none⟩) L c) (by kernel_rfl) (by kernel_rfl) (by kernel_rfl) rfl (by rfl) (fun W hSw => by have s1 := hSw.rowc; go_simp) (fun _ _ _ h => h) HRt8.out ?_
        simp only [Act.put, List.setIfInBounds_toArray, List.set_cons_zero, List.set_cons_succ]
        refine hd_take 5 (o := ⟨some 57, _, _, _, _, _⟩) (.int .i64 (k : Int)) (by kernel_rfl) (by kernel_rfl) (by kernel_rfl) rfl (by rfl) (fun W hSw => by go_simp) (fun _ _ _ h => h) HRt8.out ?_
        simp only [Act.put, List.setIfInBounds_toArray, List.set_cons_zero, List.set_cons_succ]
        refine hd_take 6 (o := ⟨some 58, _, _, _, _, _⟩) (.pointer (some ⟨g, k * 25, none⟩)) (by kernel_rfl) (by kernel_rfl) (by kernel_rfl) rfl (by rfl) (fun W hSw => by go_simp) (fun _ _ _ h => h) HRt8.out ?_
        simp only [Act.put, List.setIfInBounds_toArray, List.set_cons_zero, List.set_cons_succ]
        refine hd_take 7 (o := ⟨some 59, _, _, _, _, _⟩) (.pointer (some ⟨g, k * 25 + 1, none⟩)) (by kernel_rfl) (by kernel_rfl) (by kernel_rfl) rfl (by rfl) (fun W hSw => by go_simp) (fun _ _ _ h => h) HRt8.out ?_
        simp only [Act.put, List.setIfInBounds_toArray, List.set_cons_zero, List.set_cons_succ]
        refine hd_take 8 (o := ⟨some 60, _, _, _, _, _⟩) (.pointer (some ⟨g, k * 25 + 16, none⟩)) (by kernel_rfl) (by kernel_rfl) (by kernel_rfl) rfl (by rfl) (fun W hSw => by go_simp) (fun _ _ _ h => h) HRt8.out ?_
        simp only [Act.put, List.setIfInBounds_toArray, List.set_cons_zero, List.set_cons_succ]
        refine hd_take 9 (o := ⟨some 61, _, _, _, _, _⟩) (yr.qu.val) (by kernel_rfl) (by kernel_rfl) (by kernel_rfl) rfl (by rfl) (fun W hSw => by exact run_loadT Tryz.underlying30 rfl (qtL yr.qu) infoQ _ rfl ⟨g, k * 25 + 16, none⟩ rfl (rt_q hSw HY.out (qcell rfl rfl rfl))) (fun _ _ _ h => h) HRt8.out ?_
        simp only [Act.put, List.setIfInBounds_toArray, List.set_cons_zero, List.set_cons_succ]
        refine hd_call 0 (o := ⟨some 52, _, _, _, _, _⟩) (by kernel_rfl) rfl (by rfl) (fun K' hK => ?_)
        refine wp_loadT Tryz.underlying30 rfl (qtL q) infoQ _ rfl ⟨N, 0, none⟩ rfl (row_cells HQ8.out) ?_
        refine hK _ _ HRt8.out ?_
        clear hK K'
        try simp only [Act.put, List.setIfInBounds_toArray, List.set_cons_zero, List.set_cons_succ]
        refine hd_call 10 (o := ⟨some 62, _, _, _, _, _⟩) (by kernel_rfl) rfl (by rfl) (fun K' hK => ?_)
        go_simp
        go_wp2_with (go_at_call 71; refine (HL2.out w8).mono ?_; rintro e1 w9 ⟨rfl, hb9⟩)
        have HRt9 := hide (HRt8.out.below hb9)
        have HA9 := hide ((hb9.block A (Array.getElem?_eq_some_iff.1 HA8.out).1).trans HA8.out)
        have HQ9 := hide ((hb9.block N (Array.getElem?_eq_some_iff.1 HQ8.out).1).trans HQ8.out)
        have HB9 := hide (HB8.out.trans (hb9.mono HB8.out.size))
        clear hb9 HRt8 HA8 HQ8 HB8 HL2
        obtain ⟨q2, hq2⟩ : ∃ q2, q.less yr.qu = q2 := ⟨_, rfl⟩
        rw [hq2] at HNext ⊢
        have HQ10 := hide (qt_set (p := q) (q := q2) HQ9.out)
        have HB10 := hide (below_setCells HB9.out HNw.out 0 (qtL q2))
        have HA10 := hide ((heap_setCells_other N A (fun e => HNA.out e.symm) (qtL q2) 0 w9).trans HA9.out)
        have HRt10 := hide (HRt.out _ HB10.out)
        clear hq2
        refine hK _ _ HRt9.out ?_
        clear hK K'
        try simp only [Act.put, List.setIfInBounds_toArray, List.set_cons_zero, List.set_cons_succ]
        refine hd_call 11 (o := ⟨none, _, _, _, _, _⟩) (by kernel_rfl) rfl (by rfl) (fun K' hK => ?_)
        refine wp_storeT (t := 30) (qtL q2) infoQ (qtL_one _) _ _ rfl N 0 rfl rfl (there_row HQ9.out (Nat.le_refl 3)) ?_
        refine hK _ _ HRt10.out ?_
        clear hK K'
        try simp only [Act.put]
        refine wpAnyH_done (by kernel_rfl) ?_ _
        generalize w9.setCells N 0 (qtL q2) = w10 at *
        clear HRt9 HA9 HQ9 HB9
        have n1 : w10.cell? ⟨N, 1, none⟩ = some (.int .i64 q2.e) := by rw [cell_of_row _ _ _ _ _ _ HQ10.out]; rfl
        have f1 : w10.frozen? ⟨N, 1, none⟩ = false := frozen_of_row _ _ _ _ _ HQ10.out
        have hwr : IntKind.i64.wrap (q2.e - 1) = q2.e - 1 := wrap64 _ (by have := HBq.out; rw [HNext.out] at this; simp only at this; omega) (by have := HBq.out; rw [HNext.out] at this; simp only at this; omega)
        have HQ11 : Hid ((w10.setCell ⟨N, 1, none⟩ (.int .i64 (q2.e - 1))).heap[N]? = some (.cells #[.int .i64 (lq rs r (kf (n : Int) (K.take (k + 1)))).f, .int .i64 (lq rs r (kf (n : Int) (K.take (k + 1)))).e, .int .i64 (lq rs r (kf (n : Int) (K.take (k + 1)))).x] 30 (0, 0))) := hide (by rw [HNext.out, heap_setCell_same _ N 1 _ _ (.int .i64 (q2.e - 1)) HQ10.out]; rfl)
        have HB11 := hide (HB10.out.setCell (p := ⟨N, 1, none⟩) HNw.out (.int .i64 (q2.e - 1)))
        have HA11 := hide ((heap_setCell_other w10 ⟨N, 1, none⟩ A (.int .i64 (q2.e - 1)) (fun e => HNA.out e.symm)).trans HA10.out)
        have HRt11 := hide (HRt.out _ HB11.out)
        clear HNext HQ10 HB10 HA10 HRt10 HBq
        go_wp2
        go_roundw
        case rel => first | exact ⟨k + 1, by omega, by go_num, HQ11, HA11, HB11, HRt11⟩ | ((repeat apply Exists.intro); refine ⟨?_, rfl⟩; exact ⟨k + 1, by omega, by go_num, HQ11, HA11, HB11, HRt11⟩)
        case measure => simp [intOf]; omega
      · have hpb : (yr.pa == (n : Int)) = false := by simp [hp]
        have HQ8 : Hid (w7.heap[N]? = some (.cells #[.int .i64 (lq rs r (kf (n : Int) (K.take (k + 1)))).f, .int .i64 (lq rs r (kf (n : Int) (K.take (k + 1)))).e, .int .i64 (lq rs r (kf (n : Int) (K.take (k + 1)))).x] 30 (0, 0))) := hide (by rw [kf_no hy hp, hq]; exact HQ7.out)
        clear hy hyr hq hbq hbq' hp
        refine hd_take 0 (o := ⟨some 34, _, _, _, _, _⟩) (.pointer (some ⟨R, 0, none⟩)) (by kernel_rfl) (by kernel_rfl) (by kernel_rfl) rfl (by rfl) (fun W hSw => by go_simp) (fun _ _ _ h => h) HRt7.out ?_
        simp only [Act.put, List.setIfInBounds_toArray, List.set_cons_zero, List.set_cons_succ]
        refine hd_take 1 (o := ⟨some 35, _, _, _, _, _⟩) (.pointer (some ⟨R, 0, none⟩)) (by kernel_rfl) (by kernel_rfl) (by kernel_rfl) rfl (by rfl) (fun W hSw => by go_simp) (fun _ _ _ h => h) HRt7.out ?_
        simp only [Act.put, List.setIfInBounds_toArray, List.set_cons_zero, List.set_cons_succ]
        refine hd_take 2 (o := ⟨some 36, _, _, _, _, _⟩) (.pointer (some ⟨R, 0, none⟩)) (by kernel_rfl) (by kernel_rfl) (by kernel_rfl) rfl (by rfl) (fun W hSw => by go_simp) (fun _ _ _ h => h) HRt7.out ?_
        simp only [Act.put, List.setIfInBounds_toArray, List.set_cons_zero, List.set_cons_succ]
        refine hd_take 3 (o := ⟨some 37, _, _, _, _, _⟩) (.slice (some ⟨g, 0, none⟩) L c) (by kernel_rfl) (by kernel_rfl) (by kernel_rfl) rfl (by rfl) (fun W hSw => by have s1 := hSw.rowc; go_simp) (fun _ _ _ h => h) HRt7.out ?_
        simp only [Act.put, List.setIfInBounds_toArray, List.set_cons_zero, List.set_cons_succ]
        refine hd_take 4 (o := ⟨some 38, _, _, _, _, _⟩) (.int .i64 (k : Int)) (by kernel_rfl) (by kernel_rfl) (by kernel_rfl) rfl (by rfl) (fun W hSw => by go_simp) (fun _ _ _ h => h) HRt7.out ?_
        simp only [Act.put, List.setIfInBounds_toArray, List.set_cons_zero, List.set_cons_succ]
        refine hd_take 5 (o := ⟨some 39, _, _, _, _, _⟩) (.pointer (some ⟨g, k * 25, none⟩)) (by kernel_rfl) (by kernel_rfl) (by kernel_rfl) rfl (by rfl) (fun W hSw => by go_simp) (fun _ _ _ h => h) HRt7.out ?_
        simp only [Act.put, List.setIfInBounds_toArray, List.set_cons_zero, List.set_cons_succ]
        refine hd_take 6 (o := ⟨some 40, _, _, _, _, _⟩) (.pointer (some ⟨g, k * 25 + 1, none⟩)) (by kernel_rfl) (by kernel_rfl) (by kernel_rfl) rfl (by rfl) (fun W hSw => by go_simp) (fun _ _ _ h => h) HRt7.out ?_
        simp only [Act.put, List.setIfInBounds_toArray, List.set_cons_zero, List.set_cons_succ]
        refine hd_take 7 (o := ⟨some 41, _, _, _, _, _⟩) (.pointer (some ⟨g, k * 25 + 2, none⟩)) (by kernel_rfl) (by kernel_rfl) (by kernel_rfl) rfl (by rfl) (fun W hSw => by go_simp) (fun _ _ _ h => h) HRt7.out ?_
        simp only [Act.put, List.setIfInBounds_toArray, List.set_cons_zero, List.set_cons_succ]
        refine hd_take 8 (o := ⟨some 42, _, _, _, _, _⟩) (.int .i64 yr.pa) (by kernel_rfl) (by kernel_rfl) (by kernel_rfl) rfl (by rfl) (fun W hSw => by have s1 := rt_cell hSw HY.out (j := 2) rfl; go_simp) (fun _ _ _ h => h) HRt7.out ?_
        simp only [Act.put, List.setIfInBounds_toArray, List.set_cons_zero, List.set_cons_succ]
        refine hd_take 9 (o := ⟨some 43, _, _, _, _, _⟩) (.pointer (some ⟨R, 0, none⟩)) (by kernel_rfl) (by kernel_rfl) (by kernel_rfl) rfl (by rfl) (fun W hSw => by go_simp) (fun _ _ _ h => h) HRt7.out ?_
        simp only [Act.put, List.setIfInBounds_toArray, List.set_cons_zero, List.set_cons_succ]
        refine hd_take 10 (o := ⟨some 44, _, _, _, _, _⟩) (.pointer (some ⟨R, 0, none⟩)) (by kernel_rfl) (by kernel_rfl) (by kernel_rfl) rfl (by rfl) (fun W hSw => by go_simp) (fun _ _ _ h => h) HRt7.out ?_
        simp only [Act.put, List.setIfInBounds_toArray, List.set_cons_zero, List.set_cons_succ]
        refine hd_take 11 (o := ⟨some 45, _, _, _, _, _⟩) (.pointer (some ⟨R, 0, none⟩)) (by kernel_rfl) (by kernel_rfl) (by kernel_rfl) rfl (by rfl) (fun W hSw => by go_simp) (fun _ _ _ h => h) HRt7.out ?_
        simp only [Act.put, List.setIfInBounds_toArray, List.set_cons_zero, List.set_cons_succ]
        refine hd_take 12 (o := ⟨some 46, _, _, _, _, _⟩) (.slice (some ⟨g, 0, none⟩) L c) (by kernel_rfl) (by kernel_rfl) (by kernel_rfl) rfl (by rfl) (fun W hSw => by have s1 := hSw.rowc; go_simp) (fun _ _ _ h => h) HRt7.out ?_
        simp only [Act.put, List.setIfInBounds_toArray, List.set_cons_zero, List.set_cons_succ]
        refine hd_take 13 (o := ⟨some 47, _, _, _, _, _⟩) (.int .i64 (i : Int)) (by kernel_rfl) (by kernel_rfl) (by kernel_rfl) rfl (by rfl) (fun W hSw => by go_simp) (fun _ _ _ h => h) HRt7.out ?_
        simp only [Act.put, List.setIfInBounds_toArray, List.set_cons_zero, List.set_cons_succ]
        refine hd_take 14 (o := ⟨some 48, _, _, _, _, _⟩) (.pointer (some ⟨g, i * 25, none⟩)) (by kernel_rfl) (by kernel_rfl) (by kernel_rfl) rfl (by rfl) (fun W hSw => by go_simp) (fun _ _ _ h => h) HRt7.out ?_
        simp only [Act.put, List.setIfInBounds_toArray, List.set_cons_zero, List.set_cons_succ]
        refine hd_take 15 (o := ⟨some 49, _, _, _, _, _⟩) (.pointer (some ⟨g, i * 25, none⟩)) (by kernel_rfl) (by kernel_rfl) (by kernel_rfl) rfl (by rfl) (fun W hSw => by go_simp) (fun _ _ _ h => h) HRt7.out ?_
        simp only [Act.put, List.setIfInBounds_toArray, List.set_cons_zero, List.set_cons_succ]
        refine hd_take 16 (o := ⟨some 50, _, _, _, _, _⟩) (.int .i64 (n : Int)) (by kernel_rfl) (by kernel_rfl) (by kernel_rfl) rfl (by rfl) (fun W hSw => by have s1 := rt_cell0 hSw HIx.out; go_simp) (fun _ _ _ h => h) HRt7.out ?_
        simp only [Act.put, List.setIfInBounds_toArray, List.set_cons_zero, List.set_cons_succ]
        refine hd_take 17 (o := ⟨some 51, _, _, _, _, _⟩) (.bool false) (by kernel_rfl) (by kernel_rfl) (by kernel_rfl) rfl (by rfl) (fun W hSw => by go_simp) (fun _ _ _ h => h) HRt7.out ?_
        simp only [Act.put, List.setIfInBounds_toArray, List.set_cons_zero, List.set_cons_succ]
        refine wpAnyH_done (by kernel_rfl) ?_ _
        clear hpb
        go_wp2
        go_roundw
        case rel => first | exact ⟨k + 1, by omega, by go_num, HQ8, HA7, HB7, HRt7⟩ | ((repeat apply Exists.intro); refine ⟨?_, rfl⟩; exact ⟨k + 1, by omega, by go_num, HQ8, HA7, HB7, HRt7⟩)
        case measure => simp [intOf]; omega
    · obtain rfl : k = L := by omega
      have hd : decide ((k : Int) < (k : Int)) = false := by simp
      rw [HQL.out] at HQ6
      obtain ⟨q, hq⟩ : ∃ q, r.le = q := ⟨_, rfl⟩
      rw [hq] at HQ6
      have HEq := hide hq
      obtain ⟨n0, n1, n2, -, -, -⟩ := blk3 HQ6.out
      obtain ⟨a0, a1, a2, f0, f1, f2⟩ := blk3 HA6.out
      have HS := hide (fun a b c => set3 HA6.out a b c)
      clear hq
      go_wp2
      refine bodyPost_ret (results_row1 rfl _ _ A 30 #[.int .i64 q.f, .int .i64 q.e, .int .i64 q.x] (0, 0) _ rfl (HS.out _ _ _) Tryz.underlying30 rfl (by kernel_rfl)) rfl ?_
      exact ⟨by rw [HEq.out]; rfl, below3 HB6.out HAA.out _ _ _⟩
  · skip
    have hb3 := (Below.refl w2.heap.size w2).alloc (Nat.le_refl _) (.cells #[.int .i64 0, .int .i64 0, .int .i64 0] 30)
    have HRt3 := hide (HRt2.out.below hb3)
    have HN3 := hide (heap_alloc_new w2 (.cells #[.int .i64 0, .int .i64 0, .int .i64 0] 30))
    have Hb3 := hide hb3
    clear hb3
    go_simp
    refine hK _ _ HRt3.out ?_
    clear hK K'
    try simp only [Act.put, List.setIfInBounds_toArray, List.set_cons_zero, List.set_cons_succ]
    generalize w2.alloc (.cells #[.int .i64 0, .int .i64 0, .int .i64 0] 30) = w3 at *
    refine hd_call 17 (o := ⟨some 24, _, _, _, _, _⟩) (by kernel_rfl) rfl (by rfl) (fun K' hK => ?_)
    go_simp
    go_wp2_with (go_at_call 71; refine (HLs.out w3).mono ?_; rintro e1 w4 ⟨rfl, hb4⟩)
    have hb24 := Hb3.out.trans (hb4.mono Hb3.out.size)
    have HRt4 := hide (HRt2.out.below hb24)
    have HN4 := hide ((hb4.block _ (Array.getElem?_eq_some_iff.1 HN3.out).1).trans HN3.out)
    have hb5 := below_setCells hb24 (Nat.le_refl w2.heap.size) 0 (qtL (r.qu.less r.pd))
    have HRt5 := hide (HRt2.out.below hb5)
    have HB5 := hide (HB2.out.trans (hb5.mono HB2.out.size))
    have HA5 := hide ((hb5.block A (Array.getElem?_eq_some_iff.1 HA2.out).1).trans HA2.out)
    have HQN := hide (qt_set (p := Qt.zero) (q := r.qu.less r.pd) HN4.out)
    have HNEQ : Hid (w2.heap.size ≠ A) := hide (fun e => by have := (Array.getElem?_eq_some_iff.1 HA2.out).1; omega)
    have HNLE : Hid (w.heap.size ≤ w2.heap.size) := hide HB2.out.size
    clear hb4 hb24 hb5
    refine hK _ _ HRt4.out ?_
    clear hK K'
    try simp only [Act.put, List.setIfInBounds_toArray, List.set_cons_zero, List.set_cons_succ]
    refine hd_call 19 (o := ⟨none, _, _, _, _, _⟩) (by kernel_rfl) rfl (by rfl) (fun K' hK => ?_)
    refine wp_storeT (t := 30) (qtL (r.qu.less r.pd)) infoQ (qtL_one _) _ _ rfl w2.heap.size 0 rfl rfl (there_row HN4.out (Nat.le_refl 3)) ?_
    refine hK _ _ HRt5.out ?_
    clear hK K'
    try simp only [Act.put]
    refine wpAnyH_done (by kernel_rfl) ?_ _
    have HQ0' : Hid ((w4.setCells w2.heap.size 0 (qtL (r.qu.less r.pd))).heap[w2.heap.size]? = some (.cells #[.int .i64 (r.qu.less r.pd).f, .int .i64 (r.qu.less r.pd).e, .int .i64 (r.qu.less r.pd).x] 30 (0, 0))) := HQN
    clear HQN HRt2 HA2 HB2 HRt3 HRt4 HN3 HN4 Hb3 HLs
    have HNA : Hid (w2.heap.size ≠ A) := HNEQ
    have HNw : Hid (w.heap.size ≤ w2.heap.size) := HNLE
    clear HNEQ HNLE
    generalize w4.setCells w2.heap.size 0 (qtL (r.qu.less r.pd)) = w6 at *
    generalize hN : w2.heap.size = N at *
    rw [HQ0.out] at HQ0'
    clear hN HQ0
    go_upto_region 3 with fail
    go_loopw [6] (fun x wr => ∃ k : Nat, k ≤ L ∧ x = .int .i64 (k : Int) ∧ Hid (wr.heap[N]? = some (.cells #[.int .i64 (lq rs r (kf (n : Int) (K.take k))).f, .int .i64 (lq rs r (kf (n : Int) (K.take k))).e, .int .i64 (lq rs r (kf (n : Int) (K.take k))).x] 30 (0, 0))) ∧ Hid (wr.heap[A]? = some (.cells #[.int .i64 0, .int .i64 0, .int .i64 0] 30 (0, 0))) ∧ Hid (Below w.heap.size w wr) ∧ Hid (RtAt wr R (.slice (some ⟨g, 0, none⟩) L c) K last)) (fun x _ => L - (intOf x).toNat)
    case atStart => exact ⟨0, by omega, rfl, HQ0', HA5, HB5, HRt5⟩
    case round =>
    clear HQ0' HA5 HB5 HRt5
    obtain ⟨k, hk, rfl, HQ6, HA6, HB6, HRt6⟩ := hrel
    have c16 := HRt6.out.rowc
    by_cases hlt : k < L
    · have hd : decide ((k : Int) < (L : Int)) = true := by simp; omega
      have hki : (k : Int) < (L : Int) := by omega
      obtain ⟨⟨yn, yr⟩, hy⟩ : ∃ y, K[k]? = some y := ⟨_, List.getElem?_eq_getElem (by rw [HL.out]; exact hlt)⟩
      have HY := hide hy
      have hyr := (HAg.out.mem yn yr).1 (List.mem_of_getElem? hy)
      obtain ⟨q, hq⟩ : ∃ q, lq rs r (kf (n : Int) (K.take k)) = q := ⟨_, rfl⟩
      have hbq := HBn.out k
      have hbq' := HBn.out (k + 1)
      rw [hq] at HQ6 hbq
      have HL2 : Hid (∀ W, Calls Tryz.prog 71 #[q.val, yr.qu.val] W fun e w' => e = .returned (q.less yr.qu).val ∧ Below W.heap.size W w') := hide (fun W => lessD_any W q yr.qu (by unfold Qt.ok; omega) (HIv.out.oks hyr).2.2)
      go_upto_region 5 with fail
      clear c16
      refine wp_region_held_drew (S := fun W : World => RtAt W R (.slice (some ⟨g, 0, none⟩) L c) K last) (by kernel_rfl) (HRt6.out.below (below_drew _)) (fun _ => ?_)
      generalize hw7 : wr.drew = w7
      have hb7 : Below wr.heap.size wr w7 := by rw [← hw7]; exact below_drew _
      have HRt7 := hide (HRt6.out.below hb7)
      have HA7 := hide ((hb7.block A (Array.getElem?_eq_some_iff.1 HA6.out).1).trans HA6.out)
      have HQ7 := hide ((hb7.block N (Array.getElem?_eq_some_iff.1 HQ6.out).1).trans HQ6.out)
      have HB7 := hide (HB6.out.trans (hb7.mono HB6.out.size))
      clear hw7 hb7 HRt6 HA6 HQ6 HB6
      by_cases hp : yr.pa = (n : Int)
      · have hpb : (yr.pa == (n : Int)) = true := by simp [hp]
        have HNext : Hid (lq rs r (kf (n : Int) (K.take (k + 1))) = ⟨(q.less yr.qu).f, (q.less yr.qu).e - 1, (q.less yr.qu).x⟩) := hide (by rw [kf_yes hy hp, lq_step hyr, hq])
        have HBq := hide hbq'
        clear hy hyr hq hbq hbq' hp
        refine hd_take 0 (o := ⟨some 34, _, _, _, _, _⟩) (.pointer (some ⟨R, 0, none⟩)) (by kernel_rfl) (by kernel_rfl) (by kernel_rfl) rfl (by rfl) (fun W hSw => by go_simp) (fun _ _ _ h => h) HRt7.out ?_
        simp only [Act.put, List.setIfInBounds_toArray, List.set_cons_zero, List.set_cons_succ]
        refine hd_take 1 (o := ⟨some 35, _, _, _, _, _⟩) (.pointer (some ⟨R, 0, none⟩)) (by kernel_rfl) (by kernel_rfl) (by kernel_rfl) rfl (by rfl) (fun W hSw => by go_simp) (fun _ _ _ h => h) HRt7.out ?_
        simp only [Act.put, List.setIfInBounds_toArray, List.set_cons_zero, List.set_cons_succ]
        refine hd_take 2 (o := ⟨some 36, _, _, _, _, _⟩) (.pointer (some ⟨R, 0, none⟩)) (by kernel_rfl) (by kernel_rfl) (by kernel_rfl) rfl (by rfl) (fun W hSw => by go_simp) (fun _ _ _ h => h) HRt7.out ?_
        simp only [Act.put, List.setIfInBounds_toArray, List.set_cons_zero, List.set_cons_succ]
        refine hd_take 3 (o := ⟨some 37, _, _, _, _, _⟩) (.slice (some ⟨g, 0, none⟩) L c) (by kernel_rfl) (by kernel_rfl) (by kernel_rfl) rfl (by rfl) (fun W hSw => by have s1 := hSw.rowc; go_simp) (fun _ _ _ h => h) HRt7.out ?_
        simp only [Act.put, List.setIfInBounds_toArray, List.set_cons_zero, List.set_cons_succ]
        refine hd_take 4 (o := ⟨some 38, _, _, _, _, _⟩) (.int .i64 (k : Int)) (by kernel_rfl) (by kernel_rfl) (by kernel_rfl) rfl (by rfl) (fun W hSw => by go_simp) (fun _ _ _ h => h) HRt7.out ?_
        simp only [Act.put, List.setIfInBounds_toArray, List.set_cons_zero, List.set_cons_succ]
        refine hd_take 5 (o := ⟨some 39, _, _, _, _, _⟩) (.pointer (some ⟨g, k * 25, none⟩)) (by kernel_rfl) (by kernel_rfl) (by kernel_rfl) rfl (by rfl) (fun W hSw => by go_simp) (fun _ _ _ h => h) HRt7.out ?_
        simp only [Act.put, List.setIfInBounds_toArray, List.set_cons_zero, List.set_cons_succ]
        refine hd_take 6 (o := ⟨some 40, _, _, _, _, _⟩) (.pointer (some ⟨g, k * 25 + 1, none⟩)) (by kernel_rfl) (by kernel_rfl) (by kernel_rfl) rfl (by rfl) (fun W hSw => by go_simp) (fun _ _ _ h => h) HRt7.out ?_
        simp only [Act.put, List.setIfInBounds_toArray, List.set_cons_zero, List.set_cons_succ]
        refine hd_take 7 (o := ⟨some 41, _, _, _, _, _⟩) (.pointer (some ⟨g, k * 25 + 2, none⟩)) (by kernel_rfl) (by kernel_rfl) (by kernel_rfl) rfl (by rfl) (fun W hSw => by go_simp) (fun _ _ _ h => h) HRt7.out ?_
        simp only [Act.put, List.setIfInBounds_toArray, List.set_cons_zero, List.set_cons_succ]
        refine hd_take 8 (o := ⟨some 42, _, _, _, _, _⟩) (.int .i64 yr.pa) (by kernel_rfl) (by kernel_rfl) (by kernel_rfl) rfl (by rfl) (fun W hSw => by have s1 := rt_cell hSw HY.out (j := 2) rfl; go_simp) (fun _ _ _ h => h) HRt7.out ?_
        simp only [Act.put, List.setIfInBounds_toArray, List.set_cons_zero, List.set_cons_succ]
        refine hd_take 9 (o := ⟨some 43, _, _, _, _, _⟩) (.pointer (some ⟨R, 0, none⟩)) (by kernel_rfl) (by kernel_rfl) (by kernel_rfl) rfl (by rfl) (fun W hSw => by go_simp) (fun _ _ _ h => h) HRt7.out ?_
        simp only [Act.put, List.setIfInBounds_toArray, List.set_cons_zero, List.set_cons_succ]
        refine hd_take 10 (o := ⟨some 44, _, _, _, _, _⟩) (.pointer (some ⟨R, 0, none⟩)) (by kernel_rfl) (by kernel_rfl) (by kernel_rfl) rfl (by rfl) (fun W hSw => by go_simp) (fun _ _ _ h => h) HRt7.out ?_
        simp only [Act.put, List.setIfInBounds_toArray, List.set_cons_zero, List.set_cons_succ]
        refine hd_take 11 (o := ⟨some 45, _, _, _, _, _⟩) (.pointer (some ⟨R, 0, none⟩)) (by kernel_rfl) (by kernel_rfl) (by kernel_rfl) rfl (by rfl) (fun W hSw => by go_simp) (fun _ _ _ h => h) HRt7.out ?_
        simp only [Act.put, List.setIfInBounds_toArray, List.set_cons_zero, List.set_cons_succ]
        refine hd_take 12 (o := ⟨some 46, _, _, _, _, _⟩) (.slice (some ⟨g, 0, none⟩) L c) (by kernel_rfl) (by kernel_rfl) (by kernel_rfl) rfl (by rfl) (fun W hSw => by have s1 := hSw.rowc; go_simp) (fun _ _ _ h => h) HRt7.out ?_
        simp only [Act.put, List.setIfInBounds_toArray, List.set_cons_zero, List.set_cons_succ]
        refine hd_take 13 (o := ⟨some 47, _, _, _, _, _⟩) (.int .i64 (i : Int)) (by kernel_rfl) (by kernel_rfl) (by kernel_rfl) rfl (by rfl) (fun W hSw => by go_simp) (fun _ _ _ h => h) HRt7.out ?_
        simp only [Act.put, List.setIfInBounds_toArray, List.set_cons_zero, List.set_cons_succ]
        refine hd_take 14 (o := ⟨some 48, _, _, _, _, _⟩) (.pointer (some ⟨g, i * 25, none⟩)) (by kernel_rfl) (by kernel_rfl) (by kernel_rfl) rfl (by rfl) (fun W hSw => by go_simp) (fun _ _ _ h => h) HRt7.out ?_
        simp only [Act.put, List.setIfInBounds_toArray, List.set_cons_zero, List.set_cons_succ]
        refine hd_take 15 (o := ⟨some 49, _, _, _, _, _⟩) (.pointer (some ⟨g, i * 25, none⟩)) (by kernel_rfl) (by kernel_rfl) (by kernel_rfl) rfl (by rfl) (fun W hSw => by go_simp) (fun _ _ _ h => h) HRt7.out ?_
        simp only [Act.put, List.setIfInBounds_toArray, List.set_cons_zero, List.set_cons_succ]
        refine hd_take 16 (o := ⟨some 50, _, _, _, _, _⟩) (.int .i64 (n : Int)) (by kernel_rfl) (by kernel_rfl) (by kernel_rfl) rfl (by rfl) (fun W hSw => by have s1 := rt_cell0 hSw HIx.out; go_simp) (fun _ _ _ h => h) HRt7.out ?_
        simp only [Act.put, List.setIfInBounds_toArray, List.set_cons_zero, List.set_cons_succ]
        refine hd_take 17 (o := ⟨some 51, _, _, _, _, _⟩) (.bool true) (by kernel_rfl) (by kernel_rfl) (by kernel_rfl) rfl (by rfl) (fun W hSw => by go_simp) (fun _ _ _ h => h) HRt7.out ?_
        simp only [Act.put, List.setIfInBounds_toArray, List.set_cons_zero, List.set_cons_succ]
        refine wpAnyH_done (by kernel_rfl) ?_ _
        clear hpb
        go_upto_region 6 with fail
        refine wp_region_held_drew (S := fun W : World => RtAt W R (.slice (some ⟨g, 0, none⟩) L c) K last) (by kernel_rfl) (HRt7.out.below (below_drew _)) (fun _ => ?_)
        generalize hw8 : w7.drew = w8
        have hb8 : Below w7.heap.size w7 w8 := by rw [← hw8]; exact below_drew _
        have HRt8 := hide (HRt7.out.below hb8)
        have HA8 := hide ((hb8.block A (Array.getElem?_eq_some_iff.1 HA7.out).1).trans HA7.out)
        have HQ8 := hide ((hb8.block N (Array.getElem?_eq_some_iff.1 HQ7.out).1).trans HQ7.out)
        have HB8 := hide (HB7.out.trans (hb8.mono HB7.out.size))
        clear hw8 hb8 HRt7 HA7 HQ7 HB7
        refine hd_take 1 (o := ⟨some 53, _, _, _, _, _⟩) (.pointer (some ⟨R, 0, none⟩)) (by kernel_rfl) (by kernel_rfl) (by kernel_rfl) rfl (by rfl) (fun W hSw => by go_simp) (fun _ _ _ h => h) HRt8.out ?_
        simp only [Act.put, List.setIfInBounds_toArray, List.set_cons_zero, List.set_cons_succ]
        refine hd_take 2 (o := ⟨some 54, _, _, _, _, _⟩) (.pointer (some ⟨R, 0, none⟩)) (by kernel_rfl) (by kernel_rfl) (by kernel_rfl) rfl (by rfl) (fun W hSw => by go_simp) (fun _ _ _ h => h) HRt8.out ?_
        simp only [Act.put, List.setIfInBounds_toArray, List.set_cons_zero, List.set_cons_succ]
        refine hd_take 3 (o := ⟨some 55, _, _, _, _, _⟩) (.pointer (some ⟨R, 0, none⟩)) (by kernel_rfl) (by kernel_rfl) (by kernel_rfl) rfl (by rfl) (fun W hSw => by go_simp) (fun _ _ _ h => h) HRt8.out ?_
        simp only [Act.put, List.setIfInBounds_toArray, List.set_cons_zero, List.set_cons_succ]
        refine hd_take 4 (o := ⟨some 56, _, _, _, _, _⟩) (.slice (some ⟨g, 0, none⟩) L c) (by kernel_rfl) (by kernel_rfl) (by kernel_rfl) rfl (by rfl) (fun W hSw => by have s1 := hSw.rowc; go_simp) (fun _ _ _ h => h) HRt8.out ?_
        simp only [Act.put, List.setIfInBounds_toArray, List.set_cons_zero, List.set_cons_succ]
        refine hd_take 5 (o := ⟨some 57, _, _, _, _, _⟩) (.int .i64 (k : Int)) (by kernel_rfl) (by kernel_rfl) (by kernel_rfl) rfl (by rfl) (fun W hSw => by go_simp) (fun _ _ _ h => h) HRt8.out ?_
        simp only [Act.put, List.setIfInBounds_toArray, List.set_cons_zero, List.set_cons_succ]
        refine hd_take 6 (o := ⟨some 58, _, _, _, _, _⟩) (.pointer (some ⟨g, k * 25, none⟩)) (by kernel_rfl) (by kernel_rfl) (by kernel_rfl) rfl (by rfl) (fun W hSw => by go_simp) (fun _ _ _ h => h) HRt8.out ?_
        simp only [Act.put, List.setIfInBounds_toArray, List.set_cons_zero, List.set_cons_succ]
        refine hd_take 7 (o := ⟨some 59, _, _, _, _, _⟩) (.pointer (some ⟨g, k * 25 + 1, none⟩)) (by kernel_rfl) (by kernel_rfl) (by kernel_rfl) rfl (by rfl) (fun W hSw => by go_simp) (fun _ _ _ h => h) HRt8.out ?_
        simp only [Act.put, List.setIfInBounds_toArray, List.set_cons_zero, List.set_cons_succ]
        refine hd_take 8 (o := ⟨some 60, _, _, _, _, _⟩) (.pointer (some ⟨g, k * 25 + 16, none⟩)) (by kernel_rfl) (by kernel_rfl) (by kernel_rfl) rfl (by rfl) (fun W hSw => by go_simp) (fun _ _ _ h => h) HRt8.out ?_
        simp only [Act.put, List.setIfInBounds_toArray, List.set_cons_zero, List.set_cons_succ]
        refine hd_take 9 (o := ⟨some 61, _, _, _, _, _⟩) (yr.qu.val) (by kernel_rfl) (by kernel_rfl) (by kernel_rfl) rfl (by rfl) (fun W hSw => by exact run_loadT Tryz.underlying30 rfl (qtL yr.qu) infoQ _ rfl ⟨g, k * 25 + 16, none⟩ rfl (rt_q hSw HY.out (qcell rfl rfl rfl))) (fun _ _ _ h => h) HRt8.out ?_
        simp only [Act.put, List.setIfInBounds_toArray, List.set_cons_zero, List.set_cons_succ]
        refine hd_call 0 (o := ⟨some 52, _, _, _, _, _⟩) (by kernel_rfl) rfl (by rfl) (fun K' hK => ?_)
        refine wp_loadT Tryz.underlying30 rfl (qtL q) infoQ _ rfl ⟨N, 0, none⟩ rfl (row_cells HQ8.out) ?_
        refine hK _ _ HRt8.out ?_
        clear hK K'
        try simp only [Act.put, List.setIfInBounds_toArray, List.set_cons_zero, List.set_cons_succ]
        refine hd_call 10 (o := ⟨some 62, _, _, _, _, _⟩) (by kernel_rfl) rfl (by rfl) (fun K' hK => ?_)
        go_simp
        go_wp2_with (go_at_call 71; refine (HL2.out w8).mono ?_; rintro e1 w9 ⟨rfl, hb9⟩)
        have HRt9 := hide (HRt8.out.below hb9)
        have HA9 := hide ((hb9.block A (Array.getElem?_eq_some_iff.1 HA8.out).1).trans HA8.out)
        have HQ9 := hide ((hb9.block N (Array.getElem?_eq_some_iff.1 HQ8.out).1).trans HQ8.out)
        have HB9 := hide (HB8.out.trans (hb9.mono HB8.out.size))
        clear hb9 HRt8 HA8 HQ8 HB8 HL2
        obtain ⟨q2, hq2⟩ : ∃ q2, q.less yr.qu = q2 := ⟨_, rfl⟩
        rw [hq2] at HNext ⊢
        have HQ10 := hide (qt_set (p := q) (q := q2) HQ9.out)
        have HB10 := hide (below_setCells HB9.out HNw.out 0 (qtL q2))
        have HA10 := hide ((heap_setCells_other N A (fun e => HNA.out e.symm) (qtL q2) 0 w9).trans HA9.out)
        have HRt10 := hide (HRt.out _ HB10.out)
        clear hq2
        refine hK _ _ HRt9.out ?_
        clear hK K'
        try simp only [Act.put, List.setIfInBounds_toArray, List.set_cons_zero, List.set_cons_succ]
        refine hd_call 11 (o := ⟨none, _, _, _, _, _⟩) (by kernel_rfl) rfl (by rfl) (fun K' hK => ?_)
        refine wp_storeT (t := 30) (qtL q2) infoQ (qtL_one _) _ _ rfl N 0 rfl rfl (there_row HQ9.out (Nat.le_refl 3)) ?_
        refine hK _ _ HRt10.out ?_
        clear hK K'
        try simp only [Act.put]
        refine wpAnyH_done (by kernel_rfl) ?_ _
        generalize w9.setCells N 0 (qtL q2) = w10 at *
        clear HRt9 HA9 HQ9 HB9
        have n1 : w10.cell? ⟨N, 1, none⟩ = some (.int .i64 q2.e) := by rw [cell_of_row _ _ _ _ _ _ HQ10.out]; rfl
        have f1 : w10.frozen? ⟨N, 1, none⟩ = false := frozen_of_row _ _ _ _ _ HQ10.out
        have hwr : IntKind.i64.wrap (q2.e - 1) = q2.e - 1 := wrap64 _ (by have := HBq.out; rw [HNext.out] at this; simp only at this; omega) (by have := HBq.out; rw [HNext.out] at this; simp only at this; omega)
        have HQ11 : Hid ((w10.setCell ⟨N, 1, none⟩ (.int .i64 (q2.e - 1))).heap[N]? = some (.cells #[.int .i64 (lq rs r (kf (n : Int) (K.take (k + 1)))).f, .int .i64 (lq rs r (kf (n : Int) (K.take (k + 1)))).e, .int .i64 (lq rs r (kf (n : Int) (K.take (k + 1)))).x] 30 (0, 0))) := hide (by rw [HNext.out, heap_setCell_same _ N 1 _ _ (.int .i64 (q2.e - 1)) HQ10.out]; rfl)
        have HB11 := hide (HB10.out.setCell (p := ⟨N, 1, none⟩) HNw.out (.int .i64 (q2.e - 1)))
        have HA11 := hide ((heap_setCell_other w10 ⟨N, 1, none⟩ A (.int .i64 (q2.e - 1)) (fun e => HNA.out e.symm)).trans HA10.out)
        have HRt11 := hide (HRt.out _ HB11.out)
        clear HNext HQ10 HB10 HA10 HRt10 HBq
        go_wp2
        go_roundw
        case rel => first | exact ⟨k + 1, by omega, by go_num, HQ11, HA11, HB11, HRt11⟩ | ((repeat apply Exists.intro); refine ⟨?_, rfl⟩; exact ⟨k + 1, by omega, by go_num, HQ11, HA11, HB11, HRt11⟩)
        case measure => simp [intOf]; omega
      · have hpb : (yr.pa == (n : Int)) = false := by simp [hp]
        have HQ8 : Hid (w7.heap[N]? = some (.cells #[.int .i64 (lq rs r (kf (n : Int) (K.take (k + 1)))).f, .int .i64 (lq rs r (kf (n : Int) (K.take (k + 1)))).e, .int .i64 (lq rs r (kf (n : Int) (K.take (k + 1)))).x] 30 (0, 0))) := hide (by rw [kf_no hy hp, hq]; exact HQ7.out)
        clear hy hyr hq hbq hbq' hp
        refine hd_take 0 (o := ⟨some 34, _, _, _, _, _⟩) (.pointer (some ⟨R, 0, none⟩)) (by kernel_rfl) (by kernel_rfl) (by kernel_rfl) rfl (by rfl) (fun W hSw => by go_simp) (fun _ _ _ h => h) HRt7.out ?_
        simp only [Act.put, List.setIfInBounds_toArray, List.set_cons_zero, List.set_cons_succ]
        refine hd_take 1 (o := ⟨some 35, _, _, _, _, _⟩) (.pointer (some ⟨R, 0, none⟩)) (by kernel_rfl) (by kernel_rfl) (by kernel_rfl) rfl (by rfl) (fun W hSw => by go_simp) (fun _ _ _ h => h) HRt7.out ?_
        simp only [Act.put, List.setIfInBounds_toArray, List.set_cons_zero, List.set_cons_succ]
        refine hd_take 2 (o := ⟨some 36, _, _, _, _, _⟩) (.pointer (some ⟨R, 0, none⟩)) (by kernel_rfl) (by kernel_rfl) (by kernel_rfl) rfl (by rfl) (fun W hSw => by go_simp) (fun _ _ _ h => h) HRt7.out ?_
        simp only [Act.put, List.setIfInBounds_toArray, List.set_cons_zero, List.set_cons_succ]
        refine hd_take 3 (o := ⟨some 37, _, _, _, _, _⟩) (.slice (some ⟨g, 0, none⟩) L c) (by kernel_rfl) (by kernel_rfl) (by kernel_rfl) rfl (by rfl) (fun W hSw => by have s1 := hSw.rowc; go_simp) (fun _ _ _ h => h) HRt7.out ?_
        simp only [Act.put, List.setIfInBounds_toArray, List.set_cons_zero, List.set_cons_succ]
        refine hd_take 4 (o := ⟨some 38, _, _, _, _, _⟩) (.int .i64 (k : Int)) (by kernel_rfl) (by kernel_rfl) (by kernel_rfl) rfl (by rfl) (fun W hSw => by go_simp) (fun _ _ _ h => h) HRt7.out ?_
        simp only [Act.put, List.setIfInBounds_toArray, List.set_cons_zero, List.set_cons_succ]
        refine hd_take 5 (o := ⟨some 39, _, _, _, _, _⟩) (.pointer (some ⟨g, k * 25, none⟩)) (by kernel_rfl) (by kernel_rfl) (by kernel_rfl) rfl (by rfl) (fun W hSw => by go_simp) (fun _ _ _ h => h) HRt7.out ?_
        simp only [Act.put, List.setIfInBounds_toArray, List.set_cons_zero, List.set_cons_succ]
        refine hd_take 6 (o := ⟨some 40, _, _, _, _, _⟩) (.pointer (some ⟨g, k * 25 + 1, none⟩)) (by kernel_rfl) (by kernel_rfl) (by kernel_rfl) rfl (by rfl) (fun W hSw => by go_simp) (fun _ _ _ h => h) HRt7.out ?_
        simp only [Act.put, List.setIfInBounds_toArray, List.set_cons_zero, List.set_cons_succ]
        refine hd_take 7 (o := ⟨some 41, _, _, _, _, _⟩) (.pointer (some ⟨g, k * 25 + 2, none⟩)) (by kernel_rfl) (by kernel_rfl) (by kernel_rfl) rfl (by rfl) (fun W hSw => by go_simp) (fun _ _ _ h => h) HRt7.out ?_
        simp only [Act.put, List.setIfInBounds_toArray, List.set_cons_zero, List.set_cons_succ]
        refine hd_take 8 (o := ⟨some 42, _, _, _, _, _⟩) (.int .i64 yr.pa) (by kernel_rfl) (by kernel_rfl) (by kernel_rfl) rfl (by rfl) (fun W hSw => by have s1 := rt_cell hSw HY.out (j := 2) rfl; go_simp) (fun _ _ _ h => h) HRt7.out ?_
        simp only [Act.put, List.setIfInBounds_toArray, List.set_cons_zero, List.set_cons_succ]
        refine hd_take 9 (o := ⟨some 43, _, _, _, _, _⟩) (.pointer (some ⟨R, 0, none⟩)) (by kernel_rfl) (by kernel_rfl) (by kernel_rfl) rfl (by rfl) (fun W hSw => by go_simp) (fun _ _ _ h => h) HRt7.out ?_
        simp only [Act.put, List.setIfInBounds_toArray, List.set_cons_zero, List.set_cons_succ]
        refine hd_take 10 (o := ⟨some 44, _, _, _, _, _⟩) (.pointer (some ⟨R, 0, none⟩)) (by kernel_rfl) (by kernel_rfl) (by kernel_rfl) rfl (by rfl) (fun W hSw => by go_simp) (fun _ _ _ h => h) HRt7.out ?_
        simp only [Act.put, List.setIfInBounds_toArray, List.set_cons_zero, List.set_cons_succ]
        refine hd_take 11 (o := ⟨some 45, _, _, _, _, _⟩) (.pointer (some ⟨R, 0, none⟩)) (by kernel_rfl) (by kernel_rfl) (by kernel_rfl) rfl (by rfl) (fun W hSw => by go_simp) (fun _ _ _ h => h) HRt7.out ?_
        simp only [Act.put, List.setIfInBounds_toArray, List.set_cons_zero, List.set_cons_succ]
        refine hd_take 12 (o := ⟨some 46, _, _, _, _, _⟩) (.slice (some ⟨g, 0, none⟩) L c) (by kernel_rfl) (by kernel_rfl) (by kernel_rfl) rfl (by rfl) (fun W hSw => by have s1 := hSw.rowc; go_simp) (fun _ _ _ h => h) HRt7.out ?_
        simp only [Act.put, List.setIfInBounds_toArray, List.set_cons_zero, List.set_cons_succ]
        refine hd_take 13 (o := ⟨some 47, _, _, _, _, _⟩) (.int .i64 (i : Int)) (by kernel_rfl) (by kernel_rfl) (by kernel_rfl) rfl (by rfl) (fun W hSw => by go_simp) (fun _ _ _ h => h) HRt7.out ?_
        simp only [Act.put, List.setIfInBounds_toArray, List.set_cons_zero, List.set_cons_succ]
        refine hd_take 14 (o := ⟨some 48, _, _, _, _, _⟩) (.pointer (some ⟨g, i * 25, none⟩)) (by kernel_rfl) (by kernel_rfl) (by kernel_rfl) rfl (by rfl) (fun W hSw => by go_simp) (fun _ _ _ h => h) HRt7.out ?_
        simp only [Act.put, List.setIfInBounds_toArray, List.set_cons_zero, List.set_cons_succ]
        refine hd_take 15 (o := ⟨some 49, _, _, _, _, _⟩) (.pointer (some ⟨g, i * 25, none⟩)) (by kernel_rfl) (by kernel_rfl) (by kernel_rfl) rfl (by rfl) (fun W hSw => by go_simp) (fun _ _ _ h => h) HRt7.out ?_
        simp only [Act.put, List.setIfInBounds_toArray, List.set_cons_zero, List.set_cons_succ]
        refine hd_take 16 (o := ⟨some 50, _, _, _, _, _⟩) (.int .i64 (n : Int)) (by kernel_rfl) (by kernel_rfl) (by kernel_rfl) rfl (by rfl) (fun W hSw => by have s1 := rt_cell0 hSw HIx.out; go_simp) (fun _ _ _ h => h) HRt7.out ?_
        simp only [Act.put, List.setIfInBounds_toArray, List.set_cons_zero, List.set_cons_succ]
        refine hd_take 17 (o := ⟨some 51, _, _, _, _, _⟩) (.bool false) (by kernel_rfl) (by kernel_rfl) (by kernel_rfl) rfl (by rfl) (fun W hSw => by go_simp) (fun _ _ _ h => h) HRt7.out ?_
        simp only [Act.put, List.setIfInBounds_toArray, List.set_cons_zero, List.set_cons_succ]
        refine wpAnyH_done (by kernel_rfl) ?_ _
        clear hpb
        go_wp2
        go_roundw
        case rel => first | exact ⟨k + 1, by omega, by go_num, HQ8, HA7, HB7, HRt7⟩ | ((repeat apply Exists.intro); refine ⟨?_, rfl⟩; exact ⟨k + 1, by omega, by go_num, HQ8, HA7, HB7, HRt7⟩)
        case measure => simp [intOf]; omega
    · obtain rfl : k = L := by omega
      have hd : decide ((k : Int) < (k : Int)) = false := by simp
      rw [HQL.out] at HQ6
      obtain ⟨q, hq⟩ : ∃ q, r.le = q := ⟨_, rfl⟩
      rw [hq] at HQ6
      have HEq := hide hq
      obtain ⟨n0, n1, n2, -, -, -⟩ := blk3 HQ6.out
      obtain ⟨a0, a1, a2, f0, f1, f2⟩ := blk3 HA6.out
      have HS := hide (fun a b c => set3 HA6.out a b c)
      clear hq
      go_wp2
      refine bodyPost_ret (results_row1 rfl _ _ A 30 #[.int .i64 q.f, .int .i64 q.e, .int .i64 q.x] (0, 0) _ rfl (HS.out _ _ _) Tryz.underlying30 rfl (by kernel_rfl)) rfl ?_
      exact ⟨by rw [HEq.out]; rfl, below3 HB6.out HAA.out _ _ _⟩
end
end Go.Proofs.YtbocpmcodlceoaaGreat
