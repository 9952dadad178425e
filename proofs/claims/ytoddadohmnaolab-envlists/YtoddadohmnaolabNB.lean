import Derived.Great.Walk
import Derived.Great.BuildSlice
import Derived.DeepKeys
import Derived.Laws.StructEq
import Derived.Test.YtoddadohmnaolabNA
namespace Go.Proofs.Ytoddadohmnaolab
open Go.ChangeShapes Go.WideShapes Go.ChangeAt Go.RowKit Go.Deep Go.Shelf

section
variable {rs : List (Option Er)} {last : Int}
theorem crE_zero2 {e s : Int} {q : Qt} (hc : crE rs last e s q = 0) : ∃ (k : Nat) (r : Er), e = (k : Int) ∧ rs[k]? = some (some r) ∧ q.good ∧ last < s ∧ s ≤ 4611686018427387903 ∧ (q.plus Qt.one).le r.le ∧ ff rs < 16 := by
  unfold crE at hc
  cases hl : look rs e with
  | none => rw [hl] at hc; cases hc
  | some r =>
    obtain ⟨k, rfl, hr⟩ := look_some hl
    rw [hl] at hc
    simp only [] at hc
    by_cases h1 : q.good ∧ last < s ∧ s ≤ 4611686018427387903
    · rw [if_pos h1] at hc
      by_cases h2 : (q.plus Qt.one).le r.le ∧ ff rs < 16
      · exact ⟨k, r, rfl, hr, h1.1, h1.2.1, h1.2.2, h2.1, h2.2⟩
      · rw [if_neg h2] at hc; cases hc
    · rw [if_neg h1] at hc; cases hc
theorem look_at {k : Nat} {r : Er} (h : rs[k]? = some (some r)) : look rs (k : Int) = some r := by rw [look_nat, h]; rfl
theorem crS_at {e s : Int} {q : Qt} {k : Nat} {r : Er} (hc : crE rs last e s q = 0) (he : e = (k : Int)) (hr : rs[k]? = some (some r)) : crS rs last e s q = (rs.set (ff rs) (some (Er.new s e q))).set k (some { r with le := r.le.less (q.plus Qt.one) }) := by
  subst he
  unfold crS
  rw [look_at hr]
  simp only [hc, if_true, Int.toNat_natCast]
/-- what is made and ended at once leaves all as it was -/
theorem cr_ds (h : Iv rs last) {e s : Int} {q : Qt} (hc : crE rs last e s q = 0) :
    dsE (crS rs last e s q) ((ff rs : Nat) : Int) = 0 ∧ dsL (crS rs last e s q) ((ff rs : Nat) : Int) = [ff rs] ∧ dsS (crS rs last e s q) ((ff rs : Nat) : Int) = rs := by
  have h' := h.crS e s q
  have hL : crL rs last e s q = s := by unfold crL; rw [if_pos hc]
  rw [hL] at h'
  obtain ⟨k, r, he, hr, hg, hls, hs, hle, hf⟩ := crE_zero2 hc
  have hcs := crS_at hc he hr
  have hnf := ff_none h.tr hf
  generalize hq : ff rs = f at *
  have hfk : f ≠ k := fun e9 => by rw [e9, hr] at hnf; cases hnf
  have hkl := (List.getElem?_eq_some_iff.1 hr).1
  have hfl := (List.getElem?_eq_some_iff.1 hnf).1
  generalize hrs1 : crS rs last e s q = rs1 at *
  have hn1 : rs1[f]? = some (some (Er.new s e q)) := by
    rw [hcs, List.getElem?_set_ne (fun e9 => hfk e9.symm), List.getElem?_set_self hfl]
  have hk1 : rs1[k]? = some (some { r with le := r.le.less (q.plus Qt.one) }) := by
    rw [hcs, List.getElem?_set_self (by simpa using hkl)]
  have hf0 : f ≠ 0 := fun e9 => by
    obtain ⟨r0, h0, _⟩ := h.tr.root
    rw [e9, h0] at hnf; cases hnf
  have hE : dsE rs1 ((f : Nat) : Int) = 0 := by
    unfold dsE
    rw [look_at hn1]
    simp only []
    rw [if_neg (by omega)]
  have hsf : ser rs1 f = s := by rw [ser_core, core_at hn1]; rfl
  have hkids : kids rs1 ((f : Nat) : Int) = [] := by
    rcases hq : kids rs1 ((f : Nat) : Int) with _ | ⟨c, l⟩
    · rfl
    · have hk := kids_kid (rs := rs1) (e := ((f : Nat) : Int)) (k := c) (by rw [hq]; simp)
      have h1 := (kid_ser h'.tr hk).1
      have h2 := h'.tr.old c (kid_lv hk)
      rw [hsf] at h1
      omega
  have hwk : wk rs1 17 f = [f] := by
    show f :: (kids rs1 ((f : Nat) : Int)).flatMap (wk rs1 16) = [f]
    rw [hkids]; rfl
  refine ⟨hE, ?_, ?_⟩
  · unfold dsL
    rw [hE, if_pos rfl, Int.toNat_natCast, hwk]
  · unfold dsS
    rw [look_at hn1]
    simp only []
    rw [if_neg (by omega), Int.toNat_natCast, hwk, dsP_at (p := k) he hk1]
    have hrr : (some { ({ r with le := r.le.less (q.plus Qt.one) } : Er) with le := (r.le.less (q.plus Qt.one)).plus ((Er.new s e q).qu.plus Qt.one) } : Option Er) = some r := by
      have h9 : (r.le.less (q.plus Qt.one)).plus ((Er.new s e q).qu.plus Qt.one) = r.le := by
        refine qt_ext ?_ ?_ ?_ <;> simp only [Qt.plus, Qt.less, Qt.one, Er.new] <;> omega
      rw [h9]
    rw [hrr]
    show (rs1.set k (some r)).set f none = rs
    rw [hcs]
    refine List.ext_getElem? (fun i => ?_)
    by_cases e1 : i = f
    · subst e1
      rw [List.getElem?_set_self (by simpa using hfl), hnf]
    · rw [List.getElem?_set_ne (fun e9 => e1 e9.symm)]
      by_cases e2 : i = k
      · subst e2
        rw [List.getElem?_set_self (by simpa using hkl), hr]
      · rw [List.getElem?_set_ne (fun e9 => e2 e9.symm), List.getElem?_set_ne (fun e9 => e2 e9.symm), List.getElem?_set_ne (fun e9 => e1 e9.symm)]
end
section
variable (w : World) (F : Nat → Prop) (T : Nat) (rs : List (Option Er)) (last : Int)
set_option maxRecDepth 8000 in
set_option maxHeartbeats 3200000 in
theorem infoNone_any (h : Et w F T rs last) (e : Int) (hl : look rs e = none) : Calls Try.prog 10 #[.pointer (some ⟨T, 0, none⟩), .int .i64 e] w fun x w' => x = .returned (.tuple #[.agg Er.nil.head.toArray, .int .i64 90]) ∧ Below w.heap.size w w' := by
  have h0 : Eb (w.alloc (.cells Er.nil.head.toArray 40)) w.heap.size Er.nil := Eb.new _ _
  have hb0 := (Below.refl w.heap.size w).alloc (Nat.le_refl _) (.cells Er.nil.head.toArray 40)
  obtain ⟨S, G, m, h⟩ := h
  have h := h.below hb0
  have HB0 := hide hb0
  have H0 := hide h0
  clear hb0 h0
  go_enter Try.func10, Try.ntmps10
  go_upto_region 1 with fail
  show Code.wp _ _ _ _ (w.alloc (.cells Er.nil.head.toArray 40))
  generalize w.alloc (.cells Er.nil.head.toArray 40) = w1 at *
  have c0 := h.cell.1
  have HG := hide (getL_any _ G S m h.tab e)
  rcases h.cases e with ⟨h2, h1⟩ | ⟨k', b, r', e1, hm, h3, h4, _, hR⟩
  · rw [h2] at HG
    simp only [ptr, Option.isSome_none] at HG
    obtain ⟨t, ht⟩ : ∃ t, Er.nil = t := ⟨_, rfl⟩
    rw [ht] at H0
    have HT := hide ht
    have HE4 := hide (H0.out.lay t).out
    have HB4 := hide (below_setCells HB0.out (Nat.le_refl _) 0 t.head)
    clear ht
    clear h HB0
    go_wp2_with fail
    refine HG.out.mono ?_
    rintro e1 w2 ⟨rfl, rfl⟩
    go_wp2_with (refine storeE t ?nw _ _ rfl w.heap.size t ?nx ?ny ?nz ?_; rotate_left 4; generalize w2.setCells w.heap.size 0 t.head = w4 at *)
    try (case nw => rfl)
    try (case nx => rfl)
    try (case ny => rw [← HT.out]; rfl)
    try (case nz => exact H0.out)
    refine bodyPost_ret (results_row2 rfl _ _ w.heap.size 40 t.head.toArray (0, 0) _ rfl HE4.out Try.underlying40 rfl (by rw [List.size_toArray, head_len]; exact infoE)) rfl ?_
    exact ⟨by rw [HT.out]; rfl, HB4.out⟩
  · subst e1
    rw [look_nat, h3] at hl; cases hl
end
section
variable {w : World} {B : Nat} {rs : List (Option Er)} {last : Int}
theorem lives_no (h : Bq w B rs last) (e : Int) (hl : look rs e = none) : Calls Try.prog 14 #[.pointer (some ⟨B, 0, none⟩), .int .i64 e] w fun x w' => x = .returned (.bool false) ∧ w' = w := by
  by_cases h0 : e < 0
  · have hd : decide (e ≥ 0) = false := by simp; omega
    clear h hl
    go_enter Try.func14, Try.ntmps14
    go_wp2
    go_ret
    exact ⟨rfl, rfl⟩
  · by_cases h1 : e < 16
    · obtain ⟨k, rfl⟩ : ∃ k : Nat, e = k := ⟨e.toNat, by omega⟩
      have hv : lvb rs k = false := by
        unfold lvb core
        rw [hl]; rfl
      have := lives_any h k (by omega)
      rw [hv] at this
      exact this
    · have hd : decide (e < 16) = false := by simp; omega
      have hd2 : decide (e ≥ 0) = true := by simp; omega
      clear h hl
      go_enter Try.func14, Try.ntmps14
      go_wp2
      go_ret
      exact ⟨rfl, rfl⟩
end
end Go.Proofs.Ytoddadohmnaolab

namespace Go.Proofs.Ytoddadohmnaolab
open Go.ChangeShapes Go.WideShapes Go.ChangeAt Go.RowKit Go.Deep Go.Shelf Go.Great

/-- what Info tells of a number -/
def tf (rs : List (Option Er)) (i : Nat) : Er := match look rs (i : Int) with | some r => r.told | none => Er.nil
def tg (rs : List (Option Er)) (i : Nat) : Int := match look rs (i : Int) with | some _ => 0 | none => 90
theorem info_both {w : World} {F : Nat → Prop} {T : Nat} {rs : List (Option Er)} {last : Int} (h : Et w F T rs last) (i : Nat) : Calls Try.prog 10 #[.pointer (some ⟨T, 0, none⟩), .int .i64 (i : Int)] w fun x w' => x = .returned (.tuple #[.agg (tf rs i).head.toArray, .int .i64 (tg rs i)]) ∧ Below w.heap.size w w' := by
  unfold tf tg
  cases hl : look rs (i : Int) with
  | none => exact infoNone_any w F T rs last h _ hl
  | some r =>
    obtain ⟨k, e, hr⟩ := look_some hl
    obtain rfl : i = k := by omega
    exact info_any w F T rs last h _ r hr
/-- the cells of what is told of every number -/
structure Tc (cs : List Value) (f : Nat → Er) (g : Nat → Int) : Prop where
  len : cs.length = 352
  env : ∀ i, i < 16 → ∀ j, j < 21 → cs[i * 21 + j]? = (f i).head[j]?
  err : ∀ i, i < 16 → cs[336 + i]? = some (.int .i64 (g i))
theorem Tc.ext {cs cs' : List Value} {f f' : Nat → Er} {g g' : Nat → Int} (h : Tc cs f g) (h' : Tc cs' f' g') (hf : ∀ i, i < 16 → (f i).head = (f' i).head) (hg : ∀ i, i < 16 → g i = g' i) : cs = cs' := by
  refine List.ext_getElem? (fun n => ?_)
  by_cases h1 : n < 336
  · have e1 : n = n / 21 * 21 + n % 21 := by omega
    have e2 : n / 21 < 16 := by omega
    have e3 : n % 21 < 21 := by omega
    have q1 := h.env _ e2 _ e3
    have q2 := h'.env _ e2 _ e3
    rw [← e1] at q1 q2
    rw [q1, q2, hf _ e2]
  · by_cases h2 : n < 352
    · obtain ⟨i, rfl⟩ : ∃ i, n = 336 + i := ⟨n - 336, by omega⟩
      rw [h.err i (by omega), h'.err i (by omega), hg i (by omega)]
    · rw [List.getElem?_eq_none (by rw [h.len]; omega), List.getElem?_eq_none (by rw [h'.len]; omega)]
theorem setsL_len : ∀ (vs cs : List Value) (o : Nat), (setsL cs o vs).length = cs.length
  | [], _, _ => rfl
  | v :: r, cs, o => by rw [setsL, setsL_len r]; simp
theorem setsL_get : ∀ (vs cs : List Value) (o i : Nat), o + vs.length ≤ cs.length → (setsL cs o vs)[i]? = if o ≤ i ∧ i < o + vs.length then vs[i - o]? else cs[i]?
  | [], cs, o, i, _ => by rw [setsL, if_neg (by simp only [List.length_nil]; omega)]
  | v :: r, cs, o, i, h => by
    simp only [List.length_cons] at h ⊢
    rw [setsL, setsL_get r _ (o + 1) i (by simp; omega)]
    by_cases h1 : i = o
    · subst h1
      rw [if_neg (by omega), if_pos (by omega), List.getElem?_set_self (by omega)]
      simp
    · by_cases h2 : o ≤ i ∧ i < o + (r.length + 1)
      · rw [if_pos (by omega), if_pos h2]
        obtain ⟨d, rfl⟩ : ∃ d, i = o + 1 + d := ⟨i - (o + 1), by omega⟩
        rw [show o + 1 + d - (o + 1) = d by omega, show o + 1 + d - o = d + 1 by omega]
        rfl
      · rw [if_neg (by omega), if_neg h2, List.getElem?_set_ne (fun e => h1 e.symm)]
theorem setsL_all (cs vs : List Value) (h : cs.length = vs.length) : setsL cs 0 vs = vs := by
  refine List.ext_getElem? (fun i => ?_)
  rw [setsL_get vs cs 0 i (by omega)]
  by_cases h1 : i < vs.length
  · rw [if_pos (by omega)]; rfl
  · rw [if_neg (by omega), List.getElem?_eq_none (by omega), List.getElem?_eq_none (by omega)]
theorem Tc.step {cs : List Value} {f : Nat → Er} {g : Nat → Int} (h : Tc cs f g) {k : Nat} (hk : k < 16) (r : Er) (z : Int) : Tc ((setsL cs (k * 21) r.head).set (336 + k) (.int .i64 z)) (fun i => if i = k then r else f i) (fun i => if i = k then z else g i) := by
  have hb : k * 21 + r.head.length ≤ cs.length := by rw [head_len, h.len]; omega
  refine ⟨by rw [List.length_set, setsL_len]; exact h.len, fun i hi j hj => ?_, fun i hi => ?_⟩
  · rw [List.getElem?_set_ne (by omega), setsL_get _ _ _ _ hb, head_len]
    by_cases e : i = k
    · subst e
      rw [if_pos (by omega), if_pos rfl, show i * 21 + j - i * 21 = j by omega]
    · rw [if_neg e, if_neg (by omega)]
      exact h.env i hi j hj
  · by_cases e : i = k
    · subst e
      rw [List.getElem?_set_self (by rw [setsL_len, h.len]; omega), if_pos rfl]
    · rw [List.getElem?_set_ne (by omega), setsL_get _ _ _ _ hb, head_len, if_neg (by omega), if_neg e]
      exact h.err i hi
/-- rows of what is told -/
def rows (f : Nat → Er) (n : Nat) : List Value := (List.range n).flatMap (fun i => (f i).head)
theorem rows_succ (f : Nat → Er) (n : Nat) : rows f (n + 1) = rows f n ++ (f n).head := by
  unfold rows
  rw [List.range_succ, List.flatMap_append]
  simp
theorem rows_len (f : Nat → Er) : ∀ n, (rows f n).length = n * 21
  | 0 => rfl
  | n + 1 => by rw [rows_succ, List.length_append, rows_len f n, head_len]; omega
theorem rows_get (f : Nat → Er) : ∀ n i j, i < n → j < 21 → (rows f n)[i * 21 + j]? = (f i).head[j]?
  | 0, _, _, h, _ => by omega
  | n + 1, i, j, h, hj => by
    rw [rows_succ]
    by_cases e : i = n
    · subst e
      rw [List.getElem?_append_right (by rw [rows_len]; omega), rows_len, show i * 21 + j - i * 21 = j by omega]
    · rw [List.getElem?_append_left (by rw [rows_len]; omega)]
      exact rows_get f n i j (by omega) hj
/-- nothing told yet -/
def zT : List Value := rows (fun _ => Er.nil) 16 ++ List.replicate 16 (.int .i64 0)
theorem zT_tc : Tc zT (fun _ => Er.nil) (fun _ => 0) := by
  unfold zT
  refine ⟨by rw [List.length_append, rows_len, List.length_replicate], fun i hi j hj => ?_, fun i hi => ?_⟩
  · rw [List.getElem?_append_left (by rw [rows_len]; omega)]
    exact rows_get (fun _ => Er.nil) 16 i j hi hj
  · rw [List.getElem?_append_right (by rw [rows_len]; omega), rows_len, List.getElem?_replicate, if_pos (by omega)]
end Go.Proofs.Ytoddadohmnaolab

namespace Go.Proofs.Ytoddadohmnaolab
open Go.ChangeShapes Go.WideShapes Go.ChangeAt Go.RowKit Go.Deep Go.Shelf Go.Great

theorem infoTold : (Try.prog.info? 62).map (·.size) = some 352 := by kernel_rfl
theorem Tc.cong {cs : List Value} {f f' : Nat → Er} {g g' : Nat → Int} (h : Tc cs f g) (hf : ∀ i, i < 16 → f i = f' i) (hg : ∀ i, i < 16 → g i = g' i) : Tc cs f' g' :=
  ⟨h.len, fun i hi j hj => by rw [h.env i hi j hj, hf i hi], fun i hi => by rw [h.err i hi, hg i hi]⟩
theorem Tc.one {cs : List Value} {f : Nat → Er} {g : Nat → Int} (h : Tc cs f g) : ∀ u ∈ cs, u.oneCell' = true := by
  intro u hu
  obtain ⟨n, hn, rfl⟩ := List.getElem_of_mem hu
  have hl := h.len
  by_cases h1 : n < 336
  · have e1 : n = n / 21 * 21 + n % 21 := by omega
    have q1 := h.env (n / 21) (by omega) (n % 21) (by omega)
    rw [← e1, List.getElem?_eq_getElem hn] at q1
    exact head_one _ _ (List.mem_of_getElem? q1.symm)
  · obtain ⟨i, rfl⟩ : ∃ i, n = 336 + i := ⟨n - 336, by omega⟩
    have q1 := h.err i (by omega)
    rw [List.getElem?_eq_getElem hn] at q1
    rw [Option.some.inj q1]; rfl
/-- what is told so far -/
def tF (rs : List (Option Er)) (j i : Nat) : Er := if i < j then tf rs i else Er.nil
def tG (rs : List (Option Er)) (j i : Nat) : Int := if i < j then tg rs i else 0
theorem Tc.next {cs : List Value} {rs : List (Option Er)} {j : Nat} (h : Tc cs (tF rs j) (tG rs j)) (hj : j < 16) : Tc ((setsL cs (j * 21) (tf rs j).head).set (336 + j) (.int .i64 (tg rs j))) (tF rs (j + 1)) (tG rs (j + 1)) := by
  refine (h.step hj (tf rs j) (tg rs j)).cong (fun i _ => ?_) (fun i _ => ?_)
  · unfold tF
    by_cases e : i = j
    · subst e; rw [if_pos rfl, if_pos (by omega)]
    · rw [if_neg e]
      by_cases e2 : i < j
      · rw [if_pos e2, if_pos (by omega)]
      · rw [if_neg e2, if_neg (by omega)]
  · unfold tG
    by_cases e : i = j
    · subst e; rw [if_pos rfl, if_pos (by omega)]
    · rw [if_neg e]
      by_cases e2 : i < j
      · rw [if_pos e2, if_pos (by omega)]
      · rw [if_neg e2, if_neg (by omega)]
section
variable {w : World} {F : Nat → Prop} {T : Nat} {rs : List (Option Er)} {last : Int}
set_option maxRecDepth 100000 in
set_option maxHeartbeats 3200000 in
theorem told_any (h : Et w F T rs last) : Calls Try.prog 22 #[.pointer (some ⟨T, 0, none⟩)] w fun x w' => ∃ cs, x = .returned (.agg cs.toArray) ∧ Tc cs (tf rs) (tg rs) ∧ Below w.heap.size w w' := by
  have HE := hide h
  clear h
  obtain ⟨zt, hzt⟩ : ∃ zt, zt = zT := ⟨_, rfl⟩
  have HZ := hide hzt
  have hrun : ∀ (ρ : Operand → Value) (o : Oper) (W : World), o.op = .alloc 62 → (execOp ρ o).run Try.prog W = .ok (.value (.pointer (some ⟨W.heap.size, 0, none⟩))) (W.alloc (.cells zt.toArray 62)) := by
    intro ρ o W ho
    rw [hzt]
    unfold execOp
    rw [ho]
    kernel_rfl
  clear hzt
  go_enter Try.func22, Try.ntmps22
  go_upto_region 0 with fail
  apply wp_region_lit
  refine wpList_allocTo rfl (some 2) rfl (.pointer (some ⟨w.heap.size, 0, none⟩)) (.cells zt.toArray 62) (hrun _ _ _ rfl) ?_
  apply wpList_nil
  rename_i K hK
  refine hK _ _ ?_
  clear hK K
  simp only [Act.put, List.setIfInBounds_toArray, List.set_cons_zero, List.set_cons_succ]
  go_upto_region 1 with fail
  apply wp_region_lit
  refine wpList_allocTo rfl (some 3) rfl (.pointer (some ⟨(w.alloc (.cells zt.toArray 62)).heap.size, 0, none⟩)) (.cells zt.toArray 62) (hrun _ _ _ rfl) ?_
  apply wpList_nil
  rename_i K hK
  refine hK _ _ ?_
  clear hK K
  simp only [Act.put, List.setIfInBounds_toArray, List.set_cons_zero, List.set_cons_succ]
  have hb1 := (Below.refl w.heap.size w).alloc (Nat.le_refl _) (.cells zt.toArray 62)
  have a1 := heap_alloc_new w (.cells zt.toArray 62)
  have hb2 := hb1.alloc (by simp) (.cells zt.toArray 62)
  have a2 := heap_alloc_new (w.alloc (.cells zt.toArray 62)) (.cells zt.toArray 62)
  have a3 : ((w.alloc (.cells zt.toArray 62)).alloc (.cells zt.toArray 62)).heap[w.heap.size]? = some (.cells zt.toArray 62 (0, 0)) := by rw [Below.heap_alloc _ _ _ (by simp)]; exact a1
  have hne : (w.alloc (.cells zt.toArray 62)).heap.size = w.heap.size + 1 := by simp
  rw [hne] at a2 ⊢
  clear hb1 a1 hne hrun
  generalize (w.alloc (.cells zt.toArray 62)).alloc (.cells zt.toArray 62) = w2 at *
  have HB := hide hb2
  have H1 := hide a3
  have H2 : Hid (∃ cs : List Value, w2.heap[w.heap.size + 1]? = some (.cells cs.toArray 62 (0, 0)) ∧ Tc cs (tF rs 0) (tG rs 0)) := hide ⟨zt, a2, by rw [HZ.out]; exact zT_tc.cong (fun i _ => rfl) (fun i _ => rfl)⟩
  have HZl : Hid (zt.length = 352) := hide (by rw [HZ.out]; exact zT_tc.len)
  clear hb2 a3 a2 HZ
  go_upto_region 3 with fail
  go_loopw [4] (fun x wr => ∃ j : Nat, j ≤ 16 ∧ x = .int .i64 (j : Int) ∧ Hid (∃ cs : List Value, wr.heap[w.heap.size + 1]? = some (.cells cs.toArray 62 (0, 0)) ∧ Tc cs (tF rs j) (tG rs j)) ∧ Hid (wr.heap[w.heap.size]? = some (.cells zt.toArray 62 (0, 0))) ∧ Hid (Below w.heap.size w wr)) (fun x _ => 16 - (intOf x).toNat)
  case atStart => exact ⟨0, by omega, rfl, H2, H1, HB⟩
  case round =>
  clear H2 H1 HB
  obtain ⟨j, hj, rfl, K2, K1, KB⟩ := hrel
  by_cases h16 : j < 16
  · have hd : decide ((j : Int) < 16) = true := by simp; omega
    have hj3 : (j : Int) < 16 := by omega
    have HI := hide (info_both (HE.out.keep KB.out.size (fun b hb => KB.out.block b (HE.out.lt b hb))) j)
    go_wp2_with fail
    refine HI.out.mono ?_
    rintro e1 u1 ⟨rfl, hb1⟩
    obtain ⟨cs, hc, hT⟩ := K2.out
    have hc1 := (hb1.block _ (Array.getElem?_eq_some_iff.1 hc).1).trans hc
    have K1' := hide ((hb1.block _ (Array.getElem?_eq_some_iff.1 K1.out).1).trans K1.out)
    have KB' := hide (KB.out.trans (hb1.mono KB.out.size))
    have HC1 := hide hc1
    have HT := hide hT
    have HTn := hide (hT.next h16)
    have hlen := hT.len
    clear K2 K1 KB HI hb1 hc hT hc1
    generalize hr : tf rs j = r at *
    generalize hz : tg rs j = z at *
    have hcx := heap_setCells_row (w.heap.size + 1) 62 r.head (j * 21) u1 cs HC1.out
    have HCx := hide hcx
    have hK1 : (u1.setCells (w.heap.size + 1) (j * 21) r.head).heap[w.heap.size]? = some (.cells zt.toArray 62 (0, 0)) := by rw [heap_setCells_other _ _ (by omega)]; exact K1'.out
    have HK1 := hide hK1
    have HBx := hide (below_setCells KB'.out (show w.heap.size ≤ w.heap.size + 1 by omega) (j * 21) r.head)
    have hle : j * 21 + r.head.length ≤ cs.length := by rw [head_len, hlen]; omega
    have hsl : (setsL cs (j * 21) r.head).length = 352 := by rw [setsL_len]; exact hlen
    have hcell : (u1.setCells (w.heap.size + 1) (j * 21) r.head).cell? ⟨w.heap.size + 1, 336 + j, none⟩ = some (.int .i64 (tG rs j j)) := by
      rw [cell_of_row _ _ _ _ _ _ hcx]
      have h9 := setsL_get r.head cs (j * 21) (336 + j) hle
      rw [head_len, if_neg (by omega), HT.out.err j h16] at h9
      simpa using h9
    have hfrz := frozen_of_row (u1.setCells (w.heap.size + 1) (j * 21) r.head) (w.heap.size + 1) (336 + j) _ _ hcx
    clear hK1 K1' hcx
    go_wp2_with (refine storeT r.head (by rw [head_len]; exact infoE) (head_one r) ?nw _ _ rfl (w.heap.size + 1) (j * 21) ?nx ?ny cs HC1.out hle ?_; rotate_left 3; generalize u1.setCells (w.heap.size + 1) (j * 21) r.head = u2 at *)
    try (case nw => rfl)
    try (case nx => rfl)
    try (case ny => rfl)
    have N2 : Hid (∃ cs : List Value, (u2.setCell ⟨w.heap.size + 1, 336 + j, none⟩ (.int .i64 z)).heap[w.heap.size + 1]? = some (.cells cs.toArray 62 (0, 0)) ∧ Tc cs (tF rs (j + 1)) (tG rs (j + 1))) := hide ⟨_, by rw [heap_setCell_same _ _ _ _ _ (.int .i64 z) HCx.out, List.setIfInBounds_toArray], HTn.out⟩
    have N1 : Hid ((u2.setCell ⟨w.heap.size + 1, 336 + j, none⟩ (.int .i64 z)).heap[w.heap.size]? = some (.cells zt.toArray 62 (0, 0))) := hide (by rw [heap_setCell_other _ _ _ _ (show w.heap.size ≠ w.heap.size + 1 by omega)]; exact HK1.out)
    have NB := hide (HBx.out.setCell (p := ⟨w.heap.size + 1, 336 + j, none⟩) (show w.heap.size ≤ w.heap.size + 1 by omega) (.int .i64 z))
    go_roundw
    case rel =>
      first
        | exact ⟨j + 1, by omega, by go_num, N2, N1, NB⟩
        | ((repeat apply Exists.intro); refine ⟨?_, rfl⟩; exact ⟨j + 1, by omega, by go_num, N2, N1, NB⟩)
    case measure => simp [intOf]; omega
  · obtain rfl : j = 16 := by omega
    obtain ⟨cs, hc, hT⟩ := K2.out
    have HC := hide hc
    have HT := hide hT
    have hT2 : Tc cs (tf rs) (tg rs) := hT.cong (fun i hi => by unfold tF; rw [if_pos hi]) (fun i hi => by unfold tG; rw [if_pos hi])
    have HT2 := hide hT2
    have hx : (wr.setCells w.heap.size 0 cs).heap[w.heap.size]? = some (.cells cs.toArray 62 (0, 0)) := by
      have h9 := heap_setCells_row w.heap.size 62 cs 0 wr zt K1.out
      rw [setsL_all zt cs (by rw [HZl.out, hT.len])] at h9
      exact h9
    have HX := hide hx
    have HBx := hide (below_setCells KB.out (Nat.le_refl _) 0 cs)
    have hle : 0 + cs.length ≤ zt.length := by rw [HZl.out, hT.len]; omega
    have hi : (Try.prog.info? 62).map (·.size) = some cs.length := by rw [hT.len]; exact infoTold
    clear hc hT hT2 hx K2
    go_wp2_with (first
      | (refine loadT Try.underlying62 rfl cs hi ?lw _ rfl ⟨w.heap.size + 1, 0, none⟩ ?lx (fun j v hv => by rw [add_nat, cell_of_row _ _ _ _ _ _ HC.out]; simpa using hv) ?_; rotate_left 2)
      | (refine storeT cs hi HT.out.one ?sw _ _ rfl w.heap.size 0 ?sx ?sy zt K1.out hle ?_; rotate_left 3; generalize wr.setCells w.heap.size 0 cs = w4 at *))
    try (case lw => rfl)
    try (case lx => rfl)
    try (case sw => rfl)
    try (case sx => rfl)
    try (case sy => rfl)
    refine bodyPost_ret (results_row1 rfl _ _ w.heap.size 62 cs.toArray (0, 0) _ rfl HX.out Try.underlying62 rfl (by rw [List.size_toArray]; exact hi)) rfl ?_
    exact ⟨cs, rfl, HT2.out, HBx.out⟩
end
end Go.Proofs.Ytoddadohmnaolab

namespace Go.Proofs.Ytoddadohmnaolab
open Go.ChangeShapes Go.WideShapes Go.ChangeAt Go.RowKit Go.Deep Go.Shelf

/-- a value is equal to itself -/
def Se (d : Nat) (t : TypeId) (v : Value) : Prop := ∀ w, (Op.equalIn d t v v).run Try.prog w = .ok true w
theorem se_int {t : TypeId} {k' : IntKind} (h : Try.prog.underlying t = some (.int k')) (d : Nat) (k : IntKind) (z : Int) : Se (d + 1) t (.int k z) := fun w => by
  rw [run_equalIn_int w d t k k' z z h]; simp
theorem se_bool {t : TypeId} (h : Try.prog.underlying t = some .bool) (d : Nat) (b : Bool) : Se (d + 1) t (.bool b) := fun w => by
  rw [run_equalIn_bool' w d t b b h]; simp
theorem part_cell {t : TypeId} {d : TypeDesc} (hu : Try.prog.underlying t = some d) (hd : (match d with | .struct _ | .array _ _ => true | _ => false) = false) {xs : Array Value} {off : Nat} {v : Value} (hx : xs[off]? = some v) (w : World) : (part t xs off).run Try.prog w = .ok v w := by
  have hagg : (isAgg t).run Try.prog w = .ok false w := by
    unfold isAgg
    rw [Sem.run_bind, run_underlying hu w]
    cases d <;> simp_all
  simp [part, Sem.run_bind, hagg, hx]
theorem part_agg {t : TypeId} {d : TypeDesc} (hu : Try.prog.underlying t = some d) (hd : (match d with | .struct _ | .array _ _ => true | _ => false) = true) {n : Nat} (hn : (Try.prog.info? t).map (·.size) = some n) {xs ys : Array Value} {off : Nat} (hx : xs.extract off (off + n) = ys) (w : World) : (part t xs off).run Try.prog w = .ok (.agg ys) w := by
  have hagg : (isAgg t).run Try.prog w = .ok true w := by
    unfold isAgg
    rw [Sem.run_bind, run_underlying hu w]
    cases d <;> simp_all
  cases hq : Try.prog.info? t with
  | none => simp [hq] at hn
  | some i =>
    have hs : i.size = n := by simpa [hq] using hn
    simp [part, Sem.run_bind, hagg, sizeOf, typeInfo, hq, hs, hx]
/-- what stands at a place of some cells, and is equal to itself -/
def Pe (d : Nat) (xs : Array Value) (t : TypeId) (off : Nat) : Prop := ∃ v, (∀ w, (part t xs off).run Try.prog w = .ok v w) ∧ Se d t v
theorem se_fields (d : Nat) (xs : Array Value) : ∀ fs : List Field, (∀ f ∈ fs, Pe d xs f.type f.offset) → ∀ w, (Op.eqFields d xs xs fs).run Try.prog w = .ok true w
  | [], _, w => by simp [Op.eqFields]
  | f :: fs, h, w => by
    obtain ⟨v, h1, h2⟩ := h f List.mem_cons_self
    have h3 := se_fields d xs fs (fun g hg => h g (List.mem_cons_of_mem _ hg)) w
    by_cases hn : f.name = "_"
    · simp [Op.eqFields, hn, h3]
    · simp [Op.eqFields, hn, Sem.run_bind, h1, h2 w, h3]
theorem se_struct {t : TypeId} (ht : Try.prog.underlying t = some (.struct (Try.prog.fieldsOf t))) (hp : Try.prog.stoodInHeld t = false) {ps : List (TypeId × Nat)} (hfs : (Try.prog.fieldsOf t).toList.map (fun f => (f.type, f.offset)) = ps) (d : Nat) (xs : Array Value) (h : ∀ p ∈ ps, Pe d xs p.1 p.2) : Se (d + 1) t (.agg xs) := fun w => by
  rw [run_equalIn_struct w d t xs xs ht hp]
  exact se_fields d xs _ (fun f hf => h (f.type, f.offset) (by rw [← hfs]; exact List.mem_map.2 ⟨f, hf, rfl⟩)) w
theorem se_items (d : Nat) (xs : Array Value) (e : TypeId) (c : Nat) : ∀ is : List Nat, (∀ i ∈ is, Pe d xs e (i * c)) → ∀ w, (Op.eqItems d e c xs xs is).run Try.prog w = .ok true w
  | [], _, w => by simp [Op.eqItems]
  | i :: is, h, w => by
    obtain ⟨v, h1, h2⟩ := h i List.mem_cons_self
    have h3 := se_items d xs e c is (fun g hg => h g (List.mem_cons_of_mem _ hg)) w
    simp [Op.eqItems, Sem.run_bind, h1, h2 w, h3]
theorem se_array {t e : TypeId} {n c : Nat} (hu : Try.prog.underlying t = some (.array n e)) (hi : (Try.prog.info? e).map (·.size) = some c) (hc : Try.prog.cellsOf e = c) (d : Nat) (xs : Array Value) (h : ∀ i, i < n → Pe d xs e (i * c)) : Se (d + 1) t (.agg xs) := fun w => by
  cases hq : Try.prog.info? e with
  | none => simp [hq] at hi
  | some i =>
    rw [run_equalIn_array w d xs xs hu hq, hc]
    exact se_items d xs e c _ (fun i hi => h i (List.mem_range.1 hi)) w
theorem pe_cell {t : TypeId} {k' : IntKind} (hu : Try.prog.underlying t = some (.int k')) (d : Nat) {xs : Array Value} {off : Nat} {k : IntKind} {z : Int} (hx : xs[off]? = some (.int k z)) : Pe (d + 1) xs t off := ⟨_, part_cell hu rfl hx, se_int hu d k z⟩
theorem pe_bool {t : TypeId} (hu : Try.prog.underlying t = some .bool) (d : Nat) {xs : Array Value} {off : Nat} {b : Bool} (hx : xs[off]? = some (.bool b)) : Pe (d + 1) xs t off := ⟨_, part_cell hu rfl hx, se_bool hu d b⟩
theorem se_quota (d : Nat) (q : Qt) : Se (d + 2) 32 (.agg #[.int .i64 q.f, .int .i64 q.e, .int .i64 q.x]) := by
  refine se_struct (ps := [(3, 0), (3, 1), (3, 2)]) (by kernel_rfl) (by kernel_rfl) (by kernel_rfl) (d + 1) _ (fun p hp => ?_)
  simp only [List.mem_cons, List.not_mem_nil, or_false] at hp
  rcases hp with rfl | rfl | rfl <;> exact pe_cell Try.underlying3 d rfl
theorem se_r8 (d : Nat) (g : Nat → Nat) : Se (d + 2) 34 (.agg #[.int .u32 (g 0 : Nat), .int .u32 (g 1 : Nat), .int .u32 (g 2 : Nat), .int .u32 (g 3 : Nat), .int .u32 (g 4 : Nat), .int .u32 (g 5 : Nat), .int .u32 (g 6 : Nat), .int .u32 (g 7 : Nat)]) := by
  refine se_array (c := 1) Try.underlying34 (by kernel_rfl) (by kernel_rfl) (d + 1) _ (fun i hi => ?_)
  have : i = 0 ∨ i = 1 ∨ i = 2 ∨ i = 3 ∨ i = 4 ∨ i = 5 ∨ i = 6 ∨ i = 7 := by omega
  rcases this with rfl | rfl | rfl | rfl | rfl | rfl | rfl | rfl <;> exact pe_cell Try.underlying33 d rfl
theorem se_regs (d : Nat) (g : Nat → Nat) (pc : Nat) : Se (d + 3) 36 (.agg #[.int .u32 (g 0 : Nat), .int .u32 (g 1 : Nat), .int .u32 (g 2 : Nat), .int .u32 (g 3 : Nat), .int .u32 (g 4 : Nat), .int .u32 (g 5 : Nat), .int .u32 (g 6 : Nat), .int .u32 (g 7 : Nat), .int .u32 (pc : Nat)]) := by
  refine se_struct (ps := [(34, 0), (33, 8)]) (by kernel_rfl) (by kernel_rfl) (by kernel_rfl) (d + 2) _ (fun p hp => ?_)
  simp only [List.mem_cons, List.not_mem_nil, or_false] at hp
  rcases hp with rfl | rfl
  · exact ⟨_, part_agg Try.underlying34 rfl (n := 8) (by kernel_rfl) (by simp), se_r8 d g⟩
  · exact pe_cell Try.underlying33 (d + 1) rfl
theorem se_env (d : Nat) (e : Er) : Se (d + 4) 40 (.agg e.head.toArray) := by
  refine se_struct (ps := [(3, 0), (3, 1), (3, 2), (3, 3), (3, 4), (4, 5), (36, 6), (32, 15), (32, 18)]) (by kernel_rfl) (by kernel_rfl) (by kernel_rfl) (d + 3) _ (fun p hp => ?_)
  simp only [List.mem_cons, List.not_mem_nil, or_false] at hp
  rcases hp with rfl | rfl | rfl | rfl | rfl | rfl | rfl | rfl | rfl
  · exact pe_cell Try.underlying3 (d + 2) rfl
  · exact pe_cell Try.underlying3 (d + 2) rfl
  · exact pe_cell Try.underlying3 (d + 2) rfl
  · exact pe_cell Try.underlying3 (d + 2) rfl
  · exact pe_cell Try.underlying3 (d + 2) rfl
  · exact pe_bool Try.underlying4 (d + 2) rfl
  · exact ⟨_, part_agg Try.underlying36 rfl (n := 9) (by kernel_rfl) (by simp [Er.head]), se_regs d e.rg e.pc⟩
  · exact ⟨_, part_agg Try.underlying32 rfl (n := 3) (by kernel_rfl) (by simp [Er.head]), se_quota (d + 1) e.qu⟩
  · exact ⟨_, part_agg Try.underlying32 rfl (n := 3) (by kernel_rfl) (by simp [Er.head]), se_quota (d + 1) e.lf⟩
/-- what is told is equal to itself -/
theorem Tc.se {cs : List Value} {f : Nat → Er} {g : Nat → Int} (h : Tc cs f g) (d : Nat) : Se (d + 6) 62 (.agg cs.toArray) := by
  refine se_struct (ps := [(59, 0), (60, 336)]) (by kernel_rfl) (by kernel_rfl) (by kernel_rfl) (d + 5) _ (fun p hp => ?_)
  simp only [List.mem_cons, List.not_mem_nil, or_false] at hp
  rcases hp with rfl | rfl
  · refine ⟨_, part_agg Try.underlying59 rfl (n := 336) (by kernel_rfl) rfl, ?_⟩
    refine se_array (c := 21) Try.underlying59 (by kernel_rfl) (by kernel_rfl) (d + 4) _ (fun i hi => ?_)
    refine ⟨_, part_agg Try.underlying40 rfl (n := 21) infoE ?_, se_env d (f i)⟩
    refine Array.ext_getElem? (fun j => ?_)
    by_cases hj : j < 21
    · rw [Array.getElem?_extract_of_lt (by simp [h.len]; omega), ← Array.getElem?_eq_getElem, Array.getElem?_extract_of_lt (by simp [h.len]; omega), ← Array.getElem?_eq_getElem]
      have := h.env i hi j hj
      simpa using this
    · rw [Array.getElem?_eq_none (by simp [h.len]; omega), Array.getElem?_eq_none (by rw [List.size_toArray, head_len]; omega)]
  · refine ⟨_, part_agg Try.underlying60 rfl (n := 16) (by kernel_rfl) rfl, ?_⟩
    refine se_array (c := 1) Try.underlying60 (by kernel_rfl) (by kernel_rfl) (d + 4) _ (fun i hi => ?_)
    refine pe_cell (k := .i64) (z := g i) Try.underlying27 (d + 3) ?_
    rw [Array.getElem?_extract_of_lt (by simp [h.len]; omega), ← Array.getElem?_eq_getElem]
    have := h.err i hi
    simpa using this
/-- '==' of a value with itself -/
theorem eqlT {t t' : TypeId} (xs : Array Value) (hse : Se 10000 t (.agg xs)) (hm : Try.prog.eqGuardType Try.prog.depth t = false) {ops : Array Oper} {rest : List Oper} {op : Oper} {a : Act} {w : World} {Q : Exit → Act → World → Prop} (hw : Region.wanted op (yielded ops a.tmps) = true) (x y : Operand) (ho : op.op = .binOp .eql t x y t')
    (hx : a.eval x = .agg xs) (hy : a.eval y = .agg xs) (h : wpList Try.prog ops Q rest (a.put op.dst (.bool true)) w) : wpList Try.prog ops Q (op :: rest) a w :=
  BigFrame.wpList_want hw fun _ hK => by
    unfold Oper.wp execOp
    simp only [ho, hx, hy, Sem.run_bind, run_eqGuard_agg w .eql t x y xs xs hm, run_eql_struct, hse w, Result.andThen_ok, Sem.run_pure]
    exact hK _ _ h
theorem neqT {t t' : TypeId} (xs : Array Value) (hse : Se 10000 t (.agg xs)) (hm : Try.prog.eqGuardType Try.prog.depth t = false) {ops : Array Oper} {rest : List Oper} {op : Oper} {a : Act} {w : World} {Q : Exit → Act → World → Prop} (hw : Region.wanted op (yielded ops a.tmps) = true) (x y : Operand) (ho : op.op = .binOp .neq t x y t')
    (hx : a.eval x = .agg xs) (hy : a.eval y = .agg xs) (h : wpList Try.prog ops Q rest (a.put op.dst (.bool false)) w) : wpList Try.prog ops Q (op :: rest) a w :=
  BigFrame.wpList_want hw fun _ hK => by
    unfold Oper.wp execOp
    simp only [ho, hx, hy, Sem.run_bind, run_eqGuard_agg w .neq t x y xs xs hm, run_neq_struct, hse w, Result.andThen_ok, Sem.run_pure, Bool.not_true]
    exact hK _ _ h
end Go.Proofs.Ytoddadohmnaolab

namespace Go.Proofs.Ytoddadohmnaolab
open Go.ChangeShapes Go.WideShapes Go.ChangeAt Go.RowKit Go.Deep Go.Shelf Go.Great

section
variable {rs rs' : List (Option Er)} {last : Int}
/-- those that are older -/
def oldL (rs : List (Option Er)) (e : Nat) : List Nat := (List.range 16).filter (fun i => (core rs i).isSome && decide (ser rs i < ser rs e))
theorem oldL_lt (h : Tr rs last) {p k : Nat} (hp : Lv rs p) (hs : ser rs p < ser rs k) : (oldL rs p).length < (oldL rs k).length := by
  have hpl := lv_lt h hp
  have hnd : (p :: oldL rs p).Nodup := List.nodup_cons.2 ⟨fun hc => by
    unfold oldL at hc
    have := (List.mem_filter.1 hc).2
    simp at this, List.Pairwise.filter _ List.nodup_range⟩
  have := nodup_le (p :: oldL rs p) (oldL rs k) hnd (fun x hx => by
    unfold oldL
    rcases List.mem_cons.1 hx with rfl | hx
    · exact List.mem_filter.2 ⟨List.mem_range.2 hpl, by simp [lv_core.1 hp, hs]⟩
    · unfold oldL at hx
      obtain ⟨q1, q2⟩ := List.mem_filter.1 hx
      simp at q2
      exact List.mem_filter.2 ⟨q1, by simp [q2.1]; omega⟩)
  simp at this
  omega
theorem oldL_le (h : Tr rs last) {k : Nat} (hk : Lv rs k) : (oldL rs k).length < 16 := by
  have hkl := lv_lt h hk
  have hnd : (k :: oldL rs k).Nodup := List.nodup_cons.2 ⟨fun hc => by
    unfold oldL at hc
    have := (List.mem_filter.1 hc).2
    simp at this, List.Pairwise.filter _ List.nodup_range⟩
  have := nodup_le16 hnd (fun x hx => by
    rcases List.mem_cons.1 hx with rfl | hx
    · exact hkl
    · unfold oldL at hx
      exact List.mem_range.1 (List.mem_filter.1 hx).1)
  simp at this
  omega
theorem line_ex (h : Tr rs last) : ∀ (n k : Nat), Lv rs k → (oldL rs k).length < n → ∃ l, Line rs (k : Int) l ∧ l.length ≤ n
  | 0, _, _, hl => by omega
  | n + 1, k, ⟨r, hr⟩, hl => by
    by_cases h0 : k = 0
    · subst h0
      obtain ⟨r0, h1, h2⟩ := h.root
      rw [hr] at h1
      obtain rfl : r = r0 := by simpa using h1
      refine ⟨_, line_some (look_at hr) (line_none ?_), by simp⟩
      rw [h2]; rfl
    · obtain ⟨p, h1, h2, h3⟩ := h.par k r hr h0
      obtain ⟨l, h4, h5⟩ := line_ex h n p h2 (by have := oldL_lt h h2 h3; omega)
      exact ⟨_, line_some (look_at hr) (by rw [h1]; exact h4), by simp; omega⟩
/-- from a number up to the root -/
def upF (rs : List (Option Er)) : Nat → Int → List Int
  | 0, _ => []
  | n + 1, e => match look rs e with | none => [] | some r => e :: upF rs n r.pa
def ln (rs : List (Option Er)) (e : Int) : List Int := upF rs 16 e
theorem line_up {e : Int} {l : List Int} (h : Line rs e l) : ∀ n, l.length ≤ n → upF rs n e = l := by
  induction l generalizing e with
  | nil => intro n _; have h' : look rs e = none := h; cases n with | zero => rfl | succ n => simp only [upF, h']
  | cons z0 l ih0 =>
    obtain ⟨rfl, r, h, hl0⟩ := h
    have ih := ih0 hl0
    intro n hn
    cases n with
    | zero => simp at hn
    | succ n => simp only [upF, h]; rw [ih n (by simpa using hn)]
theorem ln_line (h : Tr rs last) (e : Int) : Line rs e (ln rs e) ∧ (ln rs e).length ≤ 16 := by
  cases hl : look rs e with
  | none =>
    have h1 := line_none hl
    have h2 := line_up h1 16 (by simp)
    unfold ln
    rw [h2]
    exact ⟨h1, by simp⟩
  | some r =>
    obtain ⟨k, rfl, hr⟩ := look_some hl
    obtain ⟨l, h1, h2⟩ := line_ex h 16 k ⟨r, hr⟩ (oldL_le h ⟨r, hr⟩)
    have h3 := line_up h1 16 h2
    unfold ln
    rw [h3]
    exact ⟨h1, h2⟩
/-- does it run? -/
def rn (rs : List (Option Er)) (e : Int) : Bool := match look rs e with | none => false | some r => decide (r.st = 1) && !((ln rs e).any (flg rs))
end
section
variable {w : World} {F : Nat → Prop} {T : Nat} {rs : List (Option Er)} {last : Int}
set_option maxHeartbeats 1600000 in
theorem runs_all (h : Et w F T rs last) (iv : Tr rs last) (e : Int) : Calls Try.prog 8 #[.pointer (some ⟨T, 0, none⟩), .int .i64 e] w fun x w' => x = .returned (.bool (rn rs e)) ∧ Below w.heap.size w w' := by
  unfold rn
  cases hl : look rs e with
  | some r =>
    obtain ⟨k, rfl, hr⟩ := look_some hl
    exact runs_any w F T rs last h k r hr _ (ln_line iv _).1 (ln_line iv _).2
  | none =>
    have HB := hide (Below.refl w.heap.size w)
    obtain ⟨S, G, m, h⟩ := h
    have c0 := h.cell.1
    have HG := hide (getL_any _ G S m h.tab e)
    rcases h.cases e with ⟨h2, h1⟩ | ⟨k', b, r', e1, hm, h3, h4, _, hR⟩
    · rw [h2] at HG
      simp only [ptr, Option.isSome_none] at HG
      clear h
      go_enter Try.func8, Try.ntmps8
      go_wp2_with fail
      refine HG.out.mono ?_
      rintro e1 w1 ⟨rfl, rfl⟩
      go_wp2
      go_ret
      exact ⟨rfl, HB.out⟩
    · subst e1
      rw [look_at h3] at hl; cases hl
set_option maxRecDepth 8000 in
set_option maxHeartbeats 3200000 in
theorem indexI_any (w : World) (base : Nat) (a : Option Addr) (c : Nat) (l : List Int) (hrow : w.ownsRow base 3 1 (.slice a l.length c) l.length (nums l)) (z : Int) (hl : l.length ≤ 16) : Calls Try.prog 63 #[.slice a l.length c, .int .i64 z] w fun x w' => (∃ i : Int, x = .returned (.int .i64 i) ∧ (0 ≤ i ↔ z ∈ l)) ∧ w' = w := by
  have HR := hide hrow
  obtain ⟨L, hL⟩ : ∃ L, l.length = L := ⟨_, rfl⟩
  have HL := hide hL
  rw [hL] at hl HR ⊢
  clear hrow hL
  go_enter Try.func63, Try.ntmps63
  go_upto_region 2 with fail
  go_loopw [8] (fun x wr => ∃ j : Nat, j ≤ L ∧ x = .int .i64 (j : Int) ∧ Hid (∀ i, i < j → l[i]? ≠ some z) ∧ wr = w) (fun x _ => L - (intOf x).toNat)
  case atStart => exact ⟨0, by omega, rfl, fun i hi => by omega, rfl⟩
  case round =>
  obtain ⟨j, hj, rfl, KN, rfl⟩ := hrel
  by_cases hlt : j < L
  · have hd : decide ((j : Int) < (L : Int)) = true := by simp; omega
    have hj3 : (j : Int) < (L : Int) := by omega
    obtain ⟨y, hy⟩ : ∃ y, l[j]? = some y := ⟨_, List.getElem?_eq_getElem (by have := HL.out; omega)⟩
    have hro := HR.out
    rw [← HL.out] at hro
    obtain ⟨g, rfl, hc⟩ := row_cell hro hy
    have HY := hide hy
    clear hy hro
    by_cases hyz : z = y
    · have hyb : (z == y) = true := by simp [hyz]
      have HYz := hide hyz
      clear hyz
      go_wp2
      go_ret
      refine ⟨⟨(j : Int), rfl, ⟨fun _ => ?_, fun _ => by omega⟩⟩, rfl⟩
      rw [HYz.out]
      exact List.mem_of_getElem? HY.out
    · have hyb : (z == y) = false := by simp [hyz]
      have K1 : Hid (∀ i, i < j + 1 → l[i]? ≠ some z) := hide (fun i hi => by
        by_cases e : i = j
        · subst e; rw [HY.out]; intro e9; exact hyz (by simpa using e9.symm)
        · exact KN.out i (by omega))
      go_wp2
      go_roundw
      case rel =>
        first
          | exact ⟨j + 1, by omega, by go_num, K1, by trivial⟩
          | ((repeat apply Exists.intro); refine ⟨?_, rfl⟩; exact ⟨j + 1, by omega, by go_num, K1, by trivial⟩)
      case measure => simp [intOf]; omega
  · have hd : decide ((j : Int) < (L : Int)) = false := by simp; omega
    go_wp2
    go_ret
    refine ⟨⟨-1, rfl, ⟨fun h => by omega, fun h => ?_⟩⟩, rfl⟩
    obtain ⟨i, hi, e⟩ := List.getElem_of_mem h
    exact absurd (by rw [List.getElem?_eq_getElem hi, e]) (KN.out i (by have := HL.out; omega))
set_option maxHeartbeats 1600000 in
theorem containsI_any (w : World) (base : Nat) (a : Option Addr) (c : Nat) (l : List Int) (hrow : w.ownsRow base 3 1 (.slice a l.length c) l.length (nums l)) (z : Int) (hl : l.length ≤ 16) : Calls Try.prog 43 #[.slice a l.length c, .int .i64 z] w fun x w' => x = .returned (.bool (decide (z ∈ l))) ∧ w' = w := by
  have HI := hide (indexI_any w base a c l hrow z hl)
  obtain ⟨q, hq⟩ : ∃ q : Bool, decide (z ∈ l) = q := ⟨_, rfl⟩
  rw [hq]
  have HQ := hide hq
  generalize l.length = L at *
  clear hrow hl hq
  go_enter Try.func43, Try.ntmps43
  go_wp2_with fail
  refine HI.out.mono ?_
  rintro e1 w1 ⟨⟨i, rfl, hz⟩, rfl⟩
  have hq : decide (0 ≤ i) = q := by
    rw [← HQ.out]
    exact decide_eq_decide.2 hz
  have HQ2 := hide hq
  clear hz hq
  go_wp2
  go_ret
  refine ⟨?_, rfl⟩
  rw [← HQ2.out]
  rfl
set_option maxHeartbeats 1600000 in
theorem inside_any (h : Et w F T rs last) (iv : Tr rs last) (z e : Int) : Calls Try.prog 15 #[.pointer (some ⟨T, 0, none⟩), .int .i64 z, .int .i64 e] w fun x w' => x = .returned (.bool (decide (z ∈ ln rs e))) ∧ Below w.heap.size w w' := by
  obtain ⟨h1, h2⟩ := ln_line iv e
  have HL := hide (line_any w F T rs last h e _ h1 h2)
  have HC := hide (fun W base a c hrow => containsI_any W base a c (ln rs e) hrow z h2)
  obtain ⟨q, hq⟩ : ∃ q : Bool, decide (z ∈ ln rs e) = q := ⟨_, rfl⟩
  rw [hq]
  simp only [hq] at HC
  generalize ln rs e = l at *
  clear h h1 h2 hq
  go_enter Try.func15, Try.ntmps15
  go_wp2_with fail
  refine HL.out.mono ?_
  rintro e1 w2 ⟨v, rfl, hrow, hb⟩
  obtain ⟨a, c, rfl⟩ := own_shape hrow
  have HC2 := hide (HC.out w2 _ a c hrow)
  have HB2 := hide hb
  clear hrow hb HC
  go_wp2_with fail
  refine HC2.out.mono ?_
  rintro e1 w3 ⟨rfl, rfl⟩
  go_wp2
  go_ret
  exact ⟨rfl, HB2.out⟩
end
end Go.Proofs.Ytoddadohmnaolab

namespace Go.Proofs.Ytoddadohmnaolab
open Go.ChangeShapes Go.WideShapes Go.ChangeAt Go.RowKit Go.Deep Go.Shelf Go.Great

section
variable {w : World} {F : Nat → Prop} {T : Nat} {rs : List (Option Er)} {last : Int}
/-- where the law's look upwards stands -/
def Up (rs : List (Option Er)) (f : Int) (rest : List Int) : Prop := (f = -1 ∧ rest = []) ∨ ∃ (k : Nat) (r : Er) (l : List Int), f = (k : Int) ∧ rs[k]? = some (some r) ∧ rest = (k : Int) :: l ∧ Line rs r.pa l
theorem up_next (iv : Tr rs last) {k : Nat} {r : Er} {l : List Int} (hr : rs[k]? = some (some r)) (hL : Line rs r.pa l) : Up rs r.pa l := by
  by_cases h0 : k = 0
  · subst h0
    obtain ⟨r0, h1, h2⟩ := iv.root
    rw [hr] at h1
    obtain rfl : r = r0 := by simpa using h1
    left
    refine ⟨h2, ?_⟩
    rw [h2] at hL
    rcases line_cases hL with ⟨_, h⟩ | ⟨_, _, h, _⟩
    · exact h
    · cases h
  · right
    obtain ⟨p, h1, ⟨rp, h2⟩, _⟩ := iv.par k r hr h0
    rw [h1] at hL
    rcases line_cases hL with ⟨h, _⟩ | ⟨_, l', h, h', hl⟩
    · rw [look_at h2] at h; cases h
    · rw [look_at h2] at h
      cases h
      exact ⟨p, rp, l', h1, h2, h', hl⟩
theorem up_first (iv : Tr rs last) {k : Nat} {r : Er} (hr : rs[k]? = some (some r)) : Up rs (k : Int) (ln rs (k : Int)) := by
  right
  have h1 := (ln_line iv (k : Int)).1
  generalize ln rs (k : Int) = l at *
  rcases line_cases h1 with ⟨h, _⟩ | ⟨_, l', h, h', hl⟩
  · rw [look_at hr] at h; cases h
  · rw [look_at hr] at h
    cases h
    exact ⟨k, r, l', rfl, hr, h', hl⟩
set_option maxRecDepth 8000 in
set_option maxHeartbeats 3200000 in
theorem flaggedL_any (h : Et w F T rs last) (iv : Tr rs last) (k : Nat) (r : Er) (hr : rs[k]? = some (some r)) : Calls Try.prog 11 #[.pointer (some ⟨T, 0, none⟩), .int .i64 (k : Int)] w fun x w' => x = .returned (.bool ((ln rs (k : Int)).any (flg rs))) ∧ Below w.heap.size w w' := by
  have HE := hide h
  have HI := hide iv
  have HU := hide (up_first iv hr)
  have HL := hide (ln_line iv (k : Int)).2
  obtain ⟨b, hb⟩ : ∃ b : Bool, (ln rs (k : Int)).any (flg rs) = b := ⟨_, rfl⟩
  have HBq := hide hb
  rw [hb]
  clear h iv hr hb
  go_enter Try.func11, Try.ntmps11
  go_upto_region 2 with fail
  go_loopw [1, 5] (fun x y wr => ∃ (j : Nat) (f : Int) (rest : List Int), x = .int .i64 f ∧ y = .int .i64 (j : Int) ∧ Hid (Up rs f rest) ∧ j + rest.length ≤ 16 ∧ Hid (rest.any (flg rs) = b) ∧ Hid (Below w.heap.size w wr)) (fun _ y _ => 17 - (intOf y).toNat)
  case atStart => exact ⟨0, _, _, rfl, rfl, HU, by have := HL.out; omega, HBq, Below.refl _ _⟩
  case round =>
  clear HU HL HBq
  obtain ⟨j, f, rest, rfl, rfl, KU, hj, KQ, KB⟩ := hrel
  rcases KU.out with ⟨rfl, rfl⟩ | ⟨k, r, l, rfl, hr, rfl, hL⟩
  · have hj1 : decide ((j : Int) ≤ 16) = true := by simp at hj ⊢; omega
    have hq : b = false := by rw [← KQ.out]; rfl
    subst hq
    go_wp2
    go_ret
    exact ⟨rfl, KB.out⟩
  · have hj2 : j ≤ 15 := by simp at hj; omega
    have hj1 : decide ((j : Int) ≤ 16) = true := by simp; omega
    have hk0 : decide ((k : Int) ≥ 0) = true := by simp
    have HN := hide (up_next HI.out hr hL)
    have hEr := HE.out.keep KB.out.size (fun b hb => KB.out.block b (HE.out.lt b hb))
    have HIn := hide (info_any _ F T rs last hEr k r hr)
    have hfl := flg_at hr
    have hj4 : j + 1 + l.length ≤ 16 := by simp at hj; omega
    clear hEr hr hL hj KU
    go_wp2_with fail
    refine HIn.out.mono ?_
    rintro x1 u1 ⟨rfl, hb1⟩
    have hz : Eb (u1.alloc (.cells Er.nil.head.toArray 40)) u1.heap.size Er.nil := Eb.new _ _
    have HEb := hide (freshE_eb u1 r.told)
    have hb2 := hb1.trans ((freshE_below u1 r.told).mono hb1.size)
    have HB2 := hide (KB.out.trans (hb2.mono KB.out.size))
    clear hb1 hb2 HIn KB
    go_upto_region 5 with (refine storeE r.told ?nw _ _ rfl u1.heap.size Er.nil ?nx ?ny ?nz ?_; rotate_left 4; change wpList _ _ _ _ _ (freshE u1 r.told); generalize freshE u1 r.told = u2 at *)
    try (case nw => rfl)
    try (case nx => rfl)
    try (case ny => rfl)
    try (case nz => exact hz)
    clear hz
    generalize u1.heap.size = M at *
    have m5 : u2.cell? ⟨M, 5, none⟩ = some (.bool r.fz) := HEb.out.get (j := 5) rfl
    have m1 : u2.cell? ⟨M, 1, none⟩ = some (.int .i64 r.pa) := HEb.out.get (j := 1) rfl
    cases hf : r.fz
    · rw [hf] at m5
      have K2 : Hid (l.any (flg rs) = b) := hide (by
        have := KQ.out
        rw [List.any_cons, ← hfl, hf, Bool.false_or] at this
        exact this)
      clear KQ HEb hfl hf
      go_wp2
      go_roundw
      case rel =>
        first
          | exact ⟨j + 1, _, l, rfl, by go_num, HN, hj4, K2, HB2⟩
          | ((repeat apply Exists.intro); refine ⟨?_, rfl⟩; exact ⟨j + 1, _, l, rfl, by go_num, HN, hj4, K2, HB2⟩)
      case measure => simp [intOf]; omega
    · rw [hf] at m5
      have hq : b = true := by
        rw [← KQ.out, List.any_cons, ← hfl, hf, Bool.true_or]
      subst hq
      clear KQ HEb hfl hf
      go_wp2
      go_ret
      exact ⟨rfl, HB2.out⟩
end
/-- sixteen answers -/
def bl (f : Nat → Bool) : List Value := (List.range 16).map (fun i => .bool (f i))
theorem bl_len (f : Nat → Bool) : (bl f).length = 16 := by simp [bl]
theorem bl_get (f : Nat → Bool) {i : Nat} (hi : i < 16) : (bl f)[i]? = some (.bool (f i)) := by
  unfold bl
  rw [List.getElem?_map, List.getElem?_range hi]; rfl
theorem bl_set (f : Nat → Bool) {j : Nat} (b : Bool) : (bl f).set j (.bool b) = bl (fun i => if i = j then b else f i) := by
  refine List.ext_getElem? (fun i => ?_)
  by_cases hi : i < 16
  · rw [bl_get _ hi]
    by_cases e : i = j
    · subst e; rw [List.getElem?_set_self (by rw [bl_len]; exact hi), if_pos rfl]
    · rw [List.getElem?_set_ne (fun e9 => e e9.symm), bl_get _ hi, if_neg e]
  · rw [List.getElem?_eq_none (by rw [List.length_set, bl_len]; omega), List.getElem?_eq_none (by rw [bl_len]; omega)]
theorem bl_congr {f g : Nat → Bool} (h : ∀ i, i < 16 → f i = g i) : bl f = bl g := by
  unfold bl
  refine List.map_congr_left (fun i hi => ?_)
  rw [h i (List.mem_range.1 hi)]
theorem bl_one (f : Nat → Bool) : ∀ u ∈ bl f, u.oneCell' = true := by
  intro u hu
  unfold bl at hu
  obtain ⟨i, _, rfl⟩ := List.mem_map.1 hu
  rfl
theorem infoB16 : (Try.prog.info? 45).map (·.size) = some 16 := by kernel_rfl
theorem se_bl (d : Nat) (f : Nat → Bool) : Se (d + 2) 45 (.agg (bl f).toArray) := by
  refine se_array (c := 1) Try.underlying45 (by kernel_rfl) (by kernel_rfl) (d + 1) _ (fun i hi => ?_)
  refine pe_bool (b := f i) Try.underlying4 d ?_
  have := bl_get f hi
  simpa using this
def rF (rs : List (Option Er)) (j i : Nat) : Bool := if i < j then rn rs (i : Int) else false
section
variable {w : World} {F : Nat → Prop} {T : Nat} {rs : List (Option Er)} {last : Int}
set_option maxRecDepth 100000 in
set_option maxHeartbeats 3200000 in
theorem running_any (h : Et w F T rs last) (iv : Tr rs last) : Calls Try.prog 13 #[.pointer (some ⟨T, 0, none⟩)] w fun x w' => x = .returned (.agg (bl (fun i => rn rs (i : Int))).toArray) ∧ Below w.heap.size w w' := by
  have HE := hide h
  have HI := hide iv
  clear h iv
  obtain ⟨zt, hzt⟩ : ∃ zt, zt = bl (fun _ => false) := ⟨_, rfl⟩
  have HZ := hide hzt
  have hrun : ∀ (ρ : Operand → Value) (o : Oper) (W : World), o.op = .alloc 45 → (execOp ρ o).run Try.prog W = .ok (.value (.pointer (some ⟨W.heap.size, 0, none⟩))) (W.alloc (.cells zt.toArray 45)) := by
    intro ρ o W ho
    rw [hzt]
    unfold execOp
    rw [ho]
    kernel_rfl
  clear hzt
  go_enter Try.func13, Try.ntmps13
  go_upto_region 0 with fail
  apply wp_region_lit
  refine wpList_allocTo rfl (some 2) rfl (.pointer (some ⟨w.heap.size, 0, none⟩)) (.cells zt.toArray 45) (hrun _ _ _ rfl) ?_
  apply wpList_nil
  rename_i K hK
  refine hK _ _ ?_
  clear hK K
  simp only [Act.put, List.setIfInBounds_toArray, List.set_cons_zero, List.set_cons_succ]
  go_upto_region 1 with fail
  apply wp_region_lit
  refine wpList_allocTo rfl (some 3) rfl (.pointer (some ⟨(w.alloc (.cells zt.toArray 45)).heap.size, 0, none⟩)) (.cells zt.toArray 45) (hrun _ _ _ rfl) ?_
  apply wpList_nil
  rename_i K hK
  refine hK _ _ ?_
  clear hK K
  simp only [Act.put, List.setIfInBounds_toArray, List.set_cons_zero, List.set_cons_succ]
  have hb1 := (Below.refl w.heap.size w).alloc (Nat.le_refl _) (.cells zt.toArray 45)
  have a1 := heap_alloc_new w (.cells zt.toArray 45)
  have hb2 := hb1.alloc (by simp) (.cells zt.toArray 45)
  have a2 := heap_alloc_new (w.alloc (.cells zt.toArray 45)) (.cells zt.toArray 45)
  have a3 : ((w.alloc (.cells zt.toArray 45)).alloc (.cells zt.toArray 45)).heap[w.heap.size]? = some (.cells zt.toArray 45 (0, 0)) := by rw [Below.heap_alloc _ _ _ (by simp)]; exact a1
  have hne : (w.alloc (.cells zt.toArray 45)).heap.size = w.heap.size + 1 := by simp
  rw [hne] at a2 ⊢
  clear hb1 a1 hne hrun
  generalize (w.alloc (.cells zt.toArray 45)).alloc (.cells zt.toArray 45) = w2 at *
  have HB := hide hb2
  have H1 := hide a3
  have H2 : Hid (w2.heap[w.heap.size + 1]? = some (.cells (bl (rF rs 0)).toArray 45 (0, 0))) := hide (by rw [a2, HZ.out, bl_congr (f := fun _ => false) (g := rF rs 0) (fun i _ => rfl)])
  have HZl : Hid (zt.length = 16) := hide (by rw [HZ.out]; exact bl_len _)
  clear hb2 a3 a2 HZ
  go_upto_region 3 with fail
  go_loopw [4] (fun x wr => ∃ j : Nat, j ≤ 16 ∧ x = .int .i64 (j : Int) ∧ Hid (wr.heap[w.heap.size + 1]? = some (.cells (bl (rF rs j)).toArray 45 (0, 0))) ∧ Hid (wr.heap[w.heap.size]? = some (.cells zt.toArray 45 (0, 0))) ∧ Hid (Below w.heap.size w wr)) (fun x _ => 16 - (intOf x).toNat)
  case atStart => exact ⟨0, by omega, rfl, H2, H1, HB⟩
  case round =>
  clear H2 H1 HB
  obtain ⟨j, hj, rfl, K2, K1, KB⟩ := hrel
  by_cases h16 : j < 16
  · have hd : decide ((j : Int) < 16) = true := by simp; omega
    have hj3 : (j : Int) < 16 := by omega
    have HR := hide (runs_all (HE.out.keep KB.out.size (fun b hb => KB.out.block b (HE.out.lt b hb))) HI.out (j : Int))
    go_wp2_with fail
    refine HR.out.mono ?_
    rintro e1 u1 ⟨rfl, hb1⟩
    have hc1 := (hb1.block _ (Array.getElem?_eq_some_iff.1 K2.out).1).trans K2.out
    have K1' := hide ((hb1.block _ (Array.getElem?_eq_some_iff.1 K1.out).1).trans K1.out)
    have KB' := hide (KB.out.trans (hb1.mono KB.out.size))
    have hcell : u1.cell? ⟨w.heap.size + 1, j, none⟩ = some (.bool (rF rs j j)) := by
      rw [cell_of_row _ _ _ _ _ _ hc1]
      simpa using bl_get (rF rs j) h16
    have hfrz := frozen_of_row u1 (w.heap.size + 1) j _ _ hc1
    have HC1 := hide hc1
    clear K2 K1 KB HR hb1 hc1
    generalize hz : rn rs (j : Int) = z at *
    have N2 : Hid ((u1.setCell ⟨w.heap.size + 1, j, none⟩ (.bool z)).heap[w.heap.size + 1]? = some (.cells (bl (rF rs (j + 1))).toArray 45 (0, 0))) := hide (by
      rw [heap_setCell_same _ _ _ _ _ (.bool z) HC1.out, List.setIfInBounds_toArray, bl_set, bl_congr (g := rF rs (j + 1)) (fun i _ => ?_)]
      unfold rF
      by_cases e : i = j
      · subst e; rw [if_pos rfl, if_pos (by omega), hz]
      · rw [if_neg e]
        by_cases e2 : i < j
        · rw [if_pos e2, if_pos (by omega)]
        · rw [if_neg e2, if_neg (by omega)])
    have N1 : Hid ((u1.setCell ⟨w.heap.size + 1, j, none⟩ (.bool z)).heap[w.heap.size]? = some (.cells zt.toArray 45 (0, 0))) := hide (by rw [heap_setCell_other _ _ _ _ (show w.heap.size ≠ w.heap.size + 1 by omega)]; exact K1'.out)
    have NB := hide (KB'.out.setCell (p := ⟨w.heap.size + 1, j, none⟩) (show w.heap.size ≤ w.heap.size + 1 by omega) (.bool z))
    clear hz K1' KB'
    go_wp2
    go_roundw
    case rel =>
      first
        | exact ⟨j + 1, by omega, by go_num, N2, N1, NB⟩
        | ((repeat apply Exists.intro); refine ⟨?_, rfl⟩; exact ⟨j + 1, by omega, by go_num, N2, N1, NB⟩)
    case measure => simp [intOf]; omega
  · obtain rfl : j = 16 := by omega
    have hbl : bl (rF rs 16) = bl (fun i => rn rs (i : Int)) := bl_congr (fun i hi => by unfold rF; rw [if_pos hi])
    rw [hbl] at K2
    have hlc := bl_len (fun i => rn rs (i : Int))
    have HOne := hide (bl_one (fun i => rn rs (i : Int)))
    generalize hcs : bl (fun i => rn rs (i : Int)) = cs at *
    have HCs := hide hcs
    clear hcs
    have hx : (wr.setCells w.heap.size 0 cs).heap[w.heap.size]? = some (.cells cs.toArray 45 (0, 0)) := by
      have h9 := heap_setCells_row w.heap.size 45 cs 0 wr zt K1.out
      rw [setsL_all zt cs (by rw [HZl.out, hlc])] at h9
      exact h9
    have HX := hide hx
    have HBx := hide (below_setCells KB.out (Nat.le_refl _) 0 cs)
    have hle : 0 + cs.length ≤ zt.length := by rw [HZl.out, hlc]; omega
    have hi : (Try.prog.info? 45).map (·.size) = some cs.length := by rw [hlc]; exact infoB16
    clear hx hbl
    go_wp2_with (first
      | (refine loadT Try.underlying45 rfl cs hi ?lw _ rfl ⟨w.heap.size + 1, 0, none⟩ ?lx (fun j v hv => by rw [add_nat, cell_of_row _ _ _ _ _ _ K2.out]; simpa using hv) ?_; rotate_left 2)
      | (refine storeT cs hi HOne.out ?sw _ _ rfl w.heap.size 0 ?sx ?sy zt K1.out hle ?_; rotate_left 3; generalize wr.setCells w.heap.size 0 cs = w4 at *))
    try (case lw => rfl)
    try (case lx => rfl)
    try (case sw => rfl)
    try (case sx => rfl)
    try (case sy => rfl)
    refine bodyPost_ret (results_row1 rfl _ _ w.heap.size 45 cs.toArray (0, 0) _ rfl HX.out Try.underlying45 rfl (by rw [List.size_toArray]; exact hi)) rfl ?_
    exact ⟨by rw [HCs.out], HBx.out⟩
end
end Go.Proofs.Ytoddadohmnaolab
