import Derived.Test.YtoddadohmnaolaaMF
import Derived.Test.YtoddadohmnaolaaMH
namespace Go.Proofs.Ytoddadohmnaolaa
open Go.RowKit

/-- what a setting step makes of what was told -/
def sx (kd n m : Int) (g : Nat → Nat) (pc : Nat) (on : Bool) (x y : Er) : Er :=
  if kd = 5 then { x with rg := g, pc := pc } else if kd = 6 then (if (0 ≤ n ∧ n ≤ 4) ∧ (0 ≤ m ∧ m ≤ 4294967295) then { x with st := n, co := m } else x) else if kd = 7 then (if 0 ≤ n ∧ n ≤ 4294967295 then { x with bi := n } else x) else if kd = 10 then { x with fz := on } else if kd = 11 ∨ kd = 12 then { x with lf := y.lf } else if kd = 8 ∨ kd = 9 then { x with st := y.st, bi := y.bi, rg := fun i => if i = 0 then y.rg 0 else if i = 1 then y.rg 1 else x.rg i } else x
section
variable {rs : List (Option Er)} {last : Int}
theorem look_at' {k : Nat} {r : Er} (hr : rs[k]? = some (some r)) : look rs (k : Int) = some r := by rw [look_nat, hr]; rfl
theorem look_len {k : Nat} {r : Er} (hr : rs[k]? = some (some r)) : k < rs.length := (List.getElem?_eq_some_iff.1 hr).1
theorem nS_no {kd e n m : Int} {q : Qt} {g : Nat → Nat} {pc : Nat} {on : Bool} (k2 : kd ≠ 2) (k3 : kd ≠ 3) (hl : look rs e = none) : nS kd e n m q g pc on rs last = rs := by
  unfold nS
  rw [if_neg k2, if_neg k3]
  by_cases k5 : kd = 5
  · rw [if_pos k5]; exact atE_none hl
  rw [if_neg k5]
  by_cases k6 : kd = 6
  · rw [if_pos k6]; unfold stS; split
    · exact atE_none hl
    · rfl
  rw [if_neg k6]
  by_cases k7 : kd = 7
  · rw [if_pos k7]; unfold btS; split
    · exact atE_none hl
    · rfl
  rw [if_neg k7]
  by_cases k8 : kd = 8
  · rw [if_pos k8]; unfold noS; split
    · exact atE_none hl
    · rfl
  rw [if_neg k8]
  by_cases k9 : kd = 9
  · rw [if_pos k9]; exact atE_none hl
  rw [if_neg k9]
  by_cases k10 : kd = 10
  · rw [if_pos k10]; exact atE_none hl
  rw [if_neg k10]
  by_cases k11 : kd = 11
  · rw [if_pos k11]; unfold payS; rw [hl]
  rw [if_neg k11]
  by_cases k12 : kd = 12
  · rw [if_pos k12]; unfold refS; rw [hl]
  rw [if_neg k12]
theorem nS_at {kd n m : Int} {q : Qt} {g : Nat → Nat} {pc : Nat} {on : Bool} (k2 : kd ≠ 2) (k3 : kd ≠ 3) {k : Nat} {r : Er} (hr : rs[k]? = some (some r)) :
    ∃ r', nS kd (k : Int) n m q g pc on rs last = rs.set k (some r') ∧ (sx kd n m g pc on r.told r'.told).head = r'.told.head := by
  have hl := look_at' hr
  have same : ∃ r', rs = rs.set k (some r') ∧ r.told.head = r'.told.head := ⟨r, (set_same hr).symm, rfl⟩
  unfold nS
  rw [if_neg k2, if_neg k3]
  by_cases k5 : kd = 5
  · subst k5; exact ⟨_, atE_some hl, rfl⟩
  rw [if_neg k5]
  by_cases k6 : kd = 6
  · subst k6
    rw [if_pos rfl]
    unfold stS
    by_cases hc : (0 ≤ n ∧ n ≤ 4) ∧ (0 ≤ m ∧ m ≤ 4294967295)
    · rw [if_pos hc]
      refine ⟨_, atE_some hl, ?_⟩
      simp only [sx, if_pos hc]
      rfl
    · rw [if_neg hc]
      simp only [sx, if_neg hc]
      exact same
  rw [if_neg k6]
  by_cases k7 : kd = 7
  · subst k7
    rw [if_pos rfl]
    unfold btS
    by_cases hc : 0 ≤ n ∧ n ≤ 4294967295
    · rw [if_pos hc]
      refine ⟨_, atE_some hl, ?_⟩
      simp only [sx, if_pos hc]
      rfl
    · rw [if_neg hc]
      simp only [sx, if_neg hc]
      exact same
  rw [if_neg k7]
  by_cases k8 : kd = 8
  · subst k8
    rw [if_pos rfl]
    unfold noS
    by_cases hc : 0 ≤ n ∧ n ≤ 4294967295
    · rw [if_pos hc]
      refine ⟨_, atE_some hl, ?_⟩
      unfold noticed
      split
      · rfl
      · rfl
    · rw [if_neg hc]
      exact ⟨r, (set_same hr).symm, rfl⟩
  rw [if_neg k8]
  by_cases k9 : kd = 9
  · subst k9
    refine ⟨_, atE_some hl, ?_⟩
    unfold waited
    split
    · rfl
    · rfl
  rw [if_neg k9]
  by_cases k10 : kd = 10
  · subst k10; exact ⟨_, atE_some hl, rfl⟩
  rw [if_neg k10]
  by_cases k11 : kd = 11
  · subst k11
    rw [if_pos rfl]
    unfold payS
    rw [hl]
    dsimp only
    split
    · split
      · exact ⟨_, rfl, rfl⟩
      · exact ⟨r, (set_same hr).symm, rfl⟩
    · exact ⟨r, (set_same hr).symm, rfl⟩
  rw [if_neg k11]
  by_cases k12 : kd = 12
  · subst k12
    rw [if_pos rfl]
    unfold refS
    rw [hl]
    dsimp only
    split
    · exact ⟨_, rfl, rfl⟩
    · exact ⟨r, (set_same hr).symm, rfl⟩
  rw [if_neg k12]
  refine ⟨r, (set_same hr).symm, ?_⟩
  unfold sx
  rw [if_neg k5, if_neg k6, if_neg k7, if_neg k10, if_neg (by omega), if_neg (by omega)]
/-- one record set: what is told of the others -/
theorem tf_set {k : Nat} {r' : Er} {i : Nat} (hi : i ≠ k) : tf (rs.set k (some r')) i = tf rs i := by
  unfold tf; rw [look_nat, look_nat, List.getElem?_set_ne (fun e => hi e.symm)]
theorem tg_set {k : Nat} {r' : Er} {i : Nat} (hi : i ≠ k) : tg (rs.set k (some r')) i = tg rs i := by
  unfold tg; rw [look_nat, look_nat, List.getElem?_set_ne (fun e => hi e.symm)]
theorem tf_self {k : Nat} {r : Er} (hr : rs[k]? = some (some r)) : tf rs k = r.told := by unfold tf; rw [look_at' hr]
theorem tg_self {k : Nat} {r : Er} (hr : rs[k]? = some (some r)) : tg rs k = 0 := by unfold tg; rw [look_at' hr]
theorem set_self {k : Nat} {r' : Er} (hk : k < rs.length) : (rs.set k (some r'))[k]? = some (some r') := List.getElem?_set_self hk
/-- what is told of others stays -/
theorem nS_others {kd e n m : Int} {q : Qt} {g : Nat → Nat} {pc : Nat} {on : Bool} (k2 : kd ≠ 2) (k3 : kd ≠ 3) {i : Nat} (hi : (i : Int) ≠ e) : tf (nS kd e n m q g pc on rs last) i = tf rs i ∧ tg (nS kd e n m q g pc on rs last) i = tg rs i := by
  cases hl : look rs e with
  | none => rw [nS_no k2 k3 hl]; exact ⟨rfl, rfl⟩
  | some r =>
    obtain ⟨k, rfl, hr⟩ := look_some hl
    obtain ⟨r', h1, _⟩ := nS_at (q := q) (g := g) (pc := pc) (on := on) (n := n) (m := m) (last := last) k2 k3 hr
    rw [h1]
    have hne : i ≠ k := fun e => hi (by rw [e])
    exact ⟨tf_set hne, tg_set hne⟩
/-- what comes and goes: of the others all is told as before, but the parent's Left -/
structure Cm (rs rs' : List (Option Er)) (pr : Int) : Prop where
  g : ∀ i, i < 16 → lvb rs i = lvb rs' i → tg rs i = tg rs' i
  f : ∀ i, i < 16 → lvb rs i = lvb rs' i → (if (i : Int) = pr then { tf rs i with lf := (tf rs' i).lf } else tf rs i).head = (tf rs' i).head
  s : (∀ i, i < 16 → lvb rs i = lvb rs' i) → rs' = rs
theorem Cm.same (pr : Int) : Cm rs rs pr := ⟨fun _ _ _ => rfl, fun i _ _ => by split <;> rfl, fun _ => rfl⟩
theorem lvb_cases (rs : List (Option Er)) (i : Nat) : (∃ r, rs[i]? = some (some r) ∧ lvb rs i = true ∧ tf rs i = r.told ∧ tg rs i = 0) ∨ ((∀ r, rs[i]? ≠ some (some r)) ∧ lvb rs i = false ∧ tf rs i = Er.nil ∧ tg rs i = 90) := by
  cases h : lvb rs i with
  | true =>
    obtain ⟨r, hr⟩ := lv_core.2 h
    exact .inl ⟨r, hr, rfl, tf_self hr, tg_self hr⟩
  | false =>
    have hn : ∀ r, rs[i]? ≠ some (some r) := fun r hr => by rw [lvb_yes hr] at h; cases h
    have hl : look rs (i : Int) = none := by
      cases h2 : look rs (i : Int) with
      | none => rfl
      | some r =>
        obtain ⟨k, hk, hr⟩ := look_some h2
        have : i = k := by omega
        subst this
        exact (hn r hr).elim
    exact .inr ⟨hn, rfl, by unfold tf; rw [hl], by unfold tg; rw [hl]⟩
theorem tg_lvb (rs : List (Option Er)) (i : Nat) : decide (tg rs i = 0) = lvb rs i := by
  rcases lvb_cases rs i with ⟨r, _, h1, _, h2⟩ | ⟨_, h1, _, h2⟩ <;> rw [h1, h2] <;> rfl
/-- a step by which one record's Left is changed and others come or go -/
theorem Cm.of {rs rs' : List (Option Er)} {pr : Int} {x : Nat} (hx : x < 16) (hd : lvb rs x ≠ lvb rs' x)
    (h : ∀ (i : Nat) (r r' : Er), rs[i]? = some (some r) → rs'[i]? = some (some r') → r' = r ∨ ((i : Int) = pr ∧ ∃ l, r' = { r with le := l })) : Cm rs rs' pr := by
  refine ⟨fun i _ e => ?_, fun i _ e => ?_, fun e => (hd (e x hx)).elim⟩
  · rcases lvb_cases rs i with ⟨r, h1, h2, _, h4⟩ | ⟨h1, h2, _, h4⟩ <;> rcases lvb_cases rs' i with ⟨r', g1, g2, _, g4⟩ | ⟨g1, g2, _, g4⟩
    · rw [h4, g4]
    · rw [h2, g2] at e; cases e
    · rw [h2, g2] at e; cases e
    · rw [h4, g4]
  · rcases lvb_cases rs i with ⟨r, h1, h2, h3, _⟩ | ⟨h1, h2, h3, _⟩ <;> rcases lvb_cases rs' i with ⟨r', g1, g2, g3, _⟩ | ⟨g1, g2, g3, _⟩
    · rw [h3, g3]
      rcases h i r r' h1 g1 with rfl | ⟨e1, l, rfl⟩
      · split <;> rfl
      · rw [if_pos e1]; rfl
    · rw [h2, g2] at e; cases e
    · rw [h2, g2] at e; cases e
    · rw [h3, g3]; split <;> rfl
theorem cm_create (h : Iv rs last) {e n : Int} {q : Qt} : Cm rs (crS rs last e n q) e := by
  have h16 := h.tr.len
  by_cases hc : crE rs last e n q = 0
  · obtain ⟨k, r, he, hr, _, _, _, _, hff⟩ := crE_zero2 hc
    rw [crS_at hc he hr]
    have hfree : rs[ff rs]? = some none := ff_free (by rw [h16]; exact hff)
    have hne : ff rs ≠ k := fun e => by rw [e, hr] at hfree; cases hfree
    refine Cm.of (x := ff rs) hff ?_ ?_
    · rw [lvb_no hfree, lvb_yes (r := Er.new n e q) (by rw [List.getElem?_set_ne (fun e => hne e.symm), List.getElem?_set_self (by rw [h16]; exact hff)])]
      decide
    · intro i x y hx hy
      by_cases e1 : i = k
      · subst e1
        rw [List.getElem?_set_self (by rw [List.length_set]; exact look_len hr)] at hy
        rw [hr] at hx
        cases hx; cases hy
        exact .inr ⟨he.symm, _, rfl⟩
      · rw [List.getElem?_set_ne (fun e => e1 e.symm)] at hy
        by_cases e2 : i = ff rs
        · subst e2; rw [hfree] at hx; cases hx
        · rw [List.getElem?_set_ne (fun e => e2 e.symm), hx] at hy
          cases hy; exact .inl rfl
  · have : crS rs last e n q = rs := by
      unfold crS
      split
      · rfl
      · rw [if_neg hc]
    rw [this]; exact Cm.same _
theorem cm_destroy (h : Iv rs last) {e : Int} : Cm rs (dsS rs e) (if 0 ≤ e ∧ e < 16 then (tf rs e.toNat).pa else -1) := by
  have h16 := h.tr.len
  by_cases hc : dsE rs e = 0
  · obtain ⟨k, r, rfl, hr, hk0, _, hS⟩ := dsE_zero hc
    rw [hS]
    obtain ⟨p, rp, hp, hrp, hpk⟩ := par_of h hr hk0
    rw [dsP_at hp hrp]
    have hk16 : k < 16 := by have := look_len hr; omega
    rw [if_pos ⟨by omega, by omega⟩, show ((k : Nat) : Int).toNat = k from rfl, tf_self hr]
    refine Cm.of (x := k) hk16 ?_ ?_
    · rw [lvb_yes hr, lvb_no (drops_gone _ _ k (wk_self 17 k) (by rw [List.length_set, h16]; exact hk16))]
      decide
    · intro i x y hx hy
      obtain ⟨h1, h2⟩ := drops_some hy
      by_cases e1 : i = p
      · subst e1
        rw [List.getElem?_set_self (look_len hrp)] at h2
        rw [hrp] at hx
        cases hx; cases h2
        exact .inr ⟨hp.symm, _, rfl⟩
      · rw [List.getElem?_set_ne (fun e => e1 e.symm), hx] at h2
        cases h2; exact .inl rfl
  · have : dsS rs e = rs := by
      unfold dsE at hc
      unfold dsS
      split
      · rfl
      · rename_i r hl
        rw [hl] at hc
        dsimp only at hc
        split
        · rfl
        · rename_i h0; rw [if_neg h0] at hc; exact (hc rfl).elim
    rw [this]; exact Cm.same _
end
end Go.Proofs.Ytoddadohmnaolaa

namespace Go.Proofs.Ytoddadohmnaolaa
open Go.ChangeShapes Go.WideShapes Go.ChangeAt Go.RowKit Go.Deep Go.Shelf Go.Great

/-- what is told of one, as cells of a block -/
theorem tc_env {w : World} {N : Nat} {cs : List Value} {f : Nat → Er} {g : Nat → Int} (h : w.heap[N]? = some (.cells cs.toArray 52 (0, 0))) (hT : Tc cs f g) {i : Nat} (hi : i < 16) : (∀ (j : Nat) (v : Value), (f i).head[j]? = some v → w.cell? ((⟨N, i * 21, none⟩ : Addr).add j) = some v) ∧ w.cell? ⟨N, 336 + i, none⟩ = some (.int .i64 (g i)) := by
  constructor
  · intro j v hv
    have hj : j < 21 := by have := (List.getElem?_eq_some_iff.1 hv).1; rw [head_len] at this; exact this
    have h1 := hT.env i hi j hj
    rw [hv] at h1
    rw [show (⟨N, i * 21, none⟩ : Addr).add j = ⟨N, i * 21 + j, none⟩ by simp [Addr.add], cell_of_row _ _ _ _ _ _ h]
    simpa using h1
  · rw [cell_of_row _ _ _ _ _ _ h]
    simpa using hT.err i hi
set_option maxRecDepth 100000 in
set_option maxHeartbeats 6400000 in
theorem only_any (w : World) (cs cs2 : List Value) (f f2 : Nat → Er) (g g2 : Nat → Int) (e : Int) (h1 : Tc cs f g) (h2 : Tc cs2 f2 g2) (hf : ∀ i : Nat, i < 16 → (i : Int) ≠ e → f2 i = f i) (hg : ∀ i : Nat, i < 16 → (i : Int) ≠ e → g2 i = g i) :
    Calls Try.prog 29 #[.agg cs.toArray, .agg cs2.toArray, .int .i64 e, .int .i64 e] w fun x w' => x = .returned (.bool true) ∧ Below w.heap.size w w' := by
  have hb1 := (Below.refl w.heap.size w).alloc (Nat.le_refl _) (.cells cs.toArray 52)
  have a1 := heap_alloc_new w (.cells cs.toArray 52)
  have hb2 := hb1.alloc (by simp) (.cells cs2.toArray 52)
  have a2 := heap_alloc_new (w.alloc (.cells cs.toArray 52)) (.cells cs2.toArray 52)
  have a3 : ((w.alloc (.cells cs.toArray 52)).alloc (.cells cs2.toArray 52)).heap[w.heap.size]? = some (.cells cs.toArray 52 (0, 0)) := by rw [Below.heap_alloc _ _ _ (by simp)]; exact a1
  have hne : (w.alloc (.cells cs.toArray 52)).heap.size = w.heap.size + 1 := by simp
  have HT1 := hide h1
  have HT2 := hide h2
  have HF := hide hf
  have HG := hide hg
  clear h1 h2 hf hg
  go_enter Try.func29, Try.ntmps29
  go_upto_region 1 with fail
  rw [hne] at a2
  clear hb1 a1 hne
  generalize (w.alloc (.cells cs.toArray 52)).alloc (.cells cs2.toArray 52) = w2 at *
  have HB := hide hb2
  have H1 := hide a3
  have H2 := hide a2
  clear hb2 a3 a2
  obtain ⟨N, hN⟩ : ∃ N, N = w.heap.size := ⟨_, rfl⟩
  rw [← hN] at HB H1 H2 ⊢
  have HN := hide hN
  clear hN
  go_upto_region 2 with fail
  go_loopw [9] (fun x wr => ∃ j : Nat, j ≤ 16 ∧ x = .int .i64 (j : Int) ∧ Hid (wr.heap[N]? = some (.cells cs.toArray 52 (0, 0))) ∧ Hid (wr.heap[N + 1]? = some (.cells cs2.toArray 52 (0, 0))) ∧ Hid (Below N w wr)) (fun x _ => 16 - (intOf x).toNat)
  case atStart => exact ⟨0, by omega, rfl, H1, H2, HB⟩
  case round =>
  clear H2 H1 HB
  obtain ⟨j, hj, rfl, K1, K2, KB⟩ := hrel
  by_cases h16 : j < 16
  · have hd : decide ((j : Int) < 16) = true := by simp; omega
    have hj3 : (j : Int) < 16 := by omega
    go_upto_region 4 with fail
    obtain ⟨w4, hw4⟩ : ∃ w4, w4 = wr.drew := ⟨_, rfl⟩
    have hb4 : Below wr.heap.size wr w4 := by rw [hw4]; exact ⟨rfl, rfl, rfl, Nat.le_refl _, fun _ _ => rfl⟩
    have L1 := hide ((hb4.block _ (Array.getElem?_eq_some_iff.1 K1.out).1).trans K1.out)
    have L2 := hide ((hb4.block _ (Array.getElem?_eq_some_iff.1 K2.out).1).trans K2.out)
    have LB := hide (KB.out.trans (hb4.mono (by rw [HN.out]; exact KB.out.size)))
    clear K1 K2 KB hb4
    by_cases he : (j : Int) = e
    · subst he
      have hnb : ((j : Int) != (j : Int)) = false := by simp
      have HS := hide True.intro
      refine wp_region_held_drew (S := fun _ => True) (by kernel_rfl) True.intro (fun _ => ?_)
      rw [← hw4]
      clear hw4
      refine hd_take 0 (o := ⟨some 14, _, _, _, _, _⟩) (.int .i64 (j : Int)) (by kernel_rfl) (by kernel_rfl) (by kernel_rfl) rfl (by rfl) (fun W hSw => by go_simp) (fun _ _ _ h => h) HS.out ?_
      try simp only [Act.put, List.setIfInBounds_toArray, List.set_cons_zero, List.set_cons_succ]
      refine hd_take 1 (o := ⟨some 15, _, _, _, _, _⟩) (.int .i64 (j : Int)) (by kernel_rfl) (by kernel_rfl) (by kernel_rfl) rfl (by rfl) (fun W hSw => by go_simp) (fun _ _ _ h => h) HS.out ?_
      try simp only [Act.put, List.setIfInBounds_toArray, List.set_cons_zero, List.set_cons_succ]
      refine hd_take 2 (o := ⟨some 16, _, _, _, _, _⟩) (.bool false) (by kernel_rfl) (by kernel_rfl) (by kernel_rfl) rfl (by rfl) (fun W hSw => by go_simp) (fun _ _ _ h => h) HS.out ?_
      try simp only [Act.put, List.setIfInBounds_toArray, List.set_cons_zero, List.set_cons_succ]
      refine hd_take 3 (o := ⟨some 17, _, _, _, _, _⟩) (.bool false) (by kernel_rfl) (by kernel_rfl) (by kernel_rfl) rfl (by rfl) (fun W hSw => by go_simp) (fun _ _ _ h => h) HS.out ?_
      try simp only [Act.put, List.setIfInBounds_toArray, List.set_cons_zero, List.set_cons_succ]
      refine hd_skip 4 (o := ⟨some 18, _, _, _, _, _⟩) (by kernel_rfl) (by kernel_rfl) (by kernel_rfl) rfl (by rfl) (fun _ _ _ h => h) HS.out ?_
      try simp only [Act.put, List.setIfInBounds_toArray, List.set_cons_zero, List.set_cons_succ]
      refine hd_skip 5 (o := ⟨some 19, _, _, _, _, _⟩) (by kernel_rfl) (by kernel_rfl) (by kernel_rfl) rfl (by rfl) (fun _ _ _ h => h) HS.out ?_
      try simp only [Act.put, List.setIfInBounds_toArray, List.set_cons_zero, List.set_cons_succ]
      refine hd_skip 6 (o := ⟨some 20, _, _, _, _, _⟩) (by kernel_rfl) (by kernel_rfl) (by kernel_rfl) rfl (by rfl) (fun _ _ _ h => h) HS.out ?_
      try simp only [Act.put, List.setIfInBounds_toArray, List.set_cons_zero, List.set_cons_succ]
      refine hd_take 7 (o := ⟨some 21, _, _, _, _, _⟩) (.bool false) (by kernel_rfl) (by kernel_rfl) (by kernel_rfl) rfl (by rfl) (fun W hSw => by go_simp) (fun _ _ _ h => h) HS.out ?_
      try simp only [Act.put, List.setIfInBounds_toArray, List.set_cons_zero, List.set_cons_succ]
      refine hd_take 8 (o := ⟨some 22, _, _, _, _, _⟩) (.bool false) (by kernel_rfl) (by kernel_rfl) (by kernel_rfl) rfl (by rfl) (fun W hSw => by go_simp) (fun _ _ _ h => h) HS.out ?_
      try simp only [Act.put, List.setIfInBounds_toArray, List.set_cons_zero, List.set_cons_succ]
      refine hd_skip 9 (o := ⟨some 23, _, _, _, _, _⟩) (by kernel_rfl) (by kernel_rfl) (by kernel_rfl) rfl (by rfl) (fun _ _ _ h => h) HS.out ?_
      try simp only [Act.put, List.setIfInBounds_toArray, List.set_cons_zero, List.set_cons_succ]
      refine hd_skip 10 (o := ⟨some 24, _, _, _, _, _⟩) (by kernel_rfl) (by kernel_rfl) (by kernel_rfl) rfl (by rfl) (fun _ _ _ h => h) HS.out ?_
      try simp only [Act.put, List.setIfInBounds_toArray, List.set_cons_zero, List.set_cons_succ]
      refine hd_skip 11 (o := ⟨some 25, _, _, _, _, _⟩) (by kernel_rfl) (by kernel_rfl) (by kernel_rfl) rfl (by rfl) (fun _ _ _ h => h) HS.out ?_
      try simp only [Act.put, List.setIfInBounds_toArray, List.set_cons_zero, List.set_cons_succ]
      refine hd_skip 12 (o := ⟨some 26, _, _, _, _, _⟩) (by kernel_rfl) (by kernel_rfl) (by kernel_rfl) rfl (by rfl) (fun _ _ _ h => h) HS.out ?_
      try simp only [Act.put, List.setIfInBounds_toArray, List.set_cons_zero, List.set_cons_succ]
      refine hd_skip 13 (o := ⟨some 27, _, _, _, _, _⟩) (by kernel_rfl) (by kernel_rfl) (by kernel_rfl) rfl (by rfl) (fun _ _ _ h => h) HS.out ?_
      try simp only [Act.put, List.setIfInBounds_toArray, List.set_cons_zero, List.set_cons_succ]
      refine hd_skip 14 (o := ⟨some 28, _, _, _, _, _⟩) (by kernel_rfl) (by kernel_rfl) (by kernel_rfl) rfl (by rfl) (fun _ _ _ h => h) HS.out ?_
      try simp only [Act.put, List.setIfInBounds_toArray, List.set_cons_zero, List.set_cons_succ]
      refine hd_skip 15 (o := ⟨some 29, _, _, _, _, _⟩) (by kernel_rfl) (by kernel_rfl) (by kernel_rfl) rfl (by rfl) (fun _ _ _ h => h) HS.out ?_
      try simp only [Act.put, List.setIfInBounds_toArray, List.set_cons_zero, List.set_cons_succ]
      refine hd_skip 16 (o := ⟨some 30, _, _, _, _, _⟩) (by kernel_rfl) (by kernel_rfl) (by kernel_rfl) rfl (by rfl) (fun _ _ _ h => h) HS.out ?_
      try simp only [Act.put, List.setIfInBounds_toArray, List.set_cons_zero, List.set_cons_succ]
      refine hd_skip 17 (o := ⟨some 31, _, _, _, _, _⟩) (by kernel_rfl) (by kernel_rfl) (by kernel_rfl) rfl (by rfl) (fun _ _ _ h => h) HS.out ?_
      try simp only [Act.put, List.setIfInBounds_toArray, List.set_cons_zero, List.set_cons_succ]
      refine hd_skip 18 (o := ⟨some 32, _, _, _, _, _⟩) (by kernel_rfl) (by kernel_rfl) (by kernel_rfl) rfl (by rfl) (fun _ _ _ h => h) HS.out ?_
      try simp only [Act.put, List.setIfInBounds_toArray, List.set_cons_zero, List.set_cons_succ]
      refine hd_skip 19 (o := ⟨some 33, _, _, _, _, _⟩) (by kernel_rfl) (by kernel_rfl) (by kernel_rfl) rfl (by rfl) (fun _ _ _ h => h) HS.out ?_
      try simp only [Act.put, List.setIfInBounds_toArray, List.set_cons_zero, List.set_cons_succ]
      refine hd_skip 20 (o := ⟨some 34, _, _, _, _, _⟩) (by kernel_rfl) (by kernel_rfl) (by kernel_rfl) rfl (by rfl) (fun _ _ _ h => h) HS.out ?_
      try simp only [Act.put, List.setIfInBounds_toArray, List.set_cons_zero, List.set_cons_succ]
      refine hd_skip 21 (o := ⟨some 35, _, _, _, _, _⟩) (by kernel_rfl) (by kernel_rfl) (by kernel_rfl) rfl (by rfl) (fun _ _ _ h => h) HS.out ?_
      try simp only [Act.put, List.setIfInBounds_toArray, List.set_cons_zero, List.set_cons_succ]
      refine hd_skip 22 (o := ⟨some 36, _, _, _, _, _⟩) (by kernel_rfl) (by kernel_rfl) (by kernel_rfl) rfl (by rfl) (fun _ _ _ h => h) HS.out ?_
      try simp only [Act.put, List.setIfInBounds_toArray, List.set_cons_zero, List.set_cons_succ]
      refine hd_skip 23 (o := ⟨some 37, _, _, _, _, _⟩) (by kernel_rfl) (by kernel_rfl) (by kernel_rfl) rfl (by rfl) (fun _ _ _ h => h) HS.out ?_
      try simp only [Act.put, List.setIfInBounds_toArray, List.set_cons_zero, List.set_cons_succ]
      refine hd_skip 24 (o := ⟨some 38, _, _, _, _, _⟩) (by kernel_rfl) (by kernel_rfl) (by kernel_rfl) rfl (by rfl) (fun _ _ _ h => h) HS.out ?_
      try simp only [Act.put, List.setIfInBounds_toArray, List.set_cons_zero, List.set_cons_succ]
      refine hd_skip 25 (o := ⟨some 39, _, _, _, _, _⟩) (by kernel_rfl) (by kernel_rfl) (by kernel_rfl) rfl (by rfl) (fun _ _ _ h => h) HS.out ?_
      try simp only [Act.put, List.setIfInBounds_toArray, List.set_cons_zero, List.set_cons_succ]
      refine hd_skip 26 (o := ⟨some 40, _, _, _, _, _⟩) (by kernel_rfl) (by kernel_rfl) (by kernel_rfl) rfl (by rfl) (fun _ _ _ h => h) HS.out ?_
      try simp only [Act.put, List.setIfInBounds_toArray, List.set_cons_zero, List.set_cons_succ]
      refine hd_skip 27 (o := ⟨some 41, _, _, _, _, _⟩) (by kernel_rfl) (by kernel_rfl) (by kernel_rfl) rfl (by rfl) (fun _ _ _ h => h) HS.out ?_
      try simp only [Act.put, List.setIfInBounds_toArray, List.set_cons_zero, List.set_cons_succ]
      refine hd_skip 28 (o := ⟨some 42, _, _, _, _, _⟩) (by kernel_rfl) (by kernel_rfl) (by kernel_rfl) rfl (by rfl) (fun _ _ _ h => h) HS.out ?_
      try simp only [Act.put, List.setIfInBounds_toArray, List.set_cons_zero, List.set_cons_succ]
      refine hd_take 29 (o := ⟨some 43, _, _, _, _, _⟩) (.bool false) (by kernel_rfl) (by kernel_rfl) (by kernel_rfl) rfl (by rfl) (fun W hSw => by go_simp) (fun _ _ _ h => h) HS.out ?_
      try simp only [Act.put, List.setIfInBounds_toArray, List.set_cons_zero, List.set_cons_succ]
      refine wpAnyH_done (by kernel_rfl) ?_ _
      clear HS
      go_wp2_with fail
      go_roundw
      case rel =>
        first
          | exact ⟨j + 1, by omega, by go_num, L1, L2, LB⟩
          | ((repeat apply Exists.intro); refine ⟨?_, rfl⟩; exact ⟨j + 1, by omega, by go_num, L1, L2, LB⟩)
      case measure => simp [intOf]; omega
    · have hnb : ((j : Int) != e) = true := by simp [he]
      obtain ⟨x1, x3⟩ := tc_env L1.out HT1.out h16
      obtain ⟨x2, x4⟩ := tc_env L2.out HT2.out h16
      rw [HF.out j h16 he] at x2
      rw [HG.out j h16 he] at x4
      generalize f j = r at x1 x2
      generalize g j = z at x3 x4
      have HS : Hid ((∀ (i : Nat) (v : Value), r.head[i]? = some v → w4.cell? ((⟨N, j * 21, none⟩ : Addr).add i) = some v) ∧ (∀ (i : Nat) (v : Value), r.head[i]? = some v → w4.cell? ((⟨N + 1, j * 21, none⟩ : Addr).add i) = some v) ∧ w4.cell? ⟨N, 336 + j, none⟩ = some (.int .i64 z) ∧ w4.cell? ⟨N + 1, 336 + j, none⟩ = some (.int .i64 z)) := hide ⟨x1, x2, x3, x4⟩
      clear x1 x2 x3 x4
      refine wp_region_held_drew (S := fun W => (∀ (i : Nat) (v : Value), r.head[i]? = some v → W.cell? ((⟨N, j * 21, none⟩ : Addr).add i) = some v) ∧ (∀ (i : Nat) (v : Value), r.head[i]? = some v → W.cell? ((⟨N + 1, j * 21, none⟩ : Addr).add i) = some v) ∧ W.cell? ⟨N, 336 + j, none⟩ = some (.int .i64 z) ∧ W.cell? ⟨N + 1, 336 + j, none⟩ = some (.int .i64 z)) (by kernel_rfl) (by rw [← hw4]; exact HS.out) (fun _ => ?_)
      rw [← hw4]
      clear hw4
      refine hd_take 0 (o := ⟨some 14, _, _, _, _, _⟩) (.int .i64 (j : Int)) (by kernel_rfl) (by kernel_rfl) (by kernel_rfl) rfl (by rfl) (fun W hSw => by go_simp) (fun _ _ _ h => h) HS.out ?_
      try simp only [Act.put, List.setIfInBounds_toArray, List.set_cons_zero, List.set_cons_succ]
      refine hd_take 1 (o := ⟨some 15, _, _, _, _, _⟩) (.int .i64 e) (by kernel_rfl) (by kernel_rfl) (by kernel_rfl) rfl (by rfl) (fun W hSw => by go_simp) (fun _ _ _ h => h) HS.out ?_
      try simp only [Act.put, List.setIfInBounds_toArray, List.set_cons_zero, List.set_cons_succ]
      refine hd_take 2 (o := ⟨some 16, _, _, _, _, _⟩) (.bool true) (by kernel_rfl) (by kernel_rfl) (by kernel_rfl) rfl (by rfl) (fun W hSw => by go_simp) (fun _ _ _ h => h) HS.out ?_
      try simp only [Act.put, List.setIfInBounds_toArray, List.set_cons_zero, List.set_cons_succ]
      refine hd_take 3 (o := ⟨some 17, _, _, _, _, _⟩) (.bool true) (by kernel_rfl) (by kernel_rfl) (by kernel_rfl) rfl (by rfl) (fun W hSw => by go_simp) (fun _ _ _ h => h) HS.out ?_
      try simp only [Act.put, List.setIfInBounds_toArray, List.set_cons_zero, List.set_cons_succ]
      refine hd_take 4 (o := ⟨some 18, _, _, _, _, _⟩) (.int .i64 (j : Int)) (by kernel_rfl) (by kernel_rfl) (by kernel_rfl) rfl (by rfl) (fun W hSw => by go_simp) (fun _ _ _ h => h) HS.out ?_
      try simp only [Act.put, List.setIfInBounds_toArray, List.set_cons_zero, List.set_cons_succ]
      refine hd_take 5 (o := ⟨some 19, _, _, _, _, _⟩) (.int .i64 e) (by kernel_rfl) (by kernel_rfl) (by kernel_rfl) rfl (by rfl) (fun W hSw => by go_simp) (fun _ _ _ h => h) HS.out ?_
      try simp only [Act.put, List.setIfInBounds_toArray, List.set_cons_zero, List.set_cons_succ]
      refine hd_take 6 (o := ⟨some 20, _, _, _, _, _⟩) (.bool true) (by kernel_rfl) (by kernel_rfl) (by kernel_rfl) rfl (by rfl) (fun W hSw => by go_simp) (fun _ _ _ h => h) HS.out ?_
      try simp only [Act.put, List.setIfInBounds_toArray, List.set_cons_zero, List.set_cons_succ]
      refine hd_take 7 (o := ⟨some 21, _, _, _, _, _⟩) (.bool true) (by kernel_rfl) (by kernel_rfl) (by kernel_rfl) rfl (by rfl) (fun W hSw => by go_simp) (fun _ _ _ h => h) HS.out ?_
      try simp only [Act.put, List.setIfInBounds_toArray, List.set_cons_zero, List.set_cons_succ]
      refine hd_take 8 (o := ⟨some 22, _, _, _, _, _⟩) (.bool true) (by kernel_rfl) (by kernel_rfl) (by kernel_rfl) rfl (by rfl) (fun W hSw => by go_simp) (fun _ _ _ h => h) HS.out ?_
      try simp only [Act.put, List.setIfInBounds_toArray, List.set_cons_zero, List.set_cons_succ]
      refine hd_take 9 (o := ⟨some 23, _, _, _, _, _⟩) (.int .i64 (j : Int)) (by kernel_rfl) (by kernel_rfl) (by kernel_rfl) rfl (by rfl) (fun W hSw => by go_simp) (fun _ _ _ h => h) HS.out ?_
      try simp only [Act.put, List.setIfInBounds_toArray, List.set_cons_zero, List.set_cons_succ]
      refine hd_take 10 (o := ⟨some 24, _, _, _, _, _⟩) (.pointer (some ⟨N, 0, none⟩)) (by kernel_rfl) (by kernel_rfl) (by kernel_rfl) rfl (by rfl) (fun W hSw => by go_simp) (fun _ _ _ h => h) HS.out ?_
      try simp only [Act.put, List.setIfInBounds_toArray, List.set_cons_zero, List.set_cons_succ]
      refine hd_take 11 (o := ⟨some 25, _, _, _, _, _⟩) (.pointer (some ⟨N, j * 21, none⟩)) (by kernel_rfl) (by kernel_rfl) (by kernel_rfl) rfl (by rfl) (fun W hSw => by go_simp) (fun _ _ _ h => h) HS.out ?_
      try simp only [Act.put, List.setIfInBounds_toArray, List.set_cons_zero, List.set_cons_succ]
      refine hd_take 12 (o := ⟨some 26, _, _, _, _, _⟩) (.agg r.head.toArray) (by kernel_rfl) (by kernel_rfl) (by kernel_rfl) rfl (by rfl) (fun W hSw => by exact run_loadT Try.underlying41 rfl r.head (by rw [head_len]; exact infoE) _ rfl ⟨N, j * 21, none⟩ rfl (by obtain ⟨s1, s2, s3, s4⟩ := hSw; exact s1)) (fun _ _ _ h => h) HS.out ?_
      try simp only [Act.put, List.setIfInBounds_toArray, List.set_cons_zero, List.set_cons_succ]
      refine hd_take 13 (o := ⟨some 27, _, _, _, _, _⟩) (.int .i64 (j : Int)) (by kernel_rfl) (by kernel_rfl) (by kernel_rfl) rfl (by rfl) (fun W hSw => by go_simp) (fun _ _ _ h => h) HS.out ?_
      try simp only [Act.put, List.setIfInBounds_toArray, List.set_cons_zero, List.set_cons_succ]
      refine hd_take 14 (o := ⟨some 28, _, _, _, _, _⟩) (.pointer (some ⟨N + 1, 0, none⟩)) (by kernel_rfl) (by kernel_rfl) (by kernel_rfl) rfl (by rfl) (fun W hSw => by go_simp) (fun _ _ _ h => h) HS.out ?_
      try simp only [Act.put, List.setIfInBounds_toArray, List.set_cons_zero, List.set_cons_succ]
      refine hd_take 15 (o := ⟨some 29, _, _, _, _, _⟩) (.pointer (some ⟨N + 1, j * 21, none⟩)) (by kernel_rfl) (by kernel_rfl) (by kernel_rfl) rfl (by rfl) (fun W hSw => by go_simp) (fun _ _ _ h => h) HS.out ?_
      try simp only [Act.put, List.setIfInBounds_toArray, List.set_cons_zero, List.set_cons_succ]
      refine hd_take 16 (o := ⟨some 30, _, _, _, _, _⟩) (.agg r.head.toArray) (by kernel_rfl) (by kernel_rfl) (by kernel_rfl) rfl (by rfl) (fun W hSw => by exact run_loadT Try.underlying41 rfl r.head (by rw [head_len]; exact infoE) _ rfl ⟨N + 1, j * 21, none⟩ rfl (by obtain ⟨s1, s2, s3, s4⟩ := hSw; exact s2)) (fun _ _ _ h => h) HS.out ?_
      try simp only [Act.put, List.setIfInBounds_toArray, List.set_cons_zero, List.set_cons_succ]
      refine hd_take 17 (o := ⟨some 31, _, _, _, _, _⟩) (.bool false) (by kernel_rfl) (by kernel_rfl) (by kernel_rfl) rfl (by rfl) (fun W hSw => by exact run_neqT r.head.toArray (se_env 9996 r) (by kernel_rfl) _ _ rfl rfl rfl) (fun _ _ _ h => h) HS.out ?_
      try simp only [Act.put, List.setIfInBounds_toArray, List.set_cons_zero, List.set_cons_succ]
      refine hd_take 18 (o := ⟨some 32, _, _, _, _, _⟩) (.bool false) (by kernel_rfl) (by kernel_rfl) (by kernel_rfl) rfl (by rfl) (fun W hSw => by go_simp) (fun _ _ _ h => h) HS.out ?_
      try simp only [Act.put, List.setIfInBounds_toArray, List.set_cons_zero, List.set_cons_succ]
      refine hd_take 19 (o := ⟨some 33, _, _, _, _, _⟩) (.int .i64 (j : Int)) (by kernel_rfl) (by kernel_rfl) (by kernel_rfl) rfl (by rfl) (fun W hSw => by go_simp) (fun _ _ _ h => h) HS.out ?_
      try simp only [Act.put, List.setIfInBounds_toArray, List.set_cons_zero, List.set_cons_succ]
      refine hd_take 20 (o := ⟨some 34, _, _, _, _, _⟩) (.pointer (some ⟨N, 336, none⟩)) (by kernel_rfl) (by kernel_rfl) (by kernel_rfl) rfl (by rfl) (fun W hSw => by go_simp) (fun _ _ _ h => h) HS.out ?_
      try simp only [Act.put, List.setIfInBounds_toArray, List.set_cons_zero, List.set_cons_succ]
      refine hd_take 21 (o := ⟨some 35, _, _, _, _, _⟩) (.pointer (some ⟨N, 336 + j, none⟩)) (by kernel_rfl) (by kernel_rfl) (by kernel_rfl) rfl (by rfl) (fun W hSw => by go_simp) (fun _ _ _ h => h) HS.out ?_
      try simp only [Act.put, List.setIfInBounds_toArray, List.set_cons_zero, List.set_cons_succ]
      refine hd_take 22 (o := ⟨some 36, _, _, _, _, _⟩) (.int .i64 z) (by kernel_rfl) (by kernel_rfl) (by kernel_rfl) rfl (by rfl) (fun W hSw => by obtain ⟨s1, s2, s3, s4⟩ := hSw; go_simp) (fun _ _ _ h => h) HS.out ?_
      try simp only [Act.put, List.setIfInBounds_toArray, List.set_cons_zero, List.set_cons_succ]
      refine hd_take 23 (o := ⟨some 37, _, _, _, _, _⟩) (.int .i64 (j : Int)) (by kernel_rfl) (by kernel_rfl) (by kernel_rfl) rfl (by rfl) (fun W hSw => by go_simp) (fun _ _ _ h => h) HS.out ?_
      try simp only [Act.put, List.setIfInBounds_toArray, List.set_cons_zero, List.set_cons_succ]
      refine hd_take 24 (o := ⟨some 38, _, _, _, _, _⟩) (.pointer (some ⟨N + 1, 336, none⟩)) (by kernel_rfl) (by kernel_rfl) (by kernel_rfl) rfl (by rfl) (fun W hSw => by go_simp) (fun _ _ _ h => h) HS.out ?_
      try simp only [Act.put, List.setIfInBounds_toArray, List.set_cons_zero, List.set_cons_succ]
      refine hd_take 25 (o := ⟨some 39, _, _, _, _, _⟩) (.pointer (some ⟨N + 1, 336 + j, none⟩)) (by kernel_rfl) (by kernel_rfl) (by kernel_rfl) rfl (by rfl) (fun W hSw => by go_simp) (fun _ _ _ h => h) HS.out ?_
      try simp only [Act.put, List.setIfInBounds_toArray, List.set_cons_zero, List.set_cons_succ]
      refine hd_take 26 (o := ⟨some 40, _, _, _, _, _⟩) (.int .i64 z) (by kernel_rfl) (by kernel_rfl) (by kernel_rfl) rfl (by rfl) (fun W hSw => by obtain ⟨s1, s2, s3, s4⟩ := hSw; go_simp) (fun _ _ _ h => h) HS.out ?_
      try simp only [Act.put, List.setIfInBounds_toArray, List.set_cons_zero, List.set_cons_succ]
      refine hd_take 27 (o := ⟨some 41, _, _, _, _, _⟩) (.bool false) (by kernel_rfl) (by kernel_rfl) (by kernel_rfl) rfl (by rfl) (fun W hSw => by go_simp) (fun _ _ _ h => h) HS.out ?_
      try simp only [Act.put, List.setIfInBounds_toArray, List.set_cons_zero, List.set_cons_succ]
      refine hd_take 28 (o := ⟨some 42, _, _, _, _, _⟩) (.bool false) (by kernel_rfl) (by kernel_rfl) (by kernel_rfl) rfl (by rfl) (fun W hSw => by go_simp) (fun _ _ _ h => h) HS.out ?_
      try simp only [Act.put, List.setIfInBounds_toArray, List.set_cons_zero, List.set_cons_succ]
      refine hd_take 29 (o := ⟨some 43, _, _, _, _, _⟩) (.bool false) (by kernel_rfl) (by kernel_rfl) (by kernel_rfl) rfl (by rfl) (fun W hSw => by go_simp) (fun _ _ _ h => h) HS.out ?_
      try simp only [Act.put, List.setIfInBounds_toArray, List.set_cons_zero, List.set_cons_succ]
      refine wpAnyH_done (by kernel_rfl) ?_ _
      clear HS
      go_wp2_with fail
      go_roundw
      case rel =>
        first
          | exact ⟨j + 1, by omega, by go_num, L1, L2, LB⟩
          | ((repeat apply Exists.intro); refine ⟨?_, rfl⟩; exact ⟨j + 1, by omega, by go_num, L1, L2, LB⟩)
      case measure => simp [intOf]; omega
  · obtain rfl : j = 16 := by omega
    go_wp2_with fail
    go_ret
    exact ⟨rfl, by rw [HN.out] at KB; exact KB.out⟩
end Go.Proofs.Ytoddadohmnaolaa

namespace Go.Proofs.Ytoddadohmnaolaa
open Go.ChangeShapes Go.WideShapes Go.ChangeAt Go.RowKit Go.Deep Go.Shelf Go.Great

/-- the blocks of 'set': the step, what was told, what is told -/
structure Sw (w0 W : World) (N : Nat) (os : List Value) (x y : Er) : Prop where
  o : W.heap[N]? = some (.cells os.toArray 47 (0, 0))
  hx : Eb W (N + 1) x
  hy : Eb W (N + 1 + 1) y
  b : Below N w0 W
section
variable {w0 W : World} {N : Nat} {os : List Value} {x y : Er}
theorem Sw.put (h : Sw w0 W N os x y) {j : Nat} {v : Value} {x' : Er} (hv : x.head.set j v = x'.head) : Sw w0 (W.setCell ⟨N + 1, j, none⟩ v) N os x' y := by
  refine ⟨?_, ⟨?_⟩, ⟨?_⟩, h.b.setCell (p := ⟨N + 1, j, none⟩) (show N ≤ N + 1 by omega) v⟩
  · rw [heap_setCell_other _ _ _ _ (show N ≠ N + 1 by omega)]; exact h.o
  · rw [heap_setCell_same _ _ _ _ _ v h.hx.out, List.setIfInBounds_toArray, hv]
  · rw [heap_setCell_other _ _ _ _ (show N + 1 + 1 ≠ N + 1 by omega)]; exact h.hy.out
theorem Sw.puts (h : Sw w0 W N os x y) {j : Nat} {vs : List Value} {x' : Er} (hv : setsL x.head j vs = x'.head) : Sw w0 (W.setCells (N + 1) j vs) N os x' y := by
  refine ⟨?_, ⟨?_⟩, ⟨?_⟩, below_setCells h.b (show N ≤ N + 1 by omega) j vs⟩
  · rw [heap_setCells_other _ _ (by omega)]; exact h.o
  · rw [heap_setCells_row (N + 1) _ vs j W _ h.hx.out, hv]
  · rw [heap_setCells_other _ _ (by omega)]; exact h.hy.out
theorem Sw.cell (h : Sw w0 W N os x y) {j : Nat} {v : Value} (hv : os[j]? = some v) : W.cell? ⟨N, j, none⟩ = some v := by
  rw [cell_of_row _ _ _ _ _ _ h.o]; simpa using hv
end
theorem add_off (b o j : Nat) : (⟨b, o, none⟩ : Addr).add j = ⟨b, o + j, none⟩ := by simp [Addr.add]
def regL (g : Nat → Nat) (pc : Nat) : List Value := [.int .u32 (g 0 : Nat), .int .u32 (g 1 : Nat), .int .u32 (g 2 : Nat), .int .u32 (g 3 : Nat), .int .u32 (g 4 : Nat), .int .u32 (g 5 : Nat), .int .u32 (g 6 : Nat), .int .u32 (g 7 : Nat), .int .u32 (pc : Nat)]
theorem regL_one (g : Nat → Nat) (pc : Nat) : ∀ u ∈ regL g pc, u.oneCell' = true := by
  intro u hu
  simp [regL] at hu
  rcases hu with rfl | rfl | rfl | rfl | rfl | rfl | rfl | rfl | rfl <;> rfl
def qtL (q : Qt) : List Value := [.int .i64 q.f, .int .i64 q.e, .int .i64 q.x]
theorem qtL_one (q : Qt) : ∀ u ∈ qtL q, u.oneCell' = true := by
  intro u hu
  simp [qtL] at hu
  rcases hu with rfl | rfl | rfl <;> rfl
def opL (kd t e n m : Int) (q : Qt) (g : Nat → Nat) (pc : Nat) (on : Bool) : List Value := [.int .i64 kd, .int .i64 t, .int .i64 e, .int .i64 n, .int .i64 m, .int .i64 q.f, .int .i64 q.e, .int .i64 q.x, .int .u32 (g 0 : Nat), .int .u32 (g 1 : Nat), .int .u32 (g 2 : Nat), .int .u32 (g 3 : Nat), .int .u32 (g 4 : Nat), .int .u32 (g 5 : Nat), .int .u32 (g 6 : Nat), .int .u32 (g 7 : Nat), .int .u32 (pc : Nat), .bool on]
theorem infoRegs : (Try.prog.info? 33).map (·.size) = some 9 := by kernel_rfl
theorem infoQt : (Try.prog.info? 39).map (·.size) = some 3 := by kernel_rfl
set_option maxRecDepth 100000 in
set_option maxHeartbeats 12800000 in
theorem set_any (w : World) (kd t e n m : Int) (q : Qt) (g : Nat → Nat) (pc : Nat) (on : Bool) (x y : Er) (hh : (sx kd n m g pc on x y).head = y.head) :
    Calls Try.prog 30 #[.agg #[.int .i64 kd, .int .i64 t, .int .i64 e, .int .i64 n, .int .i64 m, .int .i64 q.f, .int .i64 q.e, .int .i64 q.x, .int .u32 (g 0 : Nat), .int .u32 (g 1 : Nat), .int .u32 (g 2 : Nat), .int .u32 (g 3 : Nat), .int .u32 (g 4 : Nat), .int .u32 (g 5 : Nat), .int .u32 (g 6 : Nat), .int .u32 (g 7 : Nat), .int .u32 (pc : Nat), .bool on], .agg x.head.toArray, .agg y.head.toArray] w fun r w' => r = .returned (.bool true) ∧ Below w.heap.size w w' := by
  have HH := hide hh
  clear hh
  obtain ⟨os, hos⟩ : ∃ os, os = opL kd t e n m q g pc on := ⟨_, rfl⟩
  rw [show (#[.int .i64 kd, .int .i64 t, .int .i64 e, .int .i64 n, .int .i64 m, .int .i64 q.f, .int .i64 q.e, .int .i64 q.x, .int .u32 (g 0 : Nat), .int .u32 (g 1 : Nat), .int .u32 (g 2 : Nat), .int .u32 (g 3 : Nat), .int .u32 (g 4 : Nat), .int .u32 (g 5 : Nat), .int .u32 (g 6 : Nat), .int .u32 (g 7 : Nat), .int .u32 (pc : Nat), .bool on] : Array Value) = os.toArray by rw [hos]; rfl]
  have HO := hide hos
  clear hos
  have hb1 := (Below.refl w.heap.size w).alloc (Nat.le_refl _) (.cells os.toArray 47)
  have a1 := heap_alloc_new w (.cells os.toArray 47)
  have hn1 : (w.alloc (.cells os.toArray 47)).heap.size = w.heap.size + 1 := by simp
  have hb2 := hb1.alloc (by simp) (.cells x.head.toArray 41)
  have a2 := heap_alloc_new (w.alloc (.cells os.toArray 47)) (.cells x.head.toArray 41)
  have hn2 : ((w.alloc (.cells os.toArray 47)).alloc (.cells x.head.toArray 41)).heap.size = w.heap.size + 2 := by simp
  have hb3 := hb2.alloc (by rw [hn2]; omega) (.cells y.head.toArray 41)
  have a3 := heap_alloc_new ((w.alloc (.cells os.toArray 47)).alloc (.cells x.head.toArray 41)) (.cells y.head.toArray 41)
  rw [hn2] at a3
  rw [hn1] at a2
  have b2 : (((w.alloc (.cells os.toArray 47)).alloc (.cells x.head.toArray 41)).alloc (.cells y.head.toArray 41)).heap[w.heap.size + 1]? = some (.cells x.head.toArray 41 (0, 0)) := by rw [Below.heap_alloc _ _ _ (by rw [hn2]; omega)]; exact a2
  have b1 : (((w.alloc (.cells os.toArray 47)).alloc (.cells x.head.toArray 41)).alloc (.cells y.head.toArray 41)).heap[w.heap.size]? = some (.cells os.toArray 47 (0, 0)) := by rw [Below.heap_alloc _ _ _ (by rw [hn2]; omega), Below.heap_alloc _ _ _ (by rw [hn1]; omega)]; exact a1
  have HW := hide (show Sw w _ w.heap.size os x y from ⟨b1, ⟨b2⟩, ⟨a3⟩, hb3⟩)
  clear hb1 a1 hb2 a2 hb3 a3 b1 b2 hn1 hn2
  go_enter Try.func30, Try.ntmps30
  go_upto_region 1 with fail
  generalize ((w.alloc (.cells os.toArray 47)).alloc (.cells x.head.toArray 41)).alloc (.cells y.head.toArray 41) = W at *
  obtain ⟨N, hN⟩ : ∃ N, N = w.heap.size := ⟨_, rfl⟩
  rw [← hN] at HW ⊢
  have HN := hide hN
  clear hN
  have c0 : W.cell? ⟨N, 0, none⟩ = some (.int .i64 kd) := HW.out.cell (by rw [HO.out]; rfl)
  have c3 : W.cell? ⟨N, 3, none⟩ = some (.int .i64 n) := HW.out.cell (by rw [HO.out]; rfl)
  have c4 : W.cell? ⟨N, 4, none⟩ = some (.int .i64 m) := HW.out.cell (by rw [HO.out]; rfl)
  have c17 : W.cell? ⟨N, 17, none⟩ = some (.bool on) := HW.out.cell (by rw [HO.out]; rfl)
  have x2 : W.cell? ⟨N + 1, 2, none⟩ = some (.int .i64 x.st) := HW.out.hx.get rfl
  have f2 : W.frozen? ⟨N + 1, 2, none⟩ = false := HW.out.hx.frz 2
  have x4 : W.cell? ⟨N + 1, 4, none⟩ = some (.int .i64 x.bi) := HW.out.hx.get rfl
  have f4 : W.frozen? ⟨N + 1, 4, none⟩ = false := HW.out.hx.frz 4
  have x5 : W.cell? ⟨N + 1, 5, none⟩ = some (.bool x.fz) := HW.out.hx.get rfl
  have f5 : W.frozen? ⟨N + 1, 5, none⟩ = false := HW.out.hx.frz 5
  by_cases k5 : kd = 5
  · subst k5
    have HC8 : Hid (∀ (j : Nat) (v : Value), (regL g pc)[j]? = some v → W.cell? ((⟨N, 8, none⟩ : Addr).add j) = some v) := hide (fun j v hv => by
      have h9 : W.cell? ⟨N, 8 + j, none⟩ = some v := HW.out.cell (by
        rw [HO.out]
        show ([.int .i64 5, .int .i64 t, .int .i64 e, .int .i64 n, .int .i64 m, .int .i64 q.f, .int .i64 q.e, .int .i64 q.x] ++ (regL g pc ++ [.bool on]))[8 + j]? = some v
        rw [List.getElem?_append_right (by simp), List.getElem?_append_left (by have := (List.getElem?_eq_some_iff.1 hv).1; simpa using this)]
        simpa using hv)
      rw [add_off]; exact h9)
    have HW2 := hide (HW.out.puts (j := 6) (vs := regL g pc) (x' := { x with rg := g, pc := pc }) rfl)
    go_upto_region 22 with (first
      | (refine loadT Try.underlying33 rfl (regL g pc) infoRegs rfl _ rfl ⟨N, 8, none⟩ rfl HC8.out ?_)
      | (refine storeT (regL g pc) infoRegs (regL_one g pc) rfl _ _ rfl (N + 1) 6 rfl rfl x.head HW.out.hx.out (by rw [head_len]; exact (by decide : 6 + 9 ≤ 21)) ?_; generalize W.setCells (N + 1) 6 (regL g pc) = W2 at *))
    clear c0 c3 c4 c17 x2 x4 x5 f2 f4 f5 HW HC8
    have HW := HW2
    clear HW2
    have HX := hide HW.out.hx
    have HY := hide HW.out.hy
    have HB := hide HW.out.b
    have hE : ({ x with rg := g, pc := pc } : Er).head = y.head := HH.out
    have HE := hide hE
    clear hE
    go_wp2_with (first
      | (refine loadE y rfl _ rfl ⟨N + 1, 0, none⟩ rfl (fun j v hv => HX.out.hcell j v (by rw [HE.out]; exact hv)) ?_)
      | (refine loadE y rfl _ rfl ⟨N + 1 + 1, 0, none⟩ rfl (fun j v hv => HY.out.hcell j v hv) ?_)
      | (refine eqlT y.head.toArray (se_env 9996 y) (by kernel_rfl) rfl _ _ rfl rfl rfl ?_))
    go_ret
    exact ⟨rfl, by rw [HN.out] at HB; exact HB.out⟩
  by_cases k6 : kd = 6
  · subst k6
    by_cases hc : (0 ≤ n ∧ n ≤ 4) ∧ (0 ≤ m ∧ m ≤ 4294967295)
    · obtain ⟨⟨n0, n1⟩, m0, m1⟩ := hc
      have hH : ({ x with st := n, co := m } : Er).head = y.head := by
        have := HH.out
        simp only [sx] at this
        rw [if_neg (by omega), if_pos trivial, if_pos ⟨⟨n0, n1⟩, m0, m1⟩] at this
        exact this
      have HH2 := hide hH
      clear hH HH
      have HH := HH2
      clear HH2
      have HW1 := hide (HW.out.put (j := 2) (v := .int .i64 n) (x' := { x with st := n }) rfl)
      go_upto_region 7 with fail
      clear c0 c3 c4 c17 x2 x4 x5 f2 f4 f5 HW
      generalize W.setCell ⟨N + 1, 2, none⟩ (.int .i64 n) = W1 at *
      have c4 : W1.cell? ⟨N, 4, none⟩ = some (.int .i64 m) := HW1.out.cell (by rw [HO.out]; rfl)
      have x3 : W1.cell? ⟨N + 1, 3, none⟩ = some (.int .i64 x.co) := HW1.out.hx.get rfl
      have f3 : W1.frozen? ⟨N + 1, 3, none⟩ = false := HW1.out.hx.frz 3
      have HW := hide (HW1.out.put (j := 3) (v := .int .i64 m) (x' := { x with st := n, co := m }) rfl)
      go_upto_region 22 with fail
      clear c4 x3 f3 HW1
      generalize W1.setCell ⟨N + 1, 3, none⟩ (.int .i64 m) = W2 at *
      have HX := hide HW.out.hx
      have HY := hide HW.out.hy
      have HB := hide HW.out.b
      have HE := HH
      go_wp2_with (first
        | (refine loadE y rfl _ rfl ⟨N + 1, 0, none⟩ rfl (fun j v hv => HX.out.hcell j v (by rw [HE.out]; exact hv)) ?_)
        | (refine loadE y rfl _ rfl ⟨N + 1 + 1, 0, none⟩ rfl (fun j v hv => HY.out.hcell j v hv) ?_)
        | (refine eqlT y.head.toArray (se_env 9996 y) (by kernel_rfl) rfl _ _ rfl rfl rfl ?_))
      go_ret
      exact ⟨rfl, by rw [HN.out] at HB; exact HB.out⟩
    · have hH : x.head = y.head := by
        have := HH.out
        simp only [sx] at this
        rw [if_neg (by omega), if_pos trivial, if_neg hc] at this
        exact this
      have HH2 := hide hH
      clear hH HH
      have HH := HH2
      clear HH2
      by_cases n0 : 0 ≤ n
      · by_cases n1 : n ≤ 4
        · by_cases m0 : 0 ≤ m
          · have m1 : ¬ m ≤ 4294967295 := fun h => hc ⟨⟨n0, n1⟩, m0, h⟩
            clear hc
            go_upto_region 22 with fail
            clear c0 c3 c4 c17 x2 x4 x5 f2 f4 f5
            have HX := hide HW.out.hx
            have HY := hide HW.out.hy
            have HB := hide HW.out.b
            have HE := HH
            go_wp2_with (first
              | (refine loadE y rfl _ rfl ⟨N + 1, 0, none⟩ rfl (fun j v hv => HX.out.hcell j v (by rw [HE.out]; exact hv)) ?_)
              | (refine loadE y rfl _ rfl ⟨N + 1 + 1, 0, none⟩ rfl (fun j v hv => HY.out.hcell j v hv) ?_)
              | (refine eqlT y.head.toArray (se_env 9996 y) (by kernel_rfl) rfl _ _ rfl rfl rfl ?_))
            go_ret
            exact ⟨rfl, by rw [HN.out] at HB; exact HB.out⟩
          · clear hc
            go_upto_region 22 with fail
            clear c0 c3 c4 c17 x2 x4 x5 f2 f4 f5
            have HX := hide HW.out.hx
            have HY := hide HW.out.hy
            have HB := hide HW.out.b
            have HE := HH
            go_wp2_with (first
              | (refine loadE y rfl _ rfl ⟨N + 1, 0, none⟩ rfl (fun j v hv => HX.out.hcell j v (by rw [HE.out]; exact hv)) ?_)
              | (refine loadE y rfl _ rfl ⟨N + 1 + 1, 0, none⟩ rfl (fun j v hv => HY.out.hcell j v hv) ?_)
              | (refine eqlT y.head.toArray (se_env 9996 y) (by kernel_rfl) rfl _ _ rfl rfl rfl ?_))
            go_ret
            exact ⟨rfl, by rw [HN.out] at HB; exact HB.out⟩
        · clear hc
          go_upto_region 22 with fail
          clear c0 c3 c4 c17 x2 x4 x5 f2 f4 f5
          have HX := hide HW.out.hx
          have HY := hide HW.out.hy
          have HB := hide HW.out.b
          have HE := HH
          go_wp2_with (first
            | (refine loadE y rfl _ rfl ⟨N + 1, 0, none⟩ rfl (fun j v hv => HX.out.hcell j v (by rw [HE.out]; exact hv)) ?_)
            | (refine loadE y rfl _ rfl ⟨N + 1 + 1, 0, none⟩ rfl (fun j v hv => HY.out.hcell j v hv) ?_)
            | (refine eqlT y.head.toArray (se_env 9996 y) (by kernel_rfl) rfl _ _ rfl rfl rfl ?_))
          go_ret
          exact ⟨rfl, by rw [HN.out] at HB; exact HB.out⟩
      · clear hc
        go_upto_region 22 with fail
        clear c0 c3 c4 c17 x2 x4 x5 f2 f4 f5
        have HX := hide HW.out.hx
        have HY := hide HW.out.hy
        have HB := hide HW.out.b
        have HE := HH
        go_wp2_with (first
          | (refine loadE y rfl _ rfl ⟨N + 1, 0, none⟩ rfl (fun j v hv => HX.out.hcell j v (by rw [HE.out]; exact hv)) ?_)
          | (refine loadE y rfl _ rfl ⟨N + 1 + 1, 0, none⟩ rfl (fun j v hv => HY.out.hcell j v hv) ?_)
          | (refine eqlT y.head.toArray (se_env 9996 y) (by kernel_rfl) rfl _ _ rfl rfl rfl ?_))
        go_ret
        exact ⟨rfl, by rw [HN.out] at HB; exact HB.out⟩
  by_cases k7 : kd = 7
  · subst k7
    by_cases hc : 0 ≤ n ∧ n ≤ 4294967295
    · obtain ⟨n0, n1⟩ := hc
      have hH : ({ x with bi := n } : Er).head = y.head := by
        have := HH.out
        simp only [sx] at this
        rw [if_neg (by omega), if_neg (by omega), if_pos trivial, if_pos ⟨n0, n1⟩] at this
        exact this
      have HH2 := hide hH
      clear hH HH
      have HH := HH2
      clear HH2
      have HW1 := hide (HW.out.put (j := 4) (v := .int .i64 n) (x' := { x with bi := n }) rfl)
      go_upto_region 22 with fail
      clear c0 c3 c4 c17 x2 x4 x5 f2 f4 f5 HW
      have HW := HW1
      clear HW1
      generalize W.setCell ⟨N + 1, 4, none⟩ (.int .i64 n) = W1 at *
      have HX := hide HW.out.hx
      have HY := hide HW.out.hy
      have HB := hide HW.out.b
      have HE := HH
      go_wp2_with (first
        | (refine loadE y rfl _ rfl ⟨N + 1, 0, none⟩ rfl (fun j v hv => HX.out.hcell j v (by rw [HE.out]; exact hv)) ?_)
        | (refine loadE y rfl _ rfl ⟨N + 1 + 1, 0, none⟩ rfl (fun j v hv => HY.out.hcell j v hv) ?_)
        | (refine eqlT y.head.toArray (se_env 9996 y) (by kernel_rfl) rfl _ _ rfl rfl rfl ?_))
      go_ret
      exact ⟨rfl, by rw [HN.out] at HB; exact HB.out⟩
    · have hH : x.head = y.head := by
        have := HH.out
        simp only [sx] at this
        rw [if_neg (by omega), if_neg (by omega), if_pos trivial, if_neg hc] at this
        exact this
      have HH2 := hide hH
      clear hH HH
      have HH := HH2
      clear HH2
      by_cases n0 : 0 ≤ n
      · have n1 : ¬ n ≤ 4294967295 := fun h => hc ⟨n0, h⟩
        clear hc
        go_upto_region 22 with fail
        clear c0 c3 c4 c17 x2 x4 x5 f2 f4 f5
        have HX := hide HW.out.hx
        have HY := hide HW.out.hy
        have HB := hide HW.out.b
        have HE := HH
        go_wp2_with (first
          | (refine loadE y rfl _ rfl ⟨N + 1, 0, none⟩ rfl (fun j v hv => HX.out.hcell j v (by rw [HE.out]; exact hv)) ?_)
          | (refine loadE y rfl _ rfl ⟨N + 1 + 1, 0, none⟩ rfl (fun j v hv => HY.out.hcell j v hv) ?_)
          | (refine eqlT y.head.toArray (se_env 9996 y) (by kernel_rfl) rfl _ _ rfl rfl rfl ?_))
        go_ret
        exact ⟨rfl, by rw [HN.out] at HB; exact HB.out⟩
      · clear hc
        go_upto_region 22 with fail
        clear c0 c3 c4 c17 x2 x4 x5 f2 f4 f5
        have HX := hide HW.out.hx
        have HY := hide HW.out.hy
        have HB := hide HW.out.b
        have HE := HH
        go_wp2_with (first
          | (refine loadE y rfl _ rfl ⟨N + 1, 0, none⟩ rfl (fun j v hv => HX.out.hcell j v (by rw [HE.out]; exact hv)) ?_)
          | (refine loadE y rfl _ rfl ⟨N + 1 + 1, 0, none⟩ rfl (fun j v hv => HY.out.hcell j v hv) ?_)
          | (refine eqlT y.head.toArray (se_env 9996 y) (by kernel_rfl) rfl _ _ rfl rfl rfl ?_))
        go_ret
        exact ⟨rfl, by rw [HN.out] at HB; exact HB.out⟩
  by_cases k10 : kd = 10
  · subst k10
    have HW1 := hide (HW.out.put (j := 5) (v := .bool on) (x' := { x with fz := on }) rfl)
    go_upto_region 22 with fail
    clear c0 c3 c4 c17 x2 x4 x5 f2 f4 f5 HW
    have HW := HW1
    clear HW1
    generalize W.setCell ⟨N + 1, 5, none⟩ (.bool on) = W1 at *
    have HX := hide HW.out.hx
    have HY := hide HW.out.hy
    have HB := hide HW.out.b
    have hE : ({ x with fz := on } : Er).head = y.head := HH.out
    have HE := hide hE
    clear hE
    go_wp2_with (first
      | (refine loadE y rfl _ rfl ⟨N + 1, 0, none⟩ rfl (fun j v hv => HX.out.hcell j v (by rw [HE.out]; exact hv)) ?_)
      | (refine loadE y rfl _ rfl ⟨N + 1 + 1, 0, none⟩ rfl (fun j v hv => HY.out.hcell j v hv) ?_)
      | (refine eqlT y.head.toArray (se_env 9996 y) (by kernel_rfl) rfl _ _ rfl rfl rfl ?_))
    go_ret
    exact ⟨rfl, by rw [HN.out] at HB; exact HB.out⟩
  by_cases k11 : kd = 11 ∨ kd = 12
  · have hH : ({ x with lf := y.lf } : Er).head = y.head := by
      have := HH.out
      unfold sx at this
      rw [if_neg k5, if_neg k6, if_neg k7, if_neg k10, if_pos k11] at this
      exact this
    have HH2 := hide hH
    clear hH HH
    have HH := HH2
    clear HH2
    have HCq : Hid (∀ (j : Nat) (v : Value), (qtL y.lf)[j]? = some v → W.cell? ((⟨N + 1 + 1, 18, none⟩ : Addr).add j) = some v) := hide (fun j v hv => by
      have h9 : W.cell? ⟨N + 1 + 1, 18 + j, none⟩ = some v := HW.out.hy.get (by
        have hj : j < 3 := (List.getElem?_eq_some_iff.1 hv).1
        rw [show y.head = y.head.take 18 ++ qtL y.lf from rfl, List.getElem?_append_right (by simp [Er.head])]
        simpa [Er.head] using hv)
      rw [add_off]; exact h9)
    have HW2 := hide (HW.out.puts (j := 18) (vs := qtL y.lf) (x' := { x with lf := y.lf }) rfl)
    rcases k11 with k11 | k11
    · subst k11
      clear k5 k6 k7 k10
      go_upto_region 22 with (first
        | (refine loadT Try.underlying39 rfl (qtL y.lf) infoQt rfl _ rfl ⟨N + 1 + 1, 18, none⟩ rfl HCq.out ?_)
        | (refine storeT (qtL y.lf) infoQt (qtL_one y.lf) rfl _ _ rfl (N + 1) 18 rfl rfl x.head HW.out.hx.out (by rw [head_len]; exact (by decide : 18 + 3 ≤ 21)) ?_; generalize W.setCells (N + 1) 18 (qtL y.lf) = W2 at *))
      clear c0 c3 c4 c17 x2 x4 x5 f2 f4 f5 HW HCq
      have HW := HW2
      clear HW2
      have HX := hide HW.out.hx
      have HY := hide HW.out.hy
      have HB := hide HW.out.b
      have HE := HH
      go_wp2_with (first
        | (refine loadE y rfl _ rfl ⟨N + 1, 0, none⟩ rfl (fun j v hv => HX.out.hcell j v (by rw [HE.out]; exact hv)) ?_)
        | (refine loadE y rfl _ rfl ⟨N + 1 + 1, 0, none⟩ rfl (fun j v hv => HY.out.hcell j v hv) ?_)
        | (refine eqlT y.head.toArray (se_env 9996 y) (by kernel_rfl) rfl _ _ rfl rfl rfl ?_))
      go_ret
      exact ⟨rfl, by rw [HN.out] at HB; exact HB.out⟩
    · subst k11
      clear k5 k6 k7 k10
      go_upto_region 22 with (first
        | (refine loadT Try.underlying39 rfl (qtL y.lf) infoQt rfl _ rfl ⟨N + 1 + 1, 18, none⟩ rfl HCq.out ?_)
        | (refine storeT (qtL y.lf) infoQt (qtL_one y.lf) rfl _ _ rfl (N + 1) 18 rfl rfl x.head HW.out.hx.out (by rw [head_len]; exact (by decide : 18 + 3 ≤ 21)) ?_; generalize W.setCells (N + 1) 18 (qtL y.lf) = W2 at *))
      clear c0 c3 c4 c17 x2 x4 x5 f2 f4 f5 HW HCq
      have HW := HW2
      clear HW2
      have HX := hide HW.out.hx
      have HY := hide HW.out.hy
      have HB := hide HW.out.b
      have HE := HH
      go_wp2_with (first
        | (refine loadE y rfl _ rfl ⟨N + 1, 0, none⟩ rfl (fun j v hv => HX.out.hcell j v (by rw [HE.out]; exact hv)) ?_)
        | (refine loadE y rfl _ rfl ⟨N + 1 + 1, 0, none⟩ rfl (fun j v hv => HY.out.hcell j v hv) ?_)
        | (refine eqlT y.head.toArray (se_env 9996 y) (by kernel_rfl) rfl _ _ rfl rfl rfl ?_))
      go_ret
      exact ⟨rfl, by rw [HN.out] at HB; exact HB.out⟩
  obtain ⟨k11, k12⟩ := not_or.1 k11
  by_cases k8 : kd = 8 ∨ kd = 9
  · have hH : ({ x with st := y.st, bi := y.bi, rg := fun i => if i = 0 then y.rg 0 else if i = 1 then y.rg 1 else x.rg i } : Er).head = y.head := by
      have := HH.out
      unfold sx at this
      rw [if_neg k5, if_neg k6, if_neg k7, if_neg k10, if_neg (by omega), if_pos k8] at this
      exact this
    have HH2 := hide hH
    clear hH HH
    have HH := HH2
    clear HH2
    have y2 : W.cell? ⟨N + 1 + 1, 2, none⟩ = some (.int .i64 y.st) := HW.out.hy.get rfl
    have HW1 := hide (HW.out.put (j := 2) (v := .int .i64 y.st) (x' := { x with st := y.st }) rfl)
    rcases k8 with k8 | k8
    · subst k8
      clear k5 k6 k7 k10 k11 k12
      go_upto_region 19 with fail
      clear c0 c3 c4 c17 x2 x4 x5 f2 f4 f5 y2 HW
      generalize W.setCell ⟨N + 1, 2, none⟩ (.int .i64 y.st) = W1 at *
      have y4 : W1.cell? ⟨N + 1 + 1, 4, none⟩ = some (.int .i64 y.bi) := HW1.out.hy.get rfl
      have x4 : W1.cell? ⟨N + 1, 4, none⟩ = some (.int .i64 x.bi) := HW1.out.hx.get rfl
      have f4 : W1.frozen? ⟨N + 1, 4, none⟩ = false := HW1.out.hx.frz 4
      have HW2 := hide (HW1.out.put (j := 4) (v := .int .i64 y.bi) (x' := { x with st := y.st, bi := y.bi }) rfl)
      go_upto_region 20 with fail
      clear x4 f4 y4 HW1
      generalize W1.setCell ⟨N + 1, 4, none⟩ (.int .i64 y.bi) = W2 at *
      have y6 : W2.cell? ⟨N + 1 + 1, 6, none⟩ = some (.int .u32 (y.rg 0 : Nat)) := HW2.out.hy.get rfl
      have x6 : W2.cell? ⟨N + 1, 6, none⟩ = some (.int .u32 (x.rg 0 : Nat)) := HW2.out.hx.get rfl
      have f6 : W2.frozen? ⟨N + 1, 6, none⟩ = false := HW2.out.hx.frz 6
      have HW3 := hide (HW2.out.put (j := 6) (v := .int .u32 (y.rg 0 : Nat)) (x' := { x with st := y.st, bi := y.bi, rg := fun i => if i = 0 then y.rg 0 else x.rg i }) rfl)
      go_upto_region 21 with fail
      clear x6 f6 y6 HW2
      generalize W2.setCell ⟨N + 1, 6, none⟩ (.int .u32 (y.rg 0 : Nat)) = W3 at *
      have y7 : W3.cell? ⟨N + 1 + 1, 7, none⟩ = some (.int .u32 (y.rg 1 : Nat)) := HW3.out.hy.get rfl
      have x7 : W3.cell? ⟨N + 1, 7, none⟩ = some (.int .u32 (x.rg 1 : Nat)) := HW3.out.hx.get rfl
      have f7 : W3.frozen? ⟨N + 1, 7, none⟩ = false := HW3.out.hx.frz 7
      have HW := hide (HW3.out.put (j := 7) (v := .int .u32 (y.rg 1 : Nat)) (x' := { x with st := y.st, bi := y.bi, rg := fun i => if i = 0 then y.rg 0 else if i = 1 then y.rg 1 else x.rg i }) rfl)
      go_upto_region 22 with fail
      clear x7 f7 y7 HW3
      generalize W3.setCell ⟨N + 1, 7, none⟩ (.int .u32 (y.rg 1 : Nat)) = W4 at *
      have HX := hide HW.out.hx
      have HY := hide HW.out.hy
      have HB := hide HW.out.b
      have hE : ({ x with st := y.st, bi := y.bi, rg := fun i => if i = 0 then y.rg 0 else if i = 1 then y.rg 1 else x.rg i } : Er).head = y.head := HH.out
      have HE := hide hE
      clear hE
      go_wp2_with (first
        | (refine loadE y rfl _ rfl ⟨N + 1, 0, none⟩ rfl (fun j v hv => HX.out.hcell j v (by rw [HE.out]; exact hv)) ?_)
        | (refine loadE y rfl _ rfl ⟨N + 1 + 1, 0, none⟩ rfl (fun j v hv => HY.out.hcell j v hv) ?_)
        | (refine eqlT y.head.toArray (se_env 9996 y) (by kernel_rfl) rfl _ _ rfl rfl rfl ?_))
      go_ret
      exact ⟨rfl, by rw [HN.out] at HB; exact HB.out⟩
    · subst k8
      clear k5 k6 k7 k10 k11 k12
      go_upto_region 19 with fail
      clear c0 c3 c4 c17 x2 x4 x5 f2 f4 f5 y2 HW
      generalize W.setCell ⟨N + 1, 2, none⟩ (.int .i64 y.st) = W1 at *
      have y4 : W1.cell? ⟨N + 1 + 1, 4, none⟩ = some (.int .i64 y.bi) := HW1.out.hy.get rfl
      have x4 : W1.cell? ⟨N + 1, 4, none⟩ = some (.int .i64 x.bi) := HW1.out.hx.get rfl
      have f4 : W1.frozen? ⟨N + 1, 4, none⟩ = false := HW1.out.hx.frz 4
      have HW2 := hide (HW1.out.put (j := 4) (v := .int .i64 y.bi) (x' := { x with st := y.st, bi := y.bi }) rfl)
      go_upto_region 20 with fail
      clear x4 f4 y4 HW1
      generalize W1.setCell ⟨N + 1, 4, none⟩ (.int .i64 y.bi) = W2 at *
      have y6 : W2.cell? ⟨N + 1 + 1, 6, none⟩ = some (.int .u32 (y.rg 0 : Nat)) := HW2.out.hy.get rfl
      have x6 : W2.cell? ⟨N + 1, 6, none⟩ = some (.int .u32 (x.rg 0 : Nat)) := HW2.out.hx.get rfl
      have f6 : W2.frozen? ⟨N + 1, 6, none⟩ = false := HW2.out.hx.frz 6
      have HW3 := hide (HW2.out.put (j := 6) (v := .int .u32 (y.rg 0 : Nat)) (x' := { x with st := y.st, bi := y.bi, rg := fun i => if i = 0 then y.rg 0 else x.rg i }) rfl)
      go_upto_region 21 with fail
      clear x6 f6 y6 HW2
      generalize W2.setCell ⟨N + 1, 6, none⟩ (.int .u32 (y.rg 0 : Nat)) = W3 at *
      have y7 : W3.cell? ⟨N + 1 + 1, 7, none⟩ = some (.int .u32 (y.rg 1 : Nat)) := HW3.out.hy.get rfl
      have x7 : W3.cell? ⟨N + 1, 7, none⟩ = some (.int .u32 (x.rg 1 : Nat)) := HW3.out.hx.get rfl
      have f7 : W3.frozen? ⟨N + 1, 7, none⟩ = false := HW3.out.hx.frz 7
      have HW := hide (HW3.out.put (j := 7) (v := .int .u32 (y.rg 1 : Nat)) (x' := { x with st := y.st, bi := y.bi, rg := fun i => if i = 0 then y.rg 0 else if i = 1 then y.rg 1 else x.rg i }) rfl)
      go_upto_region 22 with fail
      clear x7 f7 y7 HW3
      generalize W3.setCell ⟨N + 1, 7, none⟩ (.int .u32 (y.rg 1 : Nat)) = W4 at *
      have HX := hide HW.out.hx
      have HY := hide HW.out.hy
      have HB := hide HW.out.b
      have hE : ({ x with st := y.st, bi := y.bi, rg := fun i => if i = 0 then y.rg 0 else if i = 1 then y.rg 1 else x.rg i } : Er).head = y.head := HH.out
      have HE := hide hE
      clear hE
      go_wp2_with (first
        | (refine loadE y rfl _ rfl ⟨N + 1, 0, none⟩ rfl (fun j v hv => HX.out.hcell j v (by rw [HE.out]; exact hv)) ?_)
        | (refine loadE y rfl _ rfl ⟨N + 1 + 1, 0, none⟩ rfl (fun j v hv => HY.out.hcell j v hv) ?_)
        | (refine eqlT y.head.toArray (se_env 9996 y) (by kernel_rfl) rfl _ _ rfl rfl rfl ?_))
      go_ret
      exact ⟨rfl, by rw [HN.out] at HB; exact HB.out⟩
  obtain ⟨k8, k9⟩ := not_or.1 k8
  have hH : x.head = y.head := by
    have := HH.out
    unfold sx at this
    rw [if_neg k5, if_neg k6, if_neg k7, if_neg k10, if_neg (by omega), if_neg (by omega)] at this
    exact this
  have HH2 := hide hH
  clear hH HH
  have HH := HH2
  clear HH2
  go_upto_region 22 with fail
  clear c0 c3 c4 c17 x2 x4 x5 f2 f4 f5
  have HX := hide HW.out.hx
  have HY := hide HW.out.hy
  have HB := hide HW.out.b
  have hE : x.head = y.head := HH.out
  have HE := hide hE
  clear hE
  go_wp2_with (first
    | (refine loadE y rfl _ rfl ⟨N + 1, 0, none⟩ rfl (fun j v hv => HX.out.hcell j v (by rw [HE.out]; exact hv)) ?_)
    | (refine loadE y rfl _ rfl ⟨N + 1 + 1, 0, none⟩ rfl (fun j v hv => HY.out.hcell j v hv) ?_)
    | (refine eqlT y.head.toArray (se_env 9996 y) (by kernel_rfl) rfl _ _ rfl rfl rfl ?_))
  go_ret
  exact ⟨rfl, by rw [HN.out] at HB; exact HB.out⟩
end Go.Proofs.Ytoddadohmnaolaa

namespace Go.Proofs.Ytoddadohmnaolaa
open Go.ChangeShapes Go.WideShapes Go.ChangeAt Go.RowKit Go.Deep Go.Shelf Go.Great

/-- sixteen answers -/
def bs (f : Nat → Bool) : List Value := (List.range 16).map (fun i => .bool (f i))
theorem bs_len (f : Nat → Bool) : (bs f).length = 16 := by simp [bs]
theorem bs_get (f : Nat → Bool) {i : Nat} (hi : i < 16) : (bs f)[i]? = some (.bool (f i)) := by simp [bs, hi]
theorem bs_one (f : Nat → Bool) : ∀ u ∈ bs f, u.oneCell' = true := by
  intro u hu
  unfold bs at hu
  obtain ⟨i, _, rfl⟩ := List.mem_map.1 hu
  rfl
theorem infoBs : (Try.prog.info? 55).map (·.size) = some 16 := by kernel_rfl
theorem eq_items (d : Nat) (xs ys : Array Value) (f g : Nat → Bool) : ∀ is : List Nat, (∀ i ∈ is, xs[i]? = some (.bool (f i)) ∧ ys[i]? = some (.bool (g i))) → ∀ w, (Op.eqItems (d + 1) 4 1 xs ys is).run Try.prog w = .ok (is.all (fun i => f i == g i)) w
  | [], _, w => by simp [Op.eqItems]
  | i :: is, h, w => by
    obtain ⟨h1, h2⟩ := h i List.mem_cons_self
    have h3 := eq_items d xs ys f g is (fun j hj => h j (List.mem_cons_of_mem _ hj)) w
    have p1 := part_cell (xs := xs) (off := i) Try.underlying4 rfl h1 w
    have p2 := part_cell (xs := ys) (off := i) Try.underlying4 rfl h2 w
    have e1 := run_equalIn_bool' w d 4 (f i) (g i) Try.underlying4
    cases hb : (f i == g i)
    · simp [Op.eqItems, Sem.run_bind, p1, p2, e1, hb]
    · simp [Op.eqItems, Sem.run_bind, p1, p2, e1, hb, h3]
theorem eq_bs (d : Nat) (f g : Nat → Bool) (w : World) : (Op.equalIn (d + 2) 55 (.agg (bs f).toArray) (.agg (bs g).toArray)).run Try.prog w = .ok ((List.range 16).all (fun i => f i == g i)) w := by
  cases hq : Try.prog.info? 4 with
  | none => exact absurd hq (by intro h; have : (Try.prog.info? 4).isSome = true := by kernel_rfl
                                rw [h] at this; cases this)
  | some i =>
    rw [run_equalIn_array w (d + 1) _ _ Try.underlying55 hq, show Try.prog.cellsOf 4 = 1 by kernel_rfl]
    exact eq_items d _ _ f g _ (fun i hi => by
      have h16 := List.mem_range.1 hi
      exact ⟨by simpa using bs_get f h16, by simpa using bs_get g h16⟩) w
theorem run_neqB {t t' : TypeId} (xs ys : Array Value) (b : Bool) (he : ∀ w, (Op.equalIn 10000 t (.agg xs) (.agg ys)).run Try.prog w = .ok b w) (hm : Try.prog.eqGuardType Try.prog.depth t = false) {op : Oper} {a : Act} {w : World} (x y : Operand) (ho : op.op = .binOp .neq t x y t')
    (hx : a.eval x = .agg xs) (hy : a.eval y = .agg ys) : (execOp a.eval op).run Try.prog w = .ok (.value (.bool (!b))) w := by
  unfold execOp
  simp only [ho, hx, hy, Sem.run_bind, run_eqGuard_agg w .neq t x y xs ys hm, run_neq_struct, he w, Result.andThen_ok, Sem.run_pure]
end Go.Proofs.Ytoddadohmnaolaa

namespace Go.Proofs.Ytoddadohmnaolaa
open Go.ChangeShapes Go.WideShapes Go.ChangeAt Go.RowKit Go.Deep Go.Shelf Go.Great

theorem ext_below {F : Nat → Prop} {a w : World} (h : Below a.heap.size a w) : Ext F a F w := ⟨Mod.of_below h, fun _ h => .inl h⟩
/-- a new array of sixteen answers -/
def freshB (w : World) (f : Nat → Bool) : World := (w.alloc (.cells (bs (fun _ => false)).toArray 55)).setCells w.heap.size 0 (bs f)
theorem freshB_at (w : World) (f : Nat → Bool) : (freshB w f).heap[w.heap.size]? = some (.cells (bs f).toArray 55 (0, 0)) := by
  have h1 := heap_setCells_row w.heap.size 55 (bs f) 0 _ _ (heap_alloc_new w (.cells (bs (fun _ => false)).toArray 55))
  rw [setsL_all _ _ (by rw [bs_len, bs_len])] at h1
  exact h1
theorem freshB_below (w : World) (f : Nat → Bool) : Below w.heap.size w (freshB w f) :=
  below_setCells ((Below.refl w.heap.size w).alloc (Nat.le_refl _) _) (Nat.le_refl _) _ _
end Go.Proofs.Ytoddadohmnaolaa

namespace Go.Proofs.Ytoddadohmnaolaa
open Go.ChangeShapes Go.WideShapes Go.ChangeAt Go.RowKit Go.Deep Go.Shelf Go.Great

section
variable {w : World} {F : Nat → Prop} {T B : Nat} {rs : List (Option Er)} {last : Int}
set_option maxRecDepth 100000 in
set_option maxHeartbeats 25600000 in
theorem comes_make (h : Ns w F T B rs last) (kd t e n m : Int) (q : Qt) (g : Nat → Nat) (pc : Nat) (on : Bool) (hk : kd = 2) (cs : List Value) (hT : Tc cs (tf rs) (tg rs)) :
    Calls Try.prog 28 #[.pointer (some ⟨B, 0, none⟩), .pointer (some ⟨T, 0, none⟩), .agg #[.int .i64 kd, .int .i64 t, .int .i64 e, .int .i64 n, .int .i64 m, .int .i64 q.f, .int .i64 q.e, .int .i64 q.x, .int .u32 (g 0 : Nat), .int .u32 (g 1 : Nat), .int .u32 (g 2 : Nat), .int .u32 (g 3 : Nat), .int .u32 (g 4 : Nat), .int .u32 (g 5 : Nat), .int .u32 (g 6 : Nat), .int .u32 (g 7 : Nat), .int .u32 (pc : Nat), .bool on], .agg cs.toArray] w fun x w' => x = .returned (.bool true) ∧ Nx w F T B (nS kd e n m q g pc on rs last) (nL kd e n q rs last) w' := by
  have hNo : ∀ W, Ns W F T B rs last → Calls Try.prog 16 #[.pointer (some ⟨B, 0, none⟩), .pointer (some ⟨T, 0, none⟩), .agg #[.int .i64 kd, .int .i64 t, .int .i64 e, .int .i64 n, .int .i64 m, .int .i64 q.f, .int .i64 q.e, .int .i64 q.x, .int .u32 (g 0 : Nat), .int .u32 (g 1 : Nat), .int .u32 (g 2 : Nat), .int .u32 (g 3 : Nat), .int .u32 (g 4 : Nat), .int .u32 (g 5 : Nat), .int .u32 (g 6 : Nat), .int .u32 (g 7 : Nat), .int .u32 (pc : Nat), .bool on]] W fun x w' => x = .returned (.bool true) ∧ Nx W F T B (nS kd e n m q g pc on rs last) (nL kd e n q rs last) w' := fun W hW => noted_ex hW kd t e n m q g pc on
  have hCm : Cm rs (nS kd e n m q g pc on rs last) (if kd = 2 then e else if 0 ≤ e ∧ e < 16 then (tf rs e.toNat).pa else -1) := by
    subst hk; exact cm_create h.iv
  obtain ⟨rs2, hrs2⟩ : ∃ x, nS kd e n m q g pc on rs last = x := ⟨_, rfl⟩
  obtain ⟨last2, hlast2⟩ : ∃ x, nL kd e n q rs last = x := ⟨_, rfl⟩
  rw [hrs2] at hCm
  rw [hrs2, hlast2] at hNo
  rw [hrs2, hlast2]
  clear hrs2 hlast2
  obtain ⟨os, hos⟩ : ∃ os, os = opL kd t e n m q g pc on := ⟨_, rfl⟩
  have hoa : (#[.int .i64 kd, .int .i64 t, .int .i64 e, .int .i64 n, .int .i64 m, .int .i64 q.f, .int .i64 q.e, .int .i64 q.x, .int .u32 (g 0 : Nat), .int .u32 (g 1 : Nat), .int .u32 (g 2 : Nat), .int .u32 (g 3 : Nat), .int .u32 (g 4 : Nat), .int .u32 (g 5 : Nat), .int .u32 (g 6 : Nat), .int .u32 (g 7 : Nat), .int .u32 (pc : Nat), .bool on] : Array Value) = os.toArray := by rw [hos]; rfl
  rw [hoa] at hNo
  rw [hoa]
  have HO := hide hos
  have HCmm := hide hCm
  have HNo := hide hNo
  have HT1 := hide hT
  clear hos hoa hCm hNo hT
  have hb1 := (Below.refl w.heap.size w).alloc (Nat.le_refl _) (.cells os.toArray 47)
  have a1 := heap_alloc_new w (.cells os.toArray 47)
  have hn1 : (w.alloc (.cells os.toArray 47)).heap.size = w.heap.size + 1 := by simp
  have hb2 := hb1.alloc (by simp) (.cells cs.toArray 52)
  have a2 := heap_alloc_new (w.alloc (.cells os.toArray 47)) (.cells cs.toArray 52)
  have hn2 : ((w.alloc (.cells os.toArray 47)).alloc (.cells cs.toArray 52)).heap.size = w.heap.size + 2 := by simp
  rw [hn1] at a2
  have b1 : ((w.alloc (.cells os.toArray 47)).alloc (.cells cs.toArray 52)).heap[w.heap.size]? = some (.cells os.toArray 47 (0, 0)) := by rw [Below.heap_alloc _ _ _ (by rw [hn1]; omega)]; exact a1
  have HNs := hide (h.below hb2)
  have HB2 := hide hb2
  have A1 := hide b1
  have A2 := hide a2
  have HBl := hide h.bq.lt
  have HFl := hide h.et.lt
  have HFB := hide h.ne
  have HSz := hide hn2
  clear h hb1 a1 hn1 hb2 a2 hn2 b1
  go_enter Try.func28, Try.ntmps28
  go_upto_region 1 with fail
  generalize (w.alloc (.cells os.toArray 47)).alloc (.cells cs.toArray 52) = w2 at *
  obtain ⟨N, hN⟩ : ∃ N, N = w.heap.size := ⟨_, rfl⟩
  rw [← hN] at A1 A2 HB2 HBl HFl HSz ⊢
  have HN := hide hN
  clear hN
  have HLs : Hid (∀ (i : Nat) (y : Value), (bs (lvb rs))[i]? = some y → w2.cell? ((⟨B, 0, none⟩ : Addr).add i) = some y) := hide (fun i y hy => by
    have hi : i < 16 := by have := (List.getElem?_eq_some_iff.1 hy).1; rw [bs_len] at this; exact this
    rw [bs_get _ hi] at hy
    cases hy
    rw [add_nat]; exact (HNs.out.bq.cell hi).1)
  have hz := heap_alloc_new w2 (.cells (bs (fun _ => false)).toArray 55)
  have hb3 := freshB_below w2 (lvb rs)
  have A3 := hide (freshB_at w2 (lvb rs))
  have A1b := hide ((hb3.block N (Array.getElem?_eq_some_iff.1 A1.out).1).trans A1.out)
  have A2b := hide ((hb3.block (N + 1) (Array.getElem?_eq_some_iff.1 A2.out).1).trans A2.out)
  have HNs3 := hide (HNs.out.below hb3)
  have HB3 := hide (HB2.out.trans (hb3.mono (by rw [HSz.out]; omega)))
  have HL2 := hide (show N + 1 < w2.heap.size by rw [HSz.out]; omega)
  clear hb3 A1 A2 HNs HB2 HSz
  go_upto_region 2 with (first
    | (refine loadT Try.underlying55 rfl (bs (lvb rs)) (by rw [bs_len]; exact infoBs) rfl _ rfl ⟨B, 0, none⟩ rfl HLs.out ?_)
    | (refine storeT (bs (lvb rs)) (by rw [bs_len]; exact infoBs) (bs_one _) rfl _ _ rfl w2.heap.size 0 rfl rfl (bs (fun _ => false)) hz (by rw [bs_len, bs_len]; exact Nat.le_refl _) ?_; change wpList _ _ _ _ _ (freshB w2 (lvb rs)); generalize freshB w2 (lvb rs) = w3 at *))
  clear hz HLs
  generalize w2.heap.size = L at *
  have HOs := hide (show ∀ (i : Nat) (y : Value), os[i]? = some y → w3.cell? ((⟨N, 0, none⟩ : Addr).add i) = some y from fun i y hy => by rw [add_nat, cell_of_row _ _ _ _ _ _ A1b.out]; simpa using hy)
  have hol : (Try.prog.info? 47).map (·.size) = some os.length := by rw [HO.out]; exact infoOp
  go_wp2_with (refine loadT Try.underlying47 rfl os hol rfl _ rfl ⟨N, 0, none⟩ rfl HOs.out ?_)
  refine (HNo.out w3 HNs3.out).mono ?_
  rintro x4 w4 ⟨rfl, F2, hN4, hX4⟩
  have hFn : ∀ b, N ≤ b → ¬ wi B F b := fun b hb e9 => by
    rcases e9 with e9 | e9
    · have := HBl.out; omega
    · have := HFl.out b e9; omega
  have A1c := hide ((hX4.mod.block N (Array.getElem?_eq_some_iff.1 A1b.out).1 (hFn N (Nat.le_refl _))).trans A1b.out)
  have A2c := hide ((hX4.mod.block (N + 1) (Array.getElem?_eq_some_iff.1 A2b.out).1 (hFn (N + 1) (by omega))).trans A2b.out)
  have A3c := hide ((hX4.mod.block L (Array.getElem?_eq_some_iff.1 A3.out).1 (hFn L (by have := HL2.out; omega))).trans A3.out)
  have HX4 := hide ((ext_below (F := wi B F) (by have h9 := HB3.out; rw [HN.out] at h9; exact h9)).trans hX4)
  have HTd := hide (told_any hN4.et)
  have HN4 := hide hN4
  clear hN4 hX4 hFn A1b A2b A3 HB3 HNs3 HNo HOs hol
  go_wp2_with fail
  refine HTd.out.mono ?_
  rintro x5 w5 ⟨cs2, rfl, hT2, hb5⟩
  have hb6 := freshT_below w5 cs2
  have hb56 := hb5.trans (hb6.mono hb5.size)
  have U1 := hide ((hb56.block N (Array.getElem?_eq_some_iff.1 A1c.out).1).trans A1c.out)
  have U2 := hide ((hb56.block (N + 1) (Array.getElem?_eq_some_iff.1 A2c.out).1).trans A2c.out)
  have U3 := hide ((hb56.block L (Array.getElem?_eq_some_iff.1 A3c.out).1).trans A3c.out)
  have U4 := hide (freshT_tb w5 hT2.len).out
  have UN := hide (HN4.out.below hb56)
  have HXt := hide (HX4.out.trans (ext_below (F := wi B F2) hb56))
  have HT2 := hide hT2
  have hi : (Try.prog.info? 52).map (·.size) = some cs2.length := by rw [hT2.len]; exact infoTold
  have hle : 0 + cs2.length ≤ zT.length := by rw [zT_tc.len, hT2.len]; omega
  clear hb5 hb6 hb56 hT2 A1c A2c A3c HN4 HX4 HTd
  go_upto_region 6 with (first
    | (refine allocTold rfl rfl ?_)
    | (refine storeT cs2 hi HT2.out.one rfl _ _ rfl w5.heap.size 0 rfl rfl zT (heap_alloc_new w5 _) hle ?_; change wpList _ _ _ _ _ (freshT w5 cs2); generalize freshT w5 cs2 = u at *))
  generalize w5.heap.size = M at *
  clear hi hle
  have e2 : u.cell? ⟨N, 2, none⟩ = some (.int .i64 e) := by rw [cell_of_row _ _ _ _ _ _ U1.out, HO.out]; rfl
  have e0 : u.cell? ⟨N, 0, none⟩ = some (.int .i64 kd) := by rw [cell_of_row _ _ _ _ _ _ U1.out, HO.out]; rfl
  subst hk
  have HCm : Hid (Cm rs rs2 e) := hide (by have := HCmm.out; rwa [if_pos rfl] at this)
  clear HCmm
  go_upto_region 12 with fail
  clear e0 e2 U1 HO
  obtain ⟨pr, hpr⟩ : ∃ pr, e = pr := ⟨_, rfl⟩
  subst hpr
  generalize e = pr at *
  go_loopw [13] (fun x wr => ∃ j : Nat, j ≤ 16 ∧ x = .int .i64 (j : Int) ∧ Hid (Below u.heap.size u wr)) (fun x _ => 16 - (intOf x).toNat)
  case atStart => exact ⟨0, by omega, rfl, hide (Below.refl _ _)⟩
  case round =>
  obtain ⟨j, hj, rfl, KB⟩ := hrel
  by_cases h16 : j < 16
  · have hd : decide ((j : Int) < 16) = true := by simp; omega
    have hj3 : (j : Int) < 16 := by omega
    have VNv : ∀ {x : World}, Hid (Below u.heap.size u x) → Ns x F2 T B rs2 last2 := fun k => UN.out.below k.out
    have c2 := ((VNv KB).bq.cell h16).1
    have VL := (KB.out.block _ (Array.getElem?_eq_some_iff.1 U3.out).1).trans U3.out
    have c1 : wr.cell? ⟨L, j, none⟩ = some (.bool (lvb rs j)) := by
      rw [cell_of_row _ _ _ _ _ _ VL]
      simpa using bs_get (lvb rs) h16
    clear VL
    go_upto_region 14 with fail
    by_cases hl : lvb rs j = lvb rs2 j
    · clear VNv
      have hab : (lvb rs j == lvb rs2 j) = true := by rw [hl]; simp
      have HG := hide (HCm.out.g j h16 hl)
      have HFf := hide (HCm.out.f j h16 hl)
      obtain ⟨b1, hb1⟩ : ∃ b, b = lvb rs j := ⟨_, rfl⟩
      obtain ⟨b2, hb2⟩ : ∃ b, b = lvb rs2 j := ⟨_, rfl⟩
      rw [← hb1, ← hb2] at hab
      rw [← hb1] at c1
      rw [← hb2] at c2
      clear hb1 hb2 hl
      go_quiet (fail)
      have KBv := hide (KB.out.trans ((show Below wr.heap.size wr (wr.drewN nq) from ⟨rfl, rfl, rfl, Nat.le_refl _, fun _ _ => rfl⟩).mono KB.out.size))
      clear c1 c2 KB
      generalize wr.drewN nq = v at *
      have VA := (KBv.out.block _ (Array.getElem?_eq_some_iff.1 U2.out).1).trans U2.out
      obtain ⟨s1, _⟩ := tc_env VA HT1.out h16
      obtain ⟨r1, hr1⟩ : ∃ r, tf rs j = r := ⟨_, rfl⟩
      obtain ⟨r2, hr2⟩ : ∃ r, tf rs2 j = r := ⟨_, rfl⟩
      obtain ⟨z, hz1⟩ : ∃ z, tg rs j = z := ⟨_, rfl⟩
      have HG1 := hide hz1
      have HG2 := hide (show tg rs2 j = z by rw [← HG.out]; exact hz1)
      have HR2 := hide hr2
      have hFf := HFf.out
      rw [hr1, hr2] at hFf
      rw [hr1] at s1
      have HFg := hide hFf
      have HS1 := hide s1
      clear hr1 hr2 hz1 hFf HFf HG s1 VA
      have hz : Eb (v.alloc (.cells Er.nil.head.toArray 41)) v.heap.size Er.nil := Eb.new _ _
      have HX2 := hide (freshE_eb v r1)
      have KBv2 := hide (KBv.out.trans ((freshE_below v r1).mono KBv.out.size))
      go_upto_region 18 with (first
        | (refine loadT Try.underlying41 rfl r1.head (by rw [head_len]; exact infoE) rfl _ rfl ⟨N + 1, j * 21, none⟩ rfl HS1.out ?_)
        | (refine storeE r1 ?nw2 _ _ rfl v.heap.size Er.nil ?nx2 ?ny2 ?nz2 ?_; rotate_left 4; change wpList _ _ _ _ _ (freshE v r1); generalize freshE v r1 = v2 at *))
      try (case nw2 => rfl)
      try (case nx2 => rfl)
      try (case ny2 => rfl)
      try (case nz2 => exact hz)
      have HXn : Hid (u.heap.size ≤ v.heap.size) := hide KBv.out.size
      clear hz HS1 KBv hab
      generalize v.heap.size = X at *
      by_cases hp : (j : Int) = pr
      · have hpb : ((j : Int) == pr) = true := by simp [hp]
        have hE : ({ r1 with lf := r2.lf } : Er).head = r2.head := by have := HFg.out; rw [if_pos hp] at this; exact this
        have HE := hide hE
        clear hE hp HFg
        have VM := (KBv2.out.block _ (Array.getElem?_eq_some_iff.1 U4.out).1).trans U4.out
        have HCq : Hid (∀ (i : Nat) (y : Value), (qtL r2.lf)[i]? = some y → v2.cell? ((⟨M, j * 21 + 18, none⟩ : Addr).add i) = some y) := hide (fun i y hy => by
          have hi : i < 3 := (List.getElem?_eq_some_iff.1 hy).1
          have h9 := (tc_env VM HT2.out h16).1 (18 + i) y (by
            rw [HR2.out, show r2.head = r2.head.take 18 ++ qtL r2.lf from rfl, List.getElem?_append_right (by simp [Er.head])]
            simpa [Er.head] using hy)
          rw [add_off] at h9 ⊢
          rw [Nat.add_assoc]; exact h9)
        have HX3 := hide (show Eb (v2.setCells X 18 (qtL r2.lf)) X { r1 with lf := r2.lf } from ⟨by rw [heap_setCells_row X _ (qtL r2.lf) 18 v2 _ HX2.out.out]; rfl⟩)
        have KBv3 := hide (below_setCells KBv2.out HXn.out 18 (qtL r2.lf))
        clear VM
        go_upto_region 20 with (first
          | (refine loadT Try.underlying39 rfl (qtL r2.lf) infoQt rfl _ rfl ⟨M, j * 21 + 18, none⟩ rfl HCq.out ?_)
          | (refine storeT (qtL r2.lf) infoQt (qtL_one r2.lf) rfl _ _ rfl X 18 rfl rfl r1.head HX2.out.out (by rw [head_len]; exact (by decide : 18 + 3 ≤ 21)) ?_; generalize v2.setCells X 18 (qtL r2.lf) = v3 at *))
        clear hpb HCq HX2 KBv2
        obtain ⟨v4, hdv4⟩ : ∃ v, v = v3.drew := ⟨_, rfl⟩
        have KBv4 := hide (KBv3.out.trans ((show Below v3.heap.size v3 v4 by rw [hdv4]; exact ⟨rfl, rfl, rfl, Nat.le_refl _, fun _ _ => rfl⟩).mono KBv3.out.size))
        have HX4 := hide (HX3.out.keep ((show Below v3.heap.size v3 v4 by rw [hdv4]; exact ⟨rfl, rfl, rfl, Nat.le_refl _, fun _ _ => rfl⟩).block X HX3.out.lt))
        have VA := (KBv4.out.block _ (Array.getElem?_eq_some_iff.1 U2.out).1).trans U2.out
        have VM := (KBv4.out.block _ (Array.getElem?_eq_some_iff.1 U4.out).1).trans U4.out
        obtain ⟨_, s3⟩ := tc_env VA HT1.out h16
        obtain ⟨s2, s4⟩ := tc_env VM HT2.out h16
        rw [HG1.out] at s3
        rw [HR2.out] at s2
        rw [HG2.out] at s4
        have HS : Hid ((∀ (i : Nat) (y : Value), r2.head[i]? = some y → v4.cell? ((⟨X, 0, none⟩ : Addr).add i) = some y) ∧ (∀ (i : Nat) (y : Value), r2.head[i]? = some y → v4.cell? ((⟨M, j * 21, none⟩ : Addr).add i) = some y) ∧ v4.cell? ⟨N + 1, 336 + j, none⟩ = some (.int .i64 z) ∧ v4.cell? ⟨M, 336 + j, none⟩ = some (.int .i64 z)) := hide ⟨fun i y hy => HX4.out.hcell i y (by rw [HE.out]; exact hy), s2, s3, s4⟩
        clear s2 s3 s4 VA VM
        refine wp_region_held_drew (S := fun W => (∀ (i : Nat) (y : Value), r2.head[i]? = some y → W.cell? ((⟨X, 0, none⟩ : Addr).add i) = some y) ∧ (∀ (i : Nat) (y : Value), r2.head[i]? = some y → W.cell? ((⟨M, j * 21, none⟩ : Addr).add i) = some y) ∧ W.cell? ⟨N + 1, 336 + j, none⟩ = some (.int .i64 z) ∧ W.cell? ⟨M, 336 + j, none⟩ = some (.int .i64 z)) (by kernel_rfl) (by rw [← hdv4]; exact HS.out) (fun _ => ?_)
        rw [← hdv4]
        clear hdv4
        refine hd_take 0 (o := ⟨some 85, _, _, _, _, _⟩) (.agg r2.head.toArray) (by kernel_rfl) (by kernel_rfl) (by kernel_rfl) rfl (by rfl) (fun W hSw => by obtain ⟨s1, s2, s3, s4⟩ := hSw; exact run_loadT Try.underlying41 rfl r2.head (by rw [head_len]; exact infoE) _ rfl ⟨X, 0, none⟩ rfl s1) (fun _ _ _ h => h) HS.out ?_
        try simp only [Act.put, List.setIfInBounds_toArray, List.set_cons_zero, List.set_cons_succ]
        refine hd_take 1 (o := ⟨some 86, _, _, _, _, _⟩) (.int .i64 (j : Int)) (by kernel_rfl) (by kernel_rfl) (by kernel_rfl) rfl (by rfl) (fun W hSw => by go_simp) (fun _ _ _ h => h) HS.out ?_
        try simp only [Act.put, List.setIfInBounds_toArray, List.set_cons_zero, List.set_cons_succ]
        refine hd_take 2 (o := ⟨some 87, _, _, _, _, _⟩) (.pointer (some ⟨M, 0, none⟩)) (by kernel_rfl) (by kernel_rfl) (by kernel_rfl) rfl (by rfl) (fun W hSw => by go_simp) (fun _ _ _ h => h) HS.out ?_
        try simp only [Act.put, List.setIfInBounds_toArray, List.set_cons_zero, List.set_cons_succ]
        refine hd_take 3 (o := ⟨some 88, _, _, _, _, _⟩) (.pointer (some ⟨M, j * 21, none⟩)) (by kernel_rfl) (by kernel_rfl) (by kernel_rfl) rfl (by rfl) (fun W hSw => by go_simp) (fun _ _ _ h => h) HS.out ?_
        try simp only [Act.put, List.setIfInBounds_toArray, List.set_cons_zero, List.set_cons_succ]
        refine hd_take 4 (o := ⟨some 89, _, _, _, _, _⟩) (.agg r2.head.toArray) (by kernel_rfl) (by kernel_rfl) (by kernel_rfl) rfl (by rfl) (fun W hSw => by obtain ⟨s1, s2, s3, s4⟩ := hSw; exact run_loadT Try.underlying41 rfl r2.head (by rw [head_len]; exact infoE) _ rfl ⟨M, j * 21, none⟩ rfl s2) (fun _ _ _ h => h) HS.out ?_
        try simp only [Act.put, List.setIfInBounds_toArray, List.set_cons_zero, List.set_cons_succ]
        refine hd_take 5 (o := ⟨some 90, _, _, _, _, _⟩) (.bool false) (by kernel_rfl) (by kernel_rfl) (by kernel_rfl) rfl (by rfl) (fun W hSw => by exact run_neqT r2.head.toArray (se_env 9996 r2) (by kernel_rfl) _ _ rfl rfl rfl) (fun _ _ _ h => h) HS.out ?_
        try simp only [Act.put, List.setIfInBounds_toArray, List.set_cons_zero, List.set_cons_succ]
        refine hd_take 6 (o := ⟨some 91, _, _, _, _, _⟩) (.bool false) (by kernel_rfl) (by kernel_rfl) (by kernel_rfl) rfl (by rfl) (fun W hSw => by go_simp) (fun _ _ _ h => h) HS.out ?_
        try simp only [Act.put, List.setIfInBounds_toArray, List.set_cons_zero, List.set_cons_succ]
        refine hd_take 7 (o := ⟨some 92, _, _, _, _, _⟩) (.int .i64 (j : Int)) (by kernel_rfl) (by kernel_rfl) (by kernel_rfl) rfl (by rfl) (fun W hSw => by go_simp) (fun _ _ _ h => h) HS.out ?_
        try simp only [Act.put, List.setIfInBounds_toArray, List.set_cons_zero, List.set_cons_succ]
        refine hd_take 8 (o := ⟨some 93, _, _, _, _, _⟩) (.pointer (some ⟨N + 1, 336, none⟩)) (by kernel_rfl) (by kernel_rfl) (by kernel_rfl) rfl (by rfl) (fun W hSw => by go_simp) (fun _ _ _ h => h) HS.out ?_
        try simp only [Act.put, List.setIfInBounds_toArray, List.set_cons_zero, List.set_cons_succ]
        refine hd_take 9 (o := ⟨some 94, _, _, _, _, _⟩) (.pointer (some ⟨N + 1, 336 + j, none⟩)) (by kernel_rfl) (by kernel_rfl) (by kernel_rfl) rfl (by rfl) (fun W hSw => by go_simp) (fun _ _ _ h => h) HS.out ?_
        try simp only [Act.put, List.setIfInBounds_toArray, List.set_cons_zero, List.set_cons_succ]
        refine hd_take 10 (o := ⟨some 95, _, _, _, _, _⟩) (.int .i64 z) (by kernel_rfl) (by kernel_rfl) (by kernel_rfl) rfl (by rfl) (fun W hSw => by obtain ⟨s1, s2, s3, s4⟩ := hSw; go_simp) (fun _ _ _ h => h) HS.out ?_
        try simp only [Act.put, List.setIfInBounds_toArray, List.set_cons_zero, List.set_cons_succ]
        refine hd_take 11 (o := ⟨some 96, _, _, _, _, _⟩) (.int .i64 (j : Int)) (by kernel_rfl) (by kernel_rfl) (by kernel_rfl) rfl (by rfl) (fun W hSw => by go_simp) (fun _ _ _ h => h) HS.out ?_
        try simp only [Act.put, List.setIfInBounds_toArray, List.set_cons_zero, List.set_cons_succ]
        refine hd_take 12 (o := ⟨some 97, _, _, _, _, _⟩) (.pointer (some ⟨M, 336, none⟩)) (by kernel_rfl) (by kernel_rfl) (by kernel_rfl) rfl (by rfl) (fun W hSw => by go_simp) (fun _ _ _ h => h) HS.out ?_
        try simp only [Act.put, List.setIfInBounds_toArray, List.set_cons_zero, List.set_cons_succ]
        refine hd_take 13 (o := ⟨some 98, _, _, _, _, _⟩) (.pointer (some ⟨M, 336 + j, none⟩)) (by kernel_rfl) (by kernel_rfl) (by kernel_rfl) rfl (by rfl) (fun W hSw => by go_simp) (fun _ _ _ h => h) HS.out ?_
        try simp only [Act.put, List.setIfInBounds_toArray, List.set_cons_zero, List.set_cons_succ]
        refine hd_take 14 (o := ⟨some 99, _, _, _, _, _⟩) (.int .i64 z) (by kernel_rfl) (by kernel_rfl) (by kernel_rfl) rfl (by rfl) (fun W hSw => by obtain ⟨s1, s2, s3, s4⟩ := hSw; go_simp) (fun _ _ _ h => h) HS.out ?_
        try simp only [Act.put, List.setIfInBounds_toArray, List.set_cons_zero, List.set_cons_succ]
        refine hd_take 15 (o := ⟨some 100, _, _, _, _, _⟩) (.bool false) (by kernel_rfl) (by kernel_rfl) (by kernel_rfl) rfl (by rfl) (fun W hSw => by go_simp) (fun _ _ _ h => h) HS.out ?_
        try simp only [Act.put, List.setIfInBounds_toArray, List.set_cons_zero, List.set_cons_succ]
        refine hd_take 16 (o := ⟨some 101, _, _, _, _, _⟩) (.bool false) (by kernel_rfl) (by kernel_rfl) (by kernel_rfl) rfl (by rfl) (fun W hSw => by go_simp) (fun _ _ _ h => h) HS.out ?_
        try simp only [Act.put, List.setIfInBounds_toArray, List.set_cons_zero, List.set_cons_succ]
        refine wpAnyH_done (by kernel_rfl) ?_ _
        clear HS
        go_wp2_with fail
        go_roundw
        case rel =>
          first
            | exact ⟨j + 1, by omega, by go_num, KBv4⟩
            | ((repeat apply Exists.intro); refine ⟨?_, rfl⟩; exact ⟨j + 1, by omega, by go_num, KBv4⟩)
        case measure => simp [intOf]; omega
      · have hpb : ((j : Int) == pr) = false := by simp [hp]
        have hE : r1.head = r2.head := by have := HFg.out; rw [if_neg hp] at this; exact this
        have HE := hide hE
        clear hE hp HFg
        go_upto_region 20 with fail
        have HX3 := HX2
        have KBv3 := KBv2
        clear HX2 KBv2 hpb
        generalize v2 = v3 at *
        obtain ⟨v4, hdv4⟩ : ∃ v, v = v3.drew := ⟨_, rfl⟩
        have KBv4 := hide (KBv3.out.trans ((show Below v3.heap.size v3 v4 by rw [hdv4]; exact ⟨rfl, rfl, rfl, Nat.le_refl _, fun _ _ => rfl⟩).mono KBv3.out.size))
        have HX4 := hide (HX3.out.keep ((show Below v3.heap.size v3 v4 by rw [hdv4]; exact ⟨rfl, rfl, rfl, Nat.le_refl _, fun _ _ => rfl⟩).block X HX3.out.lt))
        have VA := (KBv4.out.block _ (Array.getElem?_eq_some_iff.1 U2.out).1).trans U2.out
        have VM := (KBv4.out.block _ (Array.getElem?_eq_some_iff.1 U4.out).1).trans U4.out
        obtain ⟨_, s3⟩ := tc_env VA HT1.out h16
        obtain ⟨s2, s4⟩ := tc_env VM HT2.out h16
        rw [HG1.out] at s3
        rw [HR2.out] at s2
        rw [HG2.out] at s4
        have HS : Hid ((∀ (i : Nat) (y : Value), r2.head[i]? = some y → v4.cell? ((⟨X, 0, none⟩ : Addr).add i) = some y) ∧ (∀ (i : Nat) (y : Value), r2.head[i]? = some y → v4.cell? ((⟨M, j * 21, none⟩ : Addr).add i) = some y) ∧ v4.cell? ⟨N + 1, 336 + j, none⟩ = some (.int .i64 z) ∧ v4.cell? ⟨M, 336 + j, none⟩ = some (.int .i64 z)) := hide ⟨fun i y hy => HX4.out.hcell i y (by rw [HE.out]; exact hy), s2, s3, s4⟩
        clear s2 s3 s4 VA VM
        refine wp_region_held_drew (S := fun W => (∀ (i : Nat) (y : Value), r2.head[i]? = some y → W.cell? ((⟨X, 0, none⟩ : Addr).add i) = some y) ∧ (∀ (i : Nat) (y : Value), r2.head[i]? = some y → W.cell? ((⟨M, j * 21, none⟩ : Addr).add i) = some y) ∧ W.cell? ⟨N + 1, 336 + j, none⟩ = some (.int .i64 z) ∧ W.cell? ⟨M, 336 + j, none⟩ = some (.int .i64 z)) (by kernel_rfl) (by rw [← hdv4]; exact HS.out) (fun _ => ?_)
        rw [← hdv4]
        clear hdv4
        refine hd_take 0 (o := ⟨some 85, _, _, _, _, _⟩) (.agg r2.head.toArray) (by kernel_rfl) (by kernel_rfl) (by kernel_rfl) rfl (by rfl) (fun W hSw => by obtain ⟨s1, s2, s3, s4⟩ := hSw; exact run_loadT Try.underlying41 rfl r2.head (by rw [head_len]; exact infoE) _ rfl ⟨X, 0, none⟩ rfl s1) (fun _ _ _ h => h) HS.out ?_
        try simp only [Act.put, List.setIfInBounds_toArray, List.set_cons_zero, List.set_cons_succ]
        refine hd_take 1 (o := ⟨some 86, _, _, _, _, _⟩) (.int .i64 (j : Int)) (by kernel_rfl) (by kernel_rfl) (by kernel_rfl) rfl (by rfl) (fun W hSw => by go_simp) (fun _ _ _ h => h) HS.out ?_
        try simp only [Act.put, List.setIfInBounds_toArray, List.set_cons_zero, List.set_cons_succ]
        refine hd_take 2 (o := ⟨some 87, _, _, _, _, _⟩) (.pointer (some ⟨M, 0, none⟩)) (by kernel_rfl) (by kernel_rfl) (by kernel_rfl) rfl (by rfl) (fun W hSw => by go_simp) (fun _ _ _ h => h) HS.out ?_
        try simp only [Act.put, List.setIfInBounds_toArray, List.set_cons_zero, List.set_cons_succ]
        refine hd_take 3 (o := ⟨some 88, _, _, _, _, _⟩) (.pointer (some ⟨M, j * 21, none⟩)) (by kernel_rfl) (by kernel_rfl) (by kernel_rfl) rfl (by rfl) (fun W hSw => by go_simp) (fun _ _ _ h => h) HS.out ?_
        try simp only [Act.put, List.setIfInBounds_toArray, List.set_cons_zero, List.set_cons_succ]
        refine hd_take 4 (o := ⟨some 89, _, _, _, _, _⟩) (.agg r2.head.toArray) (by kernel_rfl) (by kernel_rfl) (by kernel_rfl) rfl (by rfl) (fun W hSw => by obtain ⟨s1, s2, s3, s4⟩ := hSw; exact run_loadT Try.underlying41 rfl r2.head (by rw [head_len]; exact infoE) _ rfl ⟨M, j * 21, none⟩ rfl s2) (fun _ _ _ h => h) HS.out ?_
        try simp only [Act.put, List.setIfInBounds_toArray, List.set_cons_zero, List.set_cons_succ]
        refine hd_take 5 (o := ⟨some 90, _, _, _, _, _⟩) (.bool false) (by kernel_rfl) (by kernel_rfl) (by kernel_rfl) rfl (by rfl) (fun W hSw => by exact run_neqT r2.head.toArray (se_env 9996 r2) (by kernel_rfl) _ _ rfl rfl rfl) (fun _ _ _ h => h) HS.out ?_
        try simp only [Act.put, List.setIfInBounds_toArray, List.set_cons_zero, List.set_cons_succ]
        refine hd_take 6 (o := ⟨some 91, _, _, _, _, _⟩) (.bool false) (by kernel_rfl) (by kernel_rfl) (by kernel_rfl) rfl (by rfl) (fun W hSw => by go_simp) (fun _ _ _ h => h) HS.out ?_
        try simp only [Act.put, List.setIfInBounds_toArray, List.set_cons_zero, List.set_cons_succ]
        refine hd_take 7 (o := ⟨some 92, _, _, _, _, _⟩) (.int .i64 (j : Int)) (by kernel_rfl) (by kernel_rfl) (by kernel_rfl) rfl (by rfl) (fun W hSw => by go_simp) (fun _ _ _ h => h) HS.out ?_
        try simp only [Act.put, List.setIfInBounds_toArray, List.set_cons_zero, List.set_cons_succ]
        refine hd_take 8 (o := ⟨some 93, _, _, _, _, _⟩) (.pointer (some ⟨N + 1, 336, none⟩)) (by kernel_rfl) (by kernel_rfl) (by kernel_rfl) rfl (by rfl) (fun W hSw => by go_simp) (fun _ _ _ h => h) HS.out ?_
        try simp only [Act.put, List.setIfInBounds_toArray, List.set_cons_zero, List.set_cons_succ]
        refine hd_take 9 (o := ⟨some 94, _, _, _, _, _⟩) (.pointer (some ⟨N + 1, 336 + j, none⟩)) (by kernel_rfl) (by kernel_rfl) (by kernel_rfl) rfl (by rfl) (fun W hSw => by go_simp) (fun _ _ _ h => h) HS.out ?_
        try simp only [Act.put, List.setIfInBounds_toArray, List.set_cons_zero, List.set_cons_succ]
        refine hd_take 10 (o := ⟨some 95, _, _, _, _, _⟩) (.int .i64 z) (by kernel_rfl) (by kernel_rfl) (by kernel_rfl) rfl (by rfl) (fun W hSw => by obtain ⟨s1, s2, s3, s4⟩ := hSw; go_simp) (fun _ _ _ h => h) HS.out ?_
        try simp only [Act.put, List.setIfInBounds_toArray, List.set_cons_zero, List.set_cons_succ]
        refine hd_take 11 (o := ⟨some 96, _, _, _, _, _⟩) (.int .i64 (j : Int)) (by kernel_rfl) (by kernel_rfl) (by kernel_rfl) rfl (by rfl) (fun W hSw => by go_simp) (fun _ _ _ h => h) HS.out ?_
        try simp only [Act.put, List.setIfInBounds_toArray, List.set_cons_zero, List.set_cons_succ]
        refine hd_take 12 (o := ⟨some 97, _, _, _, _, _⟩) (.pointer (some ⟨M, 336, none⟩)) (by kernel_rfl) (by kernel_rfl) (by kernel_rfl) rfl (by rfl) (fun W hSw => by go_simp) (fun _ _ _ h => h) HS.out ?_
        try simp only [Act.put, List.setIfInBounds_toArray, List.set_cons_zero, List.set_cons_succ]
        refine hd_take 13 (o := ⟨some 98, _, _, _, _, _⟩) (.pointer (some ⟨M, 336 + j, none⟩)) (by kernel_rfl) (by kernel_rfl) (by kernel_rfl) rfl (by rfl) (fun W hSw => by go_simp) (fun _ _ _ h => h) HS.out ?_
        try simp only [Act.put, List.setIfInBounds_toArray, List.set_cons_zero, List.set_cons_succ]
        refine hd_take 14 (o := ⟨some 99, _, _, _, _, _⟩) (.int .i64 z) (by kernel_rfl) (by kernel_rfl) (by kernel_rfl) rfl (by rfl) (fun W hSw => by obtain ⟨s1, s2, s3, s4⟩ := hSw; go_simp) (fun _ _ _ h => h) HS.out ?_
        try simp only [Act.put, List.setIfInBounds_toArray, List.set_cons_zero, List.set_cons_succ]
        refine hd_take 15 (o := ⟨some 100, _, _, _, _, _⟩) (.bool false) (by kernel_rfl) (by kernel_rfl) (by kernel_rfl) rfl (by rfl) (fun W hSw => by go_simp) (fun _ _ _ h => h) HS.out ?_
        try simp only [Act.put, List.setIfInBounds_toArray, List.set_cons_zero, List.set_cons_succ]
        refine hd_take 16 (o := ⟨some 101, _, _, _, _, _⟩) (.bool false) (by kernel_rfl) (by kernel_rfl) (by kernel_rfl) rfl (by rfl) (fun W hSw => by go_simp) (fun _ _ _ h => h) HS.out ?_
        try simp only [Act.put, List.setIfInBounds_toArray, List.set_cons_zero, List.set_cons_succ]
        refine wpAnyH_done (by kernel_rfl) ?_ _
        clear HS
        go_wp2_with fail
        go_roundw
        case rel =>
          first
            | exact ⟨j + 1, by omega, by go_num, KBv4⟩
            | ((repeat apply Exists.intro); refine ⟨?_, rfl⟩; exact ⟨j + 1, by omega, by go_num, KBv4⟩)
        case measure => simp [intOf]; omega
    · rcases lvb_cases rs2 j with ⟨_, _, h2, _, h3⟩ | ⟨_, h2, _, h3⟩
      · have h1 : lvb rs j = false := by cases hq : lvb rs j with
          | true => rw [hq, h2] at hl; exact (hl rfl).elim
          | false => rfl
        clear hl
        rw [h1] at c1
        rw [h2] at c2
        go_quiet (fail)
        have KBv := hide (KB.out.trans ((show Below wr.heap.size wr (wr.drewN nq) from ⟨rfl, rfl, rfl, Nat.le_refl _, fun _ _ => rfl⟩).mono KB.out.size))
        clear c1 c2 KB
        generalize wr.drewN nq = v at *
        have VM := (KBv.out.block _ (Array.getElem?_eq_some_iff.1 U4.out).1).trans U4.out
        obtain ⟨_, s4⟩ := tc_env VM HT2.out h16
        rw [h3] at s4
        have c2 := (VNv KBv).bq.cell h16
        rw [h2] at c2
        have c3 := c2.1
        clear c2 VM
        go_upto_region 15 with fail
        go_quiet (fail)
        have KBw := hide (KBv.out.trans ((show Below v.heap.size v (v.drewN nq) from ⟨rfl, rfl, rfl, Nat.le_refl _, fun _ _ => rfl⟩).mono KBv.out.size))
        clear KBv c3 s4
        generalize v.drewN nq = v2 at *
        go_wp2_with fail
        go_roundw
        case rel =>
          first
            | exact ⟨j + 1, by omega, by go_num, KBw⟩
            | ((repeat apply Exists.intro); refine ⟨?_, rfl⟩; exact ⟨j + 1, by omega, by go_num, KBw⟩)
        case measure => simp [intOf]; omega
      · have h1 : lvb rs j = true := by cases hq : lvb rs j with
          | false => rw [hq, h2] at hl; exact (hl rfl).elim
          | true => rfl
        clear hl
        rw [h1] at c1
        rw [h2] at c2
        go_quiet (fail)
        have KBv := hide (KB.out.trans ((show Below wr.heap.size wr (wr.drewN nq) from ⟨rfl, rfl, rfl, Nat.le_refl _, fun _ _ => rfl⟩).mono KB.out.size))
        clear c1 c2 KB
        generalize wr.drewN nq = v at *
        have VM := (KBv.out.block _ (Array.getElem?_eq_some_iff.1 U4.out).1).trans U4.out
        obtain ⟨_, s4⟩ := tc_env VM HT2.out h16
        rw [h3] at s4
        have c2 := (VNv KBv).bq.cell h16
        rw [h2] at c2
        have c3 := c2.1
        clear c2 VM
        go_upto_region 15 with fail
        go_quiet (fail)
        have KBw := hide (KBv.out.trans ((show Below v.heap.size v (v.drewN nq) from ⟨rfl, rfl, rfl, Nat.le_refl _, fun _ _ => rfl⟩).mono KBv.out.size))
        clear KBv c3 s4
        generalize v.drewN nq = v2 at *
        go_wp2_with fail
        go_roundw
        case rel =>
          first
            | exact ⟨j + 1, by omega, by go_num, KBw⟩
            | ((repeat apply Exists.intro); refine ⟨?_, rfl⟩; exact ⟨j + 1, by omega, by go_num, KBw⟩)
        case measure => simp [intOf]; omega
  · obtain rfl : j = 16 := by omega
    go_upto_region 22 with fail
    obtain ⟨v, hdv⟩ : ∃ v, v = wr.drew := ⟨_, rfl⟩
    have KBv := hide (KB.out.trans ((show Below wr.heap.size wr v by rw [hdv]; exact ⟨rfl, rfl, rfl, Nat.le_refl _, fun _ _ => rfl⟩).mono KB.out.size))
    clear KB
    have VA := (KBv.out.block _ (Array.getElem?_eq_some_iff.1 U2.out).1).trans U2.out
    have VL := (KBv.out.block _ (Array.getElem?_eq_some_iff.1 U3.out).1).trans U3.out
    have VM := (KBv.out.block _ (Array.getElem?_eq_some_iff.1 U4.out).1).trans U4.out
    have VNn := hide (UN.out.below KBv.out)
    have HS : Hid (v.heap[L]? = some (.cells (bs (lvb rs)).toArray 55 (0, 0)) ∧ (∀ (i : Nat) (y : Value), (bs (lvb rs2))[i]? = some y → v.cell? ((⟨B, 0, none⟩ : Addr).add i) = some y) ∧ v.heap[M]? = some (.cells cs2.toArray 52 (0, 0)) ∧ v.heap[N + 1]? = some (.cells cs.toArray 52 (0, 0))) := hide ⟨VL, fun i y hy => by
      have hi : i < 16 := by have := (List.getElem?_eq_some_iff.1 hy).1; rw [bs_len] at this; exact this
      rw [bs_get _ hi] at hy
      cases hy
      rw [add_nat]; exact (VNn.out.bq.cell hi).1, VM, VA⟩
    clear VA VL VM
    refine wp_region_held_drew (S := fun W => W.heap[L]? = some (.cells (bs (lvb rs)).toArray 55 (0, 0)) ∧ (∀ (i : Nat) (y : Value), (bs (lvb rs2))[i]? = some y → W.cell? ((⟨B, 0, none⟩ : Addr).add i) = some y) ∧ W.heap[M]? = some (.cells cs2.toArray 52 (0, 0)) ∧ W.heap[N + 1]? = some (.cells cs.toArray 52 (0, 0))) (by kernel_rfl) (by rw [← hdv]; exact HS.out) (fun _ => ?_)
    rw [← hdv]
    clear hdv
    refine hd_take 0 (o := ⟨some 102, _, _, _, _, _⟩) (.agg (bs (lvb rs)).toArray) (by kernel_rfl) (by kernel_rfl) (by kernel_rfl) rfl (by rfl) (fun W hSw => by obtain ⟨s1, s2, s3, s4⟩ := hSw; exact run_loadT Try.underlying55 rfl (bs (lvb rs)) (by rw [bs_len]; exact infoBs) _ rfl ⟨L, 0, none⟩ rfl (fun i y hy => by rw [add_nat, cell_of_row _ _ _ _ _ _ s1]; simpa using hy)) (fun _ _ _ h => h) HS.out ?_
    try simp only [Act.put, List.setIfInBounds_toArray, List.set_cons_zero, List.set_cons_succ]
    refine hd_take 1 (o := ⟨some 103, _, _, _, _, _⟩) (.pointer (some ⟨B, 0, none⟩)) (by kernel_rfl) (by kernel_rfl) (by kernel_rfl) rfl (by rfl) (fun W hSw => by go_simp) (fun _ _ _ h => h) HS.out ?_
    try simp only [Act.put, List.setIfInBounds_toArray, List.set_cons_zero, List.set_cons_succ]
    refine hd_take 2 (o := ⟨some 104, _, _, _, _, _⟩) (.pointer (some ⟨B, 0, none⟩)) (by kernel_rfl) (by kernel_rfl) (by kernel_rfl) rfl (by rfl) (fun W hSw => by go_simp) (fun _ _ _ h => h) HS.out ?_
    try simp only [Act.put, List.setIfInBounds_toArray, List.set_cons_zero, List.set_cons_succ]
    refine hd_take 3 (o := ⟨some 105, _, _, _, _, _⟩) (.pointer (some ⟨B, 0, none⟩)) (by kernel_rfl) (by kernel_rfl) (by kernel_rfl) rfl (by rfl) (fun W hSw => by go_simp) (fun _ _ _ h => h) HS.out ?_
    try simp only [Act.put, List.setIfInBounds_toArray, List.set_cons_zero, List.set_cons_succ]
    refine hd_take 4 (o := ⟨some 106, _, _, _, _, _⟩) (.agg (bs (lvb rs2)).toArray) (by kernel_rfl) (by kernel_rfl) (by kernel_rfl) rfl (by rfl) (fun W hSw => by obtain ⟨s1, s2, s3, s4⟩ := hSw; exact run_loadT Try.underlying55 rfl (bs (lvb rs2)) (by rw [bs_len]; exact infoBs) _ rfl ⟨B, 0, none⟩ rfl s2) (fun _ _ _ h => h) HS.out ?_
    try simp only [Act.put, List.setIfInBounds_toArray, List.set_cons_zero, List.set_cons_succ]
    by_cases hall : (List.range 16).all (fun i => lvb rs i == lvb rs2 i) = true
    · have HCs : Hid (cs2 = cs) := hide (by
        have e9 := HCm.out.s (fun i hi => by
          have := List.all_eq_true.1 hall i (List.mem_range.2 hi)
          simpa using this)
        have h9 := HT2.out
        rw [e9] at h9
        exact h9.ext HT1.out (fun _ _ => rfl) (fun _ _ => rfl))
      refine hd_take 5 (o := ⟨some 107, _, _, _, _, _⟩) (.bool false) (by kernel_rfl) (by kernel_rfl) (by kernel_rfl) rfl (by rfl) (fun W hSw => by exact run_neqB (bs (lvb rs)).toArray (bs (lvb rs2)).toArray true (fun W => by rw [eq_bs 9998]; exact congrArg (fun b => Result.ok b W) hall) (by kernel_rfl) _ _ rfl rfl rfl) (fun _ _ _ h => h) HS.out ?_
      try simp only [Act.put, List.setIfInBounds_toArray, List.set_cons_zero, List.set_cons_succ]
      refine hd_take 6 (o := ⟨some 108, _, _, _, _, _⟩) (.bool false) (by kernel_rfl) (by kernel_rfl) (by kernel_rfl) rfl (by rfl) (fun W hSw => by go_simp) (fun _ _ _ h => h) HS.out ?_
      try simp only [Act.put, List.setIfInBounds_toArray, List.set_cons_zero, List.set_cons_succ]
      refine hd_take 7 (o := ⟨some 109, _, _, _, _, _⟩) (.agg cs.toArray) (by kernel_rfl) (by kernel_rfl) (by kernel_rfl) rfl (by rfl) (fun W hSw => by obtain ⟨s1, s2, s3, s4⟩ := hSw; exact run_loadT Try.underlying52 rfl cs (by rw [HT1.out.len]; exact infoTold) _ rfl ⟨M, 0, none⟩ rfl (Tb.cell ⟨by rw [← HCs.out]; exact s3⟩)) (fun _ _ _ h => h) HS.out ?_
      try simp only [Act.put, List.setIfInBounds_toArray, List.set_cons_zero, List.set_cons_succ]
      refine hd_take 8 (o := ⟨some 110, _, _, _, _, _⟩) (.agg cs.toArray) (by kernel_rfl) (by kernel_rfl) (by kernel_rfl) rfl (by rfl) (fun W hSw => by obtain ⟨s1, s2, s3, s4⟩ := hSw; exact run_loadT Try.underlying52 rfl cs (by rw [HT1.out.len]; exact infoTold) _ rfl ⟨N + 1, 0, none⟩ rfl (Tb.cell ⟨s4⟩)) (fun _ _ _ h => h) HS.out ?_
      try simp only [Act.put, List.setIfInBounds_toArray, List.set_cons_zero, List.set_cons_succ]
      refine hd_take 9 (o := ⟨some 111, _, _, _, _, _⟩) (.bool true) (by kernel_rfl) (by kernel_rfl) (by kernel_rfl) rfl (by rfl) (fun W hSw => by exact run_eqlT cs.toArray (HT1.out.se 9994) (by kernel_rfl) _ _ rfl rfl rfl) (fun _ _ _ h => h) HS.out ?_
      try simp only [Act.put, List.setIfInBounds_toArray, List.set_cons_zero, List.set_cons_succ]
      refine hd_take 10 (o := ⟨some 112, _, _, _, _, _⟩) (.bool true) (by kernel_rfl) (by kernel_rfl) (by kernel_rfl) rfl (by rfl) (fun W hSw => by go_simp) (fun _ _ _ h => h) HS.out ?_
      try simp only [Act.put, List.setIfInBounds_toArray, List.set_cons_zero, List.set_cons_succ]
      refine hd_take 11 (o := ⟨some 8, _, _, _, _, _⟩) (.bool true) (by kernel_rfl) (by kernel_rfl) (by kernel_rfl) rfl (by rfl) (fun W hSw => by go_simp) (fun _ _ _ h => h) HS.out ?_
      try simp only [Act.put, List.setIfInBounds_toArray, List.set_cons_zero, List.set_cons_succ]
      refine wpAnyH_done (by kernel_rfl) ?_ _
      go_wp2_with fail
      go_ret
      exact ⟨rfl, F2, VNn.out, HXt.out.trans (ext_below KBv.out)⟩
    · refine hd_take 5 (o := ⟨some 107, _, _, _, _, _⟩) (.bool true) (by kernel_rfl) (by kernel_rfl) (by kernel_rfl) rfl (by rfl) (fun W hSw => by exact run_neqB (bs (lvb rs)).toArray (bs (lvb rs2)).toArray false (fun W => by rw [eq_bs 9998]; exact congrArg (fun b => Result.ok b W) (by simpa using hall)) (by kernel_rfl) _ _ rfl rfl rfl) (fun _ _ _ h => h) HS.out ?_
      try simp only [Act.put, List.setIfInBounds_toArray, List.set_cons_zero, List.set_cons_succ]
      refine hd_take 6 (o := ⟨some 108, _, _, _, _, _⟩) (.bool true) (by kernel_rfl) (by kernel_rfl) (by kernel_rfl) rfl (by rfl) (fun W hSw => by go_simp) (fun _ _ _ h => h) HS.out ?_
      try simp only [Act.put, List.setIfInBounds_toArray, List.set_cons_zero, List.set_cons_succ]
      refine hd_skip 7 (o := ⟨some 109, _, _, _, _, _⟩) (by kernel_rfl) (by kernel_rfl) (by kernel_rfl) rfl (by rfl) (fun _ _ _ h => h) HS.out ?_
      try simp only [Act.put, List.setIfInBounds_toArray, List.set_cons_zero, List.set_cons_succ]
      refine hd_skip 8 (o := ⟨some 110, _, _, _, _, _⟩) (by kernel_rfl) (by kernel_rfl) (by kernel_rfl) rfl (by rfl) (fun _ _ _ h => h) HS.out ?_
      try simp only [Act.put, List.setIfInBounds_toArray, List.set_cons_zero, List.set_cons_succ]
      refine hd_skip 9 (o := ⟨some 111, _, _, _, _, _⟩) (by kernel_rfl) (by kernel_rfl) (by kernel_rfl) rfl (by rfl) (fun _ _ _ h => h) HS.out ?_
      try simp only [Act.put, List.setIfInBounds_toArray, List.set_cons_zero, List.set_cons_succ]
      refine hd_take 10 (o := ⟨some 112, _, _, _, _, _⟩) (.bool true) (by kernel_rfl) (by kernel_rfl) (by kernel_rfl) rfl (by rfl) (fun W hSw => by go_simp) (fun _ _ _ h => h) HS.out ?_
      try simp only [Act.put, List.setIfInBounds_toArray, List.set_cons_zero, List.set_cons_succ]
      refine hd_take 11 (o := ⟨some 8, _, _, _, _, _⟩) (.bool true) (by kernel_rfl) (by kernel_rfl) (by kernel_rfl) rfl (by rfl) (fun W hSw => by go_simp) (fun _ _ _ h => h) HS.out ?_
      try simp only [Act.put, List.setIfInBounds_toArray, List.set_cons_zero, List.set_cons_succ]
      refine wpAnyH_done (by kernel_rfl) ?_ _
      go_wp2_with fail
      go_ret
      exact ⟨rfl, F2, VNn.out, HXt.out.trans (ext_below KBv.out)⟩
end
end Go.Proofs.Ytoddadohmnaolaa
