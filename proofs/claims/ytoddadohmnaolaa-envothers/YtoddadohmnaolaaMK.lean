import Derived.Test.YtoddadohmnaolaaMH
namespace Go.Proofs.Ytoddadohmnaolaa
open Go.RowKit

/-- what a setting step makes of what was told -/
def sx (kd n m : Int) (g : Nat → Nat) (pc : Nat) (on : Bool) (x y : Er) : Er :=
  if kd = 5 then { x with rg := g, pc := pc } else if kd = 6 then (if (0 ≤ n ∧ n ≤ 4) ∧ (0 ≤ m ∧ m ≤ 4294967295) then { x with st := n, co := m } else x) else if kd = 7 then (if 0 ≤ n ∧ n ≤ 4294967295 then { x with bi := n } else x) else if kd = 10 then { x with fz := on } else if kd = 11 ∨ kd = 12 then { x with lf := y.lf } else if kd = 8 ∨ kd = 9 then { x with st := y.st, bi := y.bi, rg := fun i => if i = 0 then y.rg 0 else if i = 1 then y.rg 1 else x.rg i } else x
section
variable {rs : List (Option Er)} {last : Int}
theorem look_at' {k : Nat} {r : Er} (hr : rs[k]? = some (some r)) : look rs (k : Int) = some r := by rw [look_nat, hr]; rfl
theorem look_len {k : Nat} {r : Er} (hr : rs[k]? = some (some r)) : k < rs.length := (List.getElem?_eq_some_iff.1 hr).1
theorem nS_no {kd e n m : Int} {q : Qt} {g : Nat → Nat} {pc : Nat} {on : Bool} (k2 : kd ≠ 2) (k3 : kd ≠ 3) (hl : look rs e = none) : nS kd e n m q g pc on rs last = rs := by
  unfold nS
  rw [if_neg k2, if_neg k3]
  by_cases k5 : kd = 5
  · rw [if_pos k5]; exact atE_none hl
  rw [if_neg k5]
  by_cases k6 : kd = 6
  · rw [if_pos k6]; unfold stS; split
    · exact atE_none hl
    · rfl
  rw [if_neg k6]
  by_cases k7 : kd = 7
  · rw [if_pos k7]; unfold btS; split
    · exact atE_none hl
    · rfl
  rw [if_neg k7]
  by_cases k8 : kd = 8
  · rw [if_pos k8]; unfold noS; split
    · exact atE_none hl
    · rfl
  rw [if_neg k8]
  by_cases k9 : kd = 9
  · rw [if_pos k9]; exact atE_none hl
  rw [if_neg k9]
  by_cases k10 : kd = 10
  · rw [if_pos k10]; exact atE_none hl
  rw [if_neg k10]
  by_cases k11 : kd = 11
  · rw [if_pos k11]; unfold payS; rw [hl]
  rw [if_neg k11]
  by_cases k12 : kd = 12
  · rw [if_pos k12]; unfold refS; rw [hl]
  rw [if_neg k12]
theorem nS_at {kd n m : Int} {q : Qt} {g : Nat → Nat} {pc : Nat} {on : Bool} (k2 : kd ≠ 2) (k3 : kd ≠ 3) {k : Nat} {r : Er} (hr : rs[k]? = some (some r)) :
    ∃ r', nS kd (k : Int) n m q g pc on rs last = rs.set k (some r') ∧ (sx kd n m g pc on r.told r'.told).head = r'.told.head := by
  have hl := look_at' hr
  have same : ∃ r', rs = rs.set k (some r') ∧ r.told.head = r'.told.head := ⟨r, (set_same hr).symm, rfl⟩
  unfold nS
  rw [if_neg k2, if_neg k3]
  by_cases k5 : kd = 5
  · subst k5; exact ⟨_, atE_some hl, rfl⟩
  rw [if_neg k5]
  by_cases k6 : kd = 6
  · subst k6
    rw [if_pos rfl]
    unfold stS
    by_cases hc : (0 ≤ n ∧ n ≤ 4) ∧ (0 ≤ m ∧ m ≤ 4294967295)
    · rw [if_pos hc]
      refine ⟨_, atE_some hl, ?_⟩
      simp only [sx, if_pos hc]
      rfl
    · rw [if_neg hc]
      simp only [sx, if_neg hc]
      exact same
  rw [if_neg k6]
  by_cases k7 : kd = 7
  · subst k7
    rw [if_pos rfl]
    unfold btS
    by_cases hc : 0 ≤ n ∧ n ≤ 4294967295
    · rw [if_pos hc]
      refine ⟨_, atE_some hl, ?_⟩
      simp only [sx, if_pos hc]
      rfl
    · rw [if_neg hc]
      simp only [sx, if_neg hc]
      exact same
  rw [if_neg k7]
  by_cases k8 : kd = 8
  · subst k8
    rw [if_pos rfl]
    unfold noS
    by_cases hc : 0 ≤ n ∧ n ≤ 4294967295
    · rw [if_pos hc]
      refine ⟨_, atE_some hl, ?_⟩
      unfold noticed
      split
      · rfl
      · rfl
    · rw [if_neg hc]
      exact ⟨r, (set_same hr).symm, rfl⟩
  rw [if_neg k8]
  by_cases k9 : kd = 9
  · subst k9
    refine ⟨_, atE_some hl, ?_⟩
    unfold waited
    split
    · rfl
    · rfl
  rw [if_neg k9]
  by_cases k10 : kd = 10
  · subst k10; exact ⟨_, atE_some hl, rfl⟩
  rw [if_neg k10]
  by_cases k11 : kd = 11
  · subst k11
    rw [if_pos rfl]
    unfold payS
    rw [hl]
    dsimp only
    split
    · split
      · exact ⟨_, rfl, rfl⟩
      · exact ⟨r, (set_same hr).symm, rfl⟩
    · exact ⟨r, (set_same hr).symm, rfl⟩
  rw [if_neg k11]
  by_cases k12 : kd = 12
  · subst k12
    rw [if_pos rfl]
    unfold refS
    rw [hl]
    dsimp only
    split
    · exact ⟨_, rfl, rfl⟩
    · exact ⟨r, (set_same hr).symm, rfl⟩
  rw [if_neg k12]
  refine ⟨r, (set_same hr).symm, ?_⟩
  unfold sx
  rw [if_neg k5, if_neg k6, if_neg k7, if_neg k10, if_neg (by omega), if_neg (by omega)]
/-- one record set: what is told of the others -/
theorem tf_set {k : Nat} {r' : Er} {i : Nat} (hi : i ≠ k) : tf (rs.set k (some r')) i = tf rs i := by
  unfold tf; rw [look_nat, look_nat, List.getElem?_set_ne (fun e => hi e.symm)]
theorem tg_set {k : Nat} {r' : Er} {i : Nat} (hi : i ≠ k) : tg (rs.set k (some r')) i = tg rs i := by
  unfold tg; rw [look_nat, look_nat, List.getElem?_set_ne (fun e => hi e.symm)]
theorem tf_self {k : Nat} {r : Er} (hr : rs[k]? = some (some r)) : tf rs k = r.told := by unfold tf; rw [look_at' hr]
theorem tg_self {k : Nat} {r : Er} (hr : rs[k]? = some (some r)) : tg rs k = 0 := by unfold tg; rw [look_at' hr]
theorem set_self {k : Nat} {r' : Er} (hk : k < rs.length) : (rs.set k (some r'))[k]? = some (some r') := List.getElem?_set_self hk
/-- what is told of others stays -/
theorem nS_others {kd e n m : Int} {q : Qt} {g : Nat → Nat} {pc : Nat} {on : Bool} (k2 : kd ≠ 2) (k3 : kd ≠ 3) {i : Nat} (hi : (i : Int) ≠ e) : tf (nS kd e n m q g pc on rs last) i = tf rs i ∧ tg (nS kd e n m q g pc on rs last) i = tg rs i := by
  cases hl : look rs e with
  | none => rw [nS_no k2 k3 hl]; exact ⟨rfl, rfl⟩
  | some r =>
    obtain ⟨k, rfl, hr⟩ := look_some hl
    obtain ⟨r', h1, _⟩ := nS_at (q := q) (g := g) (pc := pc) (on := on) (n := n) (m := m) (last := last) k2 k3 hr
    rw [h1]
    have hne : i ≠ k := fun e => hi (by rw [e])
    exact ⟨tf_set hne, tg_set hne⟩
/-- what comes and goes: of the others all is told as before, but the parent's Left -/
structure Cm (rs rs' : List (Option Er)) (pr : Int) : Prop where
  g : ∀ i, i < 16 → lvb rs i = lvb rs' i → tg rs i = tg rs' i
  f : ∀ i, i < 16 → lvb rs i = lvb rs' i → (if (i : Int) = pr then { tf rs i with lf := (tf rs' i).lf } else tf rs i).head = (tf rs' i).head
  s : (∀ i, i < 16 → lvb rs i = lvb rs' i) → rs' = rs
theorem Cm.same (pr : Int) : Cm rs rs pr := ⟨fun _ _ _ => rfl, fun i _ _ => by split <;> rfl, fun _ => rfl⟩
theorem lvb_cases (rs : List (Option Er)) (i : Nat) : (∃ r, rs[i]? = some (some r) ∧ lvb rs i = true ∧ tf rs i = r.told ∧ tg rs i = 0) ∨ ((∀ r, rs[i]? ≠ some (some r)) ∧ lvb rs i = false ∧ tf rs i = Er.nil ∧ tg rs i = 90) := by
  cases h : lvb rs i with
  | true =>
    obtain ⟨r, hr⟩ := lv_core.2 h
    exact .inl ⟨r, hr, rfl, tf_self hr, tg_self hr⟩
  | false =>
    have hn : ∀ r, rs[i]? ≠ some (some r) := fun r hr => by rw [lvb_yes hr] at h; cases h
    have hl : look rs (i : Int) = none := by
      cases h2 : look rs (i : Int) with
      | none => rfl
      | some r =>
        obtain ⟨k, hk, hr⟩ := look_some h2
        have : i = k := by omega
        subst this
        exact (hn r hr).elim
    exact .inr ⟨hn, rfl, by unfold tf; rw [hl], by unfold tg; rw [hl]⟩
theorem tg_lvb (rs : List (Option Er)) (i : Nat) : decide (tg rs i = 0) = lvb rs i := by
  rcases lvb_cases rs i with ⟨r, _, h1, _, h2⟩ | ⟨_, h1, _, h2⟩ <;> rw [h1, h2] <;> rfl
/-- a step by which one record's Left is changed and others come or go -/
theorem Cm.of {rs rs' : List (Option Er)} {pr : Int} {x : Nat} (hx : x < 16) (hd : lvb rs x ≠ lvb rs' x)
    (h : ∀ (i : Nat) (r r' : Er), rs[i]? = some (some r) → rs'[i]? = some (some r') → r' = r ∨ ((i : Int) = pr ∧ ∃ l, r' = { r with le := l })) : Cm rs rs' pr := by
  refine ⟨fun i _ e => ?_, fun i _ e => ?_, fun e => (hd (e x hx)).elim⟩
  · rcases lvb_cases rs i with ⟨r, h1, h2, _, h4⟩ | ⟨h1, h2, _, h4⟩ <;> rcases lvb_cases rs' i with ⟨r', g1, g2, _, g4⟩ | ⟨g1, g2, _, g4⟩
    · rw [h4, g4]
    · rw [h2, g2] at e; cases e
    · rw [h2, g2] at e; cases e
    · rw [h4, g4]
  · rcases lvb_cases rs i with ⟨r, h1, h2, h3, _⟩ | ⟨h1, h2, h3, _⟩ <;> rcases lvb_cases rs' i with ⟨r', g1, g2, g3, _⟩ | ⟨g1, g2, g3, _⟩
    · rw [h3, g3]
      rcases h i r r' h1 g1 with rfl | ⟨e1, l, rfl⟩
      · split <;> rfl
      · rw [if_pos e1]; rfl
    · rw [h2, g2] at e; cases e
    · rw [h2, g2] at e; cases e
    · rw [h3, g3]; split <;> rfl
theorem cm_create (h : Iv rs last) {e n : Int} {q : Qt} : Cm rs (crS rs last e n q) e := by
  have h16 := h.tr.len
  by_cases hc : crE rs last e n q = 0
  · obtain ⟨k, r, he, hr, _, _, _, _, hff⟩ := crE_zero2 hc
    rw [crS_at hc he hr]
    have hfree : rs[ff rs]? = some none := ff_free (by rw [h16]; exact hff)
    have hne : ff rs ≠ k := fun e => by rw [e, hr] at hfree; cases hfree
    refine Cm.of (x := ff rs) hff ?_ ?_
    · rw [lvb_no hfree, lvb_yes (r := Er.new n e q) (by rw [List.getElem?_set_ne (fun e => hne e.symm), List.getElem?_set_self (by rw [h16]; exact hff)])]
      decide
    · intro i x y hx hy
      by_cases e1 : i = k
      · subst e1
        rw [List.getElem?_set_self (by rw [List.length_set]; exact look_len hr)] at hy
        rw [hr] at hx
        cases hx; cases hy
        exact .inr ⟨he.symm, _, rfl⟩
      · rw [List.getElem?_set_ne (fun e => e1 e.symm)] at hy
        by_cases e2 : i = ff rs
        · subst e2; rw [hfree] at hx; cases hx
        · rw [List.getElem?_set_ne (fun e => e2 e.symm), hx] at hy
          cases hy; exact .inl rfl
  · have : crS rs last e n q = rs := by
      unfold crS
      split
      · rfl
      · rw [if_neg hc]
    rw [this]; exact Cm.same _
theorem cm_destroy (h : Iv rs last) {e : Int} : Cm rs (dsS rs e) (if 0 ≤ e ∧ e < 16 then (tf rs e.toNat).pa else -1) := by
  have h16 := h.tr.len
  by_cases hc : dsE rs e = 0
  · obtain ⟨k, r, rfl, hr, hk0, _, hS⟩ := dsE_zero hc
    rw [hS]
    obtain ⟨p, rp, hp, hrp, hpk⟩ := par_of h hr hk0
    rw [dsP_at hp hrp]
    have hk16 : k < 16 := by have := look_len hr; omega
    rw [if_pos ⟨by omega, by omega⟩, show ((k : Nat) : Int).toNat = k from rfl, tf_self hr]
    refine Cm.of (x := k) hk16 ?_ ?_
    · rw [lvb_yes hr, lvb_no (drops_gone _ _ k (wk_self 17 k) (by rw [List.length_set, h16]; exact hk16))]
      decide
    · intro i x y hx hy
      obtain ⟨h1, h2⟩ := drops_some hy
      by_cases e1 : i = p
      · subst e1
        rw [List.getElem?_set_self (look_len hrp)] at h2
        rw [hrp] at hx
        cases hx; cases h2
        exact .inr ⟨hp.symm, _, rfl⟩
      · rw [List.getElem?_set_ne (fun e => e1 e.symm), hx] at h2
        cases h2; exact .inl rfl
  · have : dsS rs e = rs := by
      unfold dsE at hc
      unfold dsS
      split
      · rfl
      · rename_i r hl
        rw [hl] at hc
        dsimp only at hc
        split
        · rfl
        · rename_i h0; rw [if_neg h0] at hc; exact (hc rfl).elim
    rw [this]; exact Cm.same _
end
end Go.Proofs.Ytoddadohmnaolaa

namespace Go.Proofs.Ytoddadohmnaolaa
open Go.ChangeShapes Go.WideShapes Go.ChangeAt Go.RowKit Go.Deep Go.Shelf Go.Great

/-- what is told of one, as cells of a block -/
theorem tc_env {w : World} {N : Nat} {cs : List Value} {f : Nat → Er} {g : Nat → Int} (h : w.heap[N]? = some (.cells cs.toArray 52 (0, 0))) (hT : Tc cs f g) {i : Nat} (hi : i < 16) : (∀ (j : Nat) (v : Value), (f i).head[j]? = some v → w.cell? ((⟨N, i * 21, none⟩ : Addr).add j) = some v) ∧ w.cell? ⟨N, 336 + i, none⟩ = some (.int .i64 (g i)) := by
  constructor
  · intro j v hv
    have hj : j < 21 := by have := (List.getElem?_eq_some_iff.1 hv).1; rw [head_len] at this; exact this
    have h1 := hT.env i hi j hj
    rw [hv] at h1
    rw [show (⟨N, i * 21, none⟩ : Addr).add j = ⟨N, i * 21 + j, none⟩ by simp [Addr.add], cell_of_row _ _ _ _ _ _ h]
    simpa using h1
  · rw [cell_of_row _ _ _ _ _ _ h]
    simpa using hT.err i hi
set_option maxRecDepth 100000 in
set_option maxHeartbeats 6400000 in
theorem only_any (w : World) (cs cs2 : List Value) (f f2 : Nat → Er) (g g2 : Nat → Int) (e : Int) (h1 : Tc cs f g) (h2 : Tc cs2 f2 g2) (hf : ∀ i : Nat, i < 16 → (i : Int) ≠ e → f2 i = f i) (hg : ∀ i : Nat, i < 16 → (i : Int) ≠ e → g2 i = g i) :
    Calls Try.prog 29 #[.agg cs.toArray, .agg cs2.toArray, .int .i64 e, .int .i64 e] w fun x w' => x = .returned (.bool true) ∧ Below w.heap.size w w' := by
  have hb1 := (Below.refl w.heap.size w).alloc (Nat.le_refl _) (.cells cs.toArray 52)
  have a1 := heap_alloc_new w (.cells cs.toArray 52)
  have hb2 := hb1.alloc (by simp) (.cells cs2.toArray 52)
  have a2 := heap_alloc_new (w.alloc (.cells cs.toArray 52)) (.cells cs2.toArray 52)
  have a3 : ((w.alloc (.cells cs.toArray 52)).alloc (.cells cs2.toArray 52)).heap[w.heap.size]? = some (.cells cs.toArray 52 (0, 0)) := by rw [Below.heap_alloc _ _ _ (by simp)]; exact a1
  have hne : (w.alloc (.cells cs.toArray 52)).heap.size = w.heap.size + 1 := by simp
  have HT1 := hide h1
  have HT2 := hide h2
  have HF := hide hf
  have HG := hide hg
  clear h1 h2 hf hg
  go_enter Try.func29, Try.ntmps29
  go_upto_region 1 with fail
  rw [hne] at a2
  clear hb1 a1 hne
  generalize (w.alloc (.cells cs.toArray 52)).alloc (.cells cs2.toArray 52) = w2 at *
  have HB := hide hb2
  have H1 := hide a3
  have H2 := hide a2
  clear hb2 a3 a2
  obtain ⟨N, hN⟩ : ∃ N, N = w.heap.size := ⟨_, rfl⟩
  rw [← hN] at HB H1 H2 ⊢
  have HN := hide hN
  clear hN
  go_upto_region 2 with fail
  go_loopw [9] (fun x wr => ∃ j : Nat, j ≤ 16 ∧ x = .int .i64 (j : Int) ∧ Hid (wr.heap[N]? = some (.cells cs.toArray 52 (0, 0))) ∧ Hid (wr.heap[N + 1]? = some (.cells cs2.toArray 52 (0, 0))) ∧ Hid (Below N w wr)) (fun x _ => 16 - (intOf x).toNat)
  case atStart => exact ⟨0, by omega, rfl, H1, H2, HB⟩
  case round =>
  clear H2 H1 HB
  obtain ⟨j, hj, rfl, K1, K2, KB⟩ := hrel
  by_cases h16 : j < 16
  · have hd : decide ((j : Int) < 16) = true := by simp; omega
    have hj3 : (j : Int) < 16 := by omega
    go_upto_region 4 with fail
    obtain ⟨w4, hw4⟩ : ∃ w4, w4 = wr.drew := ⟨_, rfl⟩
    have hb4 : Below wr.heap.size wr w4 := by rw [hw4]; exact ⟨rfl, rfl, rfl, Nat.le_refl _, fun _ _ => rfl⟩
    have L1 := hide ((hb4.block _ (Array.getElem?_eq_some_iff.1 K1.out).1).trans K1.out)
    have L2 := hide ((hb4.block _ (Array.getElem?_eq_some_iff.1 K2.out).1).trans K2.out)
    have LB := hide (KB.out.trans (hb4.mono (by rw [HN.out]; exact KB.out.size)))
    clear K1 K2 KB hb4
    by_cases he : (j : Int) = e
    · subst he
      have hnb : ((j : Int) != (j : Int)) = false := by simp
      have HS := hide True.intro
      refine wp_region_held_drew (S := fun _ => True) (by kernel_rfl) True.intro (fun _ => ?_)
      rw [← hw4]
      clear hw4
      refine hd_take 0 (o := ⟨some 14, _, _, _, _, _⟩) (.int .i64 (j : Int)) (by kernel_rfl) (by kernel_rfl) (by kernel_rfl) rfl (by rfl) (fun W hSw => by go_simp) (fun _ _ _ h => h) HS.out ?_
      try simp only [Act.put, List.setIfInBounds_toArray, List.set_cons_zero, List.set_cons_succ]
      refine hd_take 1 (o := ⟨some 15, _, _, _, _, _⟩) (.int .i64 (j : Int)) (by kernel_rfl) (by kernel_rfl) (by kernel_rfl) rfl (by rfl) (fun W hSw => by go_simp) (fun _ _ _ h => h) HS.out ?_
      try simp only [Act.put, List.setIfInBounds_toArray, List.set_cons_zero, List.set_cons_succ]
      refine hd_take 2 (o := ⟨some 16, _, _, _, _, _⟩) (.bool false) (by kernel_rfl) (by kernel_rfl) (by kernel_rfl) rfl (by rfl) (fun W hSw => by go_simp) (fun _ _ _ h => h) HS.out ?_
      try simp only [Act.put, List.setIfInBounds_toArray, List.set_cons_zero, List.set_cons_succ]
      refine hd_take 3 (o := ⟨some 17, _, _, _, _, _⟩) (.bool false) (by kernel_rfl) (by kernel_rfl) (by kernel_rfl) rfl (by rfl) (fun W hSw => by go_simp) (fun _ _ _ h => h) HS.out ?_
      try simp only [Act.put, List.setIfInBounds_toArray, List.set_cons_zero, List.set_cons_succ]
      refine hd_skip 4 (o := ⟨some 18, _, _, _, _, _⟩) (by kernel_rfl) (by kernel_rfl) (by kernel_rfl) rfl (by rfl) (fun _ _ _ h => h) HS.out ?_
      try simp only [Act.put, List.setIfInBounds_toArray, List.set_cons_zero, List.set_cons_succ]
      refine hd_skip 5 (o := ⟨some 19, _, _, _, _, _⟩) (by kernel_rfl) (by kernel_rfl) (by kernel_rfl) rfl (by rfl) (fun _ _ _ h => h) HS.out ?_
      try simp only [Act.put, List.setIfInBounds_toArray, List.set_cons_zero, List.set_cons_succ]
      refine hd_skip 6 (o := ⟨some 20, _, _, _, _, _⟩) (by kernel_rfl) (by kernel_rfl) (by kernel_rfl) rfl (by rfl) (fun _ _ _ h => h) HS.out ?_
      try simp only [Act.put, List.setIfInBounds_toArray, List.set_cons_zero, List.set_cons_succ]
      refine hd_take 7 (o := ⟨some 21, _, _, _, _, _⟩) (.bool false) (by kernel_rfl) (by kernel_rfl) (by kernel_rfl) rfl (by rfl) (fun W hSw => by go_simp) (fun _ _ _ h => h) HS.out ?_
      try simp only [Act.put, List.setIfInBounds_toArray, List.set_cons_zero, List.set_cons_succ]
      refine hd_take 8 (o := ⟨some 22, _, _, _, _, _⟩) (.bool false) (by kernel_rfl) (by kernel_rfl) (by kernel_rfl) rfl (by rfl) (fun W hSw => by go_simp) (fun _ _ _ h => h) HS.out ?_
      try simp only [Act.put, List.setIfInBounds_toArray, List.set_cons_zero, List.set_cons_succ]
      refine hd_skip 9 (o := ⟨some 23, _, _, _, _, _⟩) (by kernel_rfl) (by kernel_rfl) (by kernel_rfl) rfl (by rfl) (fun _ _ _ h => h) HS.out ?_
      try simp only [Act.put, List.setIfInBounds_toArray, List.set_cons_zero, List.set_cons_succ]
      refine hd_skip 10 (o := ⟨some 24, _, _, _, _, _⟩) (by kernel_rfl) (by kernel_rfl) (by kernel_rfl) rfl (by rfl) (fun _ _ _ h => h) HS.out ?_
      try simp only [Act.put, List.setIfInBounds_toArray, List.set_cons_zero, List.set_cons_succ]
      refine hd_skip 11 (o := ⟨some 25, _, _, _, _, _⟩) (by kernel_rfl) (by kernel_rfl) (by kernel_rfl) rfl (by rfl) (fun _ _ _ h => h) HS.out ?_
      try simp only [Act.put, List.setIfInBounds_toArray, List.set_cons_zero, List.set_cons_succ]
      refine hd_skip 12 (o := ⟨some 26, _, _, _, _, _⟩) (by kernel_rfl) (by kernel_rfl) (by kernel_rfl) rfl (by rfl) (fun _ _ _ h => h) HS.out ?_
      try simp only [Act.put, List.setIfInBounds_toArray, List.set_cons_zero, List.set_cons_succ]
      refine hd_skip 13 (o := ⟨some 27, _, _, _, _, _⟩) (by kernel_rfl) (by kernel_rfl) (by kernel_rfl) rfl (by rfl) (fun _ _ _ h => h) HS.out ?_
      try simp only [Act.put, List.setIfInBounds_toArray, List.set_cons_zero, List.set_cons_succ]
      refine hd_skip 14 (o := ⟨some 28, _, _, _, _, _⟩) (by kernel_rfl) (by kernel_rfl) (by kernel_rfl) rfl (by rfl) (fun _ _ _ h => h) HS.out ?_
      try simp only [Act.put, List.setIfInBounds_toArray, List.set_cons_zero, List.set_cons_succ]
      refine hd_skip 15 (o := ⟨some 29, _, _, _, _, _⟩) (by kernel_rfl) (by kernel_rfl) (by kernel_rfl) rfl (by rfl) (fun _ _ _ h => h) HS.out ?_
      try simp only [Act.put, List.setIfInBounds_toArray, List.set_cons_zero, List.set_cons_succ]
      refine hd_skip 16 (o := ⟨some 30, _, _, _, _, _⟩) (by kernel_rfl) (by kernel_rfl) (by kernel_rfl) rfl (by rfl) (fun _ _ _ h => h) HS.out ?_
      try simp only [Act.put, List.setIfInBounds_toArray, List.set_cons_zero, List.set_cons_succ]
      refine hd_skip 17 (o := ⟨some 31, _, _, _, _, _⟩) (by kernel_rfl) (by kernel_rfl) (by kernel_rfl) rfl (by rfl) (fun _ _ _ h => h) HS.out ?_
      try simp only [Act.put, List.setIfInBounds_toArray, List.set_cons_zero, List.set_cons_succ]
      refine hd_skip 18 (o := ⟨some 32, _, _, _, _, _⟩) (by kernel_rfl) (by kernel_rfl) (by kernel_rfl) rfl (by rfl) (fun _ _ _ h => h) HS.out ?_
      try simp only [Act.put, List.setIfInBounds_toArray, List.set_cons_zero, List.set_cons_succ]
      refine hd_skip 19 (o := ⟨some 33, _, _, _, _, _⟩) (by kernel_rfl) (by kernel_rfl) (by kernel_rfl) rfl (by rfl) (fun _ _ _ h => h) HS.out ?_
      try simp only [Act.put, List.setIfInBounds_toArray, List.set_cons_zero, List.set_cons_succ]
      refine hd_skip 20 (o := ⟨some 34, _, _, _, _, _⟩) (by kernel_rfl) (by kernel_rfl) (by kernel_rfl) rfl (by rfl) (fun _ _ _ h => h) HS.out ?_
      try simp only [Act.put, List.setIfInBounds_toArray, List.set_cons_zero, List.set_cons_succ]
      refine hd_skip 21 (o := ⟨some 35, _, _, _, _, _⟩) (by kernel_rfl) (by kernel_rfl) (by kernel_rfl) rfl (by rfl) (fun _ _ _ h => h) HS.out ?_
      try simp only [Act.put, List.setIfInBounds_toArray, List.set_cons_zero, List.set_cons_succ]
      refine hd_skip 22 (o := ⟨some 36, _, _, _, _, _⟩) (by kernel_rfl) (by kernel_rfl) (by kernel_rfl) rfl (by rfl) (fun _ _ _ h => h) HS.out ?_
      try simp only [Act.put, List.setIfInBounds_toArray, List.set_cons_zero, List.set_cons_succ]
      refine hd_skip 23 (o := ⟨some 37, _, _, _, _, _⟩) (by kernel_rfl) (by kernel_rfl) (by kernel_rfl) rfl (by rfl) (fun _ _ _ h => h) HS.out ?_
      try simp only [Act.put, List.setIfInBounds_toArray, List.set_cons_zero, List.set_cons_succ]
      refine hd_skip 24 (o := ⟨some 38, _, _, _, _, _⟩) (by kernel_rfl) (by kernel_rfl) (by kernel_rfl) rfl (by rfl) (fun _ _ _ h => h) HS.out ?_
      try simp only [Act.put, List.setIfInBounds_toArray, List.set_cons_zero, List.set_cons_succ]
      refine hd_skip 25 (o := ⟨some 39, _, _, _, _, _⟩) (by kernel_rfl) (by kernel_rfl) (by kernel_rfl) rfl (by rfl) (fun _ _ _ h => h) HS.out ?_
      try simp only [Act.put, List.setIfInBounds_toArray, List.set_cons_zero, List.set_cons_succ]
      refine hd_skip 26 (o := ⟨some 40, _, _, _, _, _⟩) (by kernel_rfl) (by kernel_rfl) (by kernel_rfl) rfl (by rfl) (fun _ _ _ h => h) HS.out ?_
      try simp only [Act.put, List.setIfInBounds_toArray, List.set_cons_zero, List.set_cons_succ]
      refine hd_skip 27 (o := ⟨some 41, _, _, _, _, _⟩) (by kernel_rfl) (by kernel_rfl) (by kernel_rfl) rfl (by rfl) (fun _ _ _ h => h) HS.out ?_
      try simp only [Act.put, List.setIfInBounds_toArray, List.set_cons_zero, List.set_cons_succ]
      refine hd_skip 28 (o := ⟨some 42, _, _, _, _, _⟩) (by kernel_rfl) (by kernel_rfl) (by kernel_rfl) rfl (by rfl) (fun _ _ _ h => h) HS.out ?_
      try simp only [Act.put, List.setIfInBounds_toArray, List.set_cons_zero, List.set_cons_succ]
      refine hd_take 29 (o := ⟨some 43, _, _, _, _, _⟩) (.bool false) (by kernel_rfl) (by kernel_rfl) (by kernel_rfl) rfl (by rfl) (fun W hSw => by go_simp) (fun _ _ _ h => h) HS.out ?_
      try simp only [Act.put, List.setIfInBounds_toArray, List.set_cons_zero, List.set_cons_succ]
      refine wpAnyH_done (by kernel_rfl) ?_ _
      clear HS
      go_wp2_with fail
      go_roundw
      case rel =>
        first
          | exact ⟨j + 1, by omega, by go_num, L1, L2, LB⟩
          | ((repeat apply Exists.intro); refine ⟨?_, rfl⟩; exact ⟨j + 1, by omega, by go_num, L1, L2, LB⟩)
      case measure => simp [intOf]; omega
    · have hnb : ((j : Int) != e) = true := by simp [he]
      obtain ⟨x1, x3⟩ := tc_env L1.out HT1.out h16
      obtain ⟨x2, x4⟩ := tc_env L2.out HT2.out h16
      rw [HF.out j h16 he] at x2
      rw [HG.out j h16 he] at x4
      generalize f j = r at x1 x2
      generalize g j = z at x3 x4
      have HS : Hid ((∀ (i : Nat) (v : Value), r.head[i]? = some v → w4.cell? ((⟨N, j * 21, none⟩ : Addr).add i) = some v) ∧ (∀ (i : Nat) (v : Value), r.head[i]? = some v → w4.cell? ((⟨N + 1, j * 21, none⟩ : Addr).add i) = some v) ∧ w4.cell? ⟨N, 336 + j, none⟩ = some (.int .i64 z) ∧ w4.cell? ⟨N + 1, 336 + j, none⟩ = some (.int .i64 z)) := hide ⟨x1, x2, x3, x4⟩
      clear x1 x2 x3 x4
      refine wp_region_held_drew (S := fun W => (∀ (i : Nat) (v : Value), r.head[i]? = some v → W.cell? ((⟨N, j * 21, none⟩ : Addr).add i) = some v) ∧ (∀ (i : Nat) (v : Value), r.head[i]? = some v → W.cell? ((⟨N + 1, j * 21, none⟩ : Addr).add i) = some v) ∧ W.cell? ⟨N, 336 + j, none⟩ = some (.int .i64 z) ∧ W.cell? ⟨N + 1, 336 + j, none⟩ = some (.int .i64 z)) (by kernel_rfl) (by rw [← hw4]; exact HS.out) (fun _ => ?_)
      rw [← hw4]
      clear hw4
      refine hd_take 0 (o := ⟨some 14, _, _, _, _, _⟩) (.int .i64 (j : Int)) (by kernel_rfl) (by kernel_rfl) (by kernel_rfl) rfl (by rfl) (fun W hSw => by go_simp) (fun _ _ _ h => h) HS.out ?_
      try simp only [Act.put, List.setIfInBounds_toArray, List.set_cons_zero, List.set_cons_succ]
      refine hd_take 1 (o := ⟨some 15, _, _, _, _, _⟩) (.int .i64 e) (by kernel_rfl) (by kernel_rfl) (by kernel_rfl) rfl (by rfl) (fun W hSw => by go_simp) (fun _ _ _ h => h) HS.out ?_
      try simp only [Act.put, List.setIfInBounds_toArray, List.set_cons_zero, List.set_cons_succ]
      refine hd_take 2 (o := ⟨some 16, _, _, _, _, _⟩) (.bool true) (by kernel_rfl) (by kernel_rfl) (by kernel_rfl) rfl (by rfl) (fun W hSw => by go_simp) (fun _ _ _ h => h) HS.out ?_
      try simp only [Act.put, List.setIfInBounds_toArray, List.set_cons_zero, List.set_cons_succ]
      refine hd_take 3 (o := ⟨some 17, _, _, _, _, _⟩) (.bool true) (by kernel_rfl) (by kernel_rfl) (by kernel_rfl) rfl (by rfl) (fun W hSw => by go_simp) (fun _ _ _ h => h) HS.out ?_
      try simp only [Act.put, List.setIfInBounds_toArray, List.set_cons_zero, List.set_cons_succ]
      refine hd_take 4 (o := ⟨some 18, _, _, _, _, _⟩) (.int .i64 (j : Int)) (by kernel_rfl) (by kernel_rfl) (by kernel_rfl) rfl (by rfl) (fun W hSw => by go_simp) (fun _ _ _ h => h) HS.out ?_
      try simp only [Act.put, List.setIfInBounds_toArray, List.set_cons_zero, List.set_cons_succ]
      refine hd_take 5 (o := ⟨some 19, _, _, _, _, _⟩) (.int .i64 e) (by kernel_rfl) (by kernel_rfl) (by kernel_rfl) rfl (by rfl) (fun W hSw => by go_simp) (fun _ _ _ h => h) HS.out ?_
      try simp only [Act.put, List.setIfInBounds_toArray, List.set_cons_zero, List.set_cons_succ]
      refine hd_take 6 (o := ⟨some 20, _, _, _, _, _⟩) (.bool true) (by kernel_rfl) (by kernel_rfl) (by kernel_rfl) rfl (by rfl) (fun W hSw => by go_simp) (fun _ _ _ h => h) HS.out ?_
      try simp only [Act.put, List.setIfInBounds_toArray, List.set_cons_zero, List.set_cons_succ]
      refine hd_take 7 (o := ⟨some 21, _, _, _, _, _⟩) (.bool true) (by kernel_rfl) (by kernel_rfl) (by kernel_rfl) rfl (by rfl) (fun W hSw => by go_simp) (fun _ _ _ h => h) HS.out ?_
      try simp only [Act.put, List.setIfInBounds_toArray, List.set_cons_zero, List.set_cons_succ]
      refine hd_take 8 (o := ⟨some 22, _, _, _, _, _⟩) (.bool true) (by kernel_rfl) (by kernel_rfl) (by kernel_rfl) rfl (by rfl) (fun W hSw => by go_simp) (fun _ _ _ h => h) HS.out ?_
      try simp only [Act.put, List.setIfInBounds_toArray, List.set_cons_zero, List.set_cons_succ]
      refine hd_take 9 (o := ⟨some 23, _, _, _, _, _⟩) (.int .i64 (j : Int)) (by kernel_rfl) (by kernel_rfl) (by kernel_rfl) rfl (by rfl) (fun W hSw => by go_simp) (fun _ _ _ h => h) HS.out ?_
      try simp only [Act.put, List.setIfInBounds_toArray, List.set_cons_zero, List.set_cons_succ]
      refine hd_take 10 (o := ⟨some 24, _, _, _, _, _⟩) (.pointer (some ⟨N, 0, none⟩)) (by kernel_rfl) (by kernel_rfl) (by kernel_rfl) rfl (by rfl) (fun W hSw => by go_simp) (fun _ _ _ h => h) HS.out ?_
      try simp only [Act.put, List.setIfInBounds_toArray, List.set_cons_zero, List.set_cons_succ]
      refine hd_take 11 (o := ⟨some 25, _, _, _, _, _⟩) (.pointer (some ⟨N, j * 21, none⟩)) (by kernel_rfl) (by kernel_rfl) (by kernel_rfl) rfl (by rfl) (fun W hSw => by go_simp) (fun _ _ _ h => h) HS.out ?_
      try simp only [Act.put, List.setIfInBounds_toArray, List.set_cons_zero, List.set_cons_succ]
      refine hd_take 12 (o := ⟨some 26, _, _, _, _, _⟩) (.agg r.head.toArray) (by kernel_rfl) (by kernel_rfl) (by kernel_rfl) rfl (by rfl) (fun W hSw => by exact run_loadT Try.underlying41 rfl r.head (by rw [head_len]; exact infoE) _ rfl ⟨N, j * 21, none⟩ rfl (by obtain ⟨s1, s2, s3, s4⟩ := hSw; exact s1)) (fun _ _ _ h => h) HS.out ?_
      try simp only [Act.put, List.setIfInBounds_toArray, List.set_cons_zero, List.set_cons_succ]
      refine hd_take 13 (o := ⟨some 27, _, _, _, _, _⟩) (.int .i64 (j : Int)) (by kernel_rfl) (by kernel_rfl) (by kernel_rfl) rfl (by rfl) (fun W hSw => by go_simp) (fun _ _ _ h => h) HS.out ?_
      try simp only [Act.put, List.setIfInBounds_toArray, List.set_cons_zero, List.set_cons_succ]
      refine hd_take 14 (o := ⟨some 28, _, _, _, _, _⟩) (.pointer (some ⟨N + 1, 0, none⟩)) (by kernel_rfl) (by kernel_rfl) (by kernel_rfl) rfl (by rfl) (fun W hSw => by go_simp) (fun _ _ _ h => h) HS.out ?_
      try simp only [Act.put, List.setIfInBounds_toArray, List.set_cons_zero, List.set_cons_succ]
      refine hd_take 15 (o := ⟨some 29, _, _, _, _, _⟩) (.pointer (some ⟨N + 1, j * 21, none⟩)) (by kernel_rfl) (by kernel_rfl) (by kernel_rfl) rfl (by rfl) (fun W hSw => by go_simp) (fun _ _ _ h => h) HS.out ?_
      try simp only [Act.put, List.setIfInBounds_toArray, List.set_cons_zero, List.set_cons_succ]
      refine hd_take 16 (o := ⟨some 30, _, _, _, _, _⟩) (.agg r.head.toArray) (by kernel_rfl) (by kernel_rfl) (by kernel_rfl) rfl (by rfl) (fun W hSw => by exact run_loadT Try.underlying41 rfl r.head (by rw [head_len]; exact infoE) _ rfl ⟨N + 1, j * 21, none⟩ rfl (by obtain ⟨s1, s2, s3, s4⟩ := hSw; exact s2)) (fun _ _ _ h => h) HS.out ?_
      try simp only [Act.put, List.setIfInBounds_toArray, List.set_cons_zero, List.set_cons_succ]
      refine hd_take 17 (o := ⟨some 31, _, _, _, _, _⟩) (.bool false) (by kernel_rfl) (by kernel_rfl) (by kernel_rfl) rfl (by rfl) (fun W hSw => by exact run_neqT r.head.toArray (se_env 9996 r) (by kernel_rfl) _ _ rfl rfl rfl) (fun _ _ _ h => h) HS.out ?_
      try simp only [Act.put, List.setIfInBounds_toArray, List.set_cons_zero, List.set_cons_succ]
      refine hd_take 18 (o := ⟨some 32, _, _, _, _, _⟩) (.bool false) (by kernel_rfl) (by kernel_rfl) (by kernel_rfl) rfl (by rfl) (fun W hSw => by go_simp) (fun _ _ _ h => h) HS.out ?_
      try simp only [Act.put, List.setIfInBounds_toArray, List.set_cons_zero, List.set_cons_succ]
      refine hd_take 19 (o := ⟨some 33, _, _, _, _, _⟩) (.int .i64 (j : Int)) (by kernel_rfl) (by kernel_rfl) (by kernel_rfl) rfl (by rfl) (fun W hSw => by go_simp) (fun _ _ _ h => h) HS.out ?_
      try simp only [Act.put, List.setIfInBounds_toArray, List.set_cons_zero, List.set_cons_succ]
      refine hd_take 20 (o := ⟨some 34, _, _, _, _, _⟩) (.pointer (some ⟨N, 336, none⟩)) (by kernel_rfl) (by kernel_rfl) (by kernel_rfl) rfl (by rfl) (fun W hSw => by go_simp) (fun _ _ _ h => h) HS.out ?_
      try simp only [Act.put, List.setIfInBounds_toArray, List.set_cons_zero, List.set_cons_succ]
      refine hd_take 21 (o := ⟨some 35, _, _, _, _, _⟩) (.pointer (some ⟨N, 336 + j, none⟩)) (by kernel_rfl) (by kernel_rfl) (by kernel_rfl) rfl (by rfl) (fun W hSw => by go_simp) (fun _ _ _ h => h) HS.out ?_
      try simp only [Act.put, List.setIfInBounds_toArray, List.set_cons_zero, List.set_cons_succ]
      refine hd_take 22 (o := ⟨some 36, _, _, _, _, _⟩) (.int .i64 z) (by kernel_rfl) (by kernel_rfl) (by kernel_rfl) rfl (by rfl) (fun W hSw => by obtain ⟨s1, s2, s3, s4⟩ := hSw; go_simp) (fun _ _ _ h => h) HS.out ?_
      try simp only [Act.put, List.setIfInBounds_toArray, List.set_cons_zero, List.set_cons_succ]
      refine hd_take 23 (o := ⟨some 37, _, _, _, _, _⟩) (.int .i64 (j : Int)) (by kernel_rfl) (by kernel_rfl) (by kernel_rfl) rfl (by rfl) (fun W hSw => by go_simp) (fun _ _ _ h => h) HS.out ?_
      try simp only [Act.put, List.setIfInBounds_toArray, List.set_cons_zero, List.set_cons_succ]
      refine hd_take 24 (o := ⟨some 38, _, _, _, _, _⟩) (.pointer (some ⟨N + 1, 336, none⟩)) (by kernel_rfl) (by kernel_rfl) (by kernel_rfl) rfl (by rfl) (fun W hSw => by go_simp) (fun _ _ _ h => h) HS.out ?_
      try simp only [Act.put, List.setIfInBounds_toArray, List.set_cons_zero, List.set_cons_succ]
      refine hd_take 25 (o := ⟨some 39, _, _, _, _, _⟩) (.pointer (some ⟨N + 1, 336 + j, none⟩)) (by kernel_rfl) (by kernel_rfl) (by kernel_rfl) rfl (by rfl) (fun W hSw => by go_simp) (fun _ _ _ h => h) HS.out ?_
      try simp only [Act.put, List.setIfInBounds_toArray, List.set_cons_zero, List.set_cons_succ]
      refine hd_take 26 (o := ⟨some 40, _, _, _, _, _⟩) (.int .i64 z) (by kernel_rfl) (by kernel_rfl) (by kernel_rfl) rfl (by rfl) (fun W hSw => by obtain ⟨s1, s2, s3, s4⟩ := hSw; go_simp) (fun _ _ _ h => h) HS.out ?_
      try simp only [Act.put, List.setIfInBounds_toArray, List.set_cons_zero, List.set_cons_succ]
      refine hd_take 27 (o := ⟨some 41, _, _, _, _, _⟩) (.bool false) (by kernel_rfl) (by kernel_rfl) (by kernel_rfl) rfl (by rfl) (fun W hSw => by go_simp) (fun _ _ _ h => h) HS.out ?_
      try simp only [Act.put, List.setIfInBounds_toArray, List.set_cons_zero, List.set_cons_succ]
      refine hd_take 28 (o := ⟨some 42, _, _, _, _, _⟩) (.bool false) (by kernel_rfl) (by kernel_rfl) (by kernel_rfl) rfl (by rfl) (fun W hSw => by go_simp) (fun _ _ _ h => h) HS.out ?_
      try simp only [Act.put, List.setIfInBounds_toArray, List.set_cons_zero, List.set_cons_succ]
      refine hd_take 29 (o := ⟨some 43, _, _, _, _, _⟩) (.bool false) (by kernel_rfl) (by kernel_rfl) (by kernel_rfl) rfl (by rfl) (fun W hSw => by go_simp) (fun _ _ _ h => h) HS.out ?_
      try simp only [Act.put, List.setIfInBounds_toArray, List.set_cons_zero, List.set_cons_succ]
      refine wpAnyH_done (by kernel_rfl) ?_ _
      clear HS
      go_wp2_with fail
      go_roundw
      case rel =>
        first
          | exact ⟨j + 1, by omega, by go_num, L1, L2, LB⟩
          | ((repeat apply Exists.intro); refine ⟨?_, rfl⟩; exact ⟨j + 1, by omega, by go_num, L1, L2, LB⟩)
      case measure => simp [intOf]; omega
  · obtain rfl : j = 16 := by omega
    go_wp2_with fail
    go_ret
    exact ⟨rfl, by rw [HN.out] at KB; exact KB.out⟩
end Go.Proofs.Ytoddadohmnaolaa
