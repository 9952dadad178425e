import Derived.Test.YtbocpmcodlceoaaGreatMG
namespace Go.Proofs.YtbocpmcodlceoaaGreat
open Go.RowKit

set_option maxRecDepth 8000 in
set_option maxHeartbeats 3200000 in
theorem regain_any (w : World) (b : Nat) (r : Er) (h : Rb w b r) (q : Qt) (hq : q.ok) (hr : r.le.ok) : Calls Tryz.prog 64 #[.pointer (some ⟨b, 21, none⟩), q.val] w fun e w' => e = .returned (.tuple #[]) ∧ Rb w' b { r with le := r.le.plus q } ∧ At w b w' := by
  have hb1 := (Below.refl w.heap.size w).alloc (Nat.le_refl _) (.cells #[.int .i64 q.f, .int .i64 q.e, .int .i64 q.x] 30)
  have a1 := heap_alloc_new w (.cells #[.int .i64 q.f, .int .i64 q.e, .int .i64 q.x] 30)
  have hR := h.keep (hb1.block b h.lt)
  have HA1 := hide (At.of_below (b := b) hb1)
  have HNE : Hid (w.heap.size ≠ b) := hide (fun e => by have := h.lt; omega)
  have HC := hide (fun W => plus_any W r.le q hr hq)
  clear h hb1 hq hr
  unfold Qt.val at *
  simp only [Qt.plus] at HC
  go_enter Tryz.func64, Tryz.ntmps64
  go_upto_region 1 with fail
  generalize w.alloc (.cells #[.int .i64 q.f, .int .i64 q.e, .int .i64 q.x] 30) = w1 at *
  obtain ⟨N, hN⟩ : ∃ N, w.heap.size = N := ⟨_, rfl⟩
  rw [hN] at a1 HNE ⊢
  clear hN
  obtain ⟨w3, hw3⟩ : ∃ w3, w3 = w1.drew := ⟨_, rfl⟩
  have hR3 : Rb w3 b r := by rw [hw3]; exact ⟨hR.out⟩
  have a3 : w3.heap[N]? = some (.cells #[.int .i64 q.f, .int .i64 q.e, .int .i64 q.x] 30 (0, 0)) := by rw [hw3]; exact a1
  have HA3 : Hid (At w b w3) := by rw [hw3]; exact ⟨HA1.out.os, HA1.out.tape, HA1.out.output, HA1.out.size, HA1.out.block⟩
  have d0 := hR3.get (j := 24) rfl
  have d1 := hR3.get (j := 25) rfl
  have d2 := hR3.get (j := 26) rfl
  have HR3 := hide hR3
  have HA := hide a3
  clear hR hR3 a1 HA1
  refine wp_region_held_drew (S := fun W => W.heap[N]? = some (.cells #[.int .i64 q.f, .int .i64 q.e, .int .i64 q.x] 30 (0, 0))) (by kernel_rfl) (by rw [← hw3]; exact a3) (fun _ => ?_)
  rw [← hw3]
  clear hw3 a3
  refine hd_take 0 (o := ⟨some 4, _, _, _, _, _⟩) (.pointer (some ⟨b, 21, none⟩)) (by kernel_rfl) (by kernel_rfl) (by kernel_rfl) rfl (by rfl) (fun W hSw => by go_simp) (fun _ _ _ h => h) HA.out ?_
  simp only [Act.put, List.setIfInBounds_toArray, List.set_cons_zero, List.set_cons_succ]
  refine hd_take 1 (o := ⟨some 5, _, _, _, _, _⟩) (.pointer (some ⟨b, 21, none⟩)) (by kernel_rfl) (by kernel_rfl) (by kernel_rfl) rfl (by rfl) (fun W hSw => by go_simp) (fun _ _ _ h => h) HA.out ?_
  simp only [Act.put, List.setIfInBounds_toArray, List.set_cons_zero, List.set_cons_succ]
  refine hd_take 2 (o := ⟨some 6, _, _, _, _, _⟩) (.pointer (some ⟨b, 21, none⟩)) (by kernel_rfl) (by kernel_rfl) (by kernel_rfl) rfl (by rfl) (fun W hSw => by go_simp) (fun _ _ _ h => h) HA.out ?_
  simp only [Act.put, List.setIfInBounds_toArray, List.set_cons_zero, List.set_cons_succ]
  refine hd_take 3 (o := ⟨some 7, _, _, _, _, _⟩) (.pointer (some ⟨b, 24, none⟩)) (by kernel_rfl) (by kernel_rfl) (by kernel_rfl) rfl (by rfl) (fun W hSw => by go_simp) (fun _ _ _ h => h) HA.out ?_
  simp only [Act.put, List.setIfInBounds_toArray, List.set_cons_zero, List.set_cons_succ]
  refine hd_take 5 (o := ⟨some 9, _, _, _, _, _⟩) (.agg #[.int .i64 q.f, .int .i64 q.e, .int .i64 q.x]) (by kernel_rfl) (by kernel_rfl) (by kernel_rfl) rfl (by rfl) (fun W hSw => by obtain ⟨c0, c1, c2, -, -, -⟩ := blk3 hSw; go_simp) (fun _ _ _ h => h) HA.out ?_
  simp only [Act.put, List.setIfInBounds_toArray, List.set_cons_zero, List.set_cons_succ]
  refine hd_call 4 (o := ⟨some 8, _, _, _, _, _⟩) (by kernel_rfl) rfl (by rfl) (fun K hK => ?_)
  go_simp
  refine hK _ _ HA.out ?_
  clear hK K
  try simp only [Act.put, List.setIfInBounds_toArray, List.set_cons_zero, List.set_cons_succ]
  refine hd_call 6 (o := ⟨some 10, _, _, _, _, _⟩) (by kernel_rfl) rfl (by rfl) (fun K hK => ?_)
  go_simp
  go_wp2_with (go_at_call 86; refine (HC.out _).mono ?_; rintro e1 w9 ⟨rfl, hb9⟩)
  have HA9 : Hid (w9.heap[N]? = some (.cells #[.int .i64 q.f, .int .i64 q.e, .int .i64 q.x] 30 (0, 0))) := hide ((hb9.block N (Array.getElem?_eq_some_iff.1 HA.out).1).trans HA.out)
  have hR9 : Rb w9 b r := HR3.out.keep (hb9.block b HR3.out.lt)
  have HAt9 := hide (HA3.out.below hb9)
  clear hb9 d0 d1 d2
  refine hK _ _ HA9.out ?_
  clear hK K
  try simp only [Act.put, List.setIfInBounds_toArray, List.set_cons_zero, List.set_cons_succ]
  refine hd_take 7 (o := ⟨some 11, _, _, _, _, _⟩) (.pointer (some ⟨b, 21, none⟩)) (by kernel_rfl) (by kernel_rfl) (by kernel_rfl) rfl (by rfl) (fun W hSw => by go_simp) (fun _ _ _ h => h) HA9.out ?_
  simp only [Act.put, List.setIfInBounds_toArray, List.set_cons_zero, List.set_cons_succ]
  refine hd_take 8 (o := ⟨some 12, _, _, _, _, _⟩) (.pointer (some ⟨b, 24, none⟩)) (by kernel_rfl) (by kernel_rfl) (by kernel_rfl) rfl (by rfl) (fun W hSw => by go_simp) (fun _ _ _ h => h) HA9.out ?_
  simp only [Act.put, List.setIfInBounds_toArray, List.set_cons_zero, List.set_cons_succ]
  have d0 := hR9.get (j := 24) rfl
  have d1 := hR9.get (j := 25) rfl
  have d2 := hR9.get (j := 26) rfl
  have f0 := hR9.frz 24
  have f1 := hR9.frz 25
  have f2 := hR9.frz 26
  have HR9 := hide hR9
  clear hR9
  refine hd_call 9 (o := ⟨none, _, _, _, _, _⟩) (by kernel_rfl) rfl (by rfl) (fun K hK => ?_)
  go_simp
  refine hK _ _ (by rw [heap_setCell_other _ _ _ _ HNE.out, heap_setCell_other _ _ _ _ HNE.out, heap_setCell_other _ _ _ _ HNE.out]; exact HA9.out) ?_
  clear hK K
  refine wpAnyH_done (by kernel_rfl) ?_ _
  have HF : Hid (Rb (((w9.setCell ⟨b, 24, none⟩ (.int .i64 (r.le.f + q.f))).setCell ⟨b, 25, none⟩ (.int .i64 (r.le.e + q.e))).setCell ⟨b, 26, none⟩ (.int .i64 (r.le.x + q.x))) b { r with le := r.le.plus q }) :=
    hide (Rb.set (e := { r with le := ⟨r.le.f + q.f, r.le.e + q.e, r.le.x⟩ }) (Rb.set (e := { r with le := ⟨r.le.f + q.f, r.le.e, r.le.x⟩ }) (HR9.out.set rfl) rfl) rfl)
  have HG := hide (((HAt9.out.set 24 (.int .i64 (r.le.f + q.f))).set 25 (.int .i64 (r.le.e + q.e))).set 26 (.int .i64 (r.le.x + q.x)))
  go_wp2
  go_end0
  exact ⟨rfl, HF.out, HG.out⟩
end Go.Proofs.YtbocpmcodlceoaaGreat

namespace Go.Proofs.YtbocpmcodlceoaaGreat
open Go.RowKit Go.Shelf

/-- an environment's place is given up -/
theorem EtAt.shut {w w' : World} {F : Nat → Prop} {T S : Nat} {G : Nat → Prop} {m : List (Option Nat)} {rs : List (Option Er)} {last : Int} (h : EtAt w F T S G m rs last) {k : Nat} (hk : k < 16) (ht : Tab KL w' G S (m.set k none)) (hx : Ext G w G w') : EtAt w' F T S G (m.set k none) (rs.set k none) last where
  top := (hx.mod.block T (h.lt T h.fT) (fun e => (h.fG T e).2 rfl)).trans h.top
  tab := ht
  len := by simpa using h.len
  rlen := by simpa using h.rlen
  free i hi := by
    by_cases e : i = k
    · subst e; rw [List.getElem?_set_self (by rw [h.rlen]; exact hk)]
    · rw [List.getElem?_set_ne (fun e' => e e'.symm)] at hi ⊢; exact h.free i hi
  held i b hi := by
    by_cases e : i = k
    · subst e; rw [List.getElem?_set_self (by rw [h.len]; exact hk)] at hi; cases hi
    · rw [List.getElem?_set_ne (fun e' => e e'.symm)] at hi ⊢
      obtain ⟨r, h1, h2⟩ := h.held i b hi
      exact ⟨r, h1, h2.keep (hx.mod.block b h2.lt (h.own i b hi).2.2)⟩
  fT := h.fT
  fG := h.fG
  own i b hi := by
    by_cases e : i = k
    · subst e; rw [List.getElem?_set_self (by rw [h.len]; exact hk)] at hi; cases hi
    · rw [List.getElem?_set_ne (fun e' => e e'.symm)] at hi; exact h.own i b hi
  dis i j b hi hj := by
    by_cases e : i = k
    · subst e; rw [List.getElem?_set_self (by rw [h.len]; exact hk)] at hi; cases hi
    · by_cases e2 : j = k
      · subst e2; rw [List.getElem?_set_self (by rw [h.len]; exact hk)] at hj; cases hj
      · rw [List.getElem?_set_ne (fun e' => e e'.symm)] at hi
        rw [List.getElem?_set_ne (fun e' => e2 e'.symm)] at hj
        exact h.dis i j b hi hj
  lt b hb := Nat.lt_of_lt_of_le (h.lt b hb) hx.mod.size
/-- all of these are given up -/
def drops (rs : List (Option Er)) (l : List Nat) : List (Option Er) := l.foldl (fun rs c => rs.set c none) rs
theorem drops_snoc (rs : List (Option Er)) (l : List Nat) (c : Nat) : drops rs (l ++ [c]) = (drops rs l).set c none := by simp [drops]
theorem drops_len : ∀ (l : List Nat) (rs : List (Option Er)), (drops rs l).length = rs.length
  | [], _ => rfl
  | c :: l, rs => by show (drops (rs.set c none) l).length = _; rw [drops_len l]; simp
theorem drops_other : ∀ (l : List Nat) (rs : List (Option Er)) (c : Nat), c ∉ l → (drops rs l)[c]? = rs[c]?
  | [], _, _, _ => rfl
  | d :: l, rs, c, h => by
    show (drops (rs.set d none) l)[c]? = _
    rw [drops_other l _ c (fun e => h (List.mem_cons_of_mem _ e)), List.getElem?_set_ne (fun e => h (by rw [e]; exact List.mem_cons_self))]
theorem drops_gone : ∀ (l : List Nat) (rs : List (Option Er)) (c : Nat), c ∈ l → c < rs.length → (drops rs l)[c]? = some none
  | d :: l, rs, c, h, hc => by
    show (drops (rs.set d none) l)[c]? = _
    by_cases e : c ∈ l
    · exact drops_gone l _ c e (by simpa using hc)
    · rw [drops_other l _ c e]
      rcases List.mem_cons.1 h with rfl | h
      · rw [List.getElem?_set_self hc]
      · exact absurd h e
section
variable (w : World) (F : Nat → Prop) (T : Nat) (rs : List (Option Er)) (last : Int)
set_option maxHeartbeats 800000 in
theorem destroyNone_any (h : Et w F T rs last) (e : Int) (hn : look rs e = none) : Calls Tryz.prog 16 #[.pointer (some ⟨T, 0, none⟩), .int .i64 e] w fun x w' => x = .returned (.tuple #[.slice none 0 0, .int .i64 90]) ∧ w' = w := by
  obtain ⟨S, G, m, h⟩ := h
  have c0 := h.cell.1
  have HG := hide (getL_any _ G S m h.tab e)
  rcases h.cases e with ⟨h1, _⟩ | ⟨k', b, r', e1, hm, h3, h4, h5, hR⟩
  · rw [h1] at HG
    simp only [ptr, Option.isSome_none] at HG
    clear h h1
    go_enter Tryz.func16, Tryz.ntmps16
    go_wp2_with fail
    refine HG.out.mono ?_
    rintro e1 w1 ⟨rfl, rfl⟩
    go_wp2
    go_ret2
    exact ⟨rfl, rfl⟩
  · rw [hn] at h5; cases h5
set_option maxHeartbeats 800000 in
theorem destroyZero_any (h : Et w F T rs last) (r : Er) (hr : rs[0]? = some (some r)) : Calls Tryz.prog 16 #[.pointer (some ⟨T, 0, none⟩), .int .i64 0] w fun x w' => x = .returned (.tuple #[.slice none 0 0, .int .i64 92]) ∧ w' = w := by
  obtain ⟨S, G, m, h⟩ := h
  have c0 := h.cell.1
  have HG := hide (getL_any _ G S m h.tab ((0 : Nat) : Int))
  rcases h.cases ((0 : Nat) : Int) with ⟨_, h1⟩ | ⟨k', b, r', e1, hm, h3, h4, h5, hR⟩
  · rw [look_nat, hr] at h1; cases h1
  · rw [h4] at HG
    simp only [ptr, Option.isSome_some] at HG
    clear h h4 h5 hR
    go_enter Tryz.func16, Tryz.ntmps16
    go_wp2_with fail
    refine HG.out.mono ?_
    rintro e1 w1 ⟨rfl, rfl⟩
    go_wp2
    go_ret2
    exact ⟨rfl, rfl⟩
end
end Go.Proofs.YtbocpmcodlceoaaGreat

namespace Go.Proofs.YtbocpmcodlceoaaGreat
open Go.RowKit Go.Shelf

section
variable (w : World) (F : Nat → Prop) (T : Nat) (rs : List (Option Er)) (last : Int)
set_option maxRecDepth 100000 in
set_option maxHeartbeats 6400000 in
theorem destroyOk_any (h : Et w F T rs last) (k p : Nat) (r rp : Er) (hr : rs[k]? = some (some r)) (hk0 : k ≠ 0) (hpa : r.pa = (p : Int)) (hp : rs[p]? = some (some rp)) (hkp : p ≠ k) (hq : r.qu.ok) (hq1 : (r.qu.plus Qt.one).ok) (hle : rp.le.ok)
    (rs1 : List (Option Er)) (hrs1 : rs1 = rs.set p (some { rp with le := rp.le.plus (r.qu.plus Qt.one) })) (hD : Dis rs1) (hlen : ∀ n e, (wk rs1 n e).length ≤ 4096) (hkl : ∀ e, (kids rs1 e).length ≤ 4096) (n : Nat) (hDp : Dp rs1 n k) (hnd : (wk rs1 n k).Nodup) (hlv : ∀ c ∈ wk rs1 n k, Lv rs1 c) :
    Calls Tryz.prog 16 #[.pointer (some ⟨T, 0, none⟩), .int .i64 (k : Int)] w fun x w' => ∃ v, x = .returned (.tuple #[v, .int .i64 0]) ∧ Et w' F T (drops rs1 (wk rs1 n k)) last ∧ w'.ownsRow w.heap.size 3 1 v (wk rs1 n k).length (numN (wk rs1 n k)) ∧ Mod F w w' := by
  have hFl := h.lt
  obtain ⟨S, G, m, h⟩ := h
  rcases h.cases (k : Int) with ⟨_, h1⟩ | ⟨k', bk, r', e1, hmk, h3, h4, h5, hRk⟩
  · rw [look_nat, hr] at h1; cases h1
  obtain rfl : k = k' := by omega
  rw [hr] at h3; cases h3
  rcases h.cases (p : Int) with ⟨_, h1⟩ | ⟨k', bp, r', e2, hmp, h3, h6, h7, hRp⟩
  · rw [look_nat, hp] at h1; cases h1
  obtain rfl : p = k' := by omega
  rw [hp] at h3; cases h3
  have hbb : bk ≠ bp := fun e => hkp (h.dis p k bp hmp (e ▸ hmk))
  have c0 := h.cell.1
  have cp := hRk.get (j := 1) rfl
  rw [hpa] at cp
  have HG1 := hide (getL_any _ G S m h.tab (k : Int))
  rw [h4] at HG1
  simp only [ptr, Option.isSome_some] at HG1
  have HG2 : Hid (∀ j, Calls Tryz.prog 52 #[.pointer (some ⟨S, 0, none⟩), .int .i64 (p : Int)] (w.drewN j) fun x w' => x = .returned (.tuple #[.pointer (some ⟨bp, 0, none⟩), .bool true]) ∧ w' = w.drewN j) := hide (fun j => by
    have h9 := getL_any (w.drewN j) G S m (h.tab.keep (Nat.le_refl _) (fun _ _ => rfl)) (p : Int)
    rw [h6] at h9
    exact h9)
  have HC1 := hide (fun W => price_any W r.qu hq)
  have HC2 := hide (fun W (hb : Rb W bp rp) => regain_any W bp rp hb (r.qu.plus Qt.one) hq1 hle)
  have HH := hide h
  have HRk := hide hRk
  have HRp := hide hRp
  have HBB := hide hbb
  have hk0' : ((k : Int) == 0) = false := by simp; omega
  have HFl := hide hFl
  have HW := hide (fun W (hE : Et W F T rs1 last) => walk_any rs1 hD hlen hkl n k W F T last hE hDp)
  have HND := hide hnd
  have HLV := hide hlv
  have HLen := hide (hlen n k)
  have HM := hide hmp
  have HX := hide hrs1
  obtain ⟨qp, hqp⟩ : ∃ qp, r.qu.plus Qt.one = qp := ⟨_, rfl⟩
  rw [hqp] at HC1 HC2 HX
  clear h h4 h5 h6 h7 hRk hRp hbb hFl hD hlen hkl hDp hnd hlv hq hq1 hle hmk hmp hr hp hrs1 hqp
  go_enter Tryz.func16, Tryz.ntmps16
  go_wp2_with fail
  refine HG1.out.mono ?_
  rintro e1 w1 ⟨rfl, rfl⟩
  go_upto_region 6 with fail
  go_quiet (first | (go_at_call 52; exact Calls.quiet_of_same (HG2.out _)))
  go_upto_region 7 with fail
  obtain ⟨w2, hw2⟩ : ∃ w2, w2 = (w1.drewN nq).drew := ⟨_, rfl⟩
  have hb2 : Below w1.heap.size w1 w2 := by rw [hw2]; exact ⟨rfl, rfl, rfl, Nat.le_refl _, fun _ _ => rfl⟩
  have HH2 := hide (HH.out.below hb2)
  have HR2 := hide (HRk.out.keep (hb2.block bk HRk.out.lt))
  have HP2 := hide (HRp.out.keep (hb2.block bp HRp.out.lt))
  have HM2 : Hid (Mod F w1 w2) := hide (Mod.of_below hb2)
  clear HH HRk HRp HG1 HG2 c0 cp
  refine wp_region_held_drew (S := fun W => Rb W bk r) (by kernel_rfl) (by rw [← hw2]; exact HR2.out) (fun _ => ?_)
  rw [← hw2]
  clear hw2 hb2
  refine hd_take 0 (o := ⟨some 39, _, _, _, _, _⟩) (.pointer (some ⟨bp, 0, none⟩)) (by kernel_rfl) (by kernel_rfl) (by kernel_rfl) rfl (by rfl) (fun W hSw => by go_simp) (fun _ _ _ h => h) HR2.out ?_
  try simp only [Act.put, List.setIfInBounds_toArray, List.set_cons_zero, List.set_cons_succ]
  refine hd_take 1 (o := ⟨some 40, _, _, _, _, _⟩) (.pointer (some ⟨bp, 0, none⟩)) (by kernel_rfl) (by kernel_rfl) (by kernel_rfl) rfl (by rfl) (fun W hSw => by go_simp) (fun _ _ _ h => h) HR2.out ?_
  try simp only [Act.put, List.setIfInBounds_toArray, List.set_cons_zero, List.set_cons_succ]
  refine hd_take 2 (o := ⟨some 41, _, _, _, _, _⟩) (.pointer (some ⟨bp, 21, none⟩)) (by kernel_rfl) (by kernel_rfl) (by kernel_rfl) rfl (by rfl) (fun W hSw => by go_simp) (fun _ _ _ h => h) HR2.out ?_
  try simp only [Act.put, List.setIfInBounds_toArray, List.set_cons_zero, List.set_cons_succ]
  refine hd_take 3 (o := ⟨some 42, _, _, _, _, _⟩) (.pointer (some ⟨bk, 0, none⟩)) (by kernel_rfl) (by kernel_rfl) (by kernel_rfl) rfl (by rfl) (fun W hSw => by go_simp) (fun _ _ _ h => h) HR2.out ?_
  try simp only [Act.put, List.setIfInBounds_toArray, List.set_cons_zero, List.set_cons_succ]
  refine hd_take 4 (o := ⟨some 43, _, _, _, _, _⟩) (.pointer (some ⟨bk, 0, none⟩)) (by kernel_rfl) (by kernel_rfl) (by kernel_rfl) rfl (by rfl) (fun W hSw => by go_simp) (fun _ _ _ h => h) HR2.out ?_
  try simp only [Act.put, List.setIfInBounds_toArray, List.set_cons_zero, List.set_cons_succ]
  refine hd_take 5 (o := ⟨some 44, _, _, _, _, _⟩) (.pointer (some ⟨bk, 0, none⟩)) (by kernel_rfl) (by kernel_rfl) (by kernel_rfl) rfl (by rfl) (fun W hSw => by go_simp) (fun _ _ _ h => h) HR2.out ?_
  try simp only [Act.put, List.setIfInBounds_toArray, List.set_cons_zero, List.set_cons_succ]
  refine hd_take 6 (o := ⟨some 45, _, _, _, _, _⟩) (.pointer (some ⟨bk, 15, none⟩)) (by kernel_rfl) (by kernel_rfl) (by kernel_rfl) rfl (by rfl) (fun W hSw => by go_simp) (fun _ _ _ h => h) HR2.out ?_
  try simp only [Act.put, List.setIfInBounds_toArray, List.set_cons_zero, List.set_cons_succ]
  refine hd_take 7 (o := ⟨some 46, _, _, _, _, _⟩) (.agg #[.int .i64 r.qu.f, .int .i64 r.qu.e, .int .i64 r.qu.x]) (by kernel_rfl) (by kernel_rfl) (by kernel_rfl) rfl (by rfl) (fun W hSw => by have q0 := hSw.get (j := 15) rfl; have q1 := hSw.get (j := 16) rfl; have q2 := hSw.get (j := 17) rfl; go_simp) (fun _ _ _ h => h) HR2.out ?_
  try simp only [Act.put, List.setIfInBounds_toArray, List.set_cons_zero, List.set_cons_succ]
  refine hd_call 8 (o := ⟨some 47, _, _, _, _, _⟩) (by kernel_rfl) rfl (by rfl) (fun K hK => ?_)
  go_simp
  go_wp2_with (go_at_call 55; refine (HC1.out _).mono ?_; rintro e1 w3 ⟨rfl, hb3⟩)
  have HR3 := hide (HR2.out.keep (hb3.block bk HR2.out.lt))
  have HP3 := hide (HP2.out.keep (hb3.block bp HP2.out.lt))
  have HH3 := hide (HH2.out.below hb3)
  have HM3 : Hid (Mod F w1 w3) := hide (HM2.out.trans (Mod.of_below hb3))
  clear hb3 HR2 HP2 HH2 HM2
  refine hK _ _ HR3.out ?_
  clear hK K
  try simp only [Act.put, List.setIfInBounds_toArray, List.set_cons_zero, List.set_cons_succ]
  refine hd_call 9 (o := ⟨some 48, _, _, _, _, _⟩) (by kernel_rfl) rfl (by rfl) (fun K hK => ?_)
  go_simp
  go_wp2_with (go_at_call 64; refine (HC2.out _ HP3.out).mono ?_; rintro e1 w4 ⟨rfl, hr4, ha4⟩)
  have HR4 := hide (HR3.out.keep (ha4.block bk HR3.out.lt HBB.out))
  have hu := HH3.out.upd HM.out ha4.size ha4.block hr4
  rw [← HX.out] at hu
  have HH4 := hide hu
  have HM4 : Hid (Mod F w1 w4) := hide (HM3.out.trans (ha4.mod (HH3.out.own p bp HM.out).1))
  clear hr4 ha4 hu HR3 HP3 HH3 HM3
  refine hK _ _ HR4.out ?_
  clear hK K
  try simp only [Act.put, List.setIfInBounds_toArray, List.set_cons_zero, List.set_cons_succ]
  refine wpAnyH_done (by kernel_rfl) ?_ _
  clear HR4 HC1 HC2
  go_wp2_with fail
  refine (HW.out _ ⟨S, G, m, HH4.out⟩).mono ?_
  rintro e1 w5 ⟨v, rfl, hv, hb5⟩
  have HH5 := hide (HH4.out.below hb5)
  have HM5 : Hid (Mod F w1 w5) := hide (HM4.out.trans (Mod.of_below hb5))
  have HV5 := hide (own_low hv HM4.out.size)
  obtain ⟨va, vc, rfl⟩ := own_shape hv
  clear hv hb5 HH4 HM4 HW
  generalize hl : wk rs1 n k = l at *
  obtain ⟨L, hL⟩ : ∃ L, l.length = L := ⟨_, rfl⟩
  have hL9 := HLen.out
  rw [hL] at HV5 hL9 ⊢
  have hL9 : L ≤ 4096 := hL9
  go_upto_region 10 with fail
  have K0 : Hid (∃ m', EtAt w5 F T S G m' (drops rs1 (l.take 0)) last) := hide ⟨m, HH5.out⟩
  go_loopw [54] (fun x wr => ∃ j : Nat, j ≤ L ∧ x = .int .i64 (j : Int) ∧ Hid (∃ m', EtAt wr F T S G m' (drops rs1 (l.take j)) last) ∧ Hid (wr.ownsRow w1.heap.size 3 1 (.slice va L vc) L (numN l)) ∧ Hid (Mod F w1 wr)) (fun x _ => L - (intOf x).toNat)
  case atStart => exact ⟨0, by omega, rfl, K0, HV5, HM5⟩
  case round =>
  clear K0 HV5 HM5 HH5
  obtain ⟨j, hj, rfl, KE, KV, KM⟩ := hrel
  by_cases hlt : j < L
  · have hd : decide ((j : Int) < (L : Int)) = true := by simp; omega
    have hj3 : (j : Int) < (L : Int) := by omega
    obtain ⟨m', hE⟩ := KE.out
    obtain ⟨c, hc⟩ : ∃ c, l[j]? = some c := ⟨_, List.getElem?_eq_getElem (by omega)⟩
    obtain ⟨g, rfl, hcc⟩ : ∃ g, va = some ⟨g, 0, none⟩ ∧ wr.cell? ⟨g, j, none⟩ = some (.int .i64 (c : Int)) := by
      have h9 := KV.out
      obtain ⟨_, ⟨h0, _⟩ | ⟨g, cp, cur, h0, _⟩⟩ := KV.out
      · injection h0 with _ h8 _; omega
      · cases h0
        refine ⟨g, rfl, ?_⟩
        have := World.ownsRow.cells h9 rfl j (.int .i64 (c : Int)) (by simp [numN, hc])
        rw [add0] at this
        exact this
    have htk : l.take (j + 1) = l.take j ++ [c] := by
      have h9 := (List.getElem?_eq_some_iff.1 hc)
      rw [List.take_succ_eq_append_getElem h9.1, h9.2]
    have hnm : c ∉ l.take j := by
      intro h9
      have h8 : (l.take (j + 1)).Nodup := HND.out.sublist (List.take_sublist _ _)
      rw [htk, List.nodup_append] at h8
      exact h8.2.2 c h9 c (by simp) rfl
    obtain ⟨rc, hrc⟩ := HLV.out c (List.mem_of_getElem? hc)
    have hdc : (drops rs1 (l.take j))[c]? = some (some rc) := by rw [drops_other _ _ _ hnm]; exact hrc
    have hc16 : c < 16 := by
      have h9 := (List.getElem?_eq_some_iff.1 hdc).1
      rw [hE.rlen] at h9; exact h9
    rcases hE.cases (c : Int) with ⟨_, h1⟩ | ⟨c', bc, rc', e2, hmc, h3, h6, h7, hRc⟩
    · rw [look_nat, hdc] at h1; cases h1
    obtain rfl : c = c' := by omega
    have c0 := hE.cell.1
    have HDr := hide (dropL_some wr G S m' hE.tab c bc hmc)
    have HEs := hide (fun w' (ht : Tab KL w' G S (m'.set c none)) hx => hE.shut hc16 ht hx)
    have HFG := hide hE.fG
    have hg9 : w1.heap.size ≤ g := (World.ownsRow.lt KV.out g rfl).1
    have HTk := hide htk
    clear hE h3 h6 h7 hRc hmc hdc hrc hnm htk hc KE
    go_wp2_with fail
    refine HDr.out.mono ?_
    rintro e1 w6 ⟨rfl, ht6, hx6⟩
    have K1 : Hid (∃ m', EtAt w6 F T S G m' (drops rs1 (l.take (j + 1))) last) := hide ⟨_, by
      have h9 := HEs.out w6 ht6 hx6
      rw [← drops_snoc, ← HTk.out] at h9
      exact h9⟩
    have hm6 : Mod F wr w6 := ⟨hx6.mod.os, hx6.mod.tape, hx6.mod.output, hx6.mod.size, fun b hb hf => hx6.mod.block b hb (fun e => hf (HFG.out b e).1)⟩
    have K2 : Hid (w6.ownsRow w1.heap.size 3 1 (.slice (some ⟨g, 0, none⟩) L vc) L (numN l)) := hide (by
      obtain ⟨q1, ⟨q2, q3⟩ | ⟨g', cp', cur', q2, q3, q4, q5⟩⟩ := KV.out
      · cases q2
      · cases q2
        refine ⟨q1, .inr ⟨g, vc, cur', rfl, q3, ?_, q5⟩⟩
        exact (hm6.block g (Array.getElem?_eq_some_iff.1 q4).1 (fun e => by have := HFl.out g e; omega)).trans q4)
    have K3 : Hid (Mod F w1 w6) := hide (KM.out.trans hm6)
    clear ht6 hx6 hm6 HDr HEs HFG KV KM HTk c0 hcc
    go_wp2
    go_roundw
    case rel =>
      first
        | exact ⟨j + 1, by omega, by go_num, K1, K2, K3⟩
        | ((repeat apply Exists.intro); refine ⟨?_, rfl⟩; exact ⟨j + 1, by omega, by go_num, K1, K2, K3⟩)
    case measure => simp [intOf]; omega
  · obtain rfl : j = L := by omega
    have hd : decide ((j : Int) < (j : Int)) = false := by simp
    obtain ⟨m', hE⟩ := KE.out
    rw [← hL, List.take_length] at hE
    have KF := hide hE
    have HL2 := hide hL
    clear hE KE
    go_wp2
    go_ret2
    exact ⟨_, rfl, ⟨S, G, m', by rw [hl]; exact KF.out⟩, by rw [hl, HL2.out]; exact KV.out, KM.out⟩
end
end Go.Proofs.YtbocpmcodlceoaaGreat

namespace Go.Proofs.YtbocpmcodlceoaaGreat
open Go.RowKit Go.Shelf

section
variable {P : Program} {ops : Array Oper} {Q : Exit → Act → World → Prop} {S : World → Prop} {fuel : Nat} {listed : Array Bool} {a : Act} {w : World}
/-- the two operations that may come up -/
theorem hd_two (i j : Nat) {o1 o2 : Oper} (hr : Region.ready .any ops listed = [i, j]) (ho1 : ops[i]? = some o1) (ho2 : ops[j]? = some o2) (hw1 : Region.wanted o1 (yielded ops a.tmps) = true) (hw2 : Region.wanted o2 (yielded ops a.tmps) = true)
    (h1 : ∀ K : Act → World → Prop, (∀ a w, S w → wpAnyH P .any ops Q S fuel (listed.setIfInBounds i true) a w → K a w) → Oper.wp P o1 a w K Q)
    (h2 : ∀ K : Act → World → Prop, (∀ a w, S w → wpAnyH P .any ops Q S fuel (listed.setIfInBounds j true) a w → K a w) → Oper.wp P o2 a w K Q) : wpAnyH P .any ops Q S (fuel + 1) listed a w := by
  refine wpAnyH_ready hr (by simp) (AllReadyH.cons ho1 (fun K hK => ?_) (AllReadyH.cons ho2 (fun K hK => ?_) AllReadyH.nil))
  · rw [if_pos hw1]; exact h1 K (fun a w hS hh => hK.out a w hS (fun _ => hh))
  · rw [if_pos hw2]; exact h2 K (fun a w hS hh => hK.out a w hS (fun _ => hh))
end
set_option maxRecDepth 100000 in
set_option maxHeartbeats 6400000 in
theorem payOk_any (w : World) (b : Nat) (r : Er) (h : Rb w b r) (q : Qt) (hg : q.good) (hq : q.ok) (hf : q.le r.le) (hle : r.le.ok) (hpd : r.pd.ok) : Calls Tryz.prog 68 #[.pointer (some ⟨b, 21, none⟩), q.val] w fun e w' => e = .returned (.int .i64 0) ∧ Rb w' b { r with pd := r.pd.plus q, le := r.le.less q } ∧ At w b w' := by
  have hb1 := (Below.refl w.heap.size w).alloc (Nat.le_refl _) (.cells #[.int .i64 q.f, .int .i64 q.e, .int .i64 q.x] 30)
  have a1 := heap_alloc_new w (.cells #[.int .i64 q.f, .int .i64 q.e, .int .i64 q.x] 30)
  have hR := h.keep (hb1.block b h.lt)
  have HA1 := hide (At.of_below (b := b) hb1)
  have HNE : Hid (w.heap.size ≠ b) := hide (fun e => by have := h.lt; omega)
  have HC1 := hide (fun W => isGood_any W q)
  rw [show decide q.good = true by simpa using hg] at HC1
  have HC2 := hide (fun W (hb : Rb W b r) => affords_any W b r hb q)
  rw [show decide (q.le r.le) = true by simpa using hf] at HC2
  have HP := hide (fun W => plus_any W r.pd q hpd hq)
  have HL := hide (fun W => less_any W r.le q hle hq)
  clear h hb1 hg hq hf hle hpd
  unfold Qt.val at *
  simp only [Qt.less] at HL
  simp only [Qt.plus] at HP
  go_enter Tryz.func68, Tryz.ntmps68
  go_upto_region 1 with fail
  generalize w.alloc (.cells #[.int .i64 q.f, .int .i64 q.e, .int .i64 q.x] 30) = w1 at *
  obtain ⟨N, hN⟩ : ∃ N, w.heap.size = N := ⟨_, rfl⟩
  rw [hN] at a1 HNE ⊢
  clear hN
  obtain ⟨c0, c1, c2, -, -, -⟩ := blk3 a1
  have HR1 := hide hR
  have HN1 := hide a1
  clear hR a1
  go_wp2_with fail
  refine (HC1.out _).mono ?_
  rintro e1 w2 ⟨rfl, hb2⟩
  have a2 := (hb2.block N (Array.getElem?_eq_some_iff.1 HN1.out).1).trans HN1.out
  have HR2 := hide (HR1.out.keep (hb2.block b HR1.out.lt))
  have HT2 := hide (HA1.out.below hb2)
  have HN2 := hide a2
  clear hb2 c0 c1 c2 HR1 HN1 HA1
  obtain ⟨c0, c1, c2, -, -, -⟩ := blk3 a2
  clear a2
  go_wp2_with fail
  refine (HC2.out _ HR2.out).mono ?_
  rintro e1 w4 ⟨rfl, hb4⟩
  have HNC := hide ((hb4.block N (Array.getElem?_eq_some_iff.1 HN2.out).1).trans HN2.out)
  have HRC := hide (HR2.out.keep (hb4.block b HR2.out.lt))
  have HAC := hide (HT2.out.below hb4)
  clear hb4 c0 c1 c2 HR2 HN2 HT2
  go_upto_region 5 with fail
  obtain ⟨w3, hw3⟩ : ∃ w3, w3 = w4.drew := ⟨_, rfl⟩
  have hR3 : Rb w3 b r := by rw [hw3]; exact ⟨HRC.out.out⟩
  have a3 : w3.heap[N]? = some (.cells #[.int .i64 q.f, .int .i64 q.e, .int .i64 q.x] 30 (0, 0)) := by rw [hw3]; exact HNC.out
  have HA3 : Hid (At w b w3) := by rw [hw3]; exact ⟨HAC.out.os, HAC.out.tape, HAC.out.output, HAC.out.size, HAC.out.block⟩
  have HR3 := hide hR3
  have HA := hide a3
  clear hR3 HRC HNC HAC
  refine wp_region_held_drew (S := fun W => W.heap[N]? = some (.cells #[.int .i64 q.f, .int .i64 q.e, .int .i64 q.x] 30 (0, 0))) (by kernel_rfl) (by rw [← hw3]; exact a3) (fun _ => ?_)
  rw [← hw3]
  clear hw3 a3
  refine hd_take 0 (o := ⟨some 12, _, _, _, _, _⟩) (.pointer (some ⟨b, 21, none⟩)) (by kernel_rfl) (by kernel_rfl) (by kernel_rfl) rfl (by rfl) (fun W hSw => by go_simp) (fun _ _ _ h => h) HA.out ?_
  try simp only [Act.put, List.setIfInBounds_toArray, List.set_cons_zero, List.set_cons_succ]
  refine hd_take 1 (o := ⟨some 13, _, _, _, _, _⟩) (.pointer (some ⟨b, 21, none⟩)) (by kernel_rfl) (by kernel_rfl) (by kernel_rfl) rfl (by rfl) (fun W hSw => by go_simp) (fun _ _ _ h => h) HA.out ?_
  try simp only [Act.put, List.setIfInBounds_toArray, List.set_cons_zero, List.set_cons_succ]
  refine hd_take 2 (o := ⟨some 14, _, _, _, _, _⟩) (.pointer (some ⟨b, 21, none⟩)) (by kernel_rfl) (by kernel_rfl) (by kernel_rfl) rfl (by rfl) (fun W hSw => by go_simp) (fun _ _ _ h => h) HA.out ?_
  try simp only [Act.put, List.setIfInBounds_toArray, List.set_cons_zero, List.set_cons_succ]
  refine hd_take 3 (o := ⟨some 15, _, _, _, _, _⟩) (.pointer (some ⟨b, 21, none⟩)) (by kernel_rfl) (by kernel_rfl) (by kernel_rfl) rfl (by rfl) (fun W hSw => by go_simp) (fun _ _ _ h => h) HA.out ?_
  try simp only [Act.put, List.setIfInBounds_toArray, List.set_cons_zero, List.set_cons_succ]
  refine hd_take 4 (o := ⟨some 16, _, _, _, _, _⟩) (.pointer (some ⟨b, 21, none⟩)) (by kernel_rfl) (by kernel_rfl) (by kernel_rfl) rfl (by rfl) (fun W hSw => by go_simp) (fun _ _ _ h => h) HA.out ?_
  try simp only [Act.put, List.setIfInBounds_toArray, List.set_cons_zero, List.set_cons_succ]
  refine hd_take 6 (o := ⟨some 18, _, _, _, _, _⟩) (.agg #[.int .i64 q.f, .int .i64 q.e, .int .i64 q.x]) (by kernel_rfl) (by kernel_rfl) (by kernel_rfl) rfl (by rfl) (fun W hSw => by obtain ⟨c0, c1, c2, -, -, -⟩ := blk3 hSw; go_simp) (fun _ _ _ h => h) HA.out ?_
  try simp only [Act.put, List.setIfInBounds_toArray, List.set_cons_zero, List.set_cons_succ]
  refine hd_take 8 (o := ⟨some 20, _, _, _, _, _⟩) (.pointer (some ⟨b, 21, none⟩)) (by kernel_rfl) (by kernel_rfl) (by kernel_rfl) rfl (by rfl) (fun W hSw => by go_simp) (fun _ _ _ h => h) HA.out ?_
  try simp only [Act.put, List.setIfInBounds_toArray, List.set_cons_zero, List.set_cons_succ]
  refine hd_take 9 (o := ⟨some 21, _, _, _, _, _⟩) (.pointer (some ⟨b, 21, none⟩)) (by kernel_rfl) (by kernel_rfl) (by kernel_rfl) rfl (by rfl) (fun W hSw => by go_simp) (fun _ _ _ h => h) HA.out ?_
  try simp only [Act.put, List.setIfInBounds_toArray, List.set_cons_zero, List.set_cons_succ]
  refine hd_take 10 (o := ⟨some 22, _, _, _, _, _⟩) (.pointer (some ⟨b, 24, none⟩)) (by kernel_rfl) (by kernel_rfl) (by kernel_rfl) rfl (by rfl) (fun W hSw => by go_simp) (fun _ _ _ h => h) HA.out ?_
  try simp only [Act.put, List.setIfInBounds_toArray, List.set_cons_zero, List.set_cons_succ]
  refine hd_take 12 (o := ⟨some 24, _, _, _, _, _⟩) (.agg #[.int .i64 q.f, .int .i64 q.e, .int .i64 q.x]) (by kernel_rfl) (by kernel_rfl) (by kernel_rfl) rfl (by rfl) (fun W hSw => by obtain ⟨c0, c1, c2, -, -, -⟩ := blk3 hSw; go_simp) (fun _ _ _ h => h) HA.out ?_
  try simp only [Act.put, List.setIfInBounds_toArray, List.set_cons_zero, List.set_cons_succ]
  refine hd_two 5 11 (o1 := ⟨some 17, _, _, _, _, _⟩) (o2 := ⟨some 23, _, _, _, _, _⟩) (by kernel_rfl) rfl rfl (by rfl) (by rfl) (fun K hK => ?_) (fun K hK => ?_)
  · have d0 := HR3.out.get (j := 21) rfl
    have d1 := HR3.out.get (j := 22) rfl
    have d2 := HR3.out.get (j := 23) rfl
    go_simp
    refine hK _ _ HA.out ?_
    clear hK K d0 d1 d2
    try simp only [Act.put, List.setIfInBounds_toArray, List.set_cons_zero, List.set_cons_succ]
    refine hd_two 7 11 (o1 := ⟨some 19, _, _, _, _, _⟩) (o2 := ⟨some 23, _, _, _, _, _⟩) (by kernel_rfl) rfl rfl (by rfl) (by rfl) (fun K hK => ?_) (fun K hK => ?_)
    · go_simp
      go_wp2_with (go_at_call 86; refine (HP.out _).mono ?_; rintro e1 w7 ⟨rfl, hb7⟩)
      have HA7 : Hid (w7.heap[N]? = some (.cells #[.int .i64 q.f, .int .i64 q.e, .int .i64 q.x] 30 (0, 0))) := hide ((hb7.block N (Array.getElem?_eq_some_iff.1 HA.out).1).trans HA.out)
      have HR7 : Hid (Rb w7 b r) := hide (HR3.out.keep (hb7.block b HR3.out.lt))
      have HT7 := hide (HA3.out.below hb7)
      clear hb7
      refine hK _ _ HA7.out ?_
      clear hK K
      try simp only [Act.put, List.setIfInBounds_toArray, List.set_cons_zero, List.set_cons_succ]
      refine hd_call 11 (o := ⟨some 23, _, _, _, _, _⟩) (by kernel_rfl) rfl (by rfl) (fun K hK => ?_)
      have d0 := HR7.out.get (j := 24) rfl
      have d1 := HR7.out.get (j := 25) rfl
      have d2 := HR7.out.get (j := 26) rfl
      go_simp
      refine hK _ _ HA7.out ?_
      clear hK K d0 d1 d2
      try simp only [Act.put, List.setIfInBounds_toArray, List.set_cons_zero, List.set_cons_succ]
      refine hd_call 13 (o := ⟨some 25, _, _, _, _, _⟩) (by kernel_rfl) rfl (by rfl) (fun K hK => ?_)
      go_simp
      go_wp2_with (go_at_call 87; refine (HL.out _).mono ?_; rintro e1 w13 ⟨rfl, hb13⟩)
      have HA13 : Hid (w13.heap[N]? = some (.cells #[.int .i64 q.f, .int .i64 q.e, .int .i64 q.x] 30 (0, 0))) := hide ((hb13.block N (Array.getElem?_eq_some_iff.1 HA7.out).1).trans HA7.out)
      have HR13 : Hid (Rb w13 b r) := hide (HR7.out.keep (hb13.block b HR7.out.lt))
      have HT13 := hide (HT7.out.below hb13)
      clear hb13
      refine hK _ _ HA13.out ?_
      clear hK K
      try simp only [Act.put, List.setIfInBounds_toArray, List.set_cons_zero, List.set_cons_succ]
      refine hd_take 14 (o := ⟨some 26, _, _, _, _, _⟩) (.pointer (some ⟨b, 21, none⟩)) (by kernel_rfl) (by kernel_rfl) (by kernel_rfl) rfl (by rfl) (fun W hSw => by go_simp) (fun _ _ _ h => h) HA13.out ?_
      try simp only [Act.put, List.setIfInBounds_toArray, List.set_cons_zero, List.set_cons_succ]
      refine hd_take 15 (o := ⟨some 27, _, _, _, _, _⟩) (.pointer (some ⟨b, 21, none⟩)) (by kernel_rfl) (by kernel_rfl) (by kernel_rfl) rfl (by rfl) (fun W hSw => by go_simp) (fun _ _ _ h => h) HA13.out ?_
      try simp only [Act.put, List.setIfInBounds_toArray, List.set_cons_zero, List.set_cons_succ]
      have d0 := HR13.out.get (j := 21) rfl
      have f0 := HR13.out.frz 21
      have d1 := HR13.out.get (j := 22) rfl
      have f1 := HR13.out.frz 22
      have d2 := HR13.out.get (j := 23) rfl
      have f2 := HR13.out.frz 23
      have d3 := HR13.out.get (j := 24) rfl
      have f3 := HR13.out.frz 24
      have d4 := HR13.out.get (j := 25) rfl
      have f4 := HR13.out.frz 25
      have d5 := HR13.out.get (j := 26) rfl
      have f5 := HR13.out.frz 26
      refine hd_call 16 (o := ⟨none, _, _, _, _, _⟩) (by kernel_rfl) rfl (by rfl) (fun K hK => ?_)
      go_simp
      refine hK _ _ (by rw [heap_setCell_other _ _ _ _ HNE.out, heap_setCell_other _ _ _ _ HNE.out, heap_setCell_other _ _ _ _ HNE.out]; exact HA13.out) ?_
      clear hK K
      have HF1 : Hid (Rb (((w13.setCell ⟨b, 21, none⟩ (.int .i64 (r.pd.f + q.f))).setCell ⟨b, 22, none⟩ (.int .i64 (r.pd.e + q.e))).setCell ⟨b, 23, none⟩ (.int .i64 (r.pd.x + q.x))) b { r with pd := ⟨r.pd.f + q.f, r.pd.e + q.e, r.pd.x + q.x⟩ }) := hide (Rb.set (e := { r with pd := ⟨r.pd.f + q.f, r.pd.e + q.e, r.pd.x⟩ }) (Rb.set (e := { r with pd := ⟨r.pd.f + q.f, r.pd.e, r.pd.x⟩ }) (HR13.out.set rfl) rfl) rfl)
      have HG1 := hide (((HT13.out.set 21 (.int .i64 (r.pd.f + q.f))).set 22 (.int .i64 (r.pd.e + q.e))).set 23 (.int .i64 (r.pd.x + q.x)))
      have HA1 : Hid ((((w13.setCell ⟨b, 21, none⟩ (.int .i64 (r.pd.f + q.f))).setCell ⟨b, 22, none⟩ (.int .i64 (r.pd.e + q.e))).setCell ⟨b, 23, none⟩ (.int .i64 (r.pd.x + q.x))).heap[N]? = some (.cells #[.int .i64 q.f, .int .i64 q.e, .int .i64 q.x] 30 (0, 0))) := hide (by rw [heap_setCell_other _ _ _ _ HNE.out, heap_setCell_other _ _ _ _ HNE.out, heap_setCell_other _ _ _ _ HNE.out]; exact HA13.out)
      clear d0 d1 d2 d3 d4 d5 f0 f1 f2 f3 f4 f5
      generalize (((w13.setCell ⟨b, 21, none⟩ (.int .i64 (r.pd.f + q.f))).setCell ⟨b, 22, none⟩ (.int .i64 (r.pd.e + q.e))).setCell ⟨b, 23, none⟩ (.int .i64 (r.pd.x + q.x))) = wz at *
      try simp only [Act.put, List.setIfInBounds_toArray, List.set_cons_zero, List.set_cons_succ]
      refine hd_take 17 (o := ⟨some 28, _, _, _, _, _⟩) (.pointer (some ⟨b, 21, none⟩)) (by kernel_rfl) (by kernel_rfl) (by kernel_rfl) rfl (by rfl) (fun W hSw => by go_simp) (fun _ _ _ h => h) HA1.out ?_
      try simp only [Act.put, List.setIfInBounds_toArray, List.set_cons_zero, List.set_cons_succ]
      refine hd_take 18 (o := ⟨some 29, _, _, _, _, _⟩) (.pointer (some ⟨b, 24, none⟩)) (by kernel_rfl) (by kernel_rfl) (by kernel_rfl) rfl (by rfl) (fun W hSw => by go_simp) (fun _ _ _ h => h) HA1.out ?_
      try simp only [Act.put, List.setIfInBounds_toArray, List.set_cons_zero, List.set_cons_succ]
      have d0 := HF1.out.get (j := 24) rfl
      have f0 := HF1.out.frz 24
      have d1 := HF1.out.get (j := 25) rfl
      have f1 := HF1.out.frz 25
      have d2 := HF1.out.get (j := 26) rfl
      have f2 := HF1.out.frz 26
      refine hd_call 19 (o := ⟨none, _, _, _, _, _⟩) (by kernel_rfl) rfl (by rfl) (fun K hK => ?_)
      go_simp
      refine hK _ _ (by rw [heap_setCell_other _ _ _ _ HNE.out, heap_setCell_other _ _ _ _ HNE.out, heap_setCell_other _ _ _ _ HNE.out]; exact HA1.out) ?_
      clear hK K
      refine wpAnyH_done (by kernel_rfl) ?_ _
      have HF2 := hide (Rb.set (e' := { r with pd := ⟨r.pd.f + q.f, r.pd.e + q.e, r.pd.x + q.x⟩, le := ⟨r.le.f - q.f, r.le.e - q.e, r.le.x - q.x⟩ }) (u := .int .i64 (r.le.x - q.x)) (j := 26) (Rb.set (e' := { r with pd := ⟨r.pd.f + q.f, r.pd.e + q.e, r.pd.x + q.x⟩, le := ⟨r.le.f - q.f, r.le.e - q.e, r.le.x⟩ }) (u := .int .i64 (r.le.e - q.e)) (j := 25) (Rb.set (e' := { r with pd := ⟨r.pd.f + q.f, r.pd.e + q.e, r.pd.x + q.x⟩, le := ⟨r.le.f - q.f, r.le.e, r.le.x⟩ }) (u := .int .i64 (r.le.f - q.f)) (j := 24) HF1.out rfl) rfl) rfl)
      have HG2 := hide (((HG1.out.set 24 (.int .i64 (r.le.f - q.f))).set 25 (.int .i64 (r.le.e - q.e))).set 26 (.int .i64 (r.le.x - q.x)))
      go_wp2
      go_ret
      exact ⟨rfl, HF2.out, HG2.out⟩
    · have d0 := HR3.out.get (j := 24) rfl
      have d1 := HR3.out.get (j := 25) rfl
      have d2 := HR3.out.get (j := 26) rfl
      go_simp
      refine hK _ _ HA.out ?_
      clear hK K d0 d1 d2
      try simp only [Act.put, List.setIfInBounds_toArray, List.set_cons_zero, List.set_cons_succ]
      refine hd_call 7 (o := ⟨some 19, _, _, _, _, _⟩) (by kernel_rfl) rfl (by rfl) (fun K hK => ?_)
      go_simp
      go_wp2_with (go_at_call 86; refine (HP.out _).mono ?_; rintro e1 w7 ⟨rfl, hb7⟩)
      have HA7 : Hid (w7.heap[N]? = some (.cells #[.int .i64 q.f, .int .i64 q.e, .int .i64 q.x] 30 (0, 0))) := hide ((hb7.block N (Array.getElem?_eq_some_iff.1 HA.out).1).trans HA.out)
      have HR7 : Hid (Rb w7 b r) := hide (HR3.out.keep (hb7.block b HR3.out.lt))
      have HT7 := hide (HA3.out.below hb7)
      clear hb7
      refine hK _ _ HA7.out ?_
      clear hK K
      try simp only [Act.put, List.setIfInBounds_toArray, List.set_cons_zero, List.set_cons_succ]
      refine hd_call 13 (o := ⟨some 25, _, _, _, _, _⟩) (by kernel_rfl) rfl (by rfl) (fun K hK => ?_)
      go_simp
      go_wp2_with (go_at_call 87; refine (HL.out _).mono ?_; rintro e1 w13 ⟨rfl, hb13⟩)
      have HA13 : Hid (w13.heap[N]? = some (.cells #[.int .i64 q.f, .int .i64 q.e, .int .i64 q.x] 30 (0, 0))) := hide ((hb13.block N (Array.getElem?_eq_some_iff.1 HA7.out).1).trans HA7.out)
      have HR13 : Hid (Rb w13 b r) := hide (HR7.out.keep (hb13.block b HR7.out.lt))
      have HT13 := hide (HT7.out.below hb13)
      clear hb13
      refine hK _ _ HA13.out ?_
      clear hK K
      try simp only [Act.put, List.setIfInBounds_toArray, List.set_cons_zero, List.set_cons_succ]
      refine hd_take 14 (o := ⟨some 26, _, _, _, _, _⟩) (.pointer (some ⟨b, 21, none⟩)) (by kernel_rfl) (by kernel_rfl) (by kernel_rfl) rfl (by rfl) (fun W hSw => by go_simp) (fun _ _ _ h => h) HA13.out ?_
      try simp only [Act.put, List.setIfInBounds_toArray, List.set_cons_zero, List.set_cons_succ]
      refine hd_take 15 (o := ⟨some 27, _, _, _, _, _⟩) (.pointer (some ⟨b, 21, none⟩)) (by kernel_rfl) (by kernel_rfl) (by kernel_rfl) rfl (by rfl) (fun W hSw => by go_simp) (fun _ _ _ h => h) HA13.out ?_
      try simp only [Act.put, List.setIfInBounds_toArray, List.set_cons_zero, List.set_cons_succ]
      have d0 := HR13.out.get (j := 21) rfl
      have f0 := HR13.out.frz 21
      have d1 := HR13.out.get (j := 22) rfl
      have f1 := HR13.out.frz 22
      have d2 := HR13.out.get (j := 23) rfl
      have f2 := HR13.out.frz 23
      have d3 := HR13.out.get (j := 24) rfl
      have f3 := HR13.out.frz 24
      have d4 := HR13.out.get (j := 25) rfl
      have f4 := HR13.out.frz 25
      have d5 := HR13.out.get (j := 26) rfl
      have f5 := HR13.out.frz 26
      refine hd_call 16 (o := ⟨none, _, _, _, _, _⟩) (by kernel_rfl) rfl (by rfl) (fun K hK => ?_)
      go_simp
      refine hK _ _ (by rw [heap_setCell_other _ _ _ _ HNE.out, heap_setCell_other _ _ _ _ HNE.out, heap_setCell_other _ _ _ _ HNE.out]; exact HA13.out) ?_
      clear hK K
      have HF1 : Hid (Rb (((w13.setCell ⟨b, 21, none⟩ (.int .i64 (r.pd.f + q.f))).setCell ⟨b, 22, none⟩ (.int .i64 (r.pd.e + q.e))).setCell ⟨b, 23, none⟩ (.int .i64 (r.pd.x + q.x))) b { r with pd := ⟨r.pd.f + q.f, r.pd.e + q.e, r.pd.x + q.x⟩ }) := hide (Rb.set (e := { r with pd := ⟨r.pd.f + q.f, r.pd.e + q.e, r.pd.x⟩ }) (Rb.set (e := { r with pd := ⟨r.pd.f + q.f, r.pd.e, r.pd.x⟩ }) (HR13.out.set rfl) rfl) rfl)
      have HG1 := hide (((HT13.out.set 21 (.int .i64 (r.pd.f + q.f))).set 22 (.int .i64 (r.pd.e + q.e))).set 23 (.int .i64 (r.pd.x + q.x)))
      have HA1 : Hid ((((w13.setCell ⟨b, 21, none⟩ (.int .i64 (r.pd.f + q.f))).setCell ⟨b, 22, none⟩ (.int .i64 (r.pd.e + q.e))).setCell ⟨b, 23, none⟩ (.int .i64 (r.pd.x + q.x))).heap[N]? = some (.cells #[.int .i64 q.f, .int .i64 q.e, .int .i64 q.x] 30 (0, 0))) := hide (by rw [heap_setCell_other _ _ _ _ HNE.out, heap_setCell_other _ _ _ _ HNE.out, heap_setCell_other _ _ _ _ HNE.out]; exact HA13.out)
      clear d0 d1 d2 d3 d4 d5 f0 f1 f2 f3 f4 f5
      generalize (((w13.setCell ⟨b, 21, none⟩ (.int .i64 (r.pd.f + q.f))).setCell ⟨b, 22, none⟩ (.int .i64 (r.pd.e + q.e))).setCell ⟨b, 23, none⟩ (.int .i64 (r.pd.x + q.x))) = wz at *
      try simp only [Act.put, List.setIfInBounds_toArray, List.set_cons_zero, List.set_cons_succ]
      refine hd_take 17 (o := ⟨some 28, _, _, _, _, _⟩) (.pointer (some ⟨b, 21, none⟩)) (by kernel_rfl) (by kernel_rfl) (by kernel_rfl) rfl (by rfl) (fun W hSw => by go_simp) (fun _ _ _ h => h) HA1.out ?_
      try simp only [Act.put, List.setIfInBounds_toArray, List.set_cons_zero, List.set_cons_succ]
      refine hd_take 18 (o := ⟨some 29, _, _, _, _, _⟩) (.pointer (some ⟨b, 24, none⟩)) (by kernel_rfl) (by kernel_rfl) (by kernel_rfl) rfl (by rfl) (fun W hSw => by go_simp) (fun _ _ _ h => h) HA1.out ?_
      try simp only [Act.put, List.setIfInBounds_toArray, List.set_cons_zero, List.set_cons_succ]
      have d0 := HF1.out.get (j := 24) rfl
      have f0 := HF1.out.frz 24
      have d1 := HF1.out.get (j := 25) rfl
      have f1 := HF1.out.frz 25
      have d2 := HF1.out.get (j := 26) rfl
      have f2 := HF1.out.frz 26
      refine hd_call 19 (o := ⟨none, _, _, _, _, _⟩) (by kernel_rfl) rfl (by rfl) (fun K hK => ?_)
      go_simp
      refine hK _ _ (by rw [heap_setCell_other _ _ _ _ HNE.out, heap_setCell_other _ _ _ _ HNE.out, heap_setCell_other _ _ _ _ HNE.out]; exact HA1.out) ?_
      clear hK K
      refine wpAnyH_done (by kernel_rfl) ?_ _
      have HF2 := hide (Rb.set (e' := { r with pd := ⟨r.pd.f + q.f, r.pd.e + q.e, r.pd.x + q.x⟩, le := ⟨r.le.f - q.f, r.le.e - q.e, r.le.x - q.x⟩ }) (u := .int .i64 (r.le.x - q.x)) (j := 26) (Rb.set (e' := { r with pd := ⟨r.pd.f + q.f, r.pd.e + q.e, r.pd.x + q.x⟩, le := ⟨r.le.f - q.f, r.le.e - q.e, r.le.x⟩ }) (u := .int .i64 (r.le.e - q.e)) (j := 25) (Rb.set (e' := { r with pd := ⟨r.pd.f + q.f, r.pd.e + q.e, r.pd.x + q.x⟩, le := ⟨r.le.f - q.f, r.le.e, r.le.x⟩ }) (u := .int .i64 (r.le.f - q.f)) (j := 24) HF1.out rfl) rfl) rfl)
      have HG2 := hide (((HG1.out.set 24 (.int .i64 (r.le.f - q.f))).set 25 (.int .i64 (r.le.e - q.e))).set 26 (.int .i64 (r.le.x - q.x)))
      go_wp2
      go_ret
      exact ⟨rfl, HF2.out, HG2.out⟩
  · have d0 := HR3.out.get (j := 24) rfl
    have d1 := HR3.out.get (j := 25) rfl
    have d2 := HR3.out.get (j := 26) rfl
    go_simp
    refine hK _ _ HA.out ?_
    clear hK K d0 d1 d2
    try simp only [Act.put, List.setIfInBounds_toArray, List.set_cons_zero, List.set_cons_succ]
    refine hd_call 5 (o := ⟨some 17, _, _, _, _, _⟩) (by kernel_rfl) rfl (by rfl) (fun K hK => ?_)
    have d0 := HR3.out.get (j := 21) rfl
    have d1 := HR3.out.get (j := 22) rfl
    have d2 := HR3.out.get (j := 23) rfl
    go_simp
    refine hK _ _ HA.out ?_
    clear hK K d0 d1 d2
    try simp only [Act.put, List.setIfInBounds_toArray, List.set_cons_zero, List.set_cons_succ]
    refine hd_call 7 (o := ⟨some 19, _, _, _, _, _⟩) (by kernel_rfl) rfl (by rfl) (fun K hK => ?_)
    go_simp
    go_wp2_with (go_at_call 86; refine (HP.out _).mono ?_; rintro e1 w7 ⟨rfl, hb7⟩)
    have HA7 : Hid (w7.heap[N]? = some (.cells #[.int .i64 q.f, .int .i64 q.e, .int .i64 q.x] 30 (0, 0))) := hide ((hb7.block N (Array.getElem?_eq_some_iff.1 HA.out).1).trans HA.out)
    have HR7 : Hid (Rb w7 b r) := hide (HR3.out.keep (hb7.block b HR3.out.lt))
    have HT7 := hide (HA3.out.below hb7)
    clear hb7
    refine hK _ _ HA7.out ?_
    clear hK K
    try simp only [Act.put, List.setIfInBounds_toArray, List.set_cons_zero, List.set_cons_succ]
    refine hd_call 13 (o := ⟨some 25, _, _, _, _, _⟩) (by kernel_rfl) rfl (by rfl) (fun K hK => ?_)
    go_simp
    go_wp2_with (go_at_call 87; refine (HL.out _).mono ?_; rintro e1 w13 ⟨rfl, hb13⟩)
    have HA13 : Hid (w13.heap[N]? = some (.cells #[.int .i64 q.f, .int .i64 q.e, .int .i64 q.x] 30 (0, 0))) := hide ((hb13.block N (Array.getElem?_eq_some_iff.1 HA7.out).1).trans HA7.out)
    have HR13 : Hid (Rb w13 b r) := hide (HR7.out.keep (hb13.block b HR7.out.lt))
    have HT13 := hide (HT7.out.below hb13)
    clear hb13
    refine hK _ _ HA13.out ?_
    clear hK K
    try simp only [Act.put, List.setIfInBounds_toArray, List.set_cons_zero, List.set_cons_succ]
    refine hd_take 14 (o := ⟨some 26, _, _, _, _, _⟩) (.pointer (some ⟨b, 21, none⟩)) (by kernel_rfl) (by kernel_rfl) (by kernel_rfl) rfl (by rfl) (fun W hSw => by go_simp) (fun _ _ _ h => h) HA13.out ?_
    try simp only [Act.put, List.setIfInBounds_toArray, List.set_cons_zero, List.set_cons_succ]
    refine hd_take 15 (o := ⟨some 27, _, _, _, _, _⟩) (.pointer (some ⟨b, 21, none⟩)) (by kernel_rfl) (by kernel_rfl) (by kernel_rfl) rfl (by rfl) (fun W hSw => by go_simp) (fun _ _ _ h => h) HA13.out ?_
    try simp only [Act.put, List.setIfInBounds_toArray, List.set_cons_zero, List.set_cons_succ]
    have d0 := HR13.out.get (j := 21) rfl
    have f0 := HR13.out.frz 21
    have d1 := HR13.out.get (j := 22) rfl
    have f1 := HR13.out.frz 22
    have d2 := HR13.out.get (j := 23) rfl
    have f2 := HR13.out.frz 23
    have d3 := HR13.out.get (j := 24) rfl
    have f3 := HR13.out.frz 24
    have d4 := HR13.out.get (j := 25) rfl
    have f4 := HR13.out.frz 25
    have d5 := HR13.out.get (j := 26) rfl
    have f5 := HR13.out.frz 26
    refine hd_call 16 (o := ⟨none, _, _, _, _, _⟩) (by kernel_rfl) rfl (by rfl) (fun K hK => ?_)
    go_simp
    refine hK _ _ (by rw [heap_setCell_other _ _ _ _ HNE.out, heap_setCell_other _ _ _ _ HNE.out, heap_setCell_other _ _ _ _ HNE.out]; exact HA13.out) ?_
    clear hK K
    have HF1 : Hid (Rb (((w13.setCell ⟨b, 21, none⟩ (.int .i64 (r.pd.f + q.f))).setCell ⟨b, 22, none⟩ (.int .i64 (r.pd.e + q.e))).setCell ⟨b, 23, none⟩ (.int .i64 (r.pd.x + q.x))) b { r with pd := ⟨r.pd.f + q.f, r.pd.e + q.e, r.pd.x + q.x⟩ }) := hide (Rb.set (e := { r with pd := ⟨r.pd.f + q.f, r.pd.e + q.e, r.pd.x⟩ }) (Rb.set (e := { r with pd := ⟨r.pd.f + q.f, r.pd.e, r.pd.x⟩ }) (HR13.out.set rfl) rfl) rfl)
    have HG1 := hide (((HT13.out.set 21 (.int .i64 (r.pd.f + q.f))).set 22 (.int .i64 (r.pd.e + q.e))).set 23 (.int .i64 (r.pd.x + q.x)))
    have HA1 : Hid ((((w13.setCell ⟨b, 21, none⟩ (.int .i64 (r.pd.f + q.f))).setCell ⟨b, 22, none⟩ (.int .i64 (r.pd.e + q.e))).setCell ⟨b, 23, none⟩ (.int .i64 (r.pd.x + q.x))).heap[N]? = some (.cells #[.int .i64 q.f, .int .i64 q.e, .int .i64 q.x] 30 (0, 0))) := hide (by rw [heap_setCell_other _ _ _ _ HNE.out, heap_setCell_other _ _ _ _ HNE.out, heap_setCell_other _ _ _ _ HNE.out]; exact HA13.out)
    clear d0 d1 d2 d3 d4 d5 f0 f1 f2 f3 f4 f5
    generalize (((w13.setCell ⟨b, 21, none⟩ (.int .i64 (r.pd.f + q.f))).setCell ⟨b, 22, none⟩ (.int .i64 (r.pd.e + q.e))).setCell ⟨b, 23, none⟩ (.int .i64 (r.pd.x + q.x))) = wz at *
    try simp only [Act.put, List.setIfInBounds_toArray, List.set_cons_zero, List.set_cons_succ]
    refine hd_take 17 (o := ⟨some 28, _, _, _, _, _⟩) (.pointer (some ⟨b, 21, none⟩)) (by kernel_rfl) (by kernel_rfl) (by kernel_rfl) rfl (by rfl) (fun W hSw => by go_simp) (fun _ _ _ h => h) HA1.out ?_
    try simp only [Act.put, List.setIfInBounds_toArray, List.set_cons_zero, List.set_cons_succ]
    refine hd_take 18 (o := ⟨some 29, _, _, _, _, _⟩) (.pointer (some ⟨b, 24, none⟩)) (by kernel_rfl) (by kernel_rfl) (by kernel_rfl) rfl (by rfl) (fun W hSw => by go_simp) (fun _ _ _ h => h) HA1.out ?_
    try simp only [Act.put, List.setIfInBounds_toArray, List.set_cons_zero, List.set_cons_succ]
    have d0 := HF1.out.get (j := 24) rfl
    have f0 := HF1.out.frz 24
    have d1 := HF1.out.get (j := 25) rfl
    have f1 := HF1.out.frz 25
    have d2 := HF1.out.get (j := 26) rfl
    have f2 := HF1.out.frz 26
    refine hd_call 19 (o := ⟨none, _, _, _, _, _⟩) (by kernel_rfl) rfl (by rfl) (fun K hK => ?_)
    go_simp
    refine hK _ _ (by rw [heap_setCell_other _ _ _ _ HNE.out, heap_setCell_other _ _ _ _ HNE.out, heap_setCell_other _ _ _ _ HNE.out]; exact HA1.out) ?_
    clear hK K
    refine wpAnyH_done (by kernel_rfl) ?_ _
    have HF2 := hide (Rb.set (e' := { r with pd := ⟨r.pd.f + q.f, r.pd.e + q.e, r.pd.x + q.x⟩, le := ⟨r.le.f - q.f, r.le.e - q.e, r.le.x - q.x⟩ }) (u := .int .i64 (r.le.x - q.x)) (j := 26) (Rb.set (e' := { r with pd := ⟨r.pd.f + q.f, r.pd.e + q.e, r.pd.x + q.x⟩, le := ⟨r.le.f - q.f, r.le.e - q.e, r.le.x⟩ }) (u := .int .i64 (r.le.e - q.e)) (j := 25) (Rb.set (e' := { r with pd := ⟨r.pd.f + q.f, r.pd.e + q.e, r.pd.x + q.x⟩, le := ⟨r.le.f - q.f, r.le.e, r.le.x⟩ }) (u := .int .i64 (r.le.f - q.f)) (j := 24) HF1.out rfl) rfl) rfl)
    have HG2 := hide (((HG1.out.set 24 (.int .i64 (r.le.f - q.f))).set 25 (.int .i64 (r.le.e - q.e))).set 26 (.int .i64 (r.le.x - q.x)))
    go_wp2
    go_ret
    exact ⟨rfl, HF2.out, HG2.out⟩
end Go.Proofs.YtbocpmcodlceoaaGreat
