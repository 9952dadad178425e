import Derived.Test.YtngmnlmagbfijabCB
namespace Go.Proofs.Ytngmnlmagbfijab
open Go.RowKit
def rwL (x : Rw) : List Value := [.int .i64 x.se, .int .i64 x.wt, .int .i64 x.ps, .bool x.was]
def rws (l : List Rw) : List Value := l.flatMap rwL
theorem rws_len (l : List Rw) : (rws l).length = l.length * 4 := by
  induction l with
  | nil => rfl
  | cons a t ih => simp only [rws, List.flatMap_cons, List.length_append, List.length_cons] at ih ⊢; rw [ih]; simp [rwL]; omega
theorem rws_snoc (l : List Rw) (x : Rw) : rws (l ++ [x]) = rws l ++ rwL x := by simp [rws]
theorem rws_get : ∀ (l : List Rw) (i : Nat) (x : Rw), l[i]? = some x → (rws l)[i * 4]? = some (.int .i64 x.se) ∧ (rws l)[i * 4 + 1]? = some (.int .i64 x.wt) ∧ (rws l)[i * 4 + 2]? = some (.int .i64 x.ps) ∧ (rws l)[i * 4 + 3]? = some (.bool x.was)
  | [], _, _, h => by simp at h
  | b :: cs, 0, x, h => by simp at h; subst h; exact ⟨rfl, rfl, rfl, rfl⟩
  | b :: cs, i + 1, x, h => by
    have := rws_get cs i x (by simpa using h)
    rw [show (i + 1) * 4 = i * 4 + 4 by omega, show i * 4 + 4 + 1 = i * 4 + 1 + 4 by omega, show i * 4 + 4 + 2 = i * 4 + 2 + 4 by omega, show i * 4 + 4 + 3 = i * 4 + 3 + 4 by omega]
    simpa [rws, rwL] using this
theorem rws_set1 : ∀ (l : List Rw) (i : Nat) (x : Rw) (v : Int), l[i]? = some x → (rws l).set (i * 4 + 1) (.int .i64 v) = rws (l.set i { x with wt := v })
  | [], _, _, _, h => by simp at h
  | b :: cs, 0, x, v, h => by simp at h; subst h; rfl
  | b :: cs, i + 1, x, v, h => by
    have := rws_set1 cs i x v (by simpa using h)
    rw [show (i + 1) * 4 + 1 = i * 4 + 1 + 4 by omega]
    simp only [List.set_cons_succ, rws, List.flatMap_cons, rwL, List.cons_append, List.nil_append] at this ⊢
    rw [this]
theorem rws_set2 : ∀ (l : List Rw) (i : Nat) (x : Rw) (v : Int), l[i]? = some x → (rws l).set (i * 4 + 2) (.int .i64 v) = rws (l.set i { x with ps := v })
  | [], _, _, _, h => by simp at h
  | b :: cs, 0, x, v, h => by simp at h; subst h; rfl
  | b :: cs, i + 1, x, v, h => by
    have := rws_set2 cs i x v (by simpa using h)
    rw [show (i + 1) * 4 + 2 = i * 4 + 2 + 4 by omega]
    simp only [List.set_cons_succ, rws, List.flatMap_cons, rwL, List.cons_append, List.nil_append] at this ⊢
    rw [this]
theorem rws_set3 : ∀ (l : List Rw) (i : Nat) (x : Rw) (v : Bool), l[i]? = some x → (rws l).set (i * 4 + 3) (.bool v) = rws (l.set i { x with was := v })
  | [], _, _, _, h => by simp at h
  | b :: cs, 0, x, v, h => by simp at h; subst h; rfl
  | b :: cs, i + 1, x, v, h => by
    have := rws_set3 cs i x v (by simpa using h)
    rw [show (i + 1) * 4 + 3 = i * 4 + 3 + 4 by omega]
    simp only [List.set_cons_succ, rws, List.flatMap_cons, rwL, List.cons_append, List.nil_append] at this ⊢
    rw [this]
/-- the document's plan in memory: its block, its rows v, all of it in blocks of Y -/
structure RfM (w : World) (Y : Nat → Prop) (g : Nat) (v : Value) (kd : Nat) (L : List Rw) (last : Int) : Prop where
  top : w.heap[g]? = some (.cells #[.int .i64 (kd : Nat), v, .int .i64 last] 66 (0, 0))
  row : w.ownsRow 0 69 4 v L.length (rws L)
  yg : Y g
  yv : ∀ b, v.ownBlock = some b → Y b
  lt : ∀ b, Y b → b < w.heap.size
def RfAt (w : World) (Y : Nat → Prop) (g : Nat) (kd : Nat) (L : List Rw) (last : Int) : Prop := ∃ v, RfM w Y g v kd L last
section
variable {w w' : World} {Y : Nat → Prop} {g kd : Nat} {v : Value} {L : List Rw} {last : Int}
theorem RfM.keep (h : RfM w Y g v kd L last) (hs : w.heap.size ≤ w'.heap.size) (hk : ∀ b, Y b → w'.heap[b]? = w.heap[b]?) : RfM w' Y g v kd L last :=
  ⟨by rw [hk g h.yg]; exact h.top, ownsRow_keepB h.row (fun b hb => hk b (h.yv b hb)), h.yg, h.yv, fun b hb => Nat.lt_of_lt_of_le (h.lt b hb) hs⟩
theorem RfAt.keep (h : RfAt w Y g kd L last) (hs : w.heap.size ≤ w'.heap.size) (hk : ∀ b, Y b → w'.heap[b]? = w.heap[b]?) : RfAt w' Y g kd L last := by
  obtain ⟨v, h⟩ := h; exact ⟨v, h.keep hs hk⟩
theorem RfAt.lt (h : RfAt w Y g kd L last) : ∀ b, Y b → b < w.heap.size := by obtain ⟨v, h⟩ := h; exact h.lt
theorem RfAt.below (h : RfAt w Y g kd L last) (hb : Below w.heap.size w w') : RfAt w' Y g kd L last := h.keep hb.size (fun b hb' => hb.block b (h.lt b hb'))
theorem RfM.below (h : RfM w Y g v kd L last) (hb : Below w.heap.size w w') : RfM w' Y g v kd L last := h.keep hb.size (fun b hb' => hb.block b (h.lt b hb'))
theorem RfM.c (h : RfM w Y g v kd L last) : w.cell? ⟨g, 0, none⟩ = some (.int .i64 (kd : Nat)) ∧ w.cell? ⟨g, 1, none⟩ = some v ∧ w.cell? ⟨g, 2, none⟩ = some (.int .i64 last) := by
  have c0 := cell_of_row _ _ 0 _ _ _ h.top
  have c1 := cell_of_row _ _ 1 _ _ _ h.top
  have c2 := cell_of_row _ _ 2 _ _ _ h.top
  simp only [List.getElem?_toArray, List.getElem?_cons_zero, List.getElem?_cons_succ] at c0 c1 c2
  exact ⟨c0, c1, c2⟩
theorem RfM.shape (h : RfM w Y g v kd L last) : ∃ a c, v = .slice a L.length c := by
  obtain ⟨a, c, h⟩ := own_shape h.row
  exact ⟨a, c, h⟩
/-- a row's cells -/
theorem RfM.at {a : Option Addr} {nn c : Nat} (h : RfM w Y g (.slice a nn c) kd L last) {i : Nat} {x : Rw} (hx : L[i]? = some x) :
    ∃ r, a = some ⟨r, 0, none⟩ ∧ Y r ∧ r ≠ g ∧ w.cell? ⟨r, i * 4, none⟩ = some (.int .i64 x.se) ∧ w.cell? ⟨r, i * 4 + 1, none⟩ = some (.int .i64 x.wt) ∧ w.cell? ⟨r, i * 4 + 2, none⟩ = some (.int .i64 x.ps) ∧ w.cell? ⟨r, i * 4 + 3, none⟩ = some (.bool x.was) ∧ (∀ j, w.frozen? ⟨r, j, none⟩ = false) ∧ w.ownsRow 0 69 4 (.slice (some ⟨r, 0, none⟩) L.length c) L.length (rws L) := by
  have hl : i < L.length := (List.getElem?_eq_some_iff.1 hx).1
  obtain ⟨a', c', he⟩ := own_shape h.row
  cases he
  rcases h.row.2 with ⟨_, h1⟩ | ⟨r, cap, cur, h1, _, hg, _⟩
  · omega
  · cases h1
    obtain ⟨d0, d1, d2, d3⟩ := rws_get L i x hx
    have hc := h.row
    refine ⟨r, rfl, h.yv r rfl, fun e => ?_, ?_, ?_, ?_, ?_, fun j => World.ownsRow.frozenAt hc j, hc⟩
    · rw [e, h.top] at hg; cases hg
    · rw [World.ownsRow.cellAt hc _ (by omega)]; exact d0
    · rw [World.ownsRow.cellAt hc _ (by omega)]; exact d1
    · rw [World.ownsRow.cellAt hc _ (by omega)]; exact d2
    · rw [World.ownsRow.cellAt hc _ (by omega)]; exact d3
/-- a store into a row -/
theorem RfM.store {r c j nn : Nat} {u : Value} {L' : List Rw} (h : RfM w Y g (.slice (some ⟨r, 0, none⟩) nn c) kd L last) (hne : r ≠ g) (hL : (rws L).set j u = rws L') (hlen : L'.length = L.length) :
    RfM (w.setCell ⟨r, j, none⟩ u) Y g (.slice (some ⟨r, 0, none⟩) nn c) kd L' last ∧ Mod Y w (w.setCell ⟨r, j, none⟩ u) := by
  obtain ⟨a', c', he⟩ := own_shape h.row
  cases he
  have h1 := World.ownsRow.stored h.row j u
  rw [hL] at h1
  refine ⟨⟨?_, by rw [hlen]; exact h1.1, h.yg, h.yv, fun b hb => Nat.lt_of_lt_of_le (h.lt b hb) h1.2.size⟩, (Mod.refl Y w).setCell (p := ⟨r, j, none⟩) (.inl (h.yv r rfl)) u⟩
  rw [heap_setCell_other _ _ _ _ (fun e => hne (by simpa using e.symm))]
  exact h.top
/-- the last one, or the mark -/
theorem RfM.setLast (h : RfM w Y g v kd L last) (z : Int) : RfM (w.setCell ⟨g, 2, none⟩ (.int .i64 z)) Y g v kd L z ∧ Mod Y w (w.setCell ⟨g, 2, none⟩ (.int .i64 z)) ∧ w.frozen? ⟨g, 2, none⟩ = false := by
  have hm := (Mod.refl Y w).setCell (p := ⟨g, 2, none⟩) (.inl h.yg) (.int .i64 z)
  refine ⟨⟨?_, ownsRow_keepB h.row (fun b hb => ?_), h.yg, h.yv, fun b hb => Nat.lt_of_lt_of_le (h.lt b hb) hm.size⟩, hm, frozen_of_row _ _ _ _ _ h.top⟩
  · rw [heap_setCell_same _ g 2 _ _ _ h.top]; simp
  · rw [heap_setCell_other _ _ _ _ (fun e => ?_)]
    have e' : b = g := by simpa using e
    subst e'
    rcases h.row.2 with ⟨h1, _⟩ | ⟨r, cap, cur, h1, _, hg, _⟩
    · rw [h1] at hb; cases hb
    · rw [h1] at hb; cases hb; rw [h.top] at hg; cases hg
end
section
variable (w : World)
set_option maxRecDepth 100000 in
set_option maxHeartbeats 1000000 in
theorem rin_any (S : Nat → Prop) (v : Value) (R : List Int) (hR : Rd S w v R) (hl : R.length ≤ 4611686018427387904) (a : Int) : Calls Try.prog 25 #[v, .int .i64 a] w fun e w' => e = .returned (.bool (decide (a ∈ R))) ∧ w' = w := by
  have HR := hide hR
  obtain ⟨ao, cap, rfl, hcap⟩ := hR.len
  obtain ⟨m, hm⟩ : ∃ m, R.length = m := ⟨_, rfl⟩
  have HLn := hide hm
  rw [hm] at hl hcap HR ⊢
  obtain ⟨res, hres⟩ : ∃ r, decide (a ∈ R) = r := ⟨_, rfl⟩
  have HV : Hid ((a ∈ R → res = true) ∧ (a ∉ R → res = false)) := hide ⟨fun h => by rw [← hres]; exact decide_eq_true h, fun h => by rw [← hres]; exact decide_eq_false h⟩
  rw [hres]
  clear hR hm hres
  go_enter Try.func25, Try.ntmps25
  go_upto_region 2 with fail
  go_loopw [5] (fun i wr => ∃ k : Nat, k ≤ m ∧ i = .int .i64 (k : Nat) ∧ Hid (∀ j, j < k → R.getD j 0 ≠ a) ∧ wr = w) (fun i _ => m - (RowKit.intOf i).toNat)
  case atStart => exact ⟨0, by omega, rfl, hide (fun i hi => by omega), rfl⟩
  case round =>
    obtain ⟨k, hk, rfl, HD, rfl⟩ := hrel
    by_cases hlt : k < m
    · obtain ⟨x, rfl, _, hc⟩ := HR.out.some_of (by rw [HLn.out]; omega)
      have d0 := hc k (by rw [HLn.out]; omega)
      have hki : (k : Int) < m := by omega
      obtain ⟨b, hb⟩ : ∃ b, R.getD k 0 = b := ⟨_, rfl⟩
      have HB := hide hb
      rw [hb] at d0
      clear hc hb
      by_cases hab : b = a
      · subst hab
        have hmem : b ∈ R := by
          rw [← HB.out, List.getD_eq_getElem?_getD, List.getElem?_eq_getElem (by rw [HLn.out]; exact hlt), Option.getD_some]
          exact List.getElem_mem _
        have hr := HV.out.1 hmem
        subst hr
        clear hmem
        go_wp2
        go_ret
        exact ⟨rfl, rfl⟩
      · have hab2 : (b == a) = false := by simpa using hab
        have HD2 : Hid (∀ j, j < k + 1 → R.getD j 0 ≠ a) := hide (fun j hj => by
          by_cases hjk : j = k
          · subst hjk; rw [HB.out]; exact hab
          · exact HD.out j (by omega))
        clear HD
        go_wp2
        go_roundw
        case rel => exact ⟨k + 1, by omega, by go_num, HD2, trivial⟩
        case measure => simp [RowKit.intOf]; omega
    · obtain rfl : k = m := by omega
      have hmem : a ∉ R := fun h => by
        obtain ⟨i, hi, hi2⟩ := List.getElem_of_mem h
        have := HD.out i (by rw [← HLn.out]; exact hi)
        rw [List.getD_eq_getElem?_getD, List.getElem?_eq_getElem hi, Option.getD_some] at this
        exact this hi2
      have hr := HV.out.2 hmem
      subst hr
      clear hmem
      go_wp2
      go_ret
      exact ⟨rfl, rfl⟩
set_option maxHeartbeats 4000000 in
theorem rnew_bad (k : Int) (h : ¬ (1 ≤ k ∧ k ≤ 3)) : Calls Try.prog 11 #[.int .i64 k] w fun e w' => e = .returned (.tuple #[.pointer none, .int .i64 1]) ∧ w' = w := by
  go_enter Try.func11, Try.ntmps11
  by_cases h1 : k < 1
  · clear h
    go_wp2
    go_ret2
    exact ⟨rfl, rfl⟩
  · have h2 : k > 3 := by omega
    clear h
    go_wp2
    go_ret2
    exact ⟨rfl, rfl⟩
set_option maxHeartbeats 4000000 in
theorem rnew_ok (k : Nat) (h : k = 1 ∨ k = 2 ∨ k = 3) : Calls Try.prog 11 #[.int .i64 (k : Nat)] w fun e w' => ∃ g, e = .returned (.tuple #[.pointer (some ⟨g, 0, none⟩), .int .i64 0]) ∧ RfAt w' (fun b => b = g) g k [] 0 ∧ w.heap.size ≤ g ∧ Below w.heap.size w w' := by
  go_enter Try.func11, Try.ntmps11
  have h1 : ¬ (k : Int) < 1 := by omega
  have h2 : ¬ (k : Int) > 3 := by omega
  clear h
  go_wp2
  go_ret2
  exact ⟨w.heap.size, rfl, ⟨.slice none 0 0, ⟨heap_alloc_last _ _, ⟨rfl, .inl ⟨rfl, rfl⟩⟩, rfl, fun b hb => by simp [Value.ownBlock] at hb, fun b hb => by subst hb; simp⟩⟩, Nat.le_refl _, (Below.refl _ _).alloc (Nat.le_refl _) _⟩
end
end Go.Proofs.Ytngmnlmagbfijab
