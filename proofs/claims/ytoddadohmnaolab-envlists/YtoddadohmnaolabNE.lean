import Derived.Test.YtoddadohmnaolabND
namespace Go.Proofs.Ytoddadohmnaolab
open Go.ChangeShapes Go.WideShapes Go.ChangeAt Go.RowKit Go.Deep Go.Shelf Go.Great

theorem numN_nums (l : List Nat) : numN l = nums (l.map (fun k : Nat => (k : Int))) := by simp [numN, nums]
theorem nums_app (a b : List Int) : nums (a ++ b) = nums a ++ nums b := by simp [nums]
/-- a cell of an own row is set -/
theorem own_set {w : World} {base g n c j : Nat} {xs : List Value} (h : w.ownsRow base 3 1 (.slice (some ⟨g, 0, none⟩) n c) n xs) (u : Value) : (w.setCell ⟨g, j, none⟩ u).ownsRow base 3 1 (.slice (some ⟨g, 0, none⟩) n c) n (xs.set j u) := by
  obtain ⟨hl, ⟨h0, _⟩ | ⟨g', cp, cur, h0, h1, h2, h3, h4, h5, h6⟩⟩ := h
  · cases h0
  · cases h0
    refine ⟨by simpa using hl, .inr ⟨g, c, cur.setIfInBounds j u, rfl, h1, ?_, h3, h4, by simpa using h5, ?_⟩⟩
    · rw [heap_setCell_same _ g j _ _ u h2]
    · rw [← h6, Array.toList_setIfInBounds, List.take_set]
theorem own_frz {w : World} {base g n c j : Nat} {xs : List Value} (h : w.ownsRow base 3 1 (.slice (some ⟨g, 0, none⟩) n c) n xs) : w.frozen? ⟨g, j, none⟩ = false := by
  obtain ⟨hl, ⟨h0, _⟩ | ⟨g', cp, cur, h0, h1, h2, h3, h4, h5, h6⟩⟩ := h
  · cases h0
  · cases h0
    exact frozen_of_row _ _ _ _ _ h2
theorem grown_set (w : World) (g j : Nat) (u : Value) : w.grownBy (w.setCell ⟨g, j, none⟩ u) (some g) :=
  ⟨rfl, rfl, rfl, by simp [World.setCell], fun k _ hk => heap_setCell_other _ _ _ _ (fun e => hk (by rw [e]))⟩
set_option maxRecDepth 8000 in
set_option maxHeartbeats 3200000 in
theorem allAre_any (w : World) (base : Nat) (a : Option Addr) (c : Nat) (l : List Int) (hrow : w.ownsRow base 3 1 (.slice a l.length c) l.length (nums l)) (z : Int) (hl : l.length ≤ 32) (h0 : 0 < l.length) (hz : ∀ y ∈ l, y = z) : Calls Try.prog 25 #[.slice a l.length c, .int .i64 z] w fun x w' => x = .returned (.bool true) ∧ w' = w := by
  have HR := hide hrow
  have HZ := hide hz
  obtain ⟨L, hL⟩ : ∃ L, l.length = L := ⟨_, rfl⟩
  have HL := hide hL
  rw [hL] at hl h0 HR ⊢
  clear hrow hL hz
  go_enter Try.func25, Try.ntmps25
  go_upto_region 2 with fail
  go_loopw [5] (fun x wr => ∃ j : Nat, j ≤ L ∧ x = .int .i64 (j : Int) ∧ wr = w) (fun x _ => L - (intOf x).toNat)
  case atStart => exact ⟨0, by omega, rfl, rfl⟩
  case round =>
  obtain ⟨j, hj, rfl, rfl⟩ := hrel
  by_cases hlt : j < L
  · have hd : decide ((j : Int) < (L : Int)) = true := by simp; omega
    have hj3 : (j : Int) < (L : Int) := by omega
    obtain ⟨y, hy⟩ : ∃ y, l[j]? = some y := ⟨_, List.getElem?_eq_getElem (by have := HL.out; omega)⟩
    obtain rfl := HZ.out y (List.mem_of_getElem? hy)
    have hro := HR.out
    rw [← HL.out] at hro
    obtain ⟨g, rfl, hc⟩ := row_cell hro hy
    clear hy hro
    go_wp2
    go_roundw
    case rel =>
      first
        | exact ⟨j + 1, by omega, by go_num, by trivial⟩
        | ((repeat apply Exists.intro); refine ⟨?_, rfl⟩; exact ⟨j + 1, by omega, by go_num, by trivial⟩)
    case measure => simp [intOf]; omega
  · have hd : decide ((j : Int) < (L : Int)) = false := by simp; omega
    have hd2 : decide ((0 : Int) < (L : Int)) = true := by simp; omega
    have hd3 : (0 : Int) < (L : Int) := by omega
    go_wp2
    go_ret
    exact ⟨by simp, rfl⟩
set_option maxRecDepth 8000 in
set_option maxHeartbeats 3200000 in
theorem sameInts_any (w : World) (base base' : Nat) (a a' : Option Addr) (c c' : Nat) (l : List Int) (hrow : w.ownsRow base 3 1 (.slice a l.length c) l.length (nums l)) (hrow' : w.ownsRow base' 3 1 (.slice a' l.length c') l.length (nums l)) (hl : l.length ≤ 32) : Calls Try.prog 24 #[.slice a l.length c, .slice a' l.length c'] w fun x w' => x = .returned (.bool true) ∧ Below w.heap.size w w' := by
  have HR := hide hrow
  have HR' := hide hrow'
  obtain ⟨L, hL⟩ : ∃ L, l.length = L := ⟨_, rfl⟩
  have HL := hide hL
  rw [hL] at hl HR HR' ⊢
  clear hrow hrow' hL
  go_enter Try.func24, Try.ntmps24
  go_upto_region 4 with fail
  go_loopw [5] (fun x wr => ∃ j : Nat, j ≤ L ∧ x = .int .i64 (j : Int) ∧ Hid (Below w.heap.size w wr)) (fun x _ => L - (intOf x).toNat)
  case atStart => exact ⟨0, by omega, rfl, Below.refl _ _⟩
  case round =>
  obtain ⟨j, hj, rfl, KB⟩ := hrel
  by_cases hlt : j < L
  · have hd : decide ((j : Int) < (L : Int)) = true := by simp; omega
    have hj3 : (j : Int) < (L : Int) := by omega
    obtain ⟨y, hy⟩ : ∃ y, l[j]? = some y := ⟨_, List.getElem?_eq_getElem (by have := HL.out; omega)⟩
    have hro := own_below HR.out KB.out
    have hro' := own_below HR'.out KB.out
    rw [← HL.out] at hro hro'
    obtain ⟨g, rfl, hc⟩ := row_cell hro hy
    obtain ⟨g', rfl, hc'⟩ := row_cell hro' hy
    clear hy hro hro'
    go_upto_region 6 with fail
    go_quiet (fail)
    have bN : Below wr.heap.size wr (wr.drewN nq) := ⟨rfl, rfl, rfl, Nat.le_refl _, fun _ _ => rfl⟩
    have KB2 := hide (KB.out.trans (bN.mono KB.out.size))
    clear bN KB
    go_wp2
    go_roundw
    case rel =>
      first
        | exact ⟨j + 1, by omega, by go_num, KB2⟩
        | ((repeat apply Exists.intro); refine ⟨?_, rfl⟩; exact ⟨j + 1, by omega, by go_num, KB2⟩)
    case measure => simp [intOf]; omega
  · have hd : decide ((j : Int) < (L : Int)) = false := by simp; omega
    go_wp2
    go_ret
    exact ⟨by simp, KB.out⟩
/-- the first j marked -/
def mk (l : List Int) (z : Int) (j : Nat) : List Int := List.replicate j z ++ l.drop j
theorem mk_zero (l : List Int) (z : Int) : mk l z 0 = l := by simp [mk]
theorem mk_end (l : List Int) (z : Int) : mk l z l.length = List.replicate l.length z := by simp [mk]
theorem mk_len (l : List Int) (z : Int) {j : Nat} (hj : j ≤ l.length) : (mk l z j).length = l.length := by simp [mk]; omega
theorem mk_set (l : List Int) (z : Int) {j : Nat} (hj : j < l.length) : (nums (mk l z j)).set j (.int .i64 z) = nums (mk l z (j + 1)) := by
  have h1 : (mk l z j).set j z = mk l z (j + 1) := by
    refine List.ext_getElem? (fun i => ?_)
    unfold mk
    by_cases e : i = j
    · subst e
      rw [List.getElem?_set_self (by simp; omega), List.getElem?_append_left (by simp), List.getElem?_replicate, if_pos (by omega)]
    · rw [List.getElem?_set_ne (fun e9 => e e9.symm)]
      by_cases h : i < j
      · rw [List.getElem?_append_left (by simpa using h), List.getElem?_append_left (by simp; omega), List.getElem?_replicate, List.getElem?_replicate, if_pos h, if_pos (by omega)]
      · rw [List.getElem?_append_right (by simp; omega), List.getElem?_append_right (by simp; omega), List.getElem?_drop, List.getElem?_drop]
        simp only [List.length_replicate]
        congr 1
        omega
  rw [← h1]
  simp [nums, List.map_set]
set_option maxRecDepth 8000 in
set_option maxHeartbeats 3200000 in
theorem marked_any (w : World) (base : Nat) (v : Value) (l : List Int) (hrow : w.ownsRow base 3 1 v l.length (nums l)) (z : Int) (hl : l.length ≤ 32) (hb0 : base ≤ w.heap.size) : Calls Try.prog 23 #[v, .int .i64 z] w fun x w' => ∃ v', x = .returned v' ∧ w'.ownsRow base 3 1 v' (l.length + 1) (nums (List.replicate (l.length + 1) z)) ∧ w.grownBy w' v.ownBlock ∧ (v'.ownBlock = v.ownBlock ∨ ∃ b, v'.ownBlock = some b ∧ w.heap.size ≤ b) := by
  obtain ⟨i3, hi, hz, hs, hb⟩ := info3'
  have HR := hide hrow
  obtain ⟨a, c, rfl⟩ := own_shape hrow
  obtain ⟨L, hL⟩ : ∃ L, l.length = L := ⟨_, rfl⟩
  have HL := hide hL
  rw [hL] at hl HR ⊢
  have H0 : Hid (w.ownsRow base 3 1 (.slice a L c) L (nums (mk l z 0))) := hide (by rw [mk_zero]; exact HR.out)
  clear hrow hL
  go_enter Try.func23, Try.ntmps23
  go_upto_region 2 with fail
  go_loopw [5] (fun x wr => ∃ j : Nat, j ≤ L ∧ x = .int .i64 (j : Int) ∧ Hid (wr.ownsRow base 3 1 (.slice a L c) L (nums (mk l z j))) ∧ Hid (w.grownBy wr (Value.slice a L c).ownBlock) ∧ Hid (wr.heap.size = w.heap.size)) (fun x _ => L - (intOf x).toNat)
  case atStart => exact ⟨0, by omega, rfl, H0, hide ⟨rfl, rfl, rfl, Nat.le_refl _, fun _ _ _ => rfl⟩, rfl⟩
  case round =>
  clear H0
  obtain ⟨j, hj, rfl, KR, KG, KS⟩ := hrel
  by_cases hlt : j < L
  · have hd : decide ((j : Int) < (L : Int)) = true := by simp; omega
    have hj3 : (j : Int) < (L : Int) := by omega
    have hml := mk_len l z (j := j) (by have := HL.out; omega)
    obtain ⟨y, hy⟩ : ∃ y, (mk l z j)[j]? = some y := ⟨_, List.getElem?_eq_getElem (by have := HL.out; omega)⟩
    have hro := KR.out
    rw [← HL.out, ← hml] at hro
    obtain ⟨g, rfl, hc⟩ := row_cell hro hy
    have hf := own_frz (j := j) KR.out
    have N1 : Hid ((wr.setCell ⟨g, j, none⟩ (.int .i64 z)).ownsRow base 3 1 (.slice (some ⟨g, 0, none⟩) L c) L (nums (mk l z (j + 1)))) := hide (by
      rw [← mk_set l z (by have := HL.out; omega)]
      exact own_set KR.out _)
    have N2 : Hid (w.grownBy (wr.setCell ⟨g, j, none⟩ (.int .i64 z)) (Value.slice (some ⟨g, 0, none⟩) L c).ownBlock) := hide (KG.out.trans (grown_set wr g j _))
    have N3 : Hid ((wr.setCell ⟨g, j, none⟩ (.int .i64 z)).heap.size = w.heap.size) := hide (by rw [← KS.out]; simp [World.setCell])
    clear hro hy hml KR KG KS
    go_wp2
    go_roundw
    case rel =>
      first
        | exact ⟨j + 1, by omega, by go_num, N1, N2, N3⟩
        | ((repeat apply Exists.intro); refine ⟨?_, rfl⟩; exact ⟨j + 1, by omega, by go_num, N1, N2, N3⟩)
    case measure => simp [intOf]; omega
  · obtain rfl : j = L := by omega
    have hd : decide ((j : Int) < (j : Int)) = false := by simp
    have hE : mk l z j = List.replicate j z := by rw [← HL.out]; exact mk_end l z
    have hro := KR.out
    rw [hE] at hro
    have HRo := hide hro
    clear hro KR
    go_wp2_with (at_builtin; refine wpList_append_own_at _ rfl _ _ 49 rfl base 3 i3 (.int .i64 0) 1 8 Try.underlying49 hi hz hs hb rfl (by decide) _ _ _ rfl (HRo.out.alloc _) ⟨wr.heap.size, 0, none⟩ 1 1 [.int .i64 z] rfl rfl (cell_one_new _ _ _) (by simp [Value.oneCell']) (by unfold maxLen; omega) (by omega) (by simp [KS.out]; omega) ?_; intro v3 w3 hown3 hg3 _ hlo3; obtain ⟨gg, cap, rfl⟩ := ownsRow_succ hown3)
    go_ret
    refine ⟨_, rfl, ?_, ?_, ?_⟩
    · have e9 : nums (List.replicate (j + 1) z) = nums (List.replicate j z) ++ [.int .i64 z] := by rw [List.replicate_succ', nums_app]; rfl
      rw [e9]; exact hown3
    · exact (KG.out.trans (World.grownBy_alloc _ _ _)).trans hg3
    · rcases hlo3 with h9 | h9
      · exact .inl h9
      · exact .inr ⟨_, h9, by simp [KS.out]⟩
end Go.Proofs.Ytoddadohmnaolab

namespace Go.Proofs.Ytoddadohmnaolab
open Go.ChangeShapes Go.WideShapes Go.ChangeAt Go.RowKit Go.Deep Go.Shelf Go.Great

/-- rows of the law's own, apart from one another -/
structure Rw (base : Nat) (R : List (Value × Nat × List Value)) (w : World) : Prop where
  row : ∀ (i : Nat) p, R[i]? = some p → w.ownsRow base 3 1 p.1 p.2.1 p.2.2
  apart : ∀ (i j : Nat) p q, R[i]? = some p → R[j]? = some q → i ≠ j → ∀ b, p.1.ownBlock = some b → q.1.ownBlock ≠ some b
  low : base ≤ w.heap.size
theorem own_keep {w w' : World} {base : Nat} {v : Value} {n : Nat} {xs : List Value} (h : w.ownsRow base 3 1 v n xs) (hk : ∀ b, v.ownBlock = some b → w'.heap[b]? = w.heap[b]?) : w'.ownsRow base 3 1 v n xs := by
  obtain ⟨h1, h2 | ⟨g, cap, cur, h2, h3, h4, h5⟩⟩ := h
  · exact ⟨h1, .inl h2⟩
  · exact ⟨h1, .inr ⟨g, cap, cur, h2, h3, (hk g (by rw [h2]; rfl)).trans h4, h5⟩⟩
theorem own_mono {w : World} {base base' : Nat} {v : Value} {n : Nat} {xs : List Value} (h : w.ownsRow base 3 1 v n xs) (hb : base' ≤ base) : w.ownsRow base' 3 1 v n xs := by
  obtain ⟨h1, h2 | ⟨g, cap, cur, h2, h3, h4⟩⟩ := h
  · exact ⟨h1, .inl h2⟩
  · exact ⟨h1, .inr ⟨g, cap, cur, h2, Nat.le_trans hb h3, h4⟩⟩
section
variable {base : Nat} {R : List (Value × Nat × List Value)} {w w' : World} {F : Nat → Prop}
theorem Rw.nil (h : base ≤ w.heap.size) : Rw base [] w := ⟨fun i p hp => by simp at hp, fun i j p q hp => by simp at hp, h⟩
theorem Rw.keep (h : Rw base R w) (hk : ∀ b, base ≤ b → b < w.heap.size → w'.heap[b]? = w.heap[b]?) (hs : w.heap.size ≤ w'.heap.size) : Rw base R w' :=
  ⟨fun i p hp => own_keep (h.row i p hp) (fun b hb => hk b ((h.row i p hp).lt b hb).1 ((h.row i p hp).lt b hb).2), h.apart, Nat.le_trans h.low hs⟩
theorem Rw.below (h : Rw base R w) (hb : Below w.heap.size w w') : Rw base R w' := h.keep (fun b _ hl => hb.block b hl) hb.size
theorem Rw.mod (h : Rw base R w) (hF : ∀ b, F b → b < base) (hm : Mod F w w') : Rw base R w' :=
  h.keep (fun b h1 h2 => hm.block b h2 (fun e => by have := hF b e; omega)) hm.size
/-- one more -/
theorem Rw.new (h : Rw base R w) (h' : Rw base R w') {v : Value} {n : Nat} {xs : List Value} (ho : w'.ownsRow w.heap.size 3 1 v n xs) : Rw base ((v, n, xs) :: R) w' := by
  refine ⟨fun i p hp => ?_, fun i j p q hp hq hij b hb => ?_, h'.low⟩
  · cases i with
    | zero => simp at hp; subst hp; exact own_mono ho h.low
    | succ i => exact h'.row i p (by simpa using hp)
  · cases i with
    | zero =>
      cases j with
      | zero => exact absurd rfl hij
      | succ j =>
        simp at hp hq
        subst hp
        intro e
        have h1 := (ho.lt b hb).1
        have h2 := ((h.row j q hq).lt b e).2
        omega
    | succ i =>
      cases j with
      | zero =>
        simp at hp hq
        subst hq
        intro e
        have h1 := (ho.lt b e).1
        have h2 := ((h.row i p hp).lt b hb).2
        omega
      | succ j => exact h'.apart i j p q (by simpa using hp) (by simpa using hq) (by omega) b hb
/-- one of them written, or grown -/
theorem Rw.mark (h : Rw base R w) {i : Nat} {v v' : Value} {n n' : Nat} {xs xs' : List Value} (hp : R[i]? = some (v, n, xs)) (ho : w'.ownsRow base 3 1 v' n' xs') (hg : w.grownBy w' v.ownBlock) (hv : v'.ownBlock = v.ownBlock ∨ ∃ b, v'.ownBlock = some b ∧ w.heap.size ≤ b) : Rw base (R.set i (v', n', xs')) w' := by
  have hil : i < R.length := (List.getElem?_eq_some_iff.1 hp).1
  have hoth : ∀ (j : Nat) p, i ≠ j → (R.set i (v', n', xs'))[j]? = some p → R[j]? = some p := fun j p e hj => by rwa [List.getElem?_set_ne e] at hj
  have hsame : ∀ p, (R.set i (v', n', xs'))[i]? = some p → p = (v', n', xs') := fun p hj => by rw [List.getElem?_set_self hil] at hj; exact (Option.some.inj hj).symm
  have hfar : ∀ (j : Nat) p, i ≠ j → R[j]? = some p → ∀ b, v'.ownBlock = some b → p.1.ownBlock ≠ some b := fun j p e hj b hb hpb => by
    rcases hv with h1 | ⟨b', h1, h2⟩
    · exact h.apart i j _ p hp hj e b (h1 ▸ hb) hpb
    · rw [h1] at hb
      cases hb
      have := ((h.row j p hj).lt _ hpb).2
      omega
  refine ⟨fun j p hj => ?_, fun j k p q hj hk hjk b hb => ?_, Nat.le_trans h.low hg.size⟩
  · by_cases e : i = j
    · subst e
      rw [hsame p hj]
      exact ho
    · have h1 := hoth j p e hj
      exact own_keep (h.row j p h1) (fun b hb => hg.block b ((h.row j p h1).lt b hb).2 (fun e9 => h.apart j i p _ h1 hp (fun e8 => e e8.symm) b hb e9.symm))
  · by_cases e : i = j
    · subst e
      rw [hsame p hj] at hb
      exact hfar k q hjk (hoth k q hjk hk) b hb
    · by_cases e2 : i = k
      · subst e2
        intro h9
        rw [hsame q hk] at h9
        exact hfar j p e (hoth j p e hj) b h9 hb
      · exact h.apart j k p q (hoth j p e hj) (hoth k q e2 hk) hjk b hb
theorem Rw.bel (h : Rw base R w) {i : Nat} {v : Value} {n : Nat} {xs : List Value} (hp : R[i]? = some (v, n, xs)) {w0 : World} (hb : Below base w0 w) (hg : w.grownBy w' v.ownBlock) : Below base w0 w' :=
  hb.grown hg h.low (fun k hk => ((h.row i _ hp).lt k hk).1)
end
section
variable {rs : List (Option Er)} {last : Int}
theorem kids_le (h : Tr rs last) (e : Int) : (kids rs e).length ≤ 16 := nodup_le16 (kids_nodup e) (fun _ hx => lv_lt h (kid_lv (kids_kid hx)))
theorem lvL_le (h : Tr rs last) : (lvL rs).length ≤ 16 := nodup_le16 lvL_nodup (fun _ hx => lv_lt h (lvL_mem.1 hx))
theorem lvL_one (h : Tr rs last) : (lvL rs).count 0 = 1 := by
  rw [lvL_nodup.count, if_pos (lvL_mem.2 (root_lv h))]
theorem lvL_pos (h : Tr rs last) : 0 < (lvL rs).length := List.length_pos_of_mem (lvL_mem.2 (root_lv h))
theorem ds_kid (h : Tr rs last) {a : Nat} (ha : kid rs 0 a = true) : dsE rs (a : Int) = 0 := by
  obtain ⟨r, hr, _⟩ := kid_of ha
  have h0 : a ≠ 0 := (kid_ser h (e := 0) ha).2.1
  unfold dsE
  rw [look_at hr]
  simp only []
  rw [if_neg (by omega)]
theorem kid_out (h : Tr rs last) {a b : Nat} (ha : kid rs 0 a = true) (hb : kid rs 0 b = true) (hab : a ≠ b) : b ∉ wk rs 17 a := by
  intro hm
  rcases wk_up 17 hm with e | ⟨q, hq, hk⟩
  · exact hab e.symm
  · obtain rfl : 0 = q := kid_one (p := 0) hb hk
    rcases wk_up 17 hq with e | ⟨q, _, hk⟩
    · exact (kid_ser h (e := 0) ha).2.1 e.symm
    · exact (kid_ser h hk).2.1 rfl
/-- a child stays when another one is ended -/
theorem ds_two (h : Tr rs last) {a b : Nat} (ha : kid rs 0 a = true) (hb : kid rs 0 b = true) (hab : a ≠ b) : dsE (dsS rs (a : Int)) (b : Int) = 0 := by
  obtain ⟨k, r, e1, hr, h0, _, h1⟩ := dsE_zero (ds_kid h ha)
  obtain rfl : a = k := by omega
  obtain ⟨r', hr', hp⟩ := kid_of ha
  rw [hr] at hr'
  cases hr'
  have hb0 : b ≠ 0 := (kid_ser h (e := 0) hb).2.1
  obtain ⟨rb, hrb, _⟩ := kid_of hb
  have h2 : (dsS rs (a : Int))[b]? = some (some rb) := by
    rw [h1, drops_other _ _ _ (kid_out h ha hb hab)]
    unfold dsP
    rw [hp]
    cases look rs 0 with
    | none => exact hrb
    | some rp =>
      simp only []
      rw [List.getElem?_set_ne (by omega)]
      exact hrb
  unfold dsE
  rw [look_at h2]
  simp only []
  rw [if_neg (by omega)]
theorem dsL_le (h : Tr rs last) (e : Int) : (dsL rs e).length ≤ 16 := by
  by_cases h0 : dsE rs e = 0
  · obtain ⟨k, r, _, hr, _, h1, _⟩ := dsE_zero h0
    rw [h1]
    exact wk_len h 17 ⟨r, hr⟩
  · rw [(dsE_not h0).1]; simp
theorem dsL_pos {e : Int} (h : dsE rs e = 0) : 0 < (dsL rs e).length := by
  obtain ⟨k, r, _, _, _, h1, _⟩ := dsE_zero h
  rw [h1]
  simp [wk]
end
set_option maxRecDepth 8000 in
set_option maxHeartbeats 3200000 in
/-- a list of one value, counted -/
theorem countA_any (w : World) (base : Nat) (a : Option Addr) (c L : Nat) (z : Int) (hrow : w.ownsRow base 3 1 (.slice a L c) L (nums (List.replicate L z))) (hl : L ≤ 32) : Calls Try.prog 18 #[.slice a L c, .int .i64 z] w fun x w' => x = .returned (.int .i64 (L : Nat)) ∧ w' = w := by
  have HR := hide hrow
  clear hrow
  go_enter Try.func18, Try.ntmps18
  go_upto_region 3 with fail
  go_loopw [5, 6] (fun x y wr => ∃ j : Nat, j ≤ L ∧ x = .int .i64 (j : Int) ∧ y = .int .i64 (j : Int) ∧ wr = w) (fun _ y _ => L - (intOf y).toNat)
  case atStart => exact ⟨0, by omega, rfl, rfl, rfl⟩
  case round =>
  obtain ⟨j, hj, rfl, rfl, rfl⟩ := hrel
  by_cases hlt : j < L
  · have hd : decide ((j : Int) < (L : Int)) = true := by simp; omega
    have hj3 : (j : Int) < (L : Int) := by omega
    obtain ⟨g, rfl, hc⟩ := row_cell HR.out (k := j) (z := z) (by simp [hlt])
    have hyb : (z == z) = true := by simp
    go_wp2
    go_roundw
    case rel =>
      first
        | exact ⟨j + 1, by omega, by go_num, by go_num, by trivial⟩
        | ((repeat apply Exists.intro); refine ⟨?_, rfl⟩; exact ⟨j + 1, by omega, by go_num, by go_num, by trivial⟩)
    case measure => simp [intOf]; omega
  · obtain rfl : j = L := by omega
    have hd : decide ((j : Int) < (j : Int)) = false := by simp
    go_wp2
    go_ret
    exact ⟨rfl, rfl⟩
end Go.Proofs.Ytoddadohmnaolab

namespace Go.Proofs.Ytoddadohmnaolab
open Go.ChangeShapes Go.WideShapes Go.ChangeAt Go.RowKit Go.Deep Go.Shelf Go.Great

section
variable {B : Nat} {R : List (Value × Nat × List Value)} {w w' : World}
theorem Rw.shape (h : Rw B R w) {i : Nat} {v : Value} {n : Nat} {xs : List Value} (hp : R[i]? = some (v, n, xs)) : ∃ a c, v = .slice a n c := own_shape (h.row i _ hp)
theorem mark_rw (h : Rw B R w) (i : Nat) (l : List Int) (n : Nat) (v : Value) (hp : R[i]? = some (v, n, nums l)) (hn : l.length = n) (hl : n ≤ 32) (z : Int) :
    Calls Try.prog 23 #[v, .int .i64 z] w fun x w' => ∃ a' c', x = .returned (.slice a' (n + 1) c') ∧ Rw B (R.set i (.slice a' (n + 1) c', n + 1, nums (List.replicate (n + 1) z))) w' ∧ Below B w w' := by
  have hr := h.row i _ hp
  simp only [] at hr
  rw [← hn] at hr
  refine (marked_any w B v l hr z (by omega) h.low).mono ?_
  rintro x w' ⟨v', rfl, ho, hg, hv⟩
  rw [hn] at ho
  obtain ⟨a', c', rfl⟩ := own_shape ho
  exact ⟨a', c', rfl, h.mark hp ho hg hv, h.bel hp (Below.refl _ _) hg⟩
theorem same_rw (h : Rw B R w) (i j : Nat) (l : List Int) (n : Nat) (a a' : Option Addr) (c c' : Nat) (hp : R[i]? = some (.slice a n c, n, nums l)) (hq : R[j]? = some (.slice a' n c', n, nums l)) (hn : l.length = n) (hl : n ≤ 32) :
    Calls Try.prog 24 #[.slice a n c, .slice a' n c'] w fun x w' => x = .returned (.bool true) ∧ Below w.heap.size w w' := by
  have hr := h.row i _ hp
  have hr' := h.row j _ hq
  simp only [] at hr hr'
  subst hn
  exact sameInts_any w B B a a' c c' l hr hr' hl
theorem all_rw (h : Rw B R w) (i : Nat) (n : Nat) (z : Int) (a : Option Addr) (c : Nat) (hp : R[i]? = some (.slice a n c, n, nums (List.replicate n z))) (h0 : 0 < n) (hl : n ≤ 32) :
    Calls Try.prog 25 #[.slice a n c, .int .i64 z] w fun x w' => x = .returned (.bool true) ∧ w' = w := by
  have hr := h.row i _ hp
  simp only [] at hr
  have e : (List.replicate n z).length = n := List.length_replicate
  have h9 := allAre_any w B a c (List.replicate n z) (by rw [e]; exact hr) z (by rw [e]; exact hl) (by rw [e]; exact h0) (fun y hy => (List.mem_replicate.1 hy).2)
  rw [e] at h9
  exact h9
theorem Mod.bel {F : Nat → Prop} {a b c : World} (h : Mod F a b) (hb : Below a.heap.size b c) : Mod F a c :=
  ⟨hb.os.trans h.os, hb.tape.trans h.tape, hb.output.trans h.output, Nat.le_trans h.size hb.size, fun k hk hf => (hb.block k hk).trans (h.block k hk hf)⟩
end
set_option maxRecDepth 8000 in
set_option maxHeartbeats 6400000 in
theorem endsApart_any (w : World) (F : Nat → Prop) (T : Nat) (rs : List (Option Er)) (last : Int) (h : Et w F T rs last) (iv : Iv rs last) (base : Nat) (a : Option Addr) (c : Nat) (hF : ∀ b, F b → b < base) (hrow : w.ownsRow base 3 1 (.slice a (kids rs 0).length c) (kids rs 0).length (numN (kids rs 0))) :
    Calls Try.prog 26 #[.pointer (some ⟨T, 0, none⟩), .slice a (kids rs 0).length c] w fun x w' => x = .returned (.bool true) ∧ Mod F w w' := by
  obtain ⟨i3, hi, hz, hs, hb⟩ := info3'
  obtain ⟨K, hK⟩ : ∃ K, kids rs 0 = K := ⟨_, rfl⟩
  have HKm : Hid (∀ x ∈ K, kid rs 0 x = true) := hide (fun x hx => kids_kid (by rw [hK]; exact hx))
  have HKn : Hid (∀ a b, K[0]? = some a → K[1]? = some b → a ≠ b) := hide (fun a b ha hb e => by
    rw [← hK] at ha hb
    have h9 := kids_rise iv.tr 0 (i := 0) ha hb
    rw [e] at h9
    omega)
  have hK16 : K.length ≤ 16 := by rw [← hK]; exact kids_le iv.tr 0
  rw [hK] at hrow ⊢
  have HR := hide hrow
  have HE := hide h
  have HI := hide iv
  have HF := hide hF
  clear hK hrow h iv hF
  by_cases h2 : K.length < 2
  · have hd : decide ((K.length : Int) < 2) = true := by simp; omega
    have hd2 : (K.length : Int) < 2 := by omega
    generalize K.length = L at *
    go_enter Try.func26, Try.ntmps26
    go_wp2
    go_ret
    exact ⟨rfl, Mod.refl _ _⟩
  have hd : decide ((K.length : Int) < 2) = false := by simp; omega
  have hd2 : ¬ (K.length : Int) < 2 := by omega
  obtain ⟨k0, hk0⟩ : ∃ k, K[0]? = some k := ⟨_, List.getElem?_eq_getElem (by omega)⟩
  obtain ⟨k1, hk1⟩ : ∃ k, K[1]? = some k := ⟨_, List.getElem?_eq_getElem (by omega)⟩
  have HA : Hid (kid rs 0 k0 = true) := hide (HKm.out _ (List.mem_of_getElem? hk0))
  have HB : Hid (kid rs 0 k1 = true) := hide (HKm.out _ (List.mem_of_getElem? hk1))
  have HAB : Hid (k0 ≠ k1) := hide (HKn.out _ _ hk0 hk1)
  obtain ⟨g, rfl, c0⟩ := row_at HR.out hk0
  obtain ⟨g', e', c1⟩ := row_at HR.out hk1
  cases e'
  have HC1 := hide c1
  have hlt := World.block_lt_of_cell? w _ c1
  have hgF : ¬ F g := fun e => by
    have h9 := HF.out g e
    have h8 := (HR.out.lt g rfl).1
    omega
  have hL1 : (1 : Int) < (K.length : Int) := by omega
  have hL0 : (0 : Int) < (K.length : Int) := by omega
  clear hk0 hk1 HKm HKn c1
  have HD := hide (destroy_any HE.out HI.out (k0 : Int))
  generalize K.length = L at *
  go_enter Try.func26, Try.ntmps26
  go_wp2_with fail
  refine HD.out.mono ?_
  rintro x w1 ⟨v, rfl, hE1, hO1, hM1⟩
  have e0 : dsE rs (k0 : Int) = 0 := ds_kid HI.out.tr HA.out
  have hp0 := dsL_pos e0
  have hp1 := dsL_le HI.out.tr (k0 : Int)
  have HD2 : Hid (dsE (dsS rs (k0 : Int)) (k1 : Int) = 0) := hide (ds_two HI.out.tr HA.out HB.out HAB.out)
  have HI2 := hide (HI.out.dsS (k0 : Int))
  have HFw := hide HE.out.lt
  rw [e0]
  obtain ⟨fl, hfl⟩ : ∃ fl, (dsL rs (k0 : Int)).map (fun k : Nat => (k : Int)) = fl := ⟨_, rfl⟩
  rw [numN_nums, hfl] at hO1
  obtain ⟨nf, hnf⟩ : ∃ nf, (dsL rs (k0 : Int)).length = nf := ⟨_, rfl⟩
  rw [hnf] at hO1 hp0 hp1
  have HFl : Hid (fl.length = nf) := hide (by rw [← hfl, List.length_map]; exact hnf)
  generalize dsS rs (k0 : Int) = rs1 at *
  clear hfl hnf e0 HA HB HAB HI HD HE
  have hn0 : Rw w.heap.size [] w := Rw.nil (Nat.le_refl _)
  have hR1 := hn0.new (hn0.mod HFw.out hM1) hO1
  have HR1 := hide (hR1.new hR1 (World.ownsRow_nil w1 w1.heap.size 3 1))
  have HM1 := hide hM1
  have HE1 := hide hE1
  have c11 : w1.cell? ⟨g, 1, none⟩ = some (.int .i64 (k1 : Int)) := by
    rw [World.cell?_of_block (hM1.block g hlt hgF)]; exact HC1.out
  have HC11 := hide c11
  obtain ⟨va, vc, rfl⟩ := own_shape hO1
  clear hn0 hR1 hM1 hE1 hO1 HC1 c11 c0 hd hd2
  obtain ⟨B, hB⟩ : ∃ B, B = w.heap.size := ⟨_, rfl⟩
  rw [← hB] at HR1 HFw hlt
  have HBw := hide hB
  clear hB
  go_upto_region 6 with fail
  go_loopw [7, 8] (fun u x wr => ∃ j : Nat, j ≤ nf ∧ x = .int .i64 (j : Int) ∧ ∃ a c, u = .slice a j c ∧ Hid (Rw B [(.slice a j c, j, nums (fl.take j)), (.slice va nf vc, nf, nums fl)] wr) ∧ Hid (Below B w1 wr)) (fun _ x _ => nf - (intOf x).toNat)
  case atStart => exact ⟨0, by omega, rfl, none, 0, rfl, HR1, hide (Below.refl _ _)⟩
  case round =>
  clear HR1
  obtain ⟨j, hj, rfl, ua, uc, rfl, KR, KB⟩ := hrel
  by_cases hlt2 : j < nf
  · have hd : decide ((j : Int) < (nf : Int)) = true := by simp; omega
    have hj3 : (j : Int) < (nf : Int) := by omega
    obtain ⟨y, hy⟩ : ∃ y, fl[j]? = some y := ⟨_, List.getElem?_eq_getElem (by have := HFl.out; omega)⟩
    obtain ⟨g2, e2, cy⟩ := row_cell (KR.out.row 1 _ rfl) hy
    cases e2
    have HK0 := hide (KR.out.row 0 _ rfl)
    have HLo := hide KR.out.low
    go_upto_region 7 with (at_builtin; refine wpList_append_own_at _ rfl _ _ 49 rfl B 3 i3 (.int .i64 0) 1 8 Try.underlying49 hi hz hs hb rfl (by decide) (.slice ua j uc) j (nums (fl.take j)) rfl (HK0.out.alloc _) ⟨wr.heap.size, 0, none⟩ 1 1 [.int .i64 y] rfl rfl (cell_one_new _ _ _) (by simp [Value.oneCell']) (by unfold maxLen; omega) (by omega) (by have := HLo.out; simp; omega) ?_; intro v2 w2 ho2 hg2 _ hv2)
    have hg3 : wr.grownBy w2 (Value.slice ua j uc).ownBlock := (World.grownBy_alloc _ _ _).trans hg2
    have hv3 : v2.ownBlock = (Value.slice ua j uc).ownBlock ∨ ∃ b, v2.ownBlock = some b ∧ wr.heap.size ≤ b := by
      rcases hv2 with h9 | h9
      · exact .inl h9
      · exact .inr ⟨_, h9, by simp⟩
    have ho3 : w2.ownsRow B 3 1 v2 (j + 1) (nums (fl.take (j + 1))) := by
      have e9 : fl.take (j + 1) = fl.take j ++ [y] := by rw [List.take_add_one, hy]; rfl
      rw [e9, nums_app]
      exact ho2
    have KR2 := hide (KR.out.mark (i := 0) rfl ho3 hg3 hv3)
    have KB2 := hide (KR.out.bel (i := 0) rfl KB.out hg3)
    obtain ⟨ua', uc', rfl⟩ := own_shape ho3
    clear hg3 hv3 ho3 ho2 hg2 hv2 KR KB HK0 HLo hy cy
    go_wp2
    go_roundw
    case rel =>
      first
        | exact ⟨j + 1, by omega, by go_num, _, _, rfl, KR2, KB2⟩
        | ((repeat apply Exists.intro); refine ⟨?_, rfl⟩; exact ⟨j + 1, by omega, by go_num, _, _, rfl, KR2, KB2⟩)
    case measure => simp [intOf]; omega
  · obtain rfl : j = nf := by omega
    have hd : decide ((j : Int) < (j : Int)) = false := by simp
    have hta : fl.take j = fl := List.take_of_length_le (by have := HFl.out; omega)
    rw [hta] at KR
    clear hta
    have c12 : wr.cell? ⟨g, 1, none⟩ = some (.int .i64 (k1 : Int)) := (KB.out.cell (p := ⟨g, 1, none⟩) hlt).trans HC11.out
    have HE2 := hide (HE1.out.keep KB.out.size (fun b hb => KB.out.block b (HFw.out b hb)))
    have HM2 : Hid (Mod F w wr) := hide (HM1.out.bel (by rw [← HBw.out]; exact KB.out))
    have HD := hide (destroy_any HE2.out HI2.out (k1 : Int))
    rw [HD2.out] at HD
    have hp2 := dsL_pos HD2.out
    have hp3 := dsL_le HI2.out.tr (k1 : Int)
    rw [numN_nums] at HD
    have HGl : Hid (((dsL rs1 (k1 : Int)).map (fun k : Nat => (k : Int))).length = (dsL rs1 (k1 : Int)).length) := hide (List.length_map _)
    generalize (dsL rs1 (k1 : Int)).map (fun k : Nat => (k : Int)) = gl at *
    generalize (dsL rs1 (k1 : Int)).length = ng at *
    clear HC11 HE1 HM1 KB HI2 HD2
    go_wp2_with fail
    refine HD.out.mono ?_
    rintro x w3 ⟨v3, rfl, hE3, hO3, hM3⟩
    have hR3 := KR.out.new (KR.out.mod HFw.out hM3) hO3
    have HM3 := hide (HM2.out.trans hM3)
    obtain ⟨ga, gc, rfl⟩ := own_shape hO3
    have HR3 := hide hR3
    clear hE3 hO3 hM3 hR3 KR HE2 HM2 HD c12 hd
    have HSa := hide (same_rw HR3.out 2 1 fl j va ua vc uc rfl rfl HFl.out (by omega))
    go_wp2_with fail
    refine HSa.out.mono ?_
    rintro x w4 ⟨rfl, hb4⟩
    have HR4 := hide (HR3.out.below hb4)
    have HM4 : Hid (Mod F w w4) := hide (HM3.out.bel (hb4.mono (by have := HR3.out.low; rw [HBw.out] at this; exact this)))
    clear hb4 HR3 HM3 HSa
    have HMk := hide (mark_rw HR4.out 0 gl ng (.slice ga ng gc) rfl HGl.out (by omega) (-11))
    go_wp2_with fail
    refine HMk.out.mono ?_
    rintro x w5 ⟨ga2, gc2, rfl, hR5, hb5⟩
    have HR5 : Hid (Rw B [(.slice ga2 (ng + 1) gc2, ng + 1, nums (List.replicate (ng + 1) (-11))), (.slice ua j uc, j, nums fl), (.slice va j vc, j, nums fl)] w5) := hide hR5
    have HM5 : Hid (Mod F w w5) := hide (HM4.out.bel (by rw [← HBw.out]; exact hb5))
    clear hR5 hb5 HR4 HM4 HMk
    have HSa := hide (same_rw HR5.out 2 1 fl j va ua vc uc rfl rfl HFl.out (by omega))
    go_wp2_with fail
    refine HSa.out.mono ?_
    rintro x w6 ⟨rfl, hb6⟩
    have HR6 := hide (HR5.out.below hb6)
    have HM6 : Hid (Mod F w w6) := hide (HM5.out.bel (hb6.mono (by have := HR5.out.low; rw [HBw.out] at this; exact this)))
    clear hb6 HR5 HM5 HSa
    have HMk := hide (mark_rw HR6.out 2 fl j (.slice va j vc) rfl HFl.out (by omega) (-12))
    go_wp2_with fail
    refine HMk.out.mono ?_
    rintro x w7 ⟨va2, vc2, rfl, hR7, hb7⟩
    have HR7 : Hid (Rw B [(.slice ga2 (ng + 1) gc2, ng + 1, nums (List.replicate (ng + 1) (-11))), (.slice ua j uc, j, nums fl), (.slice va2 (j + 1) vc2, j + 1, nums (List.replicate (j + 1) (-12)))] w7) := hide hR7
    have HM7 : Hid (Mod F w w7) := hide (HM6.out.bel (by rw [← HBw.out]; exact hb7))
    clear hR7 hb7 HR6 HM6 HMk
    have HA1 := hide (all_rw HR7.out 2 (j + 1) (-12) va2 vc2 rfl (by omega) (by omega))
    have HA2 := hide (all_rw HR7.out 0 (ng + 1) (-11) ga2 gc2 rfl (by omega) (by omega))
    have HA3 := hide (countA_any w7 B va2 vc2 (j + 1) (-12) (HR7.out.row 2 _ rfl) (by omega))
    clear HR7
    go_wp2_with fail
    refine HA1.out.mono ?_
    rintro x w8 ⟨rfl, rfl⟩
    go_wp2_with fail
    refine HA2.out.mono ?_
    rintro x w8 ⟨rfl, rfl⟩
    go_wp2_with fail
    refine HA3.out.mono ?_
    rintro x w8 ⟨rfl, rfl⟩
    go_wp2
    go_ret
    exact ⟨by simp, HM7.out⟩
end Go.Proofs.Ytoddadohmnaolab
