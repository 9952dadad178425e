import Derived.Test.YtmdcmpkjhflgpaaH4
import Derived.Laws.StructEq
import Derived.BigQuiet
namespace Go.Proofs.Ytmdcmpkjhflgpaa
open Go.RowKit

theorem page_all (p : Nat → Nat) : (page p).toArray.all (·.oneCell') = true := all_oneCell_toArray (page_one p)
theorem page_zero : (#[Value.int .u32 0, .int .u32 0, .int .u32 0, .int .u32 0, .int .u32 0, .int .u32 0, .int .u32 0, .int .u32 0, .int .u32 0, .int .u32 0, .int .u32 0, .int .u32 0, .int .u32 0, .int .u32 0, .int .u32 0, .int .u32 0, .int .u32 0, .int .u32 0, .int .u32 0, .int .u32 0, .int .u32 0, .int .u32 0, .int .u32 0, .int .u32 0, .int .u32 0, .int .u32 0, .int .u32 0, .int .u32 0, .int .u32 0, .int .u32 0, .int .u32 0, .int .u32 0] : Array Value) = (page (fun _ => 0)).toArray := rfl
/-- the same words? -/
def eqP (p q : Nat → Nat) : Bool := (List.range 32).all fun i => p i == q i
theorem eqP_iff (p q : Nat → Nat) : eqP p q = true ↔ ∀ i, i < 32 → p i = q i := by simp [eqP]
theorem eqP_refl (p : Nat → Nat) : eqP p p = true := (eqP_iff p p).2 (fun _ _ => rfl)
theorem eq24 (p q : Nat → Nat) (w : World) : (Op.equalIn 10000 29 (.agg (page p).toArray) (.agg (page q).toArray)).run Try.prog w = .ok (eqP p q) w := by
  rw [show (10000 : Nat) = 9999 + 1 from rfl, Op.equalIn, eqP, List.range_eq_range']
  simp only [Sem.run_bind, run_underlying Try.underlying29, Result.andThen_ok, Try.sizeOf27, Std.Legacy.Range.forIn_eq_forIn_range', Std.Legacy.Range.size, Nat.sub_zero, Nat.add_sub_cancel, Nat.div_one]
  have hl : ∀ i ∈ List.range' 0 32 1, i < 32 := fun i hi => by simpa using (List.mem_range'_1.1 hi).2
  generalize List.range' 0 32 1 = l at hl ⊢
  induction l with
  | nil => simp
  | cons i l ih =>
    have hi : i < 32 := hl i (by simp)
    have px : ∀ r : Nat → Nat, (part 27 (page r).toArray (i * 1)).run Try.prog w = .ok (.int .u32 (r i : Nat)) w := by
      intro r
      simp [part, isAgg, run_underlying Try.underlying27, page_get r hi]
    have pe : (Op.equalIn 9999 27 (.int .u32 (p i : Nat)) (.int .u32 (q i : Nat))).run Try.prog w = .ok (p i == q i) w := by
      rw [run_equalIn_int w 9998 27 .u32 .u32 _ _ Try.underlying27]
      congr 1
      rw [Bool.eq_iff_iff]
      simp
      omega
    simp only [List.forIn_cons, Sem.run_bind, px, pe, Result.andThen_ok, List.all_cons]
    cases hb : (p i == q i)
    · simp
    · simp only [Bool.not_true, Bool.false_eq_true, if_false, Sem.run_pure, Result.andThen_ok, Bool.true_and]
      exact ih fun j hj => hl j (by simp [hj])
theorem quiet_load24 {ops : Array Oper} {Q : Act → Prop} {a : Act} {o : Oper} {rest : List Oper} {w : World} (hw : Region.wanted o (yielded ops a.tmps) = true) (x : Operand) (ho : o.op = .load 29 x) (b off : Nat)
    (hx : a.eval x = .pointer (some ⟨b, off, none⟩)) (p : Nat → Nat) (hr : w.rangeAt b off (page p)) (a' : Act) (ha : a' = a.put o.dst (.agg (page p).toArray)) (h : wpQuiet Try.prog ops (fun w' => ∃ n, w' = w.drewN n) Q rest a') :
    wpQuiet Try.prog ops (fun w' => ∃ n, w' = w.drewN n) Q (o :: rest) a :=
  BigFrame.wpQuiet_want hw fun K hK => ⟨.agg (page p).toArray, fun w' ⟨n, e⟩ => by
    have hr' : w'.rangeAt b off (page p) := by rw [e]; intro j v hv; simpa using hr j v hv
    unfold Oper.quietAt execOp
    simp only [ho, hx, Instr.loadAt, Instr.sureAddr, Sem.run_bind, Sem.run_pure, Result.andThen_ok, run_loadVar_mid w' b off 29 (page p) _ hr' Try.underlying29 rfl info24]
    exact ⟨rfl, rfl⟩, hK _ (ha ▸ h)⟩
section
variable (w : World) (B G n : Nat) (m : Nat → Fr)

set_option maxHeartbeats 400000 in
theorem page_off (f : Int) (h : MemAt w B G n m) (hu : Off m n f) :
    Calls Try.prog 10 #[.pointer (some ⟨B, 0, none⟩), .int .i64 f] w fun e w' => e = .returned (.tuple #[.agg (page (fun _ => 0)).toArray, .int .i64 50]) ∧ Below w.heap.size w w' := by
  go_enter Try.func10, Try.ntmps10
  go_wp2_with fail
  refine (inUse_no _ B G n m f (h.alloc _) hu).mono ?_
  rintro e w1 ⟨rfl, hw1⟩
  clear h hu
  simp only [page_zero] at hw1
  have hz : w1.heap[w.heap.size]? = some (.cells (page (fun _ => 0)).toArray 29 (0, 0)) := by rw [hw1]; exact heap_alloc_last w _
  have HB : Hid (Below w.heap.size w w1) := by rw [hw1]; exact (Below.refl _ _).alloc (Nat.le_refl _) _
  clear hw1
  go_wp2_with (refine wpList_store_row rfl 29 _ _ rfl w.heap.size (page (fun _ => 0)).toArray rfl rfl 29 _ hz info24 rfl (page_all _) ?_)
  refine bodyPost_ret (results_row2 rfl _ _ w.heap.size 29 (page (fun _ => 0)).toArray (0, 0) _ rfl (setRow_heap _ _ _ _ _ _ hz) Try.underlying29 rfl info24) rfl ?_
  exact ⟨rfl, below_setRow HB.out (Nat.le_refl _) _⟩
set_option maxHeartbeats 400000 in
theorem page_on (k : Nat) (h : MemAt w B G n m) (hu : On m n k) :
    Calls Try.prog 10 #[.pointer (some ⟨B, 0, none⟩), .int .i64 (k : Int)] w fun e w' => e = .returned (.tuple #[.agg (page (m k).w).toArray, .int .i64 0]) ∧ Below w.heap.size w w' := by
  go_enter Try.func10, Try.ntmps10
  go_wp2_with fail
  refine (inUse_yes _ B G n m k (h.alloc _) hu.1 hu.2).mono ?_
  rintro e w1 ⟨rfl, hw1⟩
  simp only [page_zero] at hw1
  have hz : w1.heap[w.heap.size]? = some (.cells (page (fun _ => 0)).toArray 29 (0, 0)) := by rw [hw1]; exact heap_alloc_last w _
  have HB : Hid (Below w.heap.size w w1) := by rw [hw1]; exact (Below.refl _ _).alloc (Nat.le_refl _) _
  have h1 : MemAt w1 B G n m := h.below HB.out
  clear hw1 h
  have c0 := h1.hd
  have hk := hu.1
  have hr := h1.page hk
  clear h1 hu
  go_wp2_with (first
    | refine wpList_load_mid rfl 29 _ rfl G (k * 36 + 4) rfl _ _ hr Try.underlying29 rfl info24 ?_
    | refine wpList_store_row rfl 29 _ _ rfl w.heap.size (page (m k).w).toArray rfl rfl 29 _ hz info24 rfl (page_all _) ?_)
  refine bodyPost_ret (results_row2 rfl _ _ w.heap.size 29 (page (m k).w).toArray (0, 0) _ rfl (setRow_heap _ _ _ _ _ _ hz) Try.underlying29 rfl info24) rfl ?_
  exact ⟨rfl, below_setRow HB.out (Nat.le_refl _) _⟩
set_option maxHeartbeats 400000 in
theorem setPage_off (f : Int) (p : Nat → Nat) (h : MemAt w B G n m) (hu : Off m n f) :
    Calls Try.prog 33 #[.pointer (some ⟨B, 0, none⟩), .int .i64 f, .agg (page p).toArray] w fun e w' => e = .returned (.int .i64 50) ∧ Below w.heap.size w w' := by
  go_enter Try.func33, Try.ntmps33
  go_wp2_with fail
  refine (inUse_no _ B G n m f (h.alloc _) hu).mono ?_
  rintro e w1 ⟨rfl, hw1⟩
  have HB : Hid (Below w.heap.size w w1) := by rw [hw1]; exact (Below.refl _ _).alloc (Nat.le_refl _) _
  clear h hu hw1
  go_wp2
  go_ret
  exact ⟨rfl, HB.out⟩
theorem keep_set {W : World} {B G n N k : Nat} {X : List Value} (hB : B ≠ G) (hN : N ≠ G) (h : W.cell? ⟨B, 0, none⟩ = some (.slice (some ⟨G, 0, none⟩) n n) ∧ W.rangeAt N 0 X ∧ W.there G (k * 36 + 4) 32) :
    (W.setCells G (k * 36 + 4) X).cell? ⟨B, 0, none⟩ = some (.slice (some ⟨G, 0, none⟩) n n) ∧ (W.setCells G (k * 36 + 4) X).rangeAt N 0 X ∧ (W.setCells G (k * 36 + 4) X).there G (k * 36 + 4) 32 := by
  obtain ⟨h1, h2, h3⟩ := h
  refine ⟨?_, World.rangeAt_setCells_apart h2 _ _ _ (.inl hN), World.there_setCells h3 _ _ _⟩
  rw [World.cell?_setCells_out G X (k * 36 + 4) W ⟨B, 0, none⟩ (fun e _ => absurd e hB)]; exact h1
set_option maxHeartbeats 400000 in
theorem setPage_on (k : Nat) (p : Nat → Nat) (h : MemAt w B G n m) (hu : On m n k) :
    Calls Try.prog 33 #[.pointer (some ⟨B, 0, none⟩), .int .i64 (k : Int), .agg (page p).toArray] w fun e w' => e = .returned (.int .i64 0) ∧ MGo w w' B G n (upd m k { m k with d := true, w := p }) := by
  go_enter Try.func33, Try.ntmps33
  go_wp2_with fail
  refine (inUse_yes _ B G n m k (h.alloc _) hu.1 hu.2).mono ?_
  rintro e w1 ⟨rfl, hw1⟩
  have hz : w1.heap[w.heap.size]? = some (.cells (page p).toArray 29 (0, 0)) := by rw [hw1]; exact heap_alloc_last w _
  have HB : Hid (Below w.heap.size w w1) := by rw [hw1]; exact (Below.refl _ _).alloc (Nat.le_refl _) _
  have h1 : MemAt w1 B G n m := h.below HB.out
  have hN : w.heap.size ≠ G := by have := h.glt; omega
  have hne := h.ne
  clear hw1 h
  have c0 := h1.hd
  have hk := hu.1
  have hr : w1.rangeAt w.heap.size 0 (page p) := fun j v hv => by rw [cell_of_row _ _ _ _ _ _ hz, Nat.zero_add]; simpa using hv
  have ht := h1.there (o := 4) (l := 32) hk (by omega)
  obtain ⟨X, hX⟩ : ∃ X, page p = X := ⟨_, rfl⟩
  have HR : Hid (MGo w ((w1.drew.setCells G (k * 36 + 4) X).setCell ⟨G, k * 36 + 2, none⟩ (.bool true)) B G n (upd m k { m k with d := true, w := p })) := by
    refine hide (And.intro ?_ ((((Mod.of_below (F := fun b => b = G) HB.out).drew).setCells (b := G) (.inl rfl) _ _).setCell (.inl rfl) _))
    rw [← hX]
    have e1 := h1.drew.putPage hk p
    have e2 := e1.put1 (o := 2) (v := .bool true) hk (by omega) (f := { m k with d := true, w := p }) (by rw [upd_same]; rfl)
    exact e2.congr (fun j _ => by simp only [upd]; split <;> rfl)
  have hXl : X.length = 32 := by rw [← hX, page_len]
  have hX1 : ∀ v ∈ X, v.oneCell' = true := by rw [← hX]; exact page_one p
  have hi24 : (Try.prog.info? 29).map (·.size) = some X.length := by rw [hXl]; exact info24
  have hu24 := Try.underlying29
  have c3 : ∃ b, (w1.drew.setCells G (k * 36 + 4) X).cell? ⟨G, k * 36 + 2, none⟩ = some b ∧ (w1.drew.setCells G (k * 36 + 4) X).cell? ⟨B, 0, none⟩ = some (.slice (some ⟨G, 0, none⟩) n n) ∧ (w1.drew.setCells G (k * 36 + 4) X).frozen? ⟨G, k * 36 + 2, none⟩ = false := by
    have e1 := h1.drew.putPage hk p
    rw [hX] at e1
    exact ⟨_, (e1.c hk).2.2.1, e1.hd, e1.frz _⟩
  obtain ⟨b3, c3, c5, c4⟩ := c3
  rw [hX] at hr
  have HX := hide hX
  clear h1 hu hz hX
  generalize w.heap.size = N at *
  go_wp2
  go_region_held (fun W => W.cell? ⟨B, 0, none⟩ = some (.slice (some ⟨G, 0, none⟩) n n) ∧ W.rangeAt N 0 X ∧ W.there G (k * 36 + 4) 32)
    (first | exact And.intro c0 (And.intro hr ht) | (refine keep_set hne hN ?_; assumption))
    (fail)
  rename_i hHeld
  clear hHeld c0 hr ht
  generalize w1.drew.setCells G (k * 36 + 4) X = w2 at *
  go_wp2
  go_ret
  exact ⟨rfl, HR.out⟩
set_option maxHeartbeats 400000 in
theorem copy_off (f g : Int) (h : MemAt w B G n m) (hu : Off m n f ∨ Off m n g) :
    Calls Try.prog 35 #[.pointer (some ⟨B, 0, none⟩), .int .i64 f, .int .i64 g] w fun e w' => e = .returned (.int .i64 50) ∧ w' = w := by
  rcases on_or_off m n f with h1 | ⟨k, rfl, h1⟩
  · go_enter Try.func35, Try.ntmps35
    go_wp2_with fail
    refine (inUse_no _ B G n m f h h1).mono ?_
    rintro e w1 ⟨rfl, rfl⟩
    go_wp2
    go_ret
    simp
  · have h2 : Off m n g := by
      rcases hu with h2 | h2
      · have := h2 k rfl h1.1; have := h1.2; omega
      · exact h2
    go_enter Try.func35, Try.ntmps35
    go_wp2_with fail
    refine (inUse_yes _ B G n m k h h1.1 h1.2).mono ?_
    rintro e w1 ⟨rfl, rfl⟩
    go_wp2_with fail
    refine (inUse_no _ B G n m g h h2).mono ?_
    rintro e w1 ⟨rfl, rfl⟩
    go_wp2
    go_ret
    simp
theorem keep_copy {W : World} {B G n t k : Nat} {X : List Value} (hB : B ≠ G) (hl : X.length = 32) (h : W.cell? ⟨B, 0, none⟩ = some (.slice (some ⟨G, 0, none⟩) n n) ∧ W.rangeAt G (k * 36 + 4) X ∧ W.there G (t * 36 + 4) 32) :
    (W.setCells G (t * 36 + 4) X).cell? ⟨B, 0, none⟩ = some (.slice (some ⟨G, 0, none⟩) n n) ∧ (W.setCells G (t * 36 + 4) X).rangeAt G (k * 36 + 4) X ∧ (W.setCells G (t * 36 + 4) X).there G (t * 36 + 4) 32 := by
  obtain ⟨h1, h2, h3⟩ := h
  refine ⟨?_, ?_, World.there_setCells h3 _ _ _⟩
  · rw [World.cell?_setCells_out G X (t * 36 + 4) W ⟨B, 0, none⟩ (fun e _ => absurd e hB)]; exact h1
  · by_cases e : k = t
    · subst e; exact World.rangeAt_setCells_same _ _ _ _ (by rw [hl]; exact h3)
    · exact World.rangeAt_setCells_apart h2 _ _ _ (by omega)
set_option maxHeartbeats 400000 in
theorem copy_on (k t : Nat) (h : MemAt w B G n m) (hu : On m n k) (ht : On m n t) :
    Calls Try.prog 35 #[.pointer (some ⟨B, 0, none⟩), .int .i64 (k : Int), .int .i64 (t : Int)] w fun e w' => e = .returned (.int .i64 0) ∧ MGo w w' B G n (upd m t { m t with d := true, w := (m k).w }) := by
  go_enter Try.func35, Try.ntmps35
  go_wp2_with fail
  refine (inUse_yes _ B G n m k h hu.1 hu.2).mono ?_
  rintro e w1 ⟨rfl, rfl⟩
  go_wp2_with fail
  refine (inUse_yes _ B G n m t h ht.1 ht.2).mono ?_
  rintro e w1 ⟨rfl, rfl⟩
  have hne := h.ne
  have c0 := h.hd
  have hk := hu.1
  have hk2 := ht.1
  have hr := h.page hk
  have hth := h.there (o := 4) (l := 32) hk2 (by omega)
  obtain ⟨X, hX⟩ : ∃ X, page (m k).w = X := ⟨_, rfl⟩
  have e1 := h.drew.putPage hk2 (m k).w
  rw [hX] at e1 hr
  have HR : Hid (MGo w1 ((w1.drew.setCells G (t * 36 + 4) X).setCell ⟨G, t * 36 + 2, none⟩ (.bool true)) B G n (upd m t { m t with d := true, w := (m k).w })) := by
    refine hide (And.intro ?_ ((((Mod.refl (fun b => b = G) w1).drew).setCells (b := G) (.inl rfl) _ _).setCell (.inl rfl) _))
    have e2 := e1.put1 (o := 2) (v := .bool true) hk2 (by omega) (f := { m t with d := true, w := (m k).w }) (by rw [upd_same]; rfl)
    exact e2.congr (fun j _ => by simp only [upd]; split <;> rfl)
  have hXl : X.length = 32 := by rw [← hX, page_len]
  have hX1 : ∀ v ∈ X, v.oneCell' = true := by rw [← hX]; exact page_one _
  have hi24 : (Try.prog.info? 29).map (·.size) = some X.length := by rw [hXl]; exact info24
  have hu24 := Try.underlying29
  have c3 := (e1.c hk2).2.2.1
  have c5 := e1.hd
  have c4 := e1.frz (t * 36 + 2)
  clear h hu ht hX e1
  go_wp2
  go_region_held (fun W => W.cell? ⟨B, 0, none⟩ = some (.slice (some ⟨G, 0, none⟩) n n) ∧ W.rangeAt G (k * 36 + 4) X ∧ W.there G (t * 36 + 4) 32)
    (first | exact And.intro c0 (And.intro hr hth) | (refine keep_copy hne hXl ?_; assumption))
    (fail)
  rename_i hHeld
  clear hHeld c0 hr hth
  generalize w1.drew.setCells G (t * 36 + 4) X = w2 at *
  go_wp2
  go_ret
  exact ⟨rfl, HR.out⟩
set_option maxHeartbeats 400000 in
theorem same_off (f g : Int) (h : MemAt w B G n m) (hu : Off m n f ∨ Off m n g) :
    Calls Try.prog 12 #[.pointer (some ⟨B, 0, none⟩), .int .i64 f, .int .i64 g] w fun e w' => e = .returned (.tuple #[.bool false, .int .i64 50]) ∧ w' = w := by
  rcases on_or_off m n f with h1 | ⟨k, rfl, h1⟩
  · go_enter Try.func12, Try.ntmps12
    go_wp2_with fail
    refine (inUse_no _ B G n m f h h1).mono ?_
    rintro e w1 ⟨rfl, rfl⟩
    go_wp2
    go_ret2
    simp
  · have h2 : Off m n g := by
      rcases hu with h2 | h2
      · have := h2 k rfl h1.1; have := h1.2; omega
      · exact h2
    go_enter Try.func12, Try.ntmps12
    go_wp2_with fail
    refine (inUse_yes _ B G n m k h h1.1 h1.2).mono ?_
    rintro e w1 ⟨rfl, rfl⟩
    go_wp2_with fail
    refine (inUse_no _ B G n m g h h2).mono ?_
    rintro e w1 ⟨rfl, rfl⟩
    go_wp2
    go_ret2
    simp
set_option maxHeartbeats 400000 in
theorem same_on (k t : Nat) (h : MemAt w B G n m) (hu : On m n k) (ht : On m n t) :
    Calls Try.prog 12 #[.pointer (some ⟨B, 0, none⟩), .int .i64 (k : Int), .int .i64 (t : Int)] w fun e w' => e = .returned (.tuple #[.bool (eqP (m k).w (m t).w), .int .i64 0]) ∧ Below w.heap.size w w' := by
  go_enter Try.func12, Try.ntmps12
  go_wp2_with fail
  refine (inUse_yes _ B G n m k h hu.1 hu.2).mono ?_
  rintro e w1 ⟨rfl, rfl⟩
  go_wp2_with fail
  refine (inUse_yes _ B G n m t h ht.1 ht.2).mono ?_
  rintro e w1 ⟨rfl, rfl⟩
  have c0 := h.hd
  have hk := hu.1
  have hk2 := ht.1
  have hr := h.page hk
  have hr2 := h.page hk2
  have he := eq24 (m k).w (m t).w
  clear h hu ht
  go_wp2
  refine wp_region_quiet_lit (by kernel_rfl) (by kernel_rfl) ?_
  repeat (first
    | refine quiet_load24 rfl _ rfl G (k * 36 + 4) rfl _ hr _ (by simp only [Act.put, List.setIfInBounds_toArray, List.set]; rfl) ?_
    | refine quiet_load24 rfl _ rfl G (t * 36 + 4) rfl _ hr2 _ (by simp only [Act.put, List.setIfInBounds_toArray, List.set]; rfl) ?_
    | go_big_quiet_step (fail))
  refine wpQuiet_nil ?_
  rintro _ ⟨nq, rfl⟩
  go_wp2
  go_ret2
  exact ⟨rfl, ⟨rfl, rfl, rfl, Nat.le_refl _, fun _ _ => rfl⟩⟩
end
end Go.Proofs.Ytmdcmpkjhflgpaa
