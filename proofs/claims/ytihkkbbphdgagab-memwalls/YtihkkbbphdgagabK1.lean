import Derived.Test.YtihkkbbphdgagabJ1
import Derived.Deep.Cut
namespace Go.Proofs.Ytihkkbbphdgagab
open Go.RowKit

/-- a step -/
structure Ost where
  two : Bool
  kd : Int
  fa : Int
  ga : Int
  na : Int
  p : Nat → Nat
def Ost.head (o : Ost) : List Value := [.bool o.two, .int .i64 o.kd, .int .i64 o.fa, .int .i64 o.ga, .int .i64 o.na]
def Ost.cells (o : Ost) : List Value := o.head ++ page o.p
def Ost.nil : Ost := ⟨false, 0, 0, 0, 0, fun _ => 0⟩
theorem ocells_len (o : Ost) : o.cells.length = 37 := by simp [Ost.cells, Ost.head, page_len]
theorem ocells_one (o : Ost) : ∀ u ∈ o.cells, u.oneCell' = true := by
  intro u hu
  rcases List.mem_append.1 hu with h | h
  · simp [Ost.head] at h; rcases h with rfl | rfl | rfl | rfl | rfl <;> rfl
  · exact page_one _ u h
theorem ocells_word (o : Ost) {i : Nat} (h : i < 32) : o.cells[5 + i]? = some (.int .u32 (o.p i : Nat)) := by
  unfold Ost.cells
  rw [List.getElem?_append_right (by simp [Ost.head])]
  simp only [Ost.head, List.length_cons, List.length_nil]
  rw [show 5 + i - (0 + 1 + 1 + 1 + 1 + 1) = i by omega, page_get _ h]
theorem info34 : (Try.prog.info? 34).map (·.size) = some 37 := by kernel_rfl
/-- a step of the call's own -/
structure Ob (w : World) (N : Nat) (o : Ost) : Prop where
  out : w.heap[N]? = some (.cells o.cells.toArray 34 (0, 0))
section
variable {w w' wr : World} {N : Nat} {o : Ost}
theorem Ob.get (h : Ob w N o) {j : Nat} {v : Value} (hv : o.cells[j]? = some v) : w.cell? ⟨N, j, none⟩ = some v := by
  rw [cell_of_row _ _ _ _ _ _ h.out]; simpa using hv
theorem Ob.c (h : Ob w N o) : w.cell? ⟨N, 0, none⟩ = some (.bool o.two) ∧ w.cell? ⟨N, 1, none⟩ = some (.int .i64 o.kd) ∧ w.cell? ⟨N, 2, none⟩ = some (.int .i64 o.fa) ∧ w.cell? ⟨N, 3, none⟩ = some (.int .i64 o.ga) ∧ w.cell? ⟨N, 4, none⟩ = some (.int .i64 o.na) ∧ w.cell? ⟨N, 5, none⟩ = some (.int .u32 (o.p 0 : Nat)) :=
  ⟨h.get rfl, h.get rfl, h.get rfl, h.get rfl, h.get rfl, h.get (ocells_word o (i := 0) (by omega))⟩
theorem Ob.pg (h : Ob w N o) : w.rangeAt N 5 (page o.p) := by
  intro j v hv
  have hj : j < 32 := by have := (List.getElem?_eq_some_iff.1 hv).1; rwa [page_len] at this
  rw [page_get _ hj] at hv
  rw [← hv]; exact h.get (ocells_word o hj)
theorem Ob.all (h : Ob w N o) : w.rangeAt N 0 o.cells := fun j v hv => by rw [Nat.zero_add]; exact h.get hv
theorem Ob.lt (h : Ob w N o) : N < w.heap.size := (Array.getElem?_eq_some_iff.1 h.out).1
theorem Ob.up (h : Ob w N o) (hb : Below w.heap.size w w') : Ob w' N o := ⟨by rw [hb.block N h.lt]; exact h.out⟩
theorem Ob.mod (h : Ob w N o) {F : Nat → Prop} (hm : Mod F w w') (hF : ¬ F N) : Ob w' N o := ⟨by rw [hm.block N h.lt hF]; exact h.out⟩
theorem Ob.new (w : World) (o : Ost) : Ob (w.alloc (.cells o.cells.toArray 34)) w.heap.size o := ⟨heap_alloc_last _ _⟩
end
/-- a new step, and o laid into it -/
def freshO (w : World) (o : Ost) : World := (w.alloc (.cells Ost.nil.cells.toArray 34)).setCells w.heap.size 0 o.cells
theorem freshO_ob (w : World) (o : Ost) : Ob (freshO w o) w.heap.size o := by
  obtain ⟨cs', h1, h2, h3⟩ := heap_setCells w.heap.size 34 o.cells 0 _ _ (heap_alloc_last w (.cells Ost.nil.cells.toArray 34))
  have hs : Ost.nil.cells.toArray.size = 37 := by simp [ocells_len]
  have hc : cs' = o.cells.toArray := by
    apply Array.ext_getElem?
    intro j
    by_cases hj : j < 37
    · rw [h3 j (by rw [hs]; exact hj), if_pos (by rw [ocells_len]; omega)]; simp
    · rw [Array.getElem?_eq_none (by rw [h2, hs]; omega), Array.getElem?_eq_none (by simp [ocells_len]; omega)]
  unfold freshO
  exact ⟨by rw [h1, hc]⟩
theorem freshO_below (w : World) (o : Ost) : Below w.heap.size w (freshO w o) := by
  have h := (Mod.refl (fun _ => False) w).alloc (.cells Ost.nil.cells.toArray 34)
  exact (h.setCells (b := w.heap.size) (.inr (Nat.le_refl _)) 0 o.cells).below (fun b hb => hb.elim) (Nat.le_refl _)
/-- a struct loaded out of whatever address -/
theorem load34 {ops : Array Oper} {rest : List Oper} {op : Oper} {a : Act} {w : World} {Q : Exit → Act → World → Prop} (hw : Region.wanted op (yielded ops a.tmps) = true) (x : Operand) (ho : op.op = .load 34 x) (ad : Addr)
    (hx : a.eval x = .pointer (some ad)) (o : Ost) (hc : ∀ (j : Nat) (v : Value), o.cells[j]? = some v → w.cell? (ad.add j) = some v) (h : wpList Try.prog ops Q rest (a.put op.dst (.agg o.cells.toArray)) w) : wpList Try.prog ops Q (op :: rest) a w :=
  BigFrame.wpList_want hw fun _ hK => by
    have hl : (loadCells ad o.cells.length).run Try.prog w = .ok o.cells.toArray w := run_loadCells_list w ad o.cells hc
    have hv : (loadVar 34 ad).run Try.prog w = .ok (.agg o.cells.toArray) w := by
      cases hq : Try.prog.info? 34 with
      | none => have := info34; simp [hq] at this
      | some i =>
        have hs : i.size = o.cells.length := by have := info34; simp [hq] at this; rw [this, ocells_len]
        have hagg : (isAgg 34).run Try.prog w = .ok true w := by
          unfold isAgg
          rw [Sem.run_bind, run_underlying Try.underlying34 w]
          simp
        simp [loadVar, Sem.run_bind, hagg, sizeOf, typeInfo, hq, hs, hl]
    unfold Oper.wp execOp
    simp only [ho, hx, Instr.loadAt, Instr.sureAddr, Sem.run_bind, Sem.run_pure, Result.andThen_ok, hv]
    exact hK _ _ h
theorem store34 {ops : Array Oper} {rest : List Oper} {op : Oper} {a : Act} {w : World} {Q : Exit → Act → World → Prop} (hw : Region.wanted op (yielded ops a.tmps) = true) (x y : Operand) (ho : op.op = .store 34 x y) (N : Nat) (o q : Ost)
    (hx : a.eval x = .pointer (some ⟨N, 0, none⟩)) (hy : a.eval y = .agg o.cells.toArray) (hc : Ob w N q) (h : wpList Try.prog ops Q rest (a.put op.dst undef) (w.setCells N 0 o.cells)) : wpList Try.prog ops Q (op :: rest) a w :=
  BigFrame.wpList_want hw fun _ hK => wp_store_mid 34 x y ho N 0 o.cells.toArray hx hy (fun j hj => by
    rw [List.size_toArray, ocells_len] at hj
    refine ⟨?_, frozen_of_row _ _ _ _ _ hc.out⟩
    rw [Nat.zero_add, hc.get (List.getElem?_eq_getElem (by rw [ocells_len]; exact hj))]; rfl) (by rw [List.size_toArray, ocells_len]; exact info34) (all_oneCell_toArray (ocells_one o)) (hK _ _ h)

/-- what a step does to the frames -/
def Eff (n : Nat) (m : Nat → Fr) (o : Ost) : (Nat → Fr) → Prop := fun z0 => ∀ M : (Nat → Fr) → Prop, (∀ (q : Nat) (_ : o.kd = 1) (_ : q < n) (_ : (m q).h = 0), M (upd m q (Fr.new o.na))) → (∀ (k : Nat) (_ : o.kd = 2) (_ : o.fa = k) (_ : On m n k), M (upd m k { m k with h := (m k).h + 1 })) → (∀ (k : Nat) (_ : o.kd = 3) (_ : o.fa = k) (_ : On m n k), M (upd m k { m k with h := (m k).h - 1 })) → (∀ (k : Nat) (_ : o.kd = 3) (_ : o.fa = k) (_ : On m n k), M (upd m k Fr.nil)) → (∀ (k i : Nat) (_ : o.kd = 5) (_ : o.fa = k) (_ : On m n k) (_ : i < 32) (_ : o.na = i), M (upd m k { m k with d := true, w := setW (m k).w i (o.p 0) })) → (∀ (k : Nat) (_ : o.kd = 7) (_ : o.fa = k) (_ : On m n k), M (upd m k { m k with d := true, w := o.p })) → (∀ (k t : Nat) (_ : o.kd = 8) (_ : o.fa = k) (_ : o.ga = t) (_ : On m n k) (_ : On m n t), M (upd m t { m t with d := true, w := (m k).w })) → (∀ (k : Nat) (_ : o.kd = 10) (_ : o.fa = k) (_ : On m n k), M (upd m k { m k with d := false, k := o.na })) → (∀ (_ : o.kd = 5 → Off m n o.fa ∨ o.na < 0 ∨ 32 ≤ o.na) (_ : o.kd = 7 → Off m n o.fa) (_ : o.kd = 8 → Off m n o.fa ∨ Off m n o.ga), M m) → M z0
theorem Eff.taken {n : Nat} {m : Nat → Fr} {o : Ost} (q : Nat) (hk : o.kd = 1) (hq : q < n) (hz : (m q).h = 0) : Eff n m o (upd m q (Fr.new o.na)) := fun _ c0 _ _ _ _ _ _ _ _ => c0 q hk hq hz
theorem Eff.held {n : Nat} {m : Nat → Fr} {o : Ost} (k : Nat) (hk : o.kd = 2) (hf : o.fa = k) (hu : On m n k) : Eff n m o (upd m k { m k with h := (m k).h + 1 }) := fun _ _ c1 _ _ _ _ _ _ _ => c1 k hk hf hu
theorem Eff.less {n : Nat} {m : Nat → Fr} {o : Ost} (k : Nat) (hk : o.kd = 3) (hf : o.fa = k) (hu : On m n k) : Eff n m o (upd m k { m k with h := (m k).h - 1 }) := fun _ _ _ c2 _ _ _ _ _ _ => c2 k hk hf hu
theorem Eff.gone {n : Nat} {m : Nat → Fr} {o : Ost} (k : Nat) (hk : o.kd = 3) (hf : o.fa = k) (hu : On m n k) : Eff n m o (upd m k Fr.nil) := fun _ _ _ _ c3 _ _ _ _ _ => c3 k hk hf hu
theorem Eff.stored {n : Nat} {m : Nat → Fr} {o : Ost} (k i : Nat) (hk : o.kd = 5) (hf : o.fa = k) (hu : On m n k) (hi : i < 32) (hn : o.na = i) : Eff n m o (upd m k { m k with d := true, w := setW (m k).w i (o.p 0) }) := fun _ _ _ _ _ c4 _ _ _ _ => c4 k i hk hf hu hi hn
theorem Eff.paged {n : Nat} {m : Nat → Fr} {o : Ost} (k : Nat) (hk : o.kd = 7) (hf : o.fa = k) (hu : On m n k) : Eff n m o (upd m k { m k with d := true, w := o.p }) := fun _ _ _ _ _ _ c5 _ _ _ => c5 k hk hf hu
theorem Eff.copied {n : Nat} {m : Nat → Fr} {o : Ost} (k t : Nat) (hk : o.kd = 8) (hf : o.fa = k) (hg : o.ga = t) (hu : On m n k) (ht : On m n t) : Eff n m o (upd m t { m t with d := true, w := (m k).w }) := fun _ _ _ _ _ _ _ c6 _ _ => c6 k t hk hf hg hu ht
theorem Eff.cleaned {n : Nat} {m : Nat → Fr} {o : Ost} (k : Nat) (hk : o.kd = 10) (hf : o.fa = k) (hu : On m n k) : Eff n m o (upd m k { m k with d := false, k := o.na }) := fun _ _ _ _ _ _ _ _ c7 _ => c7 k hk hf hu
theorem Eff.same {n : Nat} {m : Nat → Fr} {o : Ost} (h5 : o.kd = 5 → Off m n o.fa ∨ o.na < 0 ∨ 32 ≤ o.na) (h7 : o.kd = 7 → Off m n o.fa) (h8 : o.kd = 8 → Off m n o.fa ∨ Off m n o.ga) : Eff n m o m := fun _ _ _ _ _ _ _ _ _ c8 => c8 h5 h7 h8
theorem Eff.ind {n : Nat} {m : Nat → Fr} {o : Ost} {motive : ∀ (z0 : (Nat → Fr)), Eff n m o z0 → Prop} (taken : ∀ (q : Nat) (hk : o.kd = 1) (hq : q < n) (hz : (m q).h = 0), motive (upd m q (Fr.new o.na)) (Eff.taken q hk hq hz)) (held : ∀ (k : Nat) (hk : o.kd = 2) (hf : o.fa = k) (hu : On m n k), motive (upd m k { m k with h := (m k).h + 1 }) (Eff.held k hk hf hu)) (less : ∀ (k : Nat) (hk : o.kd = 3) (hf : o.fa = k) (hu : On m n k), motive (upd m k { m k with h := (m k).h - 1 }) (Eff.less k hk hf hu)) (gone : ∀ (k : Nat) (hk : o.kd = 3) (hf : o.fa = k) (hu : On m n k), motive (upd m k Fr.nil) (Eff.gone k hk hf hu)) (stored : ∀ (k i : Nat) (hk : o.kd = 5) (hf : o.fa = k) (hu : On m n k) (hi : i < 32) (hn : o.na = i), motive (upd m k { m k with d := true, w := setW (m k).w i (o.p 0) }) (Eff.stored k i hk hf hu hi hn)) (paged : ∀ (k : Nat) (hk : o.kd = 7) (hf : o.fa = k) (hu : On m n k), motive (upd m k { m k with d := true, w := o.p }) (Eff.paged k hk hf hu)) (copied : ∀ (k t : Nat) (hk : o.kd = 8) (hf : o.fa = k) (hg : o.ga = t) (hu : On m n k) (ht : On m n t), motive (upd m t { m t with d := true, w := (m k).w }) (Eff.copied k t hk hf hg hu ht)) (cleaned : ∀ (k : Nat) (hk : o.kd = 10) (hf : o.fa = k) (hu : On m n k), motive (upd m k { m k with d := false, k := o.na }) (Eff.cleaned k hk hf hu)) (same : ∀ (h5 : o.kd = 5 → Off m n o.fa ∨ o.na < 0 ∨ 32 ≤ o.na) (h7 : o.kd = 7 → Off m n o.fa) (h8 : o.kd = 8 → Off m n o.fa ∨ Off m n o.ga), motive m (Eff.same h5 h7 h8)) {z0 : (Nat → Fr)} (h : Eff n m o z0) : motive z0 h := by
  refine Exists.elim (h (fun z0 => ∃ h : Eff n m o z0, motive z0 h) ?_ ?_ ?_ ?_ ?_ ?_ ?_ ?_ ?_) (fun _ p => p)
  · rintro q hk hq hz; exact ⟨Eff.taken q hk hq hz, taken q hk hq hz⟩
  · rintro k hk hf hu; exact ⟨Eff.held k hk hf hu, held k hk hf hu⟩
  · rintro k hk hf hu; exact ⟨Eff.less k hk hf hu, less k hk hf hu⟩
  · rintro k hk hf hu; exact ⟨Eff.gone k hk hf hu, gone k hk hf hu⟩
  · rintro k i hk hf hu hi hn; exact ⟨Eff.stored k i hk hf hu hi hn, stored k i hk hf hu hi hn⟩
  · rintro k hk hf hu; exact ⟨Eff.paged k hk hf hu, paged k hk hf hu⟩
  · rintro k t hk hf hg hu ht; exact ⟨Eff.copied k t hk hf hg hu ht, copied k t hk hf hg hu ht⟩
  · rintro k hk hf hu; exact ⟨Eff.cleaned k hk hf hu, cleaned k hk hf hu⟩
  · rintro h5 h7 h8; exact ⟨Eff.same h5 h7 h8, same h5 h7 h8⟩
theorem first_free (m : Nat → Fr) (n : Nat) : (∀ j, j < n → (m j).h ≠ 0) ∨ ∃ q, q < n ∧ (m q).h = 0 ∧ ∀ j, j < q → (m j).h ≠ 0 := by
  induction n with
  | zero => left; intro j hj; omega
  | succ n ih =>
    rcases ih with h | ⟨q, h1, h2, h3⟩
    · by_cases h0 : (m n).h = 0
      · exact .inr ⟨n, by omega, h0, h⟩
      · left; intro j hj
        by_cases e : j = n
        · subst e; exact h0
        · exact h j (by omega)
    · exact .inr ⟨q, by omega, h2, h3⟩
end Go.Proofs.Ytihkkbbphdgagab
