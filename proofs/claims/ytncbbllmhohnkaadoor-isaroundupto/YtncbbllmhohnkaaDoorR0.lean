import Derived.Test.YtncbbllmhohnkaaDoorI0
namespace Go.Proofs.YtncbbllmhohnkaaDoor
open Go.RowKit
/-- the cells of eight registers and the program counter -/
def rgR (R : Nat → Nat) : List Value := (List.range 8).map fun i => Value.int .u32 (R i : Nat)
def rg (R : Nat → Nat) (pc : Nat) : List Value := rgR R ++ [.int .u32 (pc : Nat)]
structure RgOk (R : Nat → Nat) (pc : Nat) : Prop where
  r : ∀ i, i < 8 → R i < 4294967296
  p : pc < 4294967296
def put (R : Nat → Nat) (a v : Nat) : Nat → Nat := fun j => if j = a then v else R j
theorem rgR_len (R : Nat → Nat) : (rgR R).length = 8 := by simp [rgR]
theorem rg_len (R : Nat → Nat) (pc : Nat) : (rg R pc).length = 9 := by simp [rg, rgR]
theorem rg_size (R : Nat → Nat) (pc : Nat) : (rg R pc).toArray.size = 9 := by simp [rg_len]
theorem rg_get (R : Nat → Nat) (pc : Nat) {a : Nat} (h : a < 8) : (rg R pc)[a]? = some (.int .u32 (R a : Nat)) := by
  unfold rg; rw [List.getElem?_append_left (by rw [rgR_len]; exact h)]; simp [rgR, h]
theorem rg_pc (R : Nat → Nat) (pc : Nat) : (rg R pc)[8]? = some (.int .u32 (pc : Nat)) := by
  unfold rg; rw [List.getElem?_append_right (by rw [rgR_len]; omega), rgR_len]; rfl
theorem rg_ext {cs : List Value} {R : Nat → Nat} {pc : Nat} (hl : cs.length = 9) (h : ∀ a, a < 8 → cs[a]? = some (.int .u32 (R a : Nat))) (hp : cs[8]? = some (.int .u32 (pc : Nat))) : cs = rg R pc := by
  apply List.ext_getElem?
  intro j
  by_cases hj : j < 8
  · rw [h j hj, rg_get R pc hj]
  · by_cases h8 : j = 8
    · subst h8; rw [hp, rg_pc]
    · rw [List.getElem?_eq_none (by omega), List.getElem?_eq_none (by rw [rg_len]; omega)]
theorem rg_put (R : Nat → Nat) (pc : Nat) {a : Nat} (h : a < 8) (v : Nat) : (rg R pc).set a (.int .u32 (v : Nat)) = rg (put R a v) pc := by
  refine rg_ext (by rw [List.length_set, rg_len]) (fun j hj => ?_) ?_
  · rw [List.getElem?_set]
    split
    · rename_i e; subst e; simp [rg_len, put]; omega
    · rw [rg_get R pc hj]; simp [put]; rw [if_neg (by omega)]
  · rw [List.getElem?_set_ne (by omega), rg_pc]
theorem rg_setpc (R : Nat → Nat) (pc v : Nat) : (rg R pc).set 8 (.int .u32 (v : Nat)) = rg R v := by
  refine rg_ext (by rw [List.length_set, rg_len]) (fun j hj => ?_) ?_
  · rw [List.getElem?_set_ne (by omega), rg_get R pc hj]
  · rw [List.getElem?_set]; simp [rg_len]
theorem rg_ones (R : Nat → Nat) (pc : Nat) : ∀ u ∈ rg R pc, u.oneCell' = true := by
  intro u hu
  simp [rg, rgR] at hu
  rcases hu with ⟨i, _, rfl⟩ | rfl <;> rfl
theorem rg_one (R : Nat → Nat) (pc : Nat) : (rg R pc).toArray.all (·.oneCell') = true := all_oneCell_toArray (rg_ones R pc)
theorem rg_congr {R R' : Nat → Nat} {pc : Nat} (h : ∀ i, i < 8 → R i = R' i) : rg R pc = rg R' pc :=
  rg_ext (rg_len _ _) (fun a ha => by rw [rg_get _ _ ha, h a ha]) (rg_pc _ _)
theorem put_same (R : Nat → Nat) (a : Nat) : put R a (R a) = R := by
  funext j; unfold put; split
  · rename_i e; rw [e]
  · rfl
theorem rg_zero : (#[.int .u32 0, .int .u32 0, .int .u32 0, .int .u32 0, .int .u32 0, .int .u32 0, .int .u32 0, .int .u32 0, .int .u32 0] : Array Value) = (rg (fun _ => 0) 0).toArray := rfl
theorem info_regs : (Tryd.prog.info? 32).map (·.size) = some 9 := by kernel_rfl
theorem info_rg (R : Nat → Nat) (pc : Nat) : (Tryd.prog.info? 32).map (·.size) = some (rg R pc).toArray.size := by rw [rg_size]; exact info_regs
/-- registers at block N -/
structure Rb (w : World) (N : Nat) (R : Nat → Nat) (pc : Nat) : Prop where
  out : w.heap[N]? = some (.cells (rg R pc).toArray 32 (0, 0))
section
variable {w w' : World} {N : Nat} {R : Nat → Nat} {pc : Nat}
theorem Rb.get (h : Rb w N R pc) {j : Nat} {v : Value} (hv : (rg R pc)[j]? = some v) : w.cell? ⟨N, j, none⟩ = some v := by
  rw [cell_of_row _ _ _ _ _ _ h.out]; simpa using hv
theorem Rb.r (h : Rb w N R pc) {a : Nat} (ha : a < 8) : w.cell? ⟨N, a, none⟩ = some (.int .u32 (R a : Nat)) := h.get (rg_get R pc ha)
theorem Rb.p (h : Rb w N R pc) : w.cell? ⟨N, 8, none⟩ = some (.int .u32 (pc : Nat)) := h.get (rg_pc R pc)
theorem Rb.nine (h : Rb w N R pc) : w.cell? ⟨N, 0, none⟩ = some (.int .u32 (R 0 : Nat)) ∧ w.cell? ⟨N, 1, none⟩ = some (.int .u32 (R 1 : Nat)) ∧ w.cell? ⟨N, 2, none⟩ = some (.int .u32 (R 2 : Nat)) ∧ w.cell? ⟨N, 3, none⟩ = some (.int .u32 (R 3 : Nat)) ∧ w.cell? ⟨N, 4, none⟩ = some (.int .u32 (R 4 : Nat)) ∧ w.cell? ⟨N, 5, none⟩ = some (.int .u32 (R 5 : Nat)) ∧ w.cell? ⟨N, 6, none⟩ = some (.int .u32 (R 6 : Nat)) ∧ w.cell? ⟨N, 7, none⟩ = some (.int .u32 (R 7 : Nat)) ∧ w.cell? ⟨N, 8, none⟩ = some (.int .u32 (pc : Nat)) :=
  ⟨h.r (by omega), h.r (by omega), h.r (by omega), h.r (by omega), h.r (by omega), h.r (by omega), h.r (by omega), h.r (by omega), h.p⟩
theorem Rb.lt (h : Rb w N R pc) : N < w.heap.size := (Array.getElem?_eq_some_iff.1 h.out).1
theorem Rb.frz (h : Rb w N R pc) (o : Nat) : w.frozen? ⟨N, o, none⟩ = false := frozen_of_row w N o _ _ h.out
theorem Rb.keep (h : Rb w N R pc) (hB : w'.heap[N]? = w.heap[N]?) : Rb w' N R pc := ⟨by rw [hB]; exact h.out⟩
theorem Rb.below (h : Rb w N R pc) (hb : Below w.heap.size w w') : Rb w' N R pc := h.keep (hb.block N h.lt)
theorem Rb.new (w : World) (R : Nat → Nat) (pc : Nat) : Rb (w.alloc (.cells (rg R pc).toArray 32)) w.heap.size R pc := ⟨heap_alloc_last _ _⟩
theorem Rb.put (h : Rb w N R pc) {a : Nat} (ha : a < 8) (v : Nat) : Rb (w.setCell ⟨N, a, none⟩ (.int .u32 (v : Nat))) N (put R a v) pc := by
  refine ⟨?_⟩
  rw [heap_setCell_same w N a _ _ _ h.out, ← rg_put R pc ha v]
  simp
theorem Rb.setpc (h : Rb w N R pc) (v : Nat) : Rb (w.setCell ⟨N, 8, none⟩ (.int .u32 (v : Nat))) N R v := by
  refine ⟨?_⟩
  rw [heap_setCell_same w N 8 _ _ _ h.out, ← rg_setpc R pc v]
  simp
end
theorem eq_rgR (R : Nat → Nat) (d : Nat) (w : World) : (Op.equalIn (d + 2) 30 (.agg (rgR R).toArray) (.agg (rgR R).toArray)).run Tryd.prog w = .ok true w := by
  rw [show d + 2 = (d + 1) + 1 from rfl, Op.equalIn]
  simp only [Sem.run_bind, run_underlying Tryd.underlying30, Result.andThen_ok, Tryd.sizeOf29, Std.Legacy.Range.forIn_eq_forIn_range', Std.Legacy.Range.size, Nat.sub_zero, Nat.add_sub_cancel, Nat.div_one]
  have hl : ∀ i ∈ List.range' 0 8 1, i < 8 := fun i hi => by simpa using (List.mem_range'_1.1 hi).2
  generalize List.range' 0 8 1 = l at hl ⊢
  induction l with
  | nil => simp
  | cons i l ih =>
    have hi : i < 8 := hl i (by simp)
    have hg : (rgR R)[i]? = some (.int .u32 (R i : Nat)) := by simp [rgR, hi]
    have px : (part 29 (rgR R).toArray (i * 1)).run Tryd.prog w = .ok (.int .u32 (R i : Nat)) w := by
      simp [part, isAgg, run_underlying Tryd.underlying29, hg]
    have pe : (Op.equalIn (d + 1) 29 (.int .u32 (R i : Nat)) (.int .u32 (R i : Nat))).run Tryd.prog w = .ok true w := by
      rw [run_equalIn_int w d 29 .u32 .u32 _ _ Tryd.underlying29]
      simp
    simp only [List.forIn_cons, Sem.run_bind, px, pe, Result.andThen_ok, Bool.not_true, Bool.false_eq_true, if_false, Sem.run_pure]
    exact ih fun j hj => hl j (by simp [hj])
theorem rgR_eight (R : Nat → Nat) : (rgR R).toArray = #[.int .u32 (R 0 : Nat), .int .u32 (R 1 : Nat), .int .u32 (R 2 : Nat), .int .u32 (R 3 : Nat), .int .u32 (R 4 : Nat), .int .u32 (R 5 : Nat), .int .u32 (R 6 : Nat), .int .u32 (R 7 : Nat)] := rfl
set_option maxRecDepth 100000 in
theorem eq_rg (R : Nat → Nat) (pc : Nat) (w : World) : (Op.equalIn 10000 32 (.agg (rg R pc).toArray) (.agg (rg R pc).toArray)).run Tryd.prog w = .ok true w := by
  have e : (rg R pc).toArray = #[.int .u32 (R 0 : Nat), .int .u32 (R 1 : Nat), .int .u32 (R 2 : Nat), .int .u32 (R 3 : Nat), .int .u32 (R 4 : Nat), .int .u32 (R 5 : Nat), .int .u32 (R 6 : Nat), .int .u32 (R 7 : Nat), .int .u32 (pc : Nat)] := rfl
  have h := eq_rgR R 9997 w
  rw [rgR_eight] at h
  rw [e]
  simp [go_sem, h]
end Go.Proofs.YtncbbllmhohnkaaDoor
