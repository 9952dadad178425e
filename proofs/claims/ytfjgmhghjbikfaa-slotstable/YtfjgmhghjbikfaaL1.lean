import Derived.Test.YtfjgmhghjbikfaaR4
import Derived.Test.YtfjgmhghjbikfaaT7
namespace Go.Proofs.Ytfjgmhghjbikfaa
open Go.RowKit

/-- the table of Cells that says the same as a table of numbers -/
def mc (m : List (Option Int)) : List (Option Cl) := m.map (Option.map cl)
theorem mc_len (m : List (Option Int)) : (mc m).length = m.length := by simp [mc]
theorem mc_at (m : List (Option Int)) (k : Nat) : (mc m)[k]? = (m[k]?).map (Option.map cl) := by simp [mc]
theorem mc_set (m : List (Option Int)) (k : Nat) (o : Option Int) : (mc m).set k (o.map cl) = mc (m.set k o) := by simp [mc, List.map_set]
theorem mc_rep (n : Nat) : List.replicate n none = mc (List.replicate n none) := by simp [mc]
theorem mc_count (m : List (Option Int)) : (mc m).countP Option.isSome = m.countP Option.isSome := by
  unfold mc; rw [List.countP_map]; congr 1; funext o; cases o <;> rfl
theorem mc_look (m : List (Option Int)) (i : Int) : look (mc m) i = (look m i).map cl := by
  unfold look
  split
  · rfl
  · rw [mc_at]; cases m[i.toNat]? <;> simp
theorem mc_ff (m : List (Option Int)) : ff (mc m) = ff m := by
  unfold ff mc; rw [List.findIdx_map]; congr 1; funext o; cases o <;> rfl
theorem mc_next (m : List (Option Int)) (s k : Nat) : IsNext (mc m) s k ↔ IsNext m s k := by
  unfold IsNext
  simp only [mc_at, mc_look]
  constructor
  · rintro ⟨h1, ⟨c, h2⟩, h3⟩
    refine ⟨h1, ?_, fun j a b => by have := h3 j a b; simpa using this⟩
    cases h : m[k]? with
    | none => rw [h] at h2; simp at h2
    | some o => cases o with
      | none => rw [h] at h2; simp at h2
      | some x => exact ⟨x, rfl⟩
  · rintro ⟨h1, ⟨c, h2⟩, h3⟩
    exact ⟨h1, ⟨cl c, by rw [h2]; rfl⟩, fun j a b => by rw [h3 j a b]; rfl⟩
theorem mc_nonext (m : List (Option Int)) (s : Nat) : NoNext (mc m) s ↔ NoNext m s := by
  unfold NoNext
  simp only [mc_look]
  constructor
  · intro h j hj; have := h j hj; simpa using this
  · intro h j hj; rw [h j hj]; rfl
theorem isNext_one {α : Type} {m : List (Option α)} {s k k' : Nat} (h : IsNext m s k) (h' : IsNext m s k') : k = k' := by
  obtain ⟨h1, ⟨c, h2⟩, h3⟩ := h
  obtain ⟨h1', ⟨c', h2'⟩, h3'⟩ := h'
  rcases Nat.lt_trichotomy k k' with h | h | h
  · have := h3' k h1 h; rw [look_nat, h2] at this; simp at this
  · exact h
  · have := h3 k' h1' h; rw [look_nat, h2'] at this; simp at this
theorem next_not {α : Type} {m : List (Option α)} {s k : Nat} (h : IsNext m s k) (h' : NoNext m s) : False := by
  obtain ⟨h1, ⟨c, h2⟩, h3⟩ := h
  have := h' k h1; rw [look_nat, h2] at this; simp at this
theorem cl_inj {a b : Int} (h : cl a = cl b) : a = b := by
  have := congrArg Cl.a h; simpa [cl] using this
theorem mc_found (m : List (Option Int)) (v r : Int) : Found (mc m) (cl v) r ↔ Found m v r := by
  have e : ∀ k : Nat, look (mc m) (k : Int) = some (cl v) ↔ look m (k : Int) = some v := fun k => by
    rw [mc_look]
    cases look m (k : Int) with
    | none => simp
    | some x => simp; exact ⟨fun h => cl_inj h, fun h => by rw [h]⟩
  unfold Found
  simp only [ne_eq, e]
theorem found_one {m : List (Option Int)} {v r r' : Int} (h : Found m v r) (h' : Found m v r') : r = r' := by
  rcases h with ⟨rfl, h⟩ | ⟨k, rfl, h1, h2⟩ <;> rcases h' with ⟨rfl, h'⟩ | ⟨k', rfl, h1', h2'⟩
  · rfl
  · exact absurd h1' (h k')
  · exact absurd h1 (h' k)
  · rcases Nat.lt_trichotomy k k' with h | h | h
    · exact absurd h1 (h2' k h)
    · rw [h]
    · exact absurd h1' (h2 k' h)

/-- the three tables, apart -/
structure T3 (w : World) (FA FB FR : Nat → Prop) (A B R : Nat) (a : List (Option Int)) (b : List (Option Cl)) (r : List (Option Int)) : Prop where
  hA : Tab KI w FA A a
  hB : Tab KC w FB B b
  hR : Ref w FR R r
  dAB : ∀ x, FA x → ¬ FB x
  dAR : ∀ x, FA x → ¬ FR x
  dBR : ∀ x, FB x → ¬ FR x
/-- the three tables behind some calls from w0 on, and blocks of the call's own that stay as they are -/
def Z3 (w0 : World) (G0 : Nat → Prop) (W : World) (A B R : Nat) (a : List (Option Int)) (b : List (Option Cl)) (r : List (Option Int)) (bs : List (Nat × Obj)) : Prop :=
  ∃ FA FB FR, T3 W FA FB FR A B R a b r ∧ (∀ q ∈ bs, W.heap[q.1]? = some q.2 ∧ w0.heap.size ≤ q.1 ∧ ¬ FA q.1 ∧ ¬ FB q.1 ∧ ¬ FR q.1) ∧ Ext G0 w0 (fun x => FA x ∨ FB x ∨ FR x) W
section
variable {w0 W W' : World} {G0 : Nat → Prop} {A B R : Nat} {a a' : List (Option Int)} {b b' : List (Option Cl)} {r r' : List (Option Int)} {bs : List (Nat × Obj)} {FA FB FR F' : Nat → Prop}
theorem heap_lt {w : World} {b : Nat} {o : Obj} (h : w.heap[b]? = some o) : b < w.heap.size := (Array.getElem?_eq_some_iff.1 h).1
theorem Z3.stepA (h : T3 W FA FB FR A B R a b r) (hb : ∀ q ∈ bs, W.heap[q.1]? = some q.2 ∧ w0.heap.size ≤ q.1 ∧ ¬ FA q.1 ∧ ¬ FB q.1 ∧ ¬ FR q.1) (hE : Ext G0 w0 (fun x => FA x ∨ FB x ∨ FR x) W) (hT : Tab KI W' F' A a') (hx : Ext FA W F' W') : Z3 w0 G0 W' A B R a' b r bs := by
  have nw : ∀ x, x < W.heap.size → ¬ FA x → ¬ F' x := fun x h1 h2 h3 => by rcases hx.new x h3 with h4 | h4; exact h2 h4; omega
  refine ⟨F', FB, FR, ⟨hT, h.hB.apart hx (fun x h1 h2 => h.dAB x h2 h1), h.hR.apart hx (fun x h1 h2 => h.dAR x h2 h1), fun x h1 h2 => nw x (h.hB.lt x h2) (fun h3 => h.dAB x h3 h2) h1, fun x h1 h2 => nw x (h.hR.lt x h2) (fun h3 => h.dAR x h3 h2) h1, h.dBR⟩, fun q hq => ?_, ?_⟩
  · obtain ⟨h1, h2, h3, h4, h5⟩ := hb q hq
    exact ⟨(hx.mod.block q.1 (heap_lt h1) h3).trans h1, h2, nw q.1 (heap_lt h1) h3, h4, h5⟩
  · refine ⟨⟨hx.mod.os.trans hE.mod.os, hx.mod.tape.trans hE.mod.tape, hx.mod.output.trans hE.mod.output, Nat.le_trans hE.mod.size hx.mod.size, fun x h1 h2 => ?_⟩, ?_⟩
    · rw [hx.mod.block x (Nat.lt_of_lt_of_le h1 hE.mod.size) (fun h3 => by rcases hE.new x (.inl h3) with h4 | h4; exact h2 h4; omega)]
      exact hE.mod.block x h1 h2
    · rintro x (h1 | h1)
      · rcases hx.new x h1 with h2 | h2
        · exact hE.new x (.inl h2)
        · exact .inr (Nat.le_trans hE.mod.size h2)
      · exact hE.new x (.inr h1)
theorem Z3.stepB (h : T3 W FA FB FR A B R a b r) (hb : ∀ q ∈ bs, W.heap[q.1]? = some q.2 ∧ w0.heap.size ≤ q.1 ∧ ¬ FA q.1 ∧ ¬ FB q.1 ∧ ¬ FR q.1) (hE : Ext G0 w0 (fun x => FA x ∨ FB x ∨ FR x) W) (hT : Tab KC W' F' B b') (hx : Ext FB W F' W') : Z3 w0 G0 W' A B R a b' r bs := by
  have nw : ∀ x, x < W.heap.size → ¬ FB x → ¬ F' x := fun x h1 h2 h3 => by rcases hx.new x h3 with h4 | h4; exact h2 h4; omega
  refine ⟨FA, F', FR, ⟨h.hA.apart hx (fun x h1 h2 => h.dAB x h1 h2), hT, h.hR.apart hx (fun x h1 h2 => h.dBR x h2 h1), fun x h1 h2 => nw x (h.hA.lt x h1) (fun h3 => h.dAB x h1 h3) h2, h.dAR, fun x h1 h2 => nw x (h.hR.lt x h2) (fun h3 => h.dBR x h3 h2) h1⟩, fun q hq => ?_, ?_⟩
  · obtain ⟨h1, h2, h3, h4, h5⟩ := hb q hq
    exact ⟨(hx.mod.block q.1 (heap_lt h1) h4).trans h1, h2, h3, nw q.1 (heap_lt h1) h4, h5⟩
  · refine ⟨⟨hx.mod.os.trans hE.mod.os, hx.mod.tape.trans hE.mod.tape, hx.mod.output.trans hE.mod.output, Nat.le_trans hE.mod.size hx.mod.size, fun x h1 h2 => ?_⟩, ?_⟩
    · rw [hx.mod.block x (Nat.lt_of_lt_of_le h1 hE.mod.size) (fun h3 => by rcases hE.new x (.inr (.inl h3)) with h4 | h4; exact h2 h4; omega)]
      exact hE.mod.block x h1 h2
    · rintro x (h1 | h1 | h1)
      · exact hE.new x (.inl h1)
      · rcases hx.new x h1 with h2 | h2
        · exact hE.new x (.inr (.inl h2))
        · exact .inr (Nat.le_trans hE.mod.size h2)
      · exact hE.new x (.inr (.inr h1))
theorem Z3.stepR (h : T3 W FA FB FR A B R a b r) (hb : ∀ q ∈ bs, W.heap[q.1]? = some q.2 ∧ w0.heap.size ≤ q.1 ∧ ¬ FA q.1 ∧ ¬ FB q.1 ∧ ¬ FR q.1) (hE : Ext G0 w0 (fun x => FA x ∨ FB x ∨ FR x) W) (hT : Ref W' FR R r') (hx : Ext FR W FR W') : Z3 w0 G0 W' A B R a b r' bs := by
  refine ⟨FA, FB, FR, ⟨h.hA.apart hx (fun x h1 h2 => h.dAR x h1 h2), h.hB.apart hx (fun x h1 h2 => h.dBR x h1 h2), hT, h.dAB, h.dAR, h.dBR⟩, fun q hq => ?_, ?_⟩
  · obtain ⟨h1, h2, h3, h4, h5⟩ := hb q hq
    exact ⟨(hx.mod.block q.1 (heap_lt h1) h5).trans h1, h2, h3, h4, h5⟩
  · refine ⟨⟨hx.mod.os.trans hE.mod.os, hx.mod.tape.trans hE.mod.tape, hx.mod.output.trans hE.mod.output, Nat.le_trans hE.mod.size hx.mod.size, fun x h1 h2 => ?_⟩, hE.new⟩
    rw [hx.mod.block x (Nat.lt_of_lt_of_le h1 hE.mod.size) (fun h3 => by rcases hE.new x (.inr (.inr h3)) with h4 | h4; exact h2 h4; omega)]
    exact hE.mod.block x h1 h2
theorem Z3.below (h : Z3 w0 G0 W A B R a b r bs) (hx : Below W.heap.size W W') : Z3 w0 G0 W' A B R a b r bs := by
  obtain ⟨FA, FB, FR, h, hb, hE⟩ := h
  refine ⟨FA, FB, FR, ⟨h.hA.below hx, h.hB.below hx, h.hR.below hx, h.dAB, h.dAR, h.dBR⟩, fun q hq => ?_, ⟨⟨hx.os.trans hE.mod.os, hx.tape.trans hE.mod.tape, hx.output.trans hE.mod.output, Nat.le_trans hE.mod.size hx.size, fun x h1 h2 => ?_⟩, hE.new⟩⟩
  · obtain ⟨h1, h2, h3, h4, h5⟩ := hb q hq
    exact ⟨(hx.block q.1 (heap_lt h1)).trans h1, h2, h3, h4, h5⟩
  · exact (hx.block x (Nat.lt_of_lt_of_le h1 hE.mod.size)).trans (hE.mod.block x h1 h2)
theorem Z3.alloc (h : Z3 w0 G0 W A B R a b r bs) (o : Obj) : Z3 w0 G0 (W.alloc o) A B R a b r ((W.heap.size, o) :: bs) := by
  have h2 := h.below ((Below.refl W.heap.size W).alloc (Nat.le_refl _) o)
  obtain ⟨FA0, FB0, FR0, h0, hb0, hE0⟩ := h
  have hx := (Below.refl W.heap.size W).alloc (Nat.le_refl _) o
  refine ⟨FA0, FB0, FR0, ⟨h0.hA.below hx, h0.hB.below hx, h0.hR.below hx, h0.dAB, h0.dAR, h0.dBR⟩, fun q hq => ?_, ⟨⟨hx.os.trans hE0.mod.os, hx.tape.trans hE0.mod.tape, hx.output.trans hE0.mod.output, Nat.le_trans hE0.mod.size hx.size, fun x h1 h2 => (hx.block x (Nat.lt_of_lt_of_le h1 hE0.mod.size)).trans (hE0.mod.block x h1 h2)⟩, hE0.new⟩⟩
  rcases List.mem_cons.1 hq with rfl | hq
  · exact ⟨heap_alloc_new W o, hE0.mod.size, fun h => by have := h0.hA.lt _ h; simp at this, fun h => by have := h0.hB.lt _ h; simp at this, fun h => by have := h0.hR.lt _ h; simp at this⟩
  · obtain ⟨h1, h2, h3, h4, h5⟩ := hb0 q hq
    exact ⟨(hx.block q.1 (heap_lt h1)).trans h1, h2, h3, h4, h5⟩
theorem Z3.mem (h : Z3 w0 G0 W A B R a b r bs) {x : Nat} {o : Obj} (hm : (x, o) ∈ bs) : W.heap[x]? = some o := by
  obtain ⟨FA0, FB0, FR0, h0, hb0, hE0⟩ := h; exact (hb0 _ hm).1
end
/-- a triple: one table three times -/
def Tri (w : World) (G : Nat → Prop) (A B R : Nat) (m : List (Option Int)) : Prop := ∃ FA FB FR, T3 w FA FB FR A B R m (mc m) m ∧ ∀ x, G x ↔ FA x ∨ FB x ∨ FR x
theorem Tri.z3 {w : World} {G : Nat → Prop} {A B R : Nat} {m : List (Option Int)} (h : Tri w G A B R m) : Z3 w G w A B R m (mc m) m [] := by
  obtain ⟨FA, FB, FR, h, hG⟩ := h
  exact ⟨FA, FB, FR, h, by simp, Mod.refl _ _, fun x hx => .inl ((hG x).2 hx)⟩
theorem Z3.tri {w0 W : World} {G0 : Nat → Prop} {A B R : Nat} {m : List (Option Int)} {bs : List (Nat × Obj)} (h : Z3 w0 G0 W A B R m (mc m) m bs) : ∃ G, Tri W G A B R m ∧ Ext G0 w0 G W := by
  obtain ⟨FA, FB, FR, h, hb, hE⟩ := h
  exact ⟨_, ⟨FA, FB, FR, h, fun x => Iff.rfl⟩, hE⟩
theorem rest_any (w : World) (x : Int) (n : Nat) (hn : 0 < n) (hl : n ≤ 6) : Calls Try.prog 7 #[.int .i64 x, .int .i64 n] w fun e w' => ∃ k : Nat, k < n ∧ e = .returned (.int .i64 k) ∧ w' = w := by
  have h1 : -(n : Int) < x.tmod n ∧ x.tmod n < n := by
    have := Int.lt_tmod_of_pos x (b := (n : Int)) (by omega)
    have := Int.tmod_lt_of_pos x (b := (n : Int)) (by omega)
    omega
  have hn0 : ¬ (n : Int) = 0 := by omega
  obtain ⟨y, hy⟩ : ∃ y, x.tmod n = y := ⟨_, rfl⟩
  rw [hy] at h1
  rcases Int.lt_or_le y 0 with h | h
  · have hd : decide (y < 0) = true := by simp; omega
    go_enter Try.func7, Try.ntmps7
    go_wp2
    go_ret
    exact ⟨(y + n).toNat, by omega, by show Ending.returned (.int .i64 _) = _; congr 2; omega, rfl⟩
  · have hd : decide (y < 0) = false := by simp; omega
    go_enter Try.func7, Try.ntmps7
    go_wp2
    go_ret
    exact ⟨y.toNat, by omega, by show Ending.returned (.int .i64 _) = _; congr 2; omega, rfl⟩
end Go.Proofs.Ytfjgmhghjbikfaa
