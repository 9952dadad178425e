import Derived.Test.YtngmnlmagbfijabCM
import Derived.Test.YtngmnlmagbfijabCK
namespace Go.Proofs.Ytngmnlmagbfijab
open Go.RowKit
theorem RfF.mono {w : World} {Y : Nat → Prop} {g kd n n' : Nat} {f : Int → Option Kp} {last : Int} (h : RfF w Y g kd f last n) (hn : n ≤ n') : RfF w Y g kd f last n' := by obtain ⟨L, h1, h2, h3⟩ := h; exact ⟨L, h1, h2, by omega⟩
theorem RfF.keep {w w' : World} {Y : Nat → Prop} {g kd n : Nat} {f : Int → Option Kp} {last : Int} (h : RfF w Y g kd f last n) (hs : w.heap.size ≤ w'.heap.size) (hk : ∀ b, Y b → w'.heap[b]? = w.heap[b]?) : RfF w' Y g kd f last n := by obtain ⟨L, h1, h2, h3⟩ := h; exact ⟨L, h1.keep hs hk, h2, h3⟩
theorem RfF.lt {w : World} {Y : Nat → Prop} {g kd n : Nat} {f : Int → Option Kp} {last : Int} (h : RfF w Y g kd f last n) : ∀ b, Y b → b < w.heap.size := by obtain ⟨L, h1, h2, h3⟩ := h; exact h1.lt
theorem RfF.below {w w' : World} {Y : Nat → Prop} {g kd n : Nat} {f : Int → Option Kp} {last : Int} (h : RfF w Y g kd f last n) (hb : Below w.heap.size w w') : RfF w' Y g kd f last n := h.keep hb.size (fun b hy => hb.block b (h.lt b hy))
theorem PlAt.mono' {w : World} {X : Nat → Prop} {g n n' : Nat} {s : Pl} (h : PlAt w X g n s) (hn : n ≤ n') : PlAt w X g n' s := by
  obtain ⟨m, q, h⟩ := h
  exact ⟨m, q, h.top, h.wts.mono hn, h.way.keep hn rfl (fun _ _ _ => rfl), h.xg, h.xm, h.xq, h.lt, h.ok.mono hn⟩
/-- a pair: the program's plan at p and the document's at r, the same; H their blocks -/
def PrA (p r n : Nat) (w : World) (H : Nat → Prop) : Prop := ∃ (X Y : Nat → Prop) (s : Pl) (f : Int → Option Kp) (last : Int), PlAt w X p n s ∧ RfF w Y r s.kind f last n ∧ AgF s f last ∧ (∀ b, X b → ¬ Y b) ∧ ∀ b, H b ↔ X b ∨ Y b
theorem PrA.lt {p r n : Nat} {w : World} {H : Nat → Prop} (h : PrA p r n w H) : ∀ b, H b → b < w.heap.size := by
  obtain ⟨X, Y, s, f, last, h1, h2, _, _, h5⟩ := h
  intro b hb
  rcases (h5 b).1 hb with hb | hb
  · exact h1.lt b hb
  · exact h2.lt b hb
theorem PrA.keep {p r n : Nat} {w w' : World} {H : Nat → Prop} (h : PrA p r n w H) (hs : w.heap.size ≤ w'.heap.size) (hk : ∀ b, H b → w'.heap[b]? = w.heap[b]?) : PrA p r n w' H := by
  obtain ⟨X, Y, s, f, last, h1, h2, h3, h4, h5⟩ := h
  exact ⟨X, Y, s, f, last, h1.keep hs (fun b hb => hk b ((h5 b).2 (.inl hb))), h2.keep hs (fun b hb => hk b ((h5 b).2 (.inr hb))), h3, h4, h5⟩
theorem PrA.mono {p r n n' : Nat} {w : World} {H : Nat → Prop} (h : PrA p r n w H) (hn : n ≤ n') : PrA p r n' w H := by
  obtain ⟨X, Y, s, f, last, h1, h2, h3, h4, h5⟩ := h
  exact ⟨X, Y, s, f, last, h1.mono' hn, h2.mono hn, h3, h4, h5⟩
/-- the cells of both boxes -/
def BxS (A B p r : Nat) (k t nn mm : Int) (u : Value) (W : World) : Prop := W.cell? ⟨A, 0, none⟩ = some (.pointer (some ⟨p, 0, none⟩)) ∧ W.cell? ⟨A, 1, none⟩ = some (.pointer (some ⟨r, 0, none⟩)) ∧ (W.cell? ⟨B, 0, none⟩ = some (.int .i64 k) ∧ W.cell? ⟨B, 1, none⟩ = some (.int .i64 t)) ∧ W.cell? ⟨B, 2, none⟩ = some (.int .i64 nn) ∧ W.cell? ⟨B, 3, none⟩ = some (.int .i64 mm) ∧ W.cell? ⟨B, 4, none⟩ = some u
theorem cell_same {w w' : World} {b o : Nat} {v : Value} (h : w.cell? ⟨b, o, none⟩ = some v) (hb : w'.heap[b]? = w.heap[b]?) : w'.cell? ⟨b, o, none⟩ = some v := by
  unfold World.cell? at h ⊢
  show (match w'.heap[b]? with | _ => _) = _
  rw [hb]; exact h
theorem BxS.keep {A B p r : Nat} {k t nn mm : Int} {u : Value} {W W' : World} (h : BxS A B p r k t nn mm u W) (hA : W'.heap[A]? = W.heap[A]?) (hB : W'.heap[B]? = W.heap[B]?) : BxS A B p r k t nn mm u W' := by
  obtain ⟨h0, h1, ⟨h2, h3⟩, h4, h5, h6⟩ := h
  exact ⟨cell_same h0 hA, cell_same h1 hA, ⟨cell_same h2 hB, cell_same h3 hB⟩, cell_same h4 hB, cell_same h5 hB, cell_same h6 hB⟩
/-- first the program's plan, then the document's -/
theorem Ext2 {H X Y Y' : Nat → Prop} {w w1 w2 w3 : World} (h0 : Below w.heap.size w w1) (h1 : Mod X w1 w2) (h2 : Ext Y w2 Y' w3) (hH : ∀ b, H b ↔ X b ∨ Y b) : Ext H w (fun b => X b ∨ Y' b) w3 := by
  have z0 := h0.size
  have z1 := h1.size
  refine ⟨(Mod.of_below h0).trans ⟨h2.mod.os.trans h1.os, h2.mod.tape.trans h1.tape, h2.mod.output.trans h1.output, Nat.le_trans h1.size h2.mod.size, fun b hb hh => ?_⟩, fun b hb => ?_⟩
  · rw [h2.mod.block b (by omega) (fun hy => hh ((hH b).2 (.inr hy))), h1.block b hb (fun hx => hh ((hH b).2 (.inl hx)))]
  · rcases hb with hb | hb
    · exact .inl ((hH b).2 (.inl hb))
    · rcases h2.new b hb with h9 | h9
      · exact .inl ((hH b).2 (.inr h9))
      · exact .inr (by omega)
end Go.Proofs.Ytngmnlmagbfijab
