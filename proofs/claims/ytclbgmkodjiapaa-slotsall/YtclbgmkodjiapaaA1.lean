import Derived.Test.YtclbgmkodjiapaaR4
import Derived.Test.YtclbgmkodjiapaaGX
import Derived.Test.YtclbgmkodjiapaaO1
namespace Go.Proofs.Ytclbgmkodjiapaa
open Go.RowKit

theorem add_pos (a : Addr) (i : Nat) (h : i ≠ 0) : a.add i = ⟨a.block, a.off + i, none⟩ := by
  unfold Addr.add; rw [if_neg h]
theorem row4 {w : World} {b : Nat} {x0 x1 x2 x3 : Value} {t : TypeId} (h : w.heap[b]? = some (.cells #[x0, x1, x2, x3] t)) :
    w.cell? ⟨b, 0, none⟩ = some x0 ∧ w.cell? ⟨b, 1, none⟩ = some x1 ∧ w.cell? ⟨b, 2, none⟩ = some x2 ∧ w.cell? ⟨b, 3, none⟩ = some x3 :=
  ⟨by rw [cell_of_row _ _ _ _ _ _ h]; rfl, by rw [cell_of_row _ _ _ _ _ _ h]; rfl, by rw [cell_of_row _ _ _ _ _ _ h]; rfl, by rw [cell_of_row _ _ _ _ _ _ h]; rfl⟩
theorem quad_at {w wr : World} {a1 : Option Addr} {len : Nat} {Z : Nat → Int × Int × Int × Int} (h : IsQuads w a1 len Z) (hb : Below w.heap.size w wr) {k : Nat} (hk : k < len) :
    ∃ x, a1 = some x ∧ wr.cell? (x.add (k * 4)) = some (.int .i64 (Z k).1) ∧ wr.cell? ⟨(x.add (k * 4)).block, (x.add (k * 4)).off + 1, none⟩ = some (.int .i64 (Z k).2.1) ∧ wr.cell? ⟨(x.add (k * 4)).block, (x.add (k * 4)).off + 2, none⟩ = some (.int .i64 (Z k).2.2.1) ∧ wr.cell? ⟨(x.add (k * 4)).block, (x.add (k * 4)).off + 3, none⟩ = some (.int .i64 (Z k).2.2.2) := by
  obtain ⟨x, rfl, h0, h1, h2, h3⟩ := h k hk
  have keep : ∀ (p : Addr) (v : Value), w.cell? p = some v → wr.cell? p = some v := fun p v hv => by
    have hl : p.block < w.heap.size := by
      rcases Nat.lt_or_ge p.block w.heap.size with h | h
      · exact h
      · exfalso; simp [World.cell?, Array.getElem?_eq_none h] at hv
    exact (hb.cell hl).trans hv
  have e : ∀ i, i ≠ 0 → x.add (k * 4 + i) = ⟨(x.add (k * 4)).block, (x.add (k * 4)).off + i, none⟩ := fun i hi => by
    rw [← Go.Deep.add_add, add_pos _ _ hi]
  rw [e 1 (by decide)] at h1
  rw [e 2 (by decide)] at h2
  rw [e 3 (by decide)] at h3
  exact ⟨x, rfl, keep _ _ h0, keep _ _ h1, keep _ _ h2, keep _ _ h3⟩
/-! what the acts do to a table -/
def doPut (m : List (Option Int)) (c : Int) : List (Option Int) := if ff m < m.length then m.set (ff m) (some c) else m
def doPutAt (m : List (Option Int)) (i c : Int) : List (Option Int) := if 0 ≤ i ∧ m[i.toNat]? = some none then m.set i.toNat (some c) else m
def doSet (m : List (Option Int)) (i v : Int) : List (Option Int) := if (look m i).isSome then m.set i.toNat (some v) else m
def doDrop (m : List (Option Int)) (i : Int) : List (Option Int) := if (look m i).isSome then m.set i.toNat none else m
def doClear (m : List (Option Int)) : List (Option Int) := List.replicate m.length none
def stepK (m : List (Option Int)) (kd i v : Int) : List (Option Int) :=
  if kd = 1 then doPut m v else if kd = 2 then doPutAt m i v else if kd = 4 then doSet m i v else if kd = 5 then doDrop m i else if kd = 7 then doClear m else m
theorem doPut_len (m : List (Option Int)) (c : Int) : (doPut m c).length = m.length := by unfold doPut; split <;> simp
theorem doPutAt_len (m : List (Option Int)) (i c : Int) : (doPutAt m i c).length = m.length := by unfold doPutAt; split <;> simp
theorem doSet_len (m : List (Option Int)) (i c : Int) : (doSet m i c).length = m.length := by unfold doSet; split <;> simp
theorem doDrop_len (m : List (Option Int)) (i : Int) : (doDrop m i).length = m.length := by unfold doDrop; split <;> simp
theorem doClear_len (m : List (Option Int)) : (doClear m).length = m.length := by simp [doClear]
theorem stepK_len (m : List (Option Int)) (kd i v : Int) : (stepK m kd i v).length = m.length := by
  unfold stepK
  repeat' split
  · exact doPut_len m v
  · exact doPutAt_len m i v
  · exact doSet_len m i v
  · exact doDrop_len m i
  · exact doClear_len m
  · rfl
/-- the acts of round wh among the first k -/
def actsTo (Z : Nat → Int × Int × Int × Int) (wh : Int) (m : List (Option Int)) : Nat → List (Option Int)
  | 0 => m
  | k + 1 => if (Z k).1 = wh then stepK (actsTo Z wh m k) (Z k).2.1 (Z k).2.2.1 (Z k).2.2.2 else actsTo Z wh m k
def leaveTo (Z : Nat → Int × Int × Int × Int) (wh : Int) : Nat → Bool
  | 0 => false
  | k + 1 => if (Z k).1 = wh ∧ (Z k).2.1 = 11 then true else leaveTo Z wh k
def nestsTo (Z : Nat → Int × Int × Int × Int) (wh : Int) : Nat → Nat
  | 0 => 0
  | k + 1 => if (Z k).1 = wh ∧ (Z k).2.1 = 12 then nestsTo Z wh k + 1 else nestsTo Z wh k
theorem nestsTo_le (Z : Nat → Int × Int × Int × Int) (wh : Int) : ∀ k, nestsTo Z wh k ≤ k
  | 0 => Nat.le_refl _
  | k + 1 => by unfold nestsTo; have := nestsTo_le Z wh k; split <;> omega
theorem actsTo_len (Z : Nat → Int × Int × Int × Int) (wh : Int) (m : List (Option Int)) : ∀ k, (actsTo Z wh m k).length = m.length
  | 0 => rfl
  | k + 1 => by
    unfold actsTo
    split
    · rw [stepK_len]; exact actsTo_len Z wh m k
    · exact actsTo_len Z wh m k
theorem putAt_is {m m' : List (Option Int)} {i c v : Int} (h : ((i < 0 ∨ (m.length : Int) ≤ i) ∧ v = 30 ∧ m' = m) ∨ (∃ (k : Nat) (x : Int), i = k ∧ m[k]? = some (some x) ∧ v = 31 ∧ m' = m) ∨ ∃ k : Nat, i = k ∧ m[k]? = some none ∧ v = 0 ∧ m' = m.set k (some c)) : m' = doPutAt m i c := by
  unfold doPutAt
  rcases h with ⟨h1, _, rfl⟩ | ⟨k, x, rfl, h1, _, rfl⟩ | ⟨k, rfl, h1, _, rfl⟩
  · rw [if_neg]
    rintro ⟨h2, h3⟩
    have := (List.getElem?_eq_some_iff.1 h3).1
    omega
  · rw [if_neg]
    rintro ⟨_, h3⟩
    rw [Int.toNat_natCast, h1] at h3; simp at h3
  · rw [if_pos ⟨by omega, by rw [Int.toNat_natCast]; exact h1⟩, Int.toNat_natCast]
theorem set_is {m m' : List (Option Int)} {i : Int} {o : Option Int} (h : (look m i = none ∧ m' = m) ∨ ∃ (k : Nat) (x : Int), i = k ∧ m[k]? = some (some x) ∧ m' = m.set k o) : m' = if (look m i).isSome then m.set i.toNat o else m := by
  rcases h with ⟨h1, rfl⟩ | ⟨k, x, rfl, h1, rfl⟩
  · rw [h1]; rfl
  · rw [look_nat, h1, Int.toNat_natCast]; rfl
theorem putI_do (w : World) (F : Nat → Prop) (B : Nat) (m : List (Option Int)) (h : Tab KI w F B m) (c : Int) :
    Calls Try.prog 13 #[.pointer (some ⟨B, 0, none⟩), .int .i64 c] w fun x w' => ∃ v F', x = .returned v ∧ Tab KI w' F' B (doPut m c) ∧ Ext F w F' w' := by
  refine (putI_any w F B m h c).mono ?_
  rintro x w' ⟨h1, h2⟩
  unfold doPut
  have := ff_le m
  split
  · rename_i hl
    obtain ⟨rfl, F', h3, h4⟩ := h1 hl
    exact ⟨_, F', rfl, h3, h4⟩
  · obtain ⟨rfl, h3, h4⟩ := h2 (by omega)
    exact ⟨_, F, rfl, h3, h4⟩
theorem putR_do (w : World) (F : Nat → Prop) (R : Nat) (m : List (Option Int)) (h : Ref w F R m) (c : Int) :
    Calls Try.prog 18 #[.pointer (some ⟨R, 0, none⟩), .int .i64 c] w fun x w' => ∃ v, x = .returned v ∧ Ref w' F R (doPut m c) ∧ Ext F w F w' := by
  refine (putR_any w F R m h c).mono ?_
  rintro x w' ⟨h1, h2⟩
  unfold doPut
  have := ff_le m
  split
  · rename_i hl
    obtain ⟨rfl, h3, h4⟩ := h1 hl
    exact ⟨_, rfl, h3, h4⟩
  · obtain ⟨rfl, h3, h4⟩ := h2 (by omega)
    exact ⟨_, rfl, h3, h4⟩
theorem putAtI_do (w : World) (F : Nat → Prop) (B : Nat) (m : List (Option Int)) (h : Tab KI w F B m) (i c : Int) :
    Calls Try.prog 19 #[.pointer (some ⟨B, 0, none⟩), .int .i64 i, .int .i64 c] w fun x w' => ∃ v F', x = .returned v ∧ Tab KI w' F' B (doPutAt m i c) ∧ Ext F w F' w' := by
  refine (putAtI_any w F B m h i c).mono ?_
  rintro x w' ⟨v, m', F', rfl, h1, h2, h3⟩
  rw [← putAt_is h3]
  exact ⟨_, F', rfl, h1, h2⟩
theorem putAtR_do (w : World) (F : Nat → Prop) (R : Nat) (m : List (Option Int)) (h : Ref w F R m) (i c : Int) :
    Calls Try.prog 20 #[.pointer (some ⟨R, 0, none⟩), .int .i64 i, .int .i64 c] w fun x w' => ∃ v, x = .returned v ∧ Ref w' F R (doPutAt m i c) ∧ Ext F w F w' := by
  refine (putAtR_any w F R m h i c).mono ?_
  rintro x w' ⟨v, m', rfl, h1, h2, h3⟩
  rw [← putAt_is h3]
  exact ⟨_, rfl, h1, h2⟩
theorem setI_do (w : World) (F : Nat → Prop) (B : Nat) (m : List (Option Int)) (h : Tab KI w F B m) (i c : Int) :
    Calls Try.prog 27 #[.pointer (some ⟨B, 0, none⟩), .int .i64 i, .int .i64 c] w fun x w' => ∃ v F', x = .returned v ∧ Tab KI w' F' B (doSet m i c) ∧ Ext F w F' w' := by
  refine (setB_any w F B m h i c).mono ?_
  rintro x w' ⟨m', rfl, h1, h2, h3⟩
  unfold doSet
  rw [← set_is h3]
  exact ⟨_, F, rfl, h1, h2⟩
theorem setR_do (w : World) (F : Nat → Prop) (R : Nat) (m : List (Option Int)) (h : Ref w F R m) (i c : Int) :
    Calls Try.prog 29 #[.pointer (some ⟨R, 0, none⟩), .int .i64 i, .int .i64 c] w fun x w' => ∃ v, x = .returned v ∧ Ref w' F R (doSet m i c) ∧ Ext F w F w' := by
  refine (setR_any w F R m h i c).mono ?_
  rintro x w' ⟨m', rfl, h1, h2, h3⟩
  unfold doSet
  rw [← set_is h3]
  exact ⟨_, rfl, h1, h2⟩
theorem dropI_do (w : World) (F : Nat → Prop) (B : Nat) (m : List (Option Int)) (h : Tab KI w F B m) (i : Int) :
    Calls Try.prog 21 #[.pointer (some ⟨B, 0, none⟩), .int .i64 i] w fun x w' => ∃ v F', x = .returned v ∧ Tab KI w' F' B (doDrop m i) ∧ Ext F w F' w' := by
  refine (dropI_any w F B m h i).mono ?_
  rintro x w' ⟨v, m', rfl, h1, h2, h3⟩
  unfold doDrop
  rw [← set_is h3]
  exact ⟨_, F, rfl, h1, h2⟩
theorem dropR_do (w : World) (F : Nat → Prop) (R : Nat) (m : List (Option Int)) (h : Ref w F R m) (i : Int) :
    Calls Try.prog 22 #[.pointer (some ⟨R, 0, none⟩), .int .i64 i] w fun x w' => ∃ v, x = .returned v ∧ Ref w' F R (doDrop m i) ∧ Ext F w F w' := by
  refine (dropR_any w F R m h i).mono ?_
  rintro x w' ⟨m', rfl, h1, h2, h3⟩
  unfold doDrop
  rw [← set_is h3]
  exact ⟨_, rfl, h1, h2⟩
theorem clearI_do (w : World) (F : Nat → Prop) (B : Nat) (m : List (Option Int)) (h : Tab KI w F B m) :
    Calls Try.prog 28 #[.pointer (some ⟨B, 0, none⟩)] w fun x w' => ∃ v F', x = .returned v ∧ Tab KI w' F' B (doClear m) ∧ Ext F w F' w' := by
  refine (clearI_any w F B m h).mono ?_
  rintro x w' ⟨rfl, h1, h2⟩
  exact ⟨_, F, rfl, h1, h2⟩
theorem clearR_do (w : World) (F : Nat → Prop) (R : Nat) (m : List (Option Int)) (h : Ref w F R m) :
    Calls Try.prog 30 #[.pointer (some ⟨R, 0, none⟩)] w fun x w' => ∃ v, x = .returned v ∧ Ref w' F R (doClear m) ∧ Ext F w F w' := by
  refine (clearR_any w F R m h).mono ?_
  rintro x w' ⟨rfl, h1, h2⟩
  exact ⟨_, rfl, h1, h2⟩
end Go.Proofs.Ytclbgmkodjiapaa
