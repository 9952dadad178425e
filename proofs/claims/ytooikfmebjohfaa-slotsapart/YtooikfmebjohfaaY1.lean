import Derived.Test.YtooikfmebjohfaaF6
import Derived.Deep.Slices
namespace Go.Proofs.Ytooikfmebjohfaa
open Go.RowKit

/-- a slice of structs of four numbers, as it came in -/
def Quads (w : World) (a1 : Option Addr) (len : Nat) (Z : Nat → Int × Int × Int × Int) : Prop :=
  ∀ k, k < len → ∃ x, a1 = some x ∧ w.cell? (x.add (k * 4)) = some (.int .i64 (Z k).1) ∧ w.cell? (x.add (k * 4 + 1)) = some (.int .i64 (Z k).2.1) ∧
    w.cell? (x.add (k * 4 + 2)) = some (.int .i64 (Z k).2.2.1) ∧ w.cell? (x.add (k * 4 + 3)) = some (.int .i64 (Z k).2.2.2)
theorem add_pos (a : Addr) (i : Nat) (h : i ≠ 0) : a.add i = ⟨a.block, a.off + i, none⟩ := by
  unfold Addr.add; split <;> simp_all
theorem quad_cell {w wr : World} {x : Addr} {n i : Nat} {v : Value} (hb : Below w.heap.size w wr) (hi : i ≠ 0) (h : w.cell? (x.add (n + i)) = some v) : wr.cell? ⟨(x.add n).block, (x.add n).off + i, none⟩ = some v := by
  have e : (x.add n).add i = x.add (n + i) := Deep.add_add x n i
  rw [← add_pos _ i hi, e, hb.cell (World.block_lt_of_cell? w _ h)]
  exact h
theorem Quads.at {w wr : World} {a1 : Option Addr} {len : Nat} {Z : Nat → Int × Int × Int × Int} (h : Quads w a1 len Z) (hb : Below w.heap.size w wr) {k : Nat} (hk : k < len) :
    ∃ (x : Addr) (z0 z1 z2 z3 : Int), a1 = some x ∧ wr.cell? (x.add (k * 4)) = some (.int .i64 z0) ∧ wr.cell? ⟨(x.add (k * 4)).block, (x.add (k * 4)).off + 1, none⟩ = some (.int .i64 z1) ∧
      wr.cell? ⟨(x.add (k * 4)).block, (x.add (k * 4)).off + 2, none⟩ = some (.int .i64 z2) ∧ wr.cell? ⟨(x.add (k * 4)).block, (x.add (k * 4)).off + 3, none⟩ = some (.int .i64 z3) := by
  obtain ⟨x, hx, h0, h1, h2, h3⟩ := h k hk
  exact ⟨x, (Z k).1, (Z k).2.1, (Z k).2.2.1, (Z k).2.2.2, hx, (by rw [hb.cell (World.block_lt_of_cell? w _ h0)]; exact h0), quad_cell hb (by decide) h1, quad_cell hb (by decide) h2, quad_cell hb (by decide) h3⟩
/-- a table of numbers between the steps of a law -/
def SI (w wr : World) (B : Nat) (m : List (Option Int)) : Prop := ∃ F : Nat → Prop, Tab KI wr F B m ∧ (∀ x, F x → w.heap.size ≤ x) ∧ Below w.heap.size w wr
section
variable {w wr w' : World} {B : Nat} {m m' : List (Option Int)}
theorem SI.step {F F' : Nat → Prop} (hl : ∀ x, F x → w.heap.size ≤ x) (hb : Below w.heap.size w wr) (hT : Tab KI w' F' B m') (hE : Ext F wr F' w') : SI w w' B m' :=
  ⟨F', hT, hE.low hl hb.size, hb.trans (hE.mod.below hl hb.size)⟩
theorem SI.below (h : SI w wr B m) (hb : Below wr.heap.size wr w') : SI w w' B m := by
  obtain ⟨F, hT, hl, hB⟩ := h
  exact ⟨F, hT.below hb, hl, hB.trans (hb.mono hB.size)⟩
theorem SI.bel (h : SI w wr B m) : Below w.heap.size w wr := by obtain ⟨F, hT, hl, hB⟩ := h; exact hB
theorem SI.cap (h : SI w wr B m) : m.length ≤ 4096 := by obtain ⟨F, hT, hl, hB⟩ := h; exact hT.cap
theorem SI.put (h : SI w wr B m) (c : Int) :
    Calls Try.prog 38 #[.pointer (some ⟨B, 0, none⟩), .int .i64 c] wr fun x w' => ∃ (k e : Int) (m' : List (Option Int)), x = .returned (.tuple #[.int .i64 k, .int .i64 e]) ∧ SI w w' B m' ∧
      ((ff m < m.length ∧ k = (ff m : Nat) ∧ m' = m.set (ff m) (some c)) ∨ (k = -1 ∧ m' = m)) := by
  obtain ⟨F, hT, hl, hB⟩ := h
  refine (putI_any wr F B m hT c).mono ?_
  rintro x w' ⟨h1, h2⟩
  rcases Nat.lt_or_eq_of_le (ff_le m) with e | e
  · obtain ⟨rfl, F', hT', hE⟩ := h1 e
    exact ⟨_, _, _, rfl, SI.step hl hB hT' hE, .inl ⟨e, rfl, rfl⟩⟩
  · obtain ⟨rfl, hT', hE⟩ := h2 e
    exact ⟨_, _, _, rfl, SI.step hl hB hT' hE, .inr ⟨rfl, rfl⟩⟩
theorem SI.putAt (h : SI w wr B m) (i c : Int) :
    Calls Try.prog 36 #[.pointer (some ⟨B, 0, none⟩), .int .i64 i, .int .i64 c] wr fun x w' => ∃ (v : Int) (m' : List (Option Int)), x = .returned (.int .i64 v) ∧ SI w w' B m' ∧
      (((i < 0 ∨ (m.length : Int) ≤ i) ∧ v = 30 ∧ m' = m) ∨ (∃ (k : Nat) (x : Int), i = k ∧ m[k]? = some (some x) ∧ v = 31 ∧ m' = m) ∨ ∃ k : Nat, i = k ∧ m[k]? = some none ∧ v = 0 ∧ m' = m.set k (some c)) := by
  obtain ⟨F, hT, hl, hB⟩ := h
  refine (putAtI_any wr F B m hT i c).mono ?_
  rintro x w' ⟨v, m', F', rfl, hT', hE, h⟩
  exact ⟨v, m', rfl, SI.step hl hB hT' hE, h⟩
theorem SI.drop (h : SI w wr B m) (i : Int) :
    Calls Try.prog 40 #[.pointer (some ⟨B, 0, none⟩), .int .i64 i] wr fun e w' => ∃ v m', e = .returned v ∧ SI w w' B m' ∧
      ((look m i = none ∧ m' = m) ∨ ∃ (k : Nat) (x : Int), i = k ∧ m[k]? = some (some x) ∧ m' = m.set k none) := by
  obtain ⟨F, hT, hl, hB⟩ := h
  refine (dropI_any wr F B m hT i).mono ?_
  rintro _ w' ⟨v, m', rfl, hT', hE, h⟩
  exact ⟨v, m', rfl, SI.step hl hB hT' hE, h⟩
theorem SI.set (h : SI w wr B m) (i v : Int) :
    Calls Try.prog 39 #[.pointer (some ⟨B, 0, none⟩), .int .i64 i, .int .i64 v] wr fun e w' => ∃ r m', e = .returned r ∧ SI w w' B m' ∧
      ((look m i = none ∧ m' = m) ∨ ∃ (k : Nat) (x : Int), i = k ∧ m[k]? = some (some x) ∧ m' = m.set k (some v)) := by
  obtain ⟨F, hT, hl, hB⟩ := h
  refine (setI_any wr F B m hT i v).mono ?_
  rintro _ w' ⟨r, m', rfl, hT', hE, h⟩
  exact ⟨r, m', rfl, SI.step hl hB hT' hE, h⟩
theorem SI.get (h : SI w wr B m) (i : Int) :
    Calls Try.prog 42 #[.pointer (some ⟨B, 0, none⟩), .int .i64 i] wr fun x w' => x = .returned (.tuple #[.int .i64 ((look m i).getD 0), .bool (look m i).isSome]) ∧ w' = wr := by
  obtain ⟨F, hT, hl, hB⟩ := h
  exact getI_any wr F B m hT i
theorem SI.len (h : SI w wr B m) :
    Calls Try.prog 37 #[.pointer (some ⟨B, 0, none⟩)] wr fun x w' => x = .returned (.int .i64 ((m.countP Option.isSome : Nat) : Int)) ∧ w' = wr := by
  obtain ⟨F, hT, hl, hB⟩ := h
  exact lenI_any wr F B m hT
theorem SI.next (h : SI w wr B m) (i : Int) :
    Calls Try.prog 44 #[.pointer (some ⟨B, 0, none⟩), .int .i64 i] wr fun x w' => ∃ q : Int, x = .returned (.int .i64 q) ∧ At m i.toNat q ∧ w' = wr := by
  obtain ⟨F, hT, hl, hB⟩ := h
  exact nextI_at wr F B m hT i
theorem SI.find (h : SI w wr B m) (v : Int) :
    Calls Try.prog 43 #[.pointer (some ⟨B, 0, none⟩), .int .i64 v] wr fun e w' => ∃ r : Int, e = .returned (.int .i64 r) ∧ Found m v r ∧ SI w w' B m := by
  have h' := h
  obtain ⟨F, hT, hl, hB⟩ := h
  refine (findI_any wr F B m hT v).mono ?_
  rintro e w' ⟨r, rfl, hf, hb⟩
  exact ⟨r, rfl, hf, h'.below hb⟩
/-- Copy: the copy's own blocks are all new -/
theorem SI.copy (h : SI w wr B m) :
    Calls Try.prog 41 #[.pointer (some ⟨B, 0, none⟩)] wr fun e w' => ∃ C : Nat, e = .returned (.pointer (some ⟨C, 0, none⟩)) ∧ SI wr w' C m ∧ SI w w' B m := by
  have h' := h
  obtain ⟨F, hT, hl, hB⟩ := h
  refine (copyI_any wr F B m hT).mono ?_
  rintro e w' ⟨C, Fc, rfl, hT', hlow, hb⟩
  exact ⟨C, rfl, ⟨Fc, hT', hlow, hb⟩, h'.below hb⟩
end
/-- what lies at pl stays -/
theorem keep_set {m : List (Option Int)} {pl k : Nat} {v : Int} (h : m[pl]? = some (some v)) (hk : k ≠ pl) (o : Option Int) : (m.set k o)[pl]? = some (some v) := by
  rw [List.getElem?_set_ne hk]; exact h
theorem ff_ne {m : List (Option Int)} {pl : Nat} {v : Int} (h : m[pl]? = some (some v)) (hf : ff m < m.length) : ff m ≠ pl := by
  intro e
  have := ff_free hf
  rw [e, h] at this; cases this
theorem at_pl {m : List (Option Int)} {pl : Nat} {v q : Int} (h : m[pl]? = some (some v)) (hq : At m pl q) : q = pl := by
  have hl : look m (pl : Int) = some v := by rw [look_nat, h]; rfl
  rcases hq with ⟨k, rfl, h1⟩ | ⟨rfl, h1⟩
  · rcases Nat.eq_or_lt_of_le h1.1 with e | e
    · rw [e]
    · have := h1.2.2 pl (Nat.le_refl _) e
      rw [hl] at this; cases this
  · have := h1 pl (Nat.le_refl _)
    rw [hl] at this; cases this
theorem found_pl {m : List (Option Int)} {pl : Nat} {v r : Int} (h : m[pl]? = some (some v)) (hf : Found m v r) : ∃ k : Nat, r = k ∧ k ≤ pl := by
  have hl : look m (pl : Int) = some v := by rw [look_nat, h]; rfl
  rcases hf with ⟨_, h1⟩ | ⟨k, rfl, h1, h2⟩
  · exact absurd hl (h1 pl)
  · refine ⟨k, rfl, ?_⟩
    rcases Nat.lt_or_ge pl k with e | e
    · exact absurd hl (h2 pl e)
    · exact e
end Go.Proofs.Ytooikfmebjohfaa
