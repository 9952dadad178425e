import Derived.Test.YtooikfmebjohfaaT8
import Derived.Test.YtooikfmebjohfaaT7
import Derived.Laws.StructEq
import Derived.Laws.Cover2
import Derived.KernelRfl
import Derived.Deep.RegionWith
import Derived.Deep.Cut
namespace Go.Proofs.Ytooikfmebjohfaa
open Go.RowKit

theorem eq26 (a b x y : Int) (w : World) : (Op.equalIn 9999 26 (.agg #[.int .i64 a, .int .i64 b]) (.agg #[.int .i64 x, .int .i64 y])).run Try.prog w = .ok (a == x && b == y) w := by
  have u3 := Try.underlying3
  have a3 := Try.isAgg3
  have z3 := Try.sizeOf3
  rw [show (9999 : Nat) = 9998 + 1 from rfl, Op.equalIn]
  simp only [Sem.run_bind, run_underlying Try.underlying26, Result.andThen_ok]
  simp only [Std.Legacy.Range.forIn_eq_forIn_range', Std.Legacy.Range.size, Nat.sub_zero, Nat.add_sub_cancel, Nat.div_one, List.range'_succ, List.range'_zero, List.forIn_cons, List.forIn_nil]
  go_simp
  by_cases h1 : a = x <;> by_cases h2 : b = y <;> simp [h1, h2]
theorem dropC_any (w : World) (F : Nat → Prop) (B : Nat) (m : List (Option Cl)) (h : Tab KC w F B m) (i : Int) :
    Calls Try.prog 33 #[.pointer (some ⟨B, 0, none⟩), .int .i64 i] w fun e w' => ∃ v m', e = .returned v ∧ Tab KC w' F B m' ∧ Ext F w F w' ∧
      ((look m i = none ∧ m' = m ∧ v = .tuple #[Cl.zero.val, .bool false]) ∨ ∃ (k : Nat) (x : Cl), i = k ∧ m[k]? = some (some x) ∧ m' = m.set k none ∧ v = .tuple #[x.val, .bool true]) := by
  rcases look_cases m i with ⟨_, e⟩ | ⟨k, _, _, _, e⟩ | ⟨k, x, rfl, _, hm, _⟩
  · refine (dropC_none w F B m h i e).mono ?_
    rintro _ w' ⟨rfl, hT, hE⟩
    exact ⟨_, m, rfl, hT, hE, .inl ⟨e, rfl, rfl⟩⟩
  · refine (dropC_none w F B m h i e).mono ?_
    rintro _ w' ⟨rfl, hT, hE⟩
    exact ⟨_, m, rfl, hT, hE, .inl ⟨e, rfl, rfl⟩⟩
  · refine (dropC_some w F B m h k x hm).mono ?_
    rintro _ w' ⟨rfl, hT, hE⟩
    exact ⟨_, _, rfl, hT, hE, .inr ⟨k, x, rfl, hm, rfl, rfl⟩⟩

/-- the table as it stands between the steps of the law -/
def St (w wr : World) (B : Nat) (m : List (Option Cl)) : Prop := ∃ F : Nat → Prop, Tab KC wr F B m ∧ (∀ x, F x → w.heap.size ≤ x) ∧ Below w.heap.size w wr
theorem St.step {w wr w' : World} {B : Nat} {m' : List (Option Cl)} {F F' : Nat → Prop} (hl : ∀ x, F x → w.heap.size ≤ x) (hb : Below w.heap.size w wr) (hT : Tab KC w' F' B m') (hE : Ext F wr F' w') : St w w' B m' :=
  ⟨F', hT, hE.low hl hb.size, hb.trans (hE.mod.below hl hb.size)⟩
theorem St.below {w wr w' : World} {B : Nat} {m : List (Option Cl)} (h : St w wr B m) (hb : Below wr.heap.size wr w') : St w w' B m := by
  obtain ⟨F, hT, hl, hB⟩ := h
  exact ⟨F, hT.below hb, hl, hB.trans (hb.mono hB.size)⟩
theorem St.put {w wr : World} {B : Nat} {m : List (Option Cl)} (h : St w wr B m) (c : Cl) :
    Calls Try.prog 31 #[.pointer (some ⟨B, 0, none⟩), c.val] wr fun x w' => (ff m < m.length → x = .returned (.tuple #[.int .i64 (ff m : Nat), .int .i64 0]) ∧ St w w' B (m.set (ff m) (some c))) ∧
      (ff m = m.length → x = .returned (.tuple #[.int .i64 (-1), .int .i64 2]) ∧ St w w' B m) := by
  obtain ⟨F, hT, hl, hB⟩ := h
  refine (putC_any wr F B m hT c).mono ?_
  rintro x w' ⟨h1, h2⟩
  refine ⟨fun e => ?_, fun e => ?_⟩
  · obtain ⟨rfl, F', hT', hE⟩ := h1 e
    exact ⟨rfl, St.step hl hB hT' hE⟩
  · obtain ⟨rfl, hT', hE⟩ := h2 e
    exact ⟨rfl, St.step hl hB hT' hE⟩
theorem St.drop {w wr : World} {B : Nat} {m : List (Option Cl)} (h : St w wr B m) (i : Int) :
    Calls Try.prog 33 #[.pointer (some ⟨B, 0, none⟩), .int .i64 i] wr fun e w' => ∃ v m', e = .returned v ∧ St w w' B m' ∧
      ((look m i = none ∧ m' = m ∧ v = .tuple #[Cl.zero.val, .bool false]) ∨ ∃ (k : Nat) (x : Cl), i = k ∧ m[k]? = some (some x) ∧ m' = m.set k none ∧ v = .tuple #[x.val, .bool true]) := by
  obtain ⟨F, hT, hl, hB⟩ := h
  refine (dropC_any wr F B m hT i).mono ?_
  rintro _ w' ⟨v, m', rfl, hT', hE, h⟩
  exact ⟨v, m', rfl, St.step hl hB hT' hE, h⟩
theorem St.len {w wr : World} {B : Nat} {m : List (Option Cl)} (h : St w wr B m) :
    Calls Try.prog 32 #[.pointer (some ⟨B, 0, none⟩)] wr fun x w' => x = .returned (.int .i64 ((m.countP Option.isSome : Nat) : Int)) ∧ w' = wr := by
  obtain ⟨F, hT, hl, hB⟩ := h
  exact lenC_any wr F B m hT
theorem St.next {w wr : World} {B : Nat} {m : List (Option Cl)} (h : St w wr B m) (i : Int) :
    Calls Try.prog 34 #[.pointer (some ⟨B, 0, none⟩), .int .i64 i] wr fun x w' => w' = wr ∧ ((∃ k : Nat, x = .returned (.int .i64 k) ∧ IsNext m i.toNat k) ∨ (x = .returned (.int .i64 (-1)) ∧ NoNext m i.toNat)) := by
  obtain ⟨F, hT, hl, hB⟩ := h
  exact nextC_any wr F B m hT i
theorem St.cap {w wr : World} {B : Nat} {m : List (Option Cl)} (h : St w wr B m) : m.length ≤ 4096 := by obtain ⟨F, hT, hl, hB⟩ := h; exact hT.cap
theorem St.bel {w wr : World} {B : Nat} {m : List (Option Cl)} (h : St w wr B m) : Below w.heap.size w wr := by obtain ⟨F, hT, hl, hB⟩ := h; exact hB

theorem St.bound {w wr : World} {B : Nat} {m : List (Option Cl)} (h : St w wr B m) :
    Calls Try.prog 45 #[.pointer (some ⟨B, 0, none⟩)] wr fun x w' => x = .returned (.int .i64 (m.length : Nat)) ∧ w' = wr := by
  obtain ⟨F, hT, hl, hB⟩ := h
  exact boundC_any wr F B m hT
theorem St.get {w wr : World} {B : Nat} {m : List (Option Cl)} (h : St w wr B m) (i : Int) :
    Calls Try.prog 59 #[.pointer (some ⟨B, 0, none⟩), .int .i64 i] wr fun x w' => x = .returned (.tuple #[((look m i).getD Cl.zero).val, .bool (look m i).isSome]) ∧ Below wr.heap.size wr w' := by
  obtain ⟨F, hT, hl, hB⟩ := h
  exact getC_any wr F B m hT i
theorem St.putAt {w wr : World} {B : Nat} {m : List (Option Cl)} (h : St w wr B m) (i : Int) (c : Cl) :
    Calls Try.prog 64 #[.pointer (some ⟨B, 0, none⟩), .int .i64 i, c.val] wr fun x w' => ∃ (v : Int) (m' : List (Option Cl)), x = .returned (.int .i64 v) ∧ St w w' B m' ∧
      (((i < 0 ∨ (m.length : Int) ≤ i) ∧ v = 30 ∧ m' = m) ∨ (∃ (k : Nat) (x : Cl), i = k ∧ m[k]? = some (some x) ∧ v = 31 ∧ m' = m) ∨ ∃ k : Nat, i = k ∧ m[k]? = some none ∧ v = 0 ∧ m' = m.set k (some c)) := by
  obtain ⟨F, hT, hl, hB⟩ := h
  refine (putAtC_any wr F B m hT i c).mono ?_
  rintro x w' ⟨v, m', F', rfl, hT', hE, h⟩
  exact ⟨v, m', rfl, St.step hl hB hT' hE, h⟩
theorem St.clear {w wr : World} {B : Nat} {m : List (Option Cl)} (h : St w wr B m) :
    Calls Try.prog 49 #[.pointer (some ⟨B, 0, none⟩)] wr fun x w' => x = .returned (.tuple #[]) ∧ St w w' B (List.replicate m.length none) := by
  obtain ⟨F, hT, hl, hB⟩ := h
  refine (clearC_any wr F B m hT).mono ?_
  rintro x w' ⟨rfl, hT', hE⟩
  exact ⟨rfl, St.step hl hB hT' hE⟩
end Go.Proofs.Ytooikfmebjohfaa
