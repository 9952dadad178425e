import Derived.Test.YtfjgmhghjbikfaaT8
import Derived.Test.YtfjgmhghjbikfaaT7
import Derived.Laws.StructEq
import Derived.Laws.Cover2
import Derived.KernelRfl
import Derived.Deep.RegionWith
import Derived.Deep.Cut
namespace Go.Proofs.Ytfjgmhghjbikfaa
open Go.RowKit

theorem eq26 (a b x y : Int) (w : World) : (Op.equalIn 9999 37 (.agg #[.int .i64 a, .int .i64 b]) (.agg #[.int .i64 x, .int .i64 y])).run Try.prog w = .ok (a == x && b == y) w := by
  have u3 := Try.underlying3
  have a3 := Try.isAgg3
  have z3 := Try.sizeOf3
  rw [show (9999 : Nat) = 9998 + 1 from rfl, Op.equalIn]
  simp only [Sem.run_bind, run_underlying Try.underlying37, Result.andThen_ok]
  simp only [Std.Legacy.Range.forIn_eq_forIn_range', Std.Legacy.Range.size, Nat.sub_zero, Nat.add_sub_cancel, Nat.div_one, List.range'_succ, List.range'_zero, List.forIn_cons, List.forIn_nil]
  go_simp
  by_cases h1 : a = x <;> by_cases h2 : b = y <;> simp [h1, h2]
theorem dropC_any (w : World) (F : Nat → Prop) (B : Nat) (m : List (Option Cl)) (h : Tab KC w F B m) (i : Int) :
    Calls Try.prog 36 #[.pointer (some ⟨B, 0, none⟩), .int .i64 i] w fun e w' => ∃ v m', e = .returned v ∧ Tab KC w' F B m' ∧ Ext F w F w' ∧
      ((look m i = none ∧ m' = m ∧ v = .tuple #[Cl.zero.val, .bool false]) ∨ ∃ (k : Nat) (x : Cl), i = k ∧ m[k]? = some (some x) ∧ m' = m.set k none ∧ v = .tuple #[x.val, .bool true]) := by
  rcases look_cases m i with ⟨_, e⟩ | ⟨k, _, _, _, e⟩ | ⟨k, x, rfl, _, hm, _⟩
  · refine (dropC_none w F B m h i e).mono ?_
    rintro _ w' ⟨rfl, hT, hE⟩
    exact ⟨_, m, rfl, hT, hE, .inl ⟨e, rfl, rfl⟩⟩
  · refine (dropC_none w F B m h i e).mono ?_
    rintro _ w' ⟨rfl, hT, hE⟩
    exact ⟨_, m, rfl, hT, hE, .inl ⟨e, rfl, rfl⟩⟩
  · refine (dropC_some w F B m h k x hm).mono ?_
    rintro _ w' ⟨rfl, hT, hE⟩
    exact ⟨_, _, rfl, hT, hE, .inr ⟨k, x, rfl, hm, rfl, rfl⟩⟩

end Go.Proofs.Ytfjgmhghjbikfaa
