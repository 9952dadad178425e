import Derived.Test.YtoddadohmnaolaaFK
namespace Go.Proofs.Ytoddadohmnaolaa
open Go.RowKit Go.Shelf

section
variable {w : World} {F : Nat → Prop} {T B : Nat} {rs : List (Option Er)} {last : Int}
/-- a step of the law -/
theorem noted_any (h : Ns w F T B rs last) (kd t e n m : Int) (q : Qt) (g : Nat → Nat) (pc : Nat) (on : Bool) : Calls Try.prog 16 #[.pointer (some ⟨B, 0, none⟩), .pointer (some ⟨T, 0, none⟩), .agg #[.int .i64 kd, .int .i64 t, .int .i64 e, .int .i64 n, .int .i64 m, .int .i64 q.f, .int .i64 q.e, .int .i64 q.x, .int .u32 (g 0 : Nat), .int .u32 (g 1 : Nat), .int .u32 (g 2 : Nat), .int .u32 (g 3 : Nat), .int .u32 (g 4 : Nat), .int .u32 (g 5 : Nat), .int .u32 (g 6 : Nat), .int .u32 (g 7 : Nat), .int .u32 (pc : Nat), .bool on]] w fun x w' => x = .returned (.bool true) ∧ Np w F T B w' := by
  by_cases k2 : kd = 2
  · subst k2
    exact noted_create h t e n m q g pc on
  by_cases k3 : kd = 3
  · subst k3
    exact noted_destroy h t e n m q g pc on
  by_cases k5 : kd = 5
  · subst k5
    exact noted_regs h t e n m q g pc on
  by_cases k6 : kd = 6
  · subst k6
    exact noted_state h t e n m q g pc on
  by_cases k7 : kd = 7
  · subst k7
    exact noted_bits h t e n m q g pc on
  by_cases k8 : kd = 8
  · subst k8
    exact noted_notify h t e n m q g pc on
  by_cases k9 : kd = 9
  · subst k9
    exact noted_wait h t e n m q g pc on
  by_cases k10 : kd = 10
  · subst k10
    exact noted_freeze h t e n m q g pc on
  by_cases k11 : kd = 11
  · subst k11
    exact noted_pay h t e n m q g pc on
  by_cases k12 : kd = 12
  · subst k12
    exact noted_refund h t e n m q g pc on
  exact noted_none h kd k2 k3 k5 k6 k7 k8 k9 k10 k11 k12 t e n m q g pc on
end
end Go.Proofs.Ytoddadohmnaolaa
