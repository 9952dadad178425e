import Derived.Test.YtogpgchfaalikaaSL
namespace Go.Proofs.Ytogpgchfaalikaa
open Go.RowKit

/-- a step that came in -/
structure Opr where
  kd : Int
  two : Bool
  n : Int
  sec : Int
  se : Int
  b : Nat
  ln : Int
  kv : Value
  ks : List Bool
def opr0 : Opr := ⟨0, false, 0, 0, 0, 0, 0, .slice none 0 0, []⟩
def Opr.cs (o : Opr) : List Value := [.int .i64 o.kd, .bool o.two, .int .i64 o.n, .int .i64 o.sec, .int .i64 o.se, .int .u8 (o.b : Int), .int .i64 o.ln, o.kv]
structure Opr.Ok (w : World) (o : Opr) : Prop where
  b8 : o.b < 256
  rb : RdB w o.kv o.ks
  kl : o.ks.length ≤ 1048576
  n1 : o.n < 9223372036854775808
structure OpAt (w : World) (x : Addr) (k : Nat) (o : Opr) : Prop where
  cs : ∀ j v, o.cs[j]? = some v → w.cell? (x.add (k * 8 + j)) = some v
  ok : o.Ok w
def IsOps (w : World) (a : Option Addr) (len : Nat) (Z : Nat → Opr) : Prop := ∀ k, k < len → ∃ x, a = some x ∧ OpAt w x k (Z k)
section
variable {w w0 : World} {T K B R N M i T2 K2 N2 : Nat} {C C2 : Nat → Cl} {D : Dsk} {Q : Asn}
set_option maxRecDepth 100000 in
theorem played_all (h : Sys w0 w (Qd T K B R C D N M Q)) (hQ : Good Q) (bd : Bd i C D N M) (hi : i ≤ 1900000) (o : Opr) (ho : o.Ok w0) : Calls Try.prog 32 #[tp T, dp B, tp K, .agg o.cs.toArray] w fun e w' => e = .returned (.bool true) ∧ ∃ C' D' N' M', Sys w0 w' (Qd T K B R C' D' N' M' Q) ∧ Bd (i + 1) C' D' N' M' := by
  obtain ⟨kd, two, n, sec, se, b, ln, kv, ks⟩ := o
  obtain ⟨b8, rb, kl, n1⟩ := ho
  simp only at b8 rb kl n1
  have hN := bd.n
  have hH : ∀ n, (C n).ho < 9223372036854775807 := fun n => by have := bd.h n; omega
  have hS := Sys.below h (good_qd hQ) ((Below.refl w.heap.size w).alloc (Nat.le_refl _) (.cells #[.int .i64 kd, .bool two, .int .i64 n, .int .i64 sec, .int .i64 se, .int .u8 (b : Int), .int .i64 ln, kv] 73))
  by_cases k1 : kd = 1
  · subst k1
    obtain ⟨L, hL⟩ := low_any C
    obtain ⟨F, hp, hk⟩ := hS.callP hQ
    refine played_claims w T B K 1 (by omega) n sec se ln two b kv _ ((claims_claim hp (by omega) L hL n sec se ln two b kv).mono ?_)
    rintro e w' ⟨rfl, F', h1, h2⟩
    exact ⟨rfl, _, _, _, _, hk w' F' _ _ h1 h2, bd.claim n se⟩
  by_cases k2 : kd = 2
  · subst k2
    obtain ⟨F, hp, hk⟩ := hS.callP hQ
    refine played_claims w T B K 2 (by omega) n sec se ln two b kv _ ((claims_hold hp (by omega) hH n sec se ln two b kv).mono ?_)
    rintro e w' ⟨rfl, F', h1, h2⟩
    exact ⟨rfl, _, _, _, _, hk w' F' _ _ h1 h2, bd.hold n⟩
  by_cases k3 : kd = 3
  · subst k3
    obtain ⟨F, hp, hk⟩ := hS.callP hQ
    refine played_claims w T B K 3 (by omega) n sec se ln two b kv _ ((claims_drop hp (by omega) hH n sec se ln two b kv).mono ?_)
    rintro e w' ⟨rfl, F', h1, h2⟩
    exact ⟨rfl, _, _, _, _, hk w' F' _ _ h1 h2, bd.drop n⟩
  by_cases k4 : kd = 4
  · subst k4
    obtain ⟨F, hp, hk⟩ := hS.callP hQ
    refine played_claims w T B K 4 (by omega) n sec se ln two b kv _ ((claims_serial hp (by omega) n sec se ln two b kv).mono ?_)
    rintro e w' ⟨rfl, F', h1, h2⟩
    exact ⟨rfl, _, _, _, _, hk w' F' _ _ h1 h2, bd.up⟩
  by_cases k8 : kd = 8
  · subst k8
    obtain ⟨F, hp, hk⟩ := hS.callP hQ
    refine played_claims w T B K 8 (by omega) n sec se ln two b kv _ ((claims_list hp (by omega) 8 (by omega) (by omega) (by omega) (by omega) n sec se ln two b kv).mono ?_)
    rintro e w' ⟨rfl, h1, h2⟩
    exact ⟨rfl, _, _, _, _, hS.below (good_qd hQ) h2, bd.up⟩
  by_cases k5 : kd = 5
  · subst k5
    refine (played_read h hQ bd (by omega) n sec se ln two b kv).mono ?_
    rintro e w' ⟨rfl, h1⟩
    exact ⟨rfl, _, _, _, _, h1, bd.up⟩
  by_cases k6 : kd = 6
  · subst k6
    refine (played_write h hQ bd (by omega) n sec se ln two b kv b8).mono ?_
    rintro e w' ⟨rfl, h1⟩
    exact ⟨rfl, _, _, _, _, h1, bd.write _ _ _⟩
  by_cases k7 : kd = 7
  · subst k7
    refine (played_flush h hQ bd (by omega) n sec se ln two b kv).mono ?_
    rintro e w' ⟨rfl, h1⟩
    exact ⟨rfl, _, _, _, _, h1, bd.flush⟩
  by_cases k9 : kd = 9
  · subst k9
    refine (played_arm h hQ n sec se ln two b kv n1).mono ?_
    rintro e w' ⟨rfl, h1⟩
    exact ⟨rfl, _, _, _, _, h1, bd.arm _⟩
  by_cases k10 : kd = 10
  · subst k10
    refine (played_crash h hQ bd (by omega) n sec se ln two b kv ks rb kl).mono ?_
    rintro e w' ⟨rfl, h1⟩
    exact ⟨rfl, _, _, _, _, h1, bd.crash _⟩
  by_cases k11 : kd = 11
  · subst k11
    refine (played_raw h hQ bd (by omega) n sec se ln two b kv).mono ?_
    rintro e w' ⟨rfl, h1⟩
    exact ⟨rfl, _, _, _, _, h1, bd.up⟩
  by_cases k13 : kd = 13
  · subst k13
    refine (played_acts h hQ n sec se ln two b kv).mono ?_
    rintro e w' ⟨rfl, h1⟩
    exact ⟨rfl, _, _, _, _, h1, bd.up⟩
  refine (played_none h hQ kd k1 k2 k3 k4 k5 k6 k7 k8 k9 k10 k11 k13 n sec se ln two b kv).mono ?_
  rintro e w' ⟨rfl, h1⟩
  exact ⟨rfl, _, _, _, _, h1, bd.up⟩
theorem played_list (h : Sys w0 w (Qd T K B R C D N M Q)) (hQ : Good Q) (hN : N ≤ 2000000) (n sec se ln : Int) (two : Bool) (b : Nat) (kv : Value) : Calls Try.prog 32 #[tp T, dp B, tp K, .agg #[.int .i64 8, .bool two, .int .i64 n, .int .i64 sec, .int .i64 se, .int .u8 (b : Int), .int .i64 ln, kv]] w fun e w' => e = .returned (.bool true) ∧ Sys w0 w' (Qd T K B R C D N M Q) := by
  have hS := Sys.below h (good_qd hQ) ((Below.refl w.heap.size w).alloc (Nat.le_refl _) (.cells #[.int .i64 8, .bool two, .int .i64 n, .int .i64 sec, .int .i64 se, .int .u8 (b : Int), .int .i64 ln, kv] 73))
  obtain ⟨F, hp, hk⟩ := hS.callP hQ
  refine played_claims w T B K 8 (by omega) n sec se ln two b kv _ ((claims_list hp hN 8 (by omega) (by omega) (by omega) (by omega) n sec se ln two b kv).mono ?_)
  rintro e w' ⟨rfl, h1, h2⟩
  exact ⟨rfl, hS.below (good_qd hQ) h2⟩
theorem star_in3 {X A1 A2 : Asn} {W : World} {H : Nat → Prop} (h : star X (star A1 (star A2 Q)) W H) : star A1 (star A2 (star X Q)) W H := star_mono (fun _ _ h => star_swap h) (star_swap h)
/-- the other pair first -/
theorem star_flip {W : World} {H : Nat → Prop} (h : Qd T K B R C D N M (star (PrA T2 B K2 R C2 N2) Q) W H) : Qd T2 K2 B R C2 D N2 M (star (PrA T B K R C N) Q) W H := star_mono (fun _ _ h => star_in3 h) (star_out h)
theorem Sys.flip (h : Sys w0 w (Qd T K B R C D N M (star (PrA T2 B K2 R C2 N2) Q))) : Sys w0 w (Qd T2 K2 B R C2 D N2 M (star (PrA T B K R C N) Q)) := h.mono (fun _ _ => star_flip)
theorem newE_nil : Calls Try.prog 9 #[.pointer none] w fun e w' => e = .returned (.pointer none) ∧ w' = w := by
  go_enter Try.func9, Try.ntmps9
  go_wp2
  go_ret
  exact ⟨rfl, rfl⟩
theorem star_pr {W : World} {H : Nat → Prop} (h : star (TbA T B C) (star (TkA K R C N) Q) W H) : star (PrA T B K R C N) Q W H := by
  obtain ⟨H1, H23, ⟨ht, he⟩, ⟨H2, H3, hk, hq, e23, d23⟩, e, d⟩ := h
  refine ⟨fun b => H1 b ∨ H2 b, H3, ⟨H2, ⟨ht, hk, fun hT => d T ((he T).2 rfl) ((e23 T).2 (.inl hT))⟩, fun b => by show H1 b ∨ H2 b ↔ b = T ∨ H2 b; rw [he b]⟩, hq, fun b => ?_, fun b => ?_⟩
  · rw [e b, e23 b, or_assoc]
  · rintro (hb | hb) h3
    · exact d b hb ((e23 b).2 (.inr h3))
    · exact d23 b hb h3
end
end Go.Proofs.Ytogpgchfaalikaa
