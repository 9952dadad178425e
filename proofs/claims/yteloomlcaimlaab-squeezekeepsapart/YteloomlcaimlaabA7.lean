import Derived.Test.YteloomlcaimlaabA6
namespace Go.Proofs.Yteloomlcaimlaab
open Go.RowKit
section
variable (w : World)
set_option maxRecDepth 100000 in
set_option maxHeartbeats 1000000 in
theorem layCopy_any (ov : Value) (base n d : Nat) (out : List Nat) (hO : Ow w base ov out) (hbase : base ≤ w.heap.size) (hl : out.length ≤ 1000000000) (hn : 4 ≤ n) (hn2 : n ≤ 131) (hd : 1 ≤ d) (hd2 : d ≤ 65536) :
    Calls Try.prog 22 #[ov, .int .i64 (n : Nat), .int .i64 (d : Nat)] w fun e w' => ∃ r, e = .returned r ∧ Ow w' base r (out ++ enc (.inr (n, d))) ∧ Kp base w w' := by
  have HO := hide hO
  obtain ⟨oa, ok, oc, rfl, HK, _⟩ := hO.len2
  obtain ⟨m, hm⟩ : ∃ m, d - 1 = m := ⟨_, rfl⟩
  obtain ⟨t0, h0⟩ : ∃ t, 124 + n = t := ⟨_, rfl⟩
  obtain ⟨t1, h1⟩ : ∃ t, m % 256 = t := ⟨_, rfl⟩
  obtain ⟨t2, h2⟩ : ∃ t, m / 256 % 256 = t := ⟨_, rfl⟩
  have HE : Hid (enc (.inr (n, d)) = [t0, t1, t2]) := hide (by subst h0 h1 h2 hm; rfl)
  have e0 : IntKind.i64.wrap ((d : Int) - 1) = (m : Nat) := by rw [wi _ (by omega) (by omega)]; omega
  have w0 : IntKind.u8.wrap (128 + (n : Int) - 4) = (t0 : Nat) := by rw [show (128 + (n : Int) - 4) = (t0 : Nat) by omega]; exact wb t0 (by omega)
  have w1 : IntKind.u8.wrap (m : Int) = (t1 : Nat) := by simp [IntKind.wrap, IntKind.signed, IntKind.bits]; omega
  have e2 : (m : Int) / 256 = (t2 : Nat) := by omega
  have w2 : IntKind.u8.wrap (t2 : Int) = (t2 : Nat) := wb t2 (by omega)
  clear hO h0 h1 h2 hm
  go_enter Try.func22, Try.ntmps22
  go_wp2_with (at_builtin; refine app_rd rfl _ _ rfl base _ out rfl (HO.out.alloc _) (by rw [al_size]; omega) _ _ [t0, t1, t2] rfl (rb_three _ t0 t1 t2) (by have := HK.out; simp; omega) ?_; intro r2 w2 ho2 hg2 hb2; obtain ⟨a2, k2, c2, rfl, HK2, _⟩ := ho2.len2)
  have HO2 := hide ho2
  have HB2 := hide ((al_kp hbase _).trans hb2)
  clear ho2 hg2 hb2
  go_wp2
  go_ret
  rw [HE.out]
  exact ⟨_, rfl, HO2.out, HB2.out⟩
end
end Go.Proofs.Yteloomlcaimlaab
