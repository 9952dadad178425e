import Derived.Test.YteloomlcaimlaabR2
import Derived.OneCell
import Derived.ArgAppend
import Derived.Deep.DeepAppendRoom
namespace Go.Proofs.Yteloomlcaimlaab
open Go.RowKit
/-- two rows lie in blocks of their own -/
def Dj (v u : Value) : Prop := ∀ k, v.ownBlock = some k → u.ownBlock = some k → False
theorem Ow.kept {w w' : World} {base : Nat} {v u : Value} {zs : List Nat} (h : Ow w base v zs) (hg : w.grownBy w' u.ownBlock) (hd : Dj v u) : Ow w' base v zs := by
  refine World.ownsRow.kept h hg ?_
  cases hv : v.ownBlock with
  | none => exact .inl rfl
  | some k => exact .inr (fun e => hd k hv e.symm)
/-- an append, with what is known of the row's block -/
theorem app_two {w : World} {ops : Array Oper} {rest : List Oper} {o : Oper} {a : Act} {Q : Exit → Act → World → Prop} (hgd : o.guard = none) (s x : Operand)
    (ho : o.op = .call { callee := .builtin .append, args := #[s, x], argTypes := #[22, 22] }) (base : Nat) (v : Value) (zs : List Nat) (hs : a.eval s = v) (hO : Ow w base v zs) (hbase : base ≤ w.heap.size)
    (u : Value) (B : Nat) (ys : List Nat) (hx : a.eval x = u) (hu : Rb w B u ys) (hl : zs.length + ys.length ≤ 140737488351232)
    (h : ∀ r w1, Ow w1 base r (zs ++ ys) → w.grownBy w1 v.ownBlock → Kp base w w1 → (∀ k, r.ownBlock = some k → v.ownBlock = some k ∨ w.heap.size ≤ k) → wpList Try.prog ops Q rest (a.put o.dst r) w1) : wpList Try.prog ops Q (o :: rest) a w := by
  obtain ⟨i5, hi, hz, hsz, hb⟩ := info5'
  rcases hu with ⟨rfl, rfl⟩ | ⟨ad, cap, rfl, _, hc⟩
  · have := h v w (by rw [List.append_nil]; exact hO) ⟨rfl, rfl, rfl, Nat.le_refl _, fun _ _ _ => rfl⟩ (Kp.refl _ _) (fun k hk => .inl hk)
    exact wpList_append_own_none hgd s x 22 ho base 5 i5 1 Try.underlying22 hi v _ _ hs hO hx this
  · rcases hO.2 with ⟨h0, h00⟩ | ⟨g, cp, cur, h0, hbg, h3, hcn, _, _, h7⟩
    · have hO' := hO
      rw [h0] at hO' hs
      have e0 := List.eq_nil_of_length_eq_zero h00
      subst e0
      have hN : Ow w w.heap.size (.slice none 0 0) [] := ow_none _ _
      refine wpList_append_own _ hgd s x 22 ho w.heap.size 5 i5 (.int .u8 0) 1 1 Try.underlying22 hi hz hsz hb rfl (by decide) _ _ _ hs hN ad ys.length cap (ys.map By) hx (by simp) (fun j u hu => (hc j u hu).2) (By_one ys) (by unfold maxLen; omega) (by omega) (Nat.le_refl _) ?_
      intro r w1 hown hg _
      have hOr : Ow w1 w.heap.size r ([] ++ ys) := by unfold Ow; rw [List.length_append, List.map_append]; exact hown
      refine h r w1 (hOr.mono hbase) (by rw [h0]; exact hg) ?_ (fun k hk => .inr (World.ownsRow.lt hOr k hk).1)
      exact Kp.grown hO' hg hbase (Nat.le_refl _)
    · have hO' := hO
      rw [h0] at hO' hs
      by_cases hr : zs.length + ys.length ≤ cp
      · refine wpList_append_own_spare _ hgd s x 22 ho base 5 i5 1 Try.underlying22 hi hsz g zs.length cp (zs.map By) hs hO' ad ys.length cap (ys.map By) hx (by simp) (fun j u hu => (hc j u hu).2) (By_one ys) hr fun w' g2 g3 => ?_
        refine h _ w' (by unfold Ow; rw [List.length_append, List.map_append]; exact g2) (by rw [h0]; exact g3) (Kp.grown hO' g3 hbase (Nat.le_refl _)) (fun k hk => .inl ?_)
        rw [h0]
        exact hk
      · refine wpList_append_grows w hgd s x 22 ho 5 i5 (.int .u8 0) 1 1 Try.underlying22 hi hz hsz hb rfl (by decide) (some ⟨g, 0, none⟩) zs.length cp (zs.map By) hs (fun e => by cases e) (by simp) (fun b hb' => by cases hb'; exact hO'.cells rfl) ad ys.length cap (ys.map By) hx (by simp) (fun j u hu => (hc j u hu).2) (By_one ys) (by omega) (by unfold maxLen; omega) (by omega) fun r w1 r1 r2 => ?_
        have hOr : Ow w1 w.heap.size r (zs ++ ys) := by unfold Ow; rw [List.length_append, List.map_append]; exact r1
        have hg2 : w.grownBy w1 v.ownBlock := ⟨r2.os, r2.tape, r2.output, r2.size, fun k hk _ => r2.block k hk (by simp)⟩
        exact h r w1 (hOr.mono hbase) hg2 (Kp.grown hO hg2 hbase (Nat.le_refl _)) (fun k hk => .inr (World.ownsRow.lt hOr k hk).1)
section
variable (w : World)
set_option maxRecDepth 100000 in
set_option maxHeartbeats 1000000 in
theorem plain_any (ov rv : Value) (base : Nat) (out r : List Nat) (hO : Ow w base ov out) (hR : Ow w base rv r) (hD : Dj rv ov) (hbase : base ≤ w.heap.size) (hl : out.length ≤ 1000000) (hr : r.length ≤ 128) :
    Calls Try.prog 33 #[ov, rv] w fun e w' => ∃ v, e = .returned v ∧ Ow w' base v (out ++ encs (rns r)) ∧ Kp base w w' := by
  have HO := hide hO
  have HR := hide hR
  have HD := hide hD
  obtain ⟨oa, ok, oc, rfl, HK, _⟩ := hO.len2
  obtain ⟨ra, rk, rc, rfl, HKr, _⟩ := hR.len2
  clear hO hR hD
  by_cases h0 : rk = 0
  · subst h0
    obtain rfl := List.eq_nil_of_length_eq_zero HKr.out
    go_enter Try.func33, Try.ntmps33
    go_wp2
    go_ret
    refine ⟨_, rfl, ?_, Kp.refl _ _⟩
    rw [rns_nil, encs_nil, List.append_nil]
    exact HO.out
  · have h0I : ((rk : Int) == 0) = false := by simp; omega
    have hrl := HKr.out
    have hne : r ≠ [] := by intro e; rw [e] at hrl; simp at hrl; omega
    have HE : Hid (encs (rns r) = (rk - 1) :: r) := hide (by rw [rns_one hne hr, encs_cons, encs_nil, List.append_nil, ← hrl]; rfl)
    obtain ⟨t, ht⟩ : ∃ t, rk - 1 = t := ⟨_, rfl⟩
    have hw : IntKind.u8.wrap ((rk : Int) - 1) = (t : Nat) := by rw [show ((rk : Int) - 1) = (t : Nat) by omega]; exact wb t (by omega)
    rw [ht] at HE
    have hrk : rk ≤ 128 := by omega
    clear ht hrl
    go_enter Try.func33, Try.ntmps33
    go_upto_region 4 with (at_builtin; refine app_rd rfl _ _ rfl base _ out rfl (HO.out.alloc _) (by rw [al_size]; omega) _ _ [t] rfl (rb_one _ t) (by simp; omega) ?_; intro r2 w2 ho2 hg2 hk2; obtain ⟨a2, k2, c2, rfl, HK2, _⟩ := ho2.len2)
    have HO2 := hide ho2
    have HR2 := hide ((HR.out.alloc _).kept hg2 HD.out)
    have HKp2 := hide ((al_kp hbase _).trans hk2)
    have hb2 := Nat.le_trans hbase HKp2.out.1.size
    have hk2l : k2 ≤ 1000001 := by rw [← HK2.out]; simp; omega
    clear ho2 hg2 hk2 HO HR
    go_wp2_with (at_builtin; refine app_rd rfl _ _ rfl base _ _ rfl HO2.out hb2 _ _ r rfl HR2.out.rb (by rw [HK2.out]; omega) ?_; intro r3 w3 ho3 hg3 hk3; obtain ⟨a3, k3, c3, rfl, HK3, _⟩ := ho3.len2)
    have HO3 := hide ho3
    have HKp3 := hide (HKp2.out.trans hk3)
    clear ho3 hg3 hk3
    go_wp2
    go_ret
    refine ⟨_, rfl, ?_, HKp3.out⟩
    rw [HE.out]
    have := HO3.out
    rwa [List.append_assoc] at this
end
end Go.Proofs.Yteloomlcaimlaab
