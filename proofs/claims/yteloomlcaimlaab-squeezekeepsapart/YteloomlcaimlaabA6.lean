import Derived.Test.YteloomlcaimlaabA5
namespace Go.Proofs.Yteloomlcaimlaab
open Go.RowKit
theorem cell_one_new (w : World) (v : Value) (t : TypeId) : ∀ j u, [v][j]? = some u → (w.alloc (.cells #[v] t)).cell? ((⟨w.heap.size, 0, none⟩ : Addr).add j) = some u := by
  intro j u h
  match j, h with
  | 0, h =>
    simp at h
    subst h
    rw [add0, World.cell?_alloc_new]; rfl
theorem cell_row_new (w : World) (cs : Array Value) (t : TypeId) : ∀ j u, cs.toList[j]? = some u → (w.alloc (.cells cs t)).cell? ((⟨w.heap.size, 0, none⟩ : Addr).add j) = some u := by
  intro j u h
  rw [add0, World.cell?_alloc_new]
  rw [Array.getElem?_toList] at h
  simpa using h
/-- nothing below B is changed, and of the rest no block but rows of bytes -/
def Kp (B : Nat) (w w' : World) : Prop := Below B w w' ∧ ∀ k, k < w.heap.size → (∀ cur f, w.heap[k]? ≠ some (.cells cur 5 f)) → w'.heap[k]? = w.heap[k]?
theorem Kp.refl (B : Nat) (w : World) : Kp B w w := ⟨Below.refl _ _, fun _ _ _ => rfl⟩
theorem Kp.trans {B : Nat} {a b c : World} (h : Kp B a b) (k : Kp B b c) : Kp B a c :=
  ⟨h.1.trans k.1, fun i hi hn => by
    have e := h.2 i hi hn
    rw [k.2 i (Nat.lt_of_lt_of_le hi h.1.size) (fun cur f => by rw [e]; exact hn cur f), e]⟩
theorem Kp.of {B : Nat} {w w' : World} (h : Below w.heap.size w w') (hB : B ≤ w.heap.size) : Kp B w w' := ⟨h.mono hB, fun k hk _ => h.block k hk⟩
theorem Kp.grown {B base : Nat} {w w' : World} {v : Value} {zs : List Nat} (hO : Ow w base v zs) (hg : w.grownBy w' v.ownBlock) (hB : B ≤ w.heap.size) (hb : B ≤ base) : Kp B w w' := by
  refine ⟨(Below.refl B w).grown hg hB (fun k hk => Nat.le_trans hb (World.ownsRow.lt hO k hk).1), fun k hk hn => hg.block k hk (fun e => ?_)⟩
  obtain ⟨hl, ⟨h0, _⟩ | ⟨g, cap, cur, hv, hbs, hgb, _⟩⟩ := hO
  · rw [h0] at e; cases e
  · rw [hv] at e
    simp [Value.ownBlock] at e
    subst e
    exact hn _ _ hgb
theorem Oi.kp {B base g n cap : Nat} {w w' : World} {zs : List Int} (h : Oi w base (.slice (some ⟨g, 0, none⟩) n cap) zs) (hk : Kp B w w') : Oi w' base (.slice (some ⟨g, 0, none⟩) n cap) zs := by
  have h' := h
  obtain ⟨hl, ⟨h0, _⟩ | ⟨g', cap', cur, hv, hbs, hg, hn, hm, hs, ht⟩⟩ := h'
  · cases h0
  · cases hv
    exact h.keep1 (hk.2 g (Array.getElem?_eq_some_iff.1 hg).1 (fun cur' f e => by rw [hg] at e; cases e))
/-- an append of bytes that lie anywhere -/
theorem app_rd {w : World} {ops : Array Oper} {rest : List Oper} {o : Oper} {a : Act} {Q : Exit → Act → World → Prop} (hgd : o.guard = none) (s x : Operand)
    (ho : o.op = .call { callee := .builtin .append, args := #[s, x], argTypes := #[22, 22] }) (base : Nat) (v : Value) (zs : List Nat) (hs : a.eval s = v) (hO : Ow w base v zs) (hbase : base ≤ w.heap.size)
    (u : Value) (B : Nat) (ys : List Nat) (hx : a.eval x = u) (hu : Rb w B u ys) (hl : zs.length + ys.length ≤ 140737488351232)
    (h : ∀ r w1, Ow w1 base r (zs ++ ys) → w.grownBy w1 v.ownBlock → Kp base w w1 → wpList Try.prog ops Q rest (a.put o.dst r) w1) : wpList Try.prog ops Q (o :: rest) a w := by
  obtain ⟨i5, hi, hz, hsz, hb⟩ := info5'
  rcases hu with ⟨rfl, rfl⟩ | ⟨ad, cap, rfl, _, hc⟩
  · have := h v w (by rw [List.append_nil]; exact hO) ⟨rfl, rfl, rfl, Nat.le_refl _, fun _ _ _ => rfl⟩ (Kp.refl _ _)
    exact wpList_append_own_none hgd s x 22 ho base 5 i5 1 Try.underlying22 hi v _ _ hs hO hx this
  · refine wpList_append_own _ hgd s x 22 ho base 5 i5 (.int .u8 0) 1 1 Try.underlying22 hi hz hsz hb rfl (by decide) v _ _ hs hO ad ys.length cap (ys.map By) hx (by simp) (fun j u hu => (hc j u hu).2) (By_one ys) (by unfold maxLen; omega) (by omega) hbase ?_
    intro r w1 hown hg _
    exact h r w1 (by unfold Ow; rw [List.length_append, List.map_append]; exact hown) hg (Kp.grown hO hg hbase (Nat.le_refl _))
theorem cut_zero (b : List Nat) (k : Nat) : cut b 0 k = b.take k := by simp [cut]
theorem Ow.len2 {w : World} {base : Nat} {v : Value} {zs : List Nat} (h : Ow w base v zs) : ∃ ao n cap, v = .slice ao n cap ∧ Hid (zs.length = n) ∧ n ≤ cap := by
  obtain ⟨ao, cap, h1, h2⟩ := h.len
  exact ⟨ao, _, cap, h1, hide rfl, h2⟩
theorem Rb.head {w : World} {B : Nat} {x : Addr} {m cap : Nat} {zs : List Nat} (h : Rb w B (.slice (some x) m cap) zs) {k c : Nat} (h2 : k ≤ zs.length) (hc : k ≤ c) : Rb w B (.slice (some x) k c) (zs.take k) := by
  have := h.sub (Nat.zero_le k) h2 k c (by omega) hc
  rw [cut_zero] at this
  simpa [Addr.add] using this
theorem Rb.tail {w : World} {B : Nat} {x : Addr} {m cap : Nat} {zs : List Nat} (h : Rb w B (.slice (some x) m cap) zs) {k d c : Nat} (h2 : k ≤ zs.length) (hd : d = zs.length - k) (hc : d ≤ c) : Rb w B (.slice (some (x.add k)) d c) (zs.drop k) := by
  have := h.sub h2 (Nat.le_refl _) d c hd hc
  rwa [← cut_all] at this
theorem Rb.cutI {w : World} {B : Nat} {x : Addr} {m cap : Nat} {zs : List Nat} (h : Rb w B (.slice (some x) m cap) zs) {lo hi d c : Nat} (h1 : lo ≤ hi) (h2 : hi ≤ zs.length) (hd : d = hi - lo) (hc : d ≤ c) (hcap : zs.length ≤ cap) : Rb w B (.slice (if cap = lo then some x else some (x.add lo)) d c) (cut zs lo hi) := by
  by_cases hk : cap = lo
  · rw [if_pos hk]
    have e : cut zs lo hi = [] := by apply List.eq_nil_of_length_eq_zero; rw [cut_len h1 h2]; omega
    rw [e]
    refine .inr ⟨x, c, ?_, by simp, fun i u hu => by simp at hu⟩
    rw [show d = 0 by omega]
    rfl
  · rw [if_neg hk]
    exact h.sub h1 h2 d c hd hc
theorem Rb.tailI {w : World} {B : Nat} {x : Addr} {m cap : Nat} {zs : List Nat} (h : Rb w B (.slice (some x) m cap) zs) {k d c : Nat} (h2 : k ≤ zs.length) (hd : d = zs.length - k) (hc : d ≤ c) (hcap : zs.length ≤ cap) : Rb w B (.slice (if cap = k then some x else some (x.add k)) d c) (zs.drop k) := by
  have := h.cutI h2 (Nat.le_refl _) hd hc hcap
  rwa [← cut_all] at this
theorem rb_one (w : World) (t : Nat) : Rb (w.alloc (.cells #[.int .u8 (t : Nat)] 5)) (w.heap.size + 1) (.slice (some ⟨w.heap.size, 0, none⟩) 1 1) [t] :=
  .inr ⟨_, _, rfl, Nat.le_refl _, fun i u hu => ⟨Nat.lt_succ_self _, cell_row_new w #[.int .u8 (t : Nat)] 5 i u hu⟩⟩
theorem rb_three (w : World) (a b c : Nat) : Rb (w.alloc (.cells #[.int .u8 (a : Nat), .int .u8 (b : Nat), .int .u8 (c : Nat)] 5)) (w.heap.size + 1) (.slice (some ⟨w.heap.size, 0, none⟩) 3 3) [a, b, c] :=
  .inr ⟨_, _, rfl, Nat.le_refl _, fun i u hu => ⟨Nat.lt_succ_self _, cell_row_new w #[.int .u8 (a : Nat), .int .u8 (b : Nat), .int .u8 (c : Nat)] 5 i u hu⟩⟩
theorem Ow.alloc {w : World} {base : Nat} {v : Value} {zs : List Nat} (h : Ow w base v zs) (o : Obj) : Ow (w.alloc o) base v zs := World.ownsRow.alloc h o
theorem al_size (w : World) (o : Obj) : (w.alloc o).heap.size = w.heap.size + 1 := by simp
theorem al_kp {w : World} {B : Nat} (h : B ≤ w.heap.size) (o : Obj) : Kp B w (w.alloc o) := Kp.of ((Below.refl _ w).alloc (Nat.le_refl _) o) h
def slen : Value → Nat
  | .slice _ n _ => n
  | _ => 0
theorem encs_step {l : List Nat} (h : l ≠ []) (n : Nat) (hn : n = min l.length 128) : encs (rns l) = (n - 1) :: (l.take n ++ encs (rns (l.drop n))) := by
  have e1 : l.take n = l.take 128 := by
    subst hn
    rcases Nat.le_total l.length 128 with h1 | h1
    · rw [Nat.min_eq_left h1, List.take_of_length_le (Nat.le_refl _), List.take_of_length_le h1]
    · rw [Nat.min_eq_right h1]
  have e2 : l.drop n = l.drop 128 := by
    subst hn
    rcases Nat.le_total l.length 128 with h1 | h1
    · rw [Nat.min_eq_left h1, List.drop_of_length_le (Nat.le_refl _), List.drop_of_length_le h1]
    · rw [Nat.min_eq_right h1]
  rw [rns_cons h, encs_cons, e1, e2]
  simp only [enc, List.length_take, List.cons_append, hn, Nat.min_comm]
section
variable (w : World)
set_option maxRecDepth 100000 in
set_option maxHeartbeats 1000000 in
theorem layRuns_any (ov pv : Value) (base : Nat) (out l : List Nat) (hO : Ow w base ov out) (hP : Rb w base pv l) (hbase : base ≤ w.heap.size) (hl : out.length + 2 * l.length ≤ 1000000000) :
    Calls Try.prog 21 #[ov, pv] w fun e w' => ∃ r, e = .returned r ∧ Ow w' base r (out ++ encs (rns l)) ∧ Kp base w w' := by
  obtain ⟨i5, hi, hz, hsz, hb⟩ := info5'
  have HO := hide hO
  have HP := hide hP
  clear hO hP
  go_enter Try.func21, Try.ntmps21
  go_upto_region 1 with fail
  go_loopw [0, 1] (fun ov pv wr => ∃ (o p : List Nat), Ow wr base ov o ∧ Rb wr base pv p ∧ o ++ encs (rns p) = out ++ encs (rns l) ∧ p.length ≤ l.length ∧ o.length + 2 * p.length ≤ 1000000000 ∧ Kp base w wr) (fun _ pv _ => slen pv)
  case atStart => exact ⟨out, l, HO.out, HP.out, rfl, Nat.le_refl _, hl, Kp.refl _ _⟩
  case round =>
    obtain ⟨o, p, hO, hP, hE, hpl, hsz2, hB⟩ := hrel
    have HE := hide hE
    have HB := hide hB
    have HO1 := hide hO
    have HP1 := hide hP
    obtain ⟨oa, oc, rfl, _⟩ := hO.len
    clear hO hE hB HO HP
    by_cases hp : p = []
    · subst hp
      obtain ⟨pa, pc, rfl, _⟩ := hP.len
      clear hP
      go_wp2
      go_ret
      refine ⟨_, rfl, ?_, HB.out⟩
      have e := HE.out
      rw [rns_nil, encs_nil, List.append_nil] at e
      rw [← e]
      exact HO1.out
    · have h0 : 0 < p.length := List.length_pos_iff.2 hp
      obtain ⟨pa, pc, rfl, hpc⟩ := hP.len
      obtain ⟨x, rfl, _, _⟩ := hP.some_of h0
      have hP2 := hP
      obtain ⟨n, hn⟩ : ∃ n, min p.length 128 = n := ⟨_, rfl⟩
      have HES := hide (encs_step hp n hn.symm)
      have hn1 : 1 ≤ n := by omega
      have hn2 : n ≤ p.length := by omega
      have HN := hide hn
      obtain ⟨m, hm⟩ : ∃ m, p.length = m := ⟨_, rfl⟩
      have HM := hide hm
      rw [hm] at HP1 hpc hpl hsz2 hn hn2 h0 hP2 ⊢
      have hmin : (if (128 : Int) < (m : Int) then (128 : Int) else (m : Int)) = (n : Int) := by split <;> omega
      have hm0 : (0 : Int) < (m : Int) := by omega
      obtain ⟨t, ht⟩ : ∃ t, n - 1 = t := ⟨_, rfl⟩
      have hw : IntKind.u8.wrap ((n : Int) - 1) = (t : Nat) := by
        rw [show ((n : Int) - 1) = (t : Nat) by omega]
        exact wb t (by omega)
      have HT := hide ht
      have hob := Nat.le_trans hbase HB.out.1.size
      clear hP hm hn ht
      go_upto_region 4 with (at_builtin; refine app_rd rfl _ _ rfl base _ o rfl (HO1.out.alloc _) (by rw [al_size]; omega) _ _ [t] rfl (rb_one _ t) (by simp; omega) ?_; intro r2 w2 ho2 hg2 hb2; obtain ⟨a2, k2, c2, rfl, HK2, _⟩ := ho2.len2)
      have HO2 := hide ho2
      have HBa := hide ((al_kp hob _).trans hb2)
      have HB2 := hide (HB.out.trans HBa.out)
      have HP2 := hide (HP1.out.keep HBa.out.1)
      have hob2 := Nat.le_trans hbase HB2.out.1.size
      clear ho2 hg2 hb2 HBa HP1 HO1 HB hP2
      have hnm : (n : Int) ≤ (m : Int) := by omega
      go_upto_region 5 with (at_builtin; refine app_rd rfl _ _ rfl base _ (o ++ [t]) rfl HO2.out hob2 _ _ (p.take n) rfl (HP2.out.head (by rw [HM.out]; exact hn2) (by omega)) (by simp; omega) ?_; intro r3 w3 ho3 hg3 hb3; obtain ⟨a3, k3, c3, rfl, HK3, _⟩ := ho3.len2)
      have HO3 := hide ho3
      have HB3 := hide (HB2.out.trans hb3)
      have HP3 := hide (HP2.out.keep hb3.1)
      clear ho3 hg3 hb3 HB2 HP2 HO2
      go_wp2
      refine ⟨⟨_, p.drop n, HO3.out, HP3.out.tailI (by rw [HM.out]; exact hn2) (by rw [HM.out]) (by omega) (by rw [HM.out]; exact hpc), ?_, ?_, ?_, HB3.out⟩, ?_⟩
      · rw [← HE.out, HES.out, HT.out]
        simp
      · have := HM.out
        simp; omega
      · have := HM.out
        have := HN.out
        simp; omega
      · simp [slen]; omega
end
end Go.Proofs.Yteloomlcaimlaab
