import Derived.Test.YteloomlcaimlaabR4
namespace Go.Proofs.Yteloomlcaimlaab
open Go.RowKit
/-- v reads zs, in a block from L on -/
def Rh (w : World) (L : Nat) (v : Value) (zs : List Nat) : Prop :=
  (v = .slice none 0 0 ∧ zs = []) ∨ ∃ g cap, v = .slice (some ⟨g, 0, none⟩) zs.length cap ∧ zs.length ≤ cap ∧ L ≤ g ∧ g < w.heap.size ∧ ∀ i u, (zs.map By)[i]? = some u → w.cell? ⟨g, i, none⟩ = some u
theorem Rh.rb {w : World} {L : Nat} {v : Value} {zs : List Nat} (h : Rh w L v zs) : Rb w w.heap.size v zs := by
  rcases h with h | ⟨g, cap, h1, h2, _, h4, h5⟩
  · exact .inl h
  · exact .inr ⟨_, cap, h1, h2, fun i u hu => ⟨h4, by rw [add0]; exact h5 i u hu⟩⟩
theorem Rh.kept {w w' : World} {L g : Nat} {v : Value} {zs : List Nat} (h : Rh w L v zs) (hg : w.grownBy w' (some g)) (hL : g < L) : Rh w' L v zs := by
  rcases h with h | ⟨k, cap, h1, h2, h3, h4, h5⟩
  · exact .inl h
  · refine .inr ⟨k, cap, h1, h2, h3, Nat.lt_of_lt_of_le h4 hg.size, fun i u hu => ?_⟩
    rw [World.cell?_of_block (w := w) (a := ⟨k, i, none⟩) (hg.block k h4 (fun e => by cases e; omega))]
    exact h5 i u hu
theorem Rh.keep {w w' : World} {L : Nat} {v : Value} {zs : List Nat} (h : Rh w L v zs) (hb : Below w.heap.size w w') : Rh w' L v zs := by
  rcases h with h | ⟨k, cap, h1, h2, h3, h4, h5⟩
  · exact .inl h
  · refine .inr ⟨k, cap, h1, h2, h3, Nat.lt_of_lt_of_le h4 hb.size, fun i u hu => ?_⟩
    rw [hb.cell (p := ⟨k, i, none⟩) h4]
    exact h5 i u hu
theorem Ow.rh {w : World} {base : Nat} {v : Value} {zs : List Nat} (h : Ow w base v zs) : Rh w base v zs := by
  have h' := h
  obtain ⟨hl, ⟨rfl, h0⟩ | ⟨g, cap, cur, rfl, hb, hg, hn, hm, hs, ht⟩⟩ := h
  · exact .inl ⟨rfl, List.eq_nil_of_length_eq_zero h0⟩
  · exact .inr ⟨g, cap, rfl, hn, hb, (World.ownsRow.lt h' g rfl).2, fun i u hu => by have := World.ownsRow.cells h' rfl i u hu; rwa [add0] at this⟩
theorem Ow.but {w w' : World} {base L g : Nat} {v : Value} {zs : List Nat} (h : Ow w base v zs) (hg : w.grownBy w' (some g)) (hb : L ≤ base) (hL : g < L) : Ow w' base v zs := by
  refine World.ownsRow.kept h hg ?_
  cases hv : v.ownBlock with
  | none => exact .inl rfl
  | some k =>
    have := (World.ownsRow.lt h k hv).1
    exact .inr (fun e => by cases e; omega)
theorem Ow.but2 {w w' : World} {base g g' n cap : Nat} {zs : List Nat} (h : Ow w base (.slice (some ⟨g', 0, none⟩) n cap) zs) (hg : w.grownBy w' (some g)) (hne : g' ≠ g) : Ow w' base (.slice (some ⟨g', 0, none⟩) n cap) zs :=
  World.ownsRow.kept h hg (.inr (fun e => by simp [Value.ownBlock] at e; exact hne e))
theorem gb_refl (w : World) (r : Option Nat) : w.grownBy w r := ⟨rfl, rfl, rfl, Nat.le_refl _, fun _ _ _ => rfl⟩
theorem gb_trans {a b c : World} {r : Option Nat} (h : a.grownBy b r) (k : b.grownBy c r) : a.grownBy c r :=
  ⟨k.os.trans h.os, k.tape.trans h.tape, k.output.trans h.output, Nat.le_trans h.size k.size, fun i hi hn => (k.block i (Nat.lt_of_lt_of_le hi h.size) hn).trans (h.block i hi hn)⟩
theorem gb_below {w w' : World} (h : Below w.heap.size w w') (r : Option Nat) : w.grownBy w' r := ⟨h.os, h.tape, h.output, h.size, fun k hk _ => h.block k hk⟩
theorem gb_set (w : World) (g j : Nat) (v : Value) : w.grownBy (w.setCell ⟨g, j, none⟩ v) (some g) := by
  have := (Below.refl 0 w).setCell (p := ⟨g, j, none⟩) (Nat.zero_le _) v
  exact ⟨this.os, this.tape, this.output, this.size, fun k hk hn => Below.heap_setCell w ⟨g, j, none⟩ v k (fun e => hn (by rw [e]))⟩
theorem below_gb {w w' : World} {B g : Nat} (h : w.grownBy w' (some g)) (hB : B ≤ g) (hs : B ≤ w.heap.size) : Below B w w' := (Below.refl B w).grown h hs (fun k hk => by cases hk; exact hB)
/-- an append: the old slice reads what it read -/
theorem app_three {w : World} {ops : Array Oper} {rest : List Oper} {o : Oper} {a : Act} {Q : Exit → Act → World → Prop} (hgd : o.guard = none) (s x : Operand)
    (ho : o.op = .call { callee := .builtin .append, args := #[s, x], argTypes := #[22, 22] }) (base : Nat) (v : Value) (zs : List Nat) (hs : a.eval s = v) (hO : Ow w base v zs) (hbase : base ≤ w.heap.size)
    (u : Value) (B : Nat) (ys : List Nat) (hx : a.eval x = u) (hu : Rb w B u ys) (hl : zs.length + ys.length ≤ 140737488351232)
    (h : ∀ r w1, Ow w1 base r (zs ++ ys) → w.grownBy w1 v.ownBlock → Kp base w w1 → (∀ k, r.ownBlock = some k → v.ownBlock = some k ∨ w.heap.size ≤ k) → Rh w1 base v zs → wpList Try.prog ops Q rest (a.put o.dst r) w1) : wpList Try.prog ops Q (o :: rest) a w := by
  obtain ⟨i5, hi, hz, hsz, hb⟩ := info5'
  rcases hu with ⟨rfl, rfl⟩ | ⟨ad, cap, rfl, _, hc⟩
  · have := h v w (by rw [List.append_nil]; exact hO) ⟨rfl, rfl, rfl, Nat.le_refl _, fun _ _ _ => rfl⟩ (Kp.refl _ _) (fun k hk => .inl hk) hO.rh
    exact wpList_append_own_none hgd s x 22 ho base 5 i5 1 Try.underlying22 hi v _ _ hs hO hx this
  · rcases hO.2 with ⟨h0, h00⟩ | ⟨g, cp, cur, h0, hbg, h3, hcn, _, _, h7⟩
    · have hO' := hO
      rw [h0] at hO' hs
      have e0 := List.eq_nil_of_length_eq_zero h00
      subst e0
      have hN : Ow w w.heap.size (.slice none 0 0) [] := ow_none _ _
      refine wpList_append_own _ hgd s x 22 ho w.heap.size 5 i5 (.int .u8 0) 1 1 Try.underlying22 hi hz hsz hb rfl (by decide) _ _ _ hs hN ad ys.length cap (ys.map By) hx (by simp) (fun j u hu => (hc j u hu).2) (By_one ys) (by unfold maxLen; omega) (by omega) (Nat.le_refl _) ?_
      intro r w1 hown hg _
      have hOr : Ow w1 w.heap.size r ([] ++ ys) := by unfold Ow; rw [List.length_append, List.map_append]; exact hown
      refine h r w1 (hOr.mono hbase) (by rw [h0]; exact hg) ?_ (fun k hk => .inr (World.ownsRow.lt hOr k hk).1) (.inl ⟨h0, rfl⟩)
      exact Kp.grown hO' hg hbase (Nat.le_refl _)
    · have hO' := hO
      rw [h0] at hO' hs
      by_cases hr : zs.length + ys.length ≤ cp
      · refine wpList_append_own_spare _ hgd s x 22 ho base 5 i5 1 Try.underlying22 hi hsz g zs.length cp (zs.map By) hs hO' ad ys.length cap (ys.map By) hx (by simp) (fun j u hu => (hc j u hu).2) (By_one ys) hr fun w' g2 g3 => ?_
        have hOr : Ow w' base (.slice (some ⟨g, 0, none⟩) (zs.length + ys.length) cp) (zs ++ ys) := by unfold Ow; rw [List.length_append, List.map_append]; exact g2
        refine h _ w' hOr (by rw [h0]; exact g3) (Kp.grown hO' g3 hbase (Nat.le_refl _)) (fun k hk => .inl ?_) ?_
        · rw [h0]; exact hk
        · refine .inr ⟨g, cp, h0, hcn, hbg, (World.ownsRow.lt hOr g rfl).2, fun i u hu => ?_⟩
          have hil : i < (zs.map By).length := (List.getElem?_eq_some_iff.1 hu).1
          have := World.ownsRow.cells hOr rfl i u (by rw [List.map_append, List.getElem?_append_left hil]; exact hu)
          rwa [add0] at this
      · refine wpList_append_grows w hgd s x 22 ho 5 i5 (.int .u8 0) 1 1 Try.underlying22 hi hz hsz hb rfl (by decide) (some ⟨g, 0, none⟩) zs.length cp (zs.map By) hs (fun e => by cases e) (by simp) (fun b hb' => by cases hb'; exact hO'.cells rfl) ad ys.length cap (ys.map By) hx (by simp) (fun j u hu => (hc j u hu).2) (By_one ys) (by omega) (by unfold maxLen; omega) (by omega) fun r w1 r1 r2 => ?_
        have hOr : Ow w1 w.heap.size r (zs ++ ys) := by unfold Ow; rw [List.length_append, List.map_append]; exact r1
        have hg2 : w.grownBy w1 v.ownBlock := ⟨r2.os, r2.tape, r2.output, r2.size, fun k hk _ => r2.block k hk (by simp)⟩
        have hbel : Below w.heap.size w w1 := ⟨r2.os, r2.tape, r2.output, r2.size, fun k hk => r2.block k hk (by simp)⟩
        exact h r w1 (hOr.mono hbase) hg2 (Kp.grown hO hg2 hbase (Nat.le_refl _)) (fun k hk => .inr (World.ownsRow.lt hOr k hk).1) (hO.rh.keep hbel)
/-- a row with three marks behind its end -/
def Rm (w : World) (base g n cap : Nat) (zs : List Nat) : Prop := Ow w base (.slice (some ⟨g, 0, none⟩) (n + 3) cap) (zs ++ [171, 172, 173]) ∧ zs.length = n ∧ n + 3 ≤ cap
theorem Rm.rb {w : World} {base g n cap : Nat} {zs : List Nat} (h : Rm w base g n cap zs) : Rb w w.heap.size (.slice (some ⟨g, 0, none⟩) n cap) zs := by
  have := h.1.rb.head (k := n) (c := cap) (by rw [List.length_append, h.2.1]; simp) (by have := h.2.2; omega)
  rwa [← h.2.1, List.take_left, h.2.1] at this
theorem Rm.keep {w w' : World} {base g n cap : Nat} {zs : List Nat} (h : Rm w base g n cap zs) (hb : Below w.heap.size w w') : Rm w' base g n cap zs := ⟨h.1.keep hb (Nat.le_refl _), h.2⟩
theorem Rm.but {w w' : World} {base g n cap g' : Nat} {zs : List Nat} (h : Rm w base g n cap zs) (hg : w.grownBy w' (some g')) (hne : g ≠ g') : Rm w' base g n cap zs := ⟨h.1.but2 hg hne, h.2⟩
theorem Ow.lo {w w' : World} {base g n cap B : Nat} {zs : List Nat} (h : Ow w base (.slice (some ⟨g, 0, none⟩) n cap) zs) (hb : Below B w w') (hg : g < B) : Ow w' base (.slice (some ⟨g, 0, none⟩) n cap) zs := by
  obtain ⟨hl, hh⟩ := h
  refine ⟨hl, ?_⟩
  rcases hh with ⟨h0, _⟩ | ⟨g', cap', cur, hv, hb', hg', hrest⟩
  · cases h0
  · cases hv
    exact .inr ⟨g, _, cur, by simp, hb', by rw [hb.block g hg]; exact hg', hrest⟩
theorem Rm.lo {w w' : World} {base g n cap B : Nat} {zs : List Nat} (h : Rm w base g n cap zs) (hb : Below B w w') (hg : g < B) : Rm w' base g n cap zs := ⟨h.1.lo hb hg, h.2⟩
/-- the first k bytes, each one more -/
def inc (k : Nat) (zs : List Nat) : List Nat := (zs.take k).map (fun x => (x + 1) % 256) ++ zs.drop k
theorem inc_zero (zs : List Nat) : inc 0 zs = zs := by simp [inc]
theorem inc_len (k : Nat) (zs : List Nat) : (inc k zs).length = zs.length := by simp [inc]; omega
theorem inc_at {k : Nat} {zs : List Nat} (h : k < zs.length) : (inc k zs).getD k 0 = zs.getD k 0 := by
  simp [inc, List.getD_eq_getElem?_getD, List.getElem?_append, h, Nat.min_eq_left (Nat.le_of_lt h)]
theorem inc_set {k : Nat} {zs : List Nat} (h : k < zs.length) : (inc k zs).set k ((zs.getD k 0 + 1) % 256) = inc (k + 1) zs := by
  have hl : ((zs.take k).map (fun x => (x + 1) % 256)).length = k := by simp; omega
  unfold inc
  rw [List.set_append_right _ _ (by omega), hl, Nat.sub_self, List.drop_eq_getElem_cons h, List.set_cons_zero, List.take_add_one, List.getElem?_eq_getElem h, List.map_append, List.append_assoc, List.getD_eq_getElem?_getD, List.getElem?_eq_getElem h]
  rfl
theorem inc_all {j : Nat} {zs : List Nat} (h : j < zs.length) : (inc zs.length zs).getD j 0 = (zs.getD j 0 + 1) % 256 := by
  simp [inc, List.getD_eq_getElem?_getD, h]
section
variable (w : World)
set_option maxRecDepth 100000 in
set_option maxHeartbeats 1000000 in
theorem roomy_any (v : Value) (b : List Nat) (B : Nat) (hv : Rb w B v b) (hl : b.length ≤ 1000000) :
    Calls Try.prog 5 #[v] w fun e w' => ∃ g cap, e = .returned (.slice (some ⟨g, 0, none⟩) b.length cap) ∧ Rm w' w.heap.size g b.length cap b ∧ w.heap.size ≤ g ∧ g < w'.heap.size ∧ Below w.heap.size w w' := by
  have HV := hide hv
  obtain ⟨ao, cap, rfl, hcap⟩ := hv.len
  obtain ⟨n, hn⟩ : ∃ n, b.length = n := ⟨_, rfl⟩
  have HLn := hide hn
  rw [hn] at HV hcap hl ⊢
  have HN := hide (ow_none w w.heap.size)
  clear hv hn
  go_enter Try.func5, Try.ntmps5
  go_upto_region 2 with (at_builtin; first
    | (refine app_rd rfl _ _ rfl w.heap.size _ [] rfl HN.out (Nat.le_refl _) _ _ b rfl HV.out (by rw [HLn.out]; simp; omega) ?_; intro r2 w2 ho2 hg2 hk2; rw [List.nil_append] at ho2; obtain ⟨a2, k2, c2, rfl, HK2, _⟩ := ho2.len2; have HO2 := hide ho2; have hs2 := hk2.1.size; have HB2 := hide hk2.1; clear ho2 hg2 hk2)
    | (refine app_rd rfl _ _ rfl w.heap.size _ b rfl (HO2.out.alloc _) (by rw [al_size]; omega) _ _ [171, 172, 173] rfl (rb_three _ 171 172 173) (by rw [HLn.out]; simp; omega) ?_; intro r3 w3 ho3 hg3 hk3; obtain ⟨a3, k3, c3, rfl, HK3, _⟩ := ho3.len2))
  have hk3e : k3 = n + 3 := by rw [← HK3.out, List.length_append, HLn.out]; rfl
  obtain ⟨g3, rfl, hg3b, hg3s⟩ := ho3.some_of (by rw [HK3.out]; omega)
  have HO3 := hide ho3
  have HB3 := hide (HB2.out.trans (((Below.refl w.heap.size w2).alloc hs2 _).trans hk3.1))
  have hnc : (n : Int) ≤ (c3 : Int) := by omega
  have HM : Hid (Rm w3 w.heap.size g3 n c3 b) := hide ⟨by have := HO3.out; rw [hk3e] at this; exact this, HLn.out, by omega⟩
  clear ho3 hg3 hk3 hk3e HO3
  go_wp2
  go_ret
  exact ⟨g3, c3, rfl, HM.out, hg3b, hg3s, HB3.out⟩
set_option maxRecDepth 100000 in
set_option maxHeartbeats 1000000 in
theorem marks_any (base g n cap : Nat) (zs : List Nat) (h : Rm w base g n cap zs) (hl : n ≤ 1000000) :
    Calls Try.prog 8 #[.slice (some ⟨g, 0, none⟩) n cap] w fun e w' => e = .returned (.bool true) ∧ w' = w := by
  obtain ⟨hO, hzl, hnc⟩ := h
  have c0 := (hO.cell (j := n) (by simp; omega)).1
  have c1 := (hO.cell (j := n + 1) (by simp; omega)).1
  have c2 := (hO.cell (j := n + 2) (by simp; omega)).1
  have g0 : (zs ++ [171, 172, 173]).getD n 0 = 171 := by rw [← hzl]; simp [List.getD_eq_getElem?_getD]
  have g1 : (zs ++ [171, 172, 173]).getD (n + 1) 0 = 172 := by rw [← hzl]; simp [List.getD_eq_getElem?_getD]
  have g2 : (zs ++ [171, 172, 173]).getD (n + 2) 0 = 173 := by rw [← hzl]; simp [List.getD_eq_getElem?_getD]
  rw [g0] at c0
  rw [g1] at c1
  rw [g2] at c2
  obtain ⟨m, hm⟩ : ∃ m, n + 3 = m := ⟨_, rfl⟩
  obtain ⟨n1, hn1⟩ : ∃ m, n + 1 = m := ⟨_, rfl⟩
  obtain ⟨n2, hn2⟩ : ∃ m, n + 2 = m := ⟨_, rfl⟩
  rw [hn1] at c1
  rw [hn2] at c2
  have e3 : (n : Int) + 3 = (m : Nat) := by omega
  have e1 : (n : Int) + 1 = (n1 : Nat) := by omega
  have e2 : (n : Int) + 2 = (n2 : Nat) := by omega
  have l0 : (n : Int) < (m : Int) := by omega
  have l1 : (n1 : Int) < (m : Int) := by omega
  have l2 : (n2 : Int) < (m : Int) := by omega
  have l3 : (m : Int) ≤ (cap : Int) := by omega
  have hm3 : m ≤ 1000003 := by omega
  clear hO hzl g0 g1 g2 hm hn1 hn2
  go_enter Try.func8, Try.ntmps8
  go_wp2
  go_ret
  exact ⟨rfl, rfl⟩
end
end Go.Proofs.Yteloomlcaimlaab
