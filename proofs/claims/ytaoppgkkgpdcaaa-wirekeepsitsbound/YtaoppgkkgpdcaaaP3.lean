import Derived.Test.YtaoppgkkgpdcaaaP2
namespace Go.Proofs.Ytaoppgkkgpdcaaa
open Go.RowKit

theorem wrap0 : IntKind.i64.wrap 0 = 0 := by decide
theorem own_some {w : World} {base n : Nat} {v : Value} {xs : List Value} (h : w.ownsRow base 5 1 v n xs) (hn : 0 < n) : ∃ g cap, v = .slice (some ⟨g, 0, none⟩) n cap := by
  obtain ⟨_, ⟨_, h0⟩ | ⟨g, cap, cur, h, _⟩⟩ := h
  · omega
  · exact ⟨g, cap, h⟩
theorem own_not {w : World} {B n : Nat} {v : Value} {xs : List Value} (h : w.ownsRow (B + 1) 5 1 v n xs) : some B ≠ v.ownBlock := fun e => by have := h.lt B e.symm; omega
/-- what an append to the written bytes leaves of the writer -/
theorem grown_wr {w w1 : World} {B n L e : Nat} {v : Value} {xs : List Value} (hw : Wr w B v L e) (h : w.ownsRow (B + 1) 5 1 v n xs) (hg : w.grownBy w1 v.ownBlock) : Wr w1 B v L e ∧ Below B w w1 :=
  ⟨hw.at (hg.block B hw.lt (own_not h)), (Below.refl B w).grown hg (Nat.le_of_lt hw.lt) (fun k hk => by have := (h.lt k hk).1; omega)⟩
theorem add0 (g : Nat) : (⟨g, 0, none⟩ : Addr).add 0 = ⟨g, 0, none⟩ := by simp [Addr.add]
/-- one byte behind what was written -/
theorem step_put {ops : Array Oper} {o : Oper} {a : Act} {w : World} {K : Act → World → Prop} {Q : Exit → Act → World → Prop} {E : Prop}
    (hg : o.guard = none) (s x : Operand) (hop : o.op = Op.call { callee := Callee.builtin Builtin.append, args := #[s, x], argTypes := #[26, 26] })
    (B n L e g : Nat) (v u : Value) (xs : List Value) (hs : a.eval s = v) (hx : a.eval x = .slice (some ⟨g, 0, none⟩) 1 1) (hu : w.cell? ⟨g, 0, none⟩ = some u) (hu1 : u.oneCell' = true)
    (hw : Wr w B v L e) (hown : w.ownsRow (B + 1) 5 1 v n xs) (hn : n + 1 ≤ 4096)
    (hK : ∀ g' cap' w1, w1.cell? ⟨B, 0, none⟩ = some v → w1.frozen? ⟨B, 0, none⟩ = false → Hid (Wr w1 B v L e) → Hid (w1.ownsRow (B + 1) 5 1 (.slice (some ⟨g', 0, none⟩) (n + 1) cap') (n + 1) (xs ++ [u])) → Hid (Below B w w1) →
      K (a.put o.dst (.slice (some ⟨g', 0, none⟩) (n + 1) cap')) w1) :
    if Region.wanted o (yielded ops a.tmps) = true then Oper.wp Try.prog o a w K Q else E := by
  obtain ⟨i5, hi, hz, hs', hb⟩ := info5'
  refine step_append_own hg s x 26 hop (B + 1) 5 i5 (.int .u8 0) 1 1 Try.underlying26 hi hz hs' hb rfl (by decide) v n xs hs hown ⟨g, 0, none⟩ 1 1 [u] hx rfl ?_ ?_ (by unfold maxLen; omega) (by omega) hw.lt ?_
  · intro j u' hj
    match j, hj with
    | 0, hj => simp at hj; subst hj; rw [add0]; exact hu
  · intro u' hu'; simp at hu'; subst hu'; exact hu1
  · intro v' w1 h1 h2
    obtain ⟨g', cap', rfl⟩ := own_some h1 (by omega)
    obtain ⟨r1, r2⟩ := grown_wr hw hown h2
    exact hK g' cap' w1 r1.cells.1 r1.cells.2.2.2.2.1 r1 h1 r2
theorem put_st {w : World} {B n L e : Nat} {v v' : Value} {xs : List Value} (hw : Wr w B v L e) (h : w.ownsRow (B + 1) 5 1 v' n xs) (h1 : ∀ u ∈ xs, u.oneCell' = true) : St (w.setCell ⟨B, 0, none⟩ v') B n L e :=
  ⟨v', hw.set0 v', xs, ownsRow_setCell_below h (a := ⟨B, 0, none⟩) (by show B < B + 1; omega) v', h1⟩
theorem one_more {xs zs : List Value} (h : ∀ u ∈ xs, u.oneCell' = true) (h' : ∀ u ∈ zs, u.oneCell' = true) : ∀ u ∈ xs ++ zs, u.oneCell' = true := by
  intro u hu; rcases List.mem_append.1 hu with e | e
  · exact h u e
  · exact h' u e
theorem put_below {w w1 : World} {B : Nat} {o : Obj} {v' : Value} (h : Below B (w.alloc o).drew w1) (hB : B ≤ w.heap.size) : Below B w (w1.setCell ⟨B, 0, none⟩ v') :=
  ((((Below.refl B w).alloc hB o).drew).trans h).setCell (Nat.le_refl B) _
set_option maxHeartbeats 400000 in
theorem number_yes (w : World) (B : Nat) (x n L : Nat) (h : St w B n L 0) (hL : L ≤ 4096) (hn : n + 1 ≤ L) (_hx : x < 256) :
    Calls Try.prog 14 #[.pointer (some ⟨B, 0, none⟩), .int .u64 (x : Int), .int .i64 1] w fun e w' => e = .returned (.tuple #[]) ∧ St w' B (n + 1) L 0 ∧ Below B w w' := by
  obtain ⟨i5, hi, hz, hs, hb⟩ := info5'
  obtain ⟨v, hw, hv⟩ := h
  have HW := hide hw
  have HV := hide hv
  clear hw hv
  go_enter Try.func14, Try.ntmps14
  go_wp2_with fail
  refine (takes_yes w B v n 1 L HW.out HV.out hL hn).mono ?_
  rintro e w' ⟨rfl, rfl⟩
  go_wp2
  go_loopw [12] (fun i wr => ∃ (k : Nat), k ≤ 1 ∧ i = .int .i64 k ∧ St wr B (n + k) L 0 ∧ Below B w wr) (fun i _ => 1 - (intOf i).toNat)
  case atStart => exact ⟨0, by omega, rfl, ⟨v, HW.out, HV.out⟩, (Below.refl _ _).drew⟩
  case round =>
    obtain ⟨k, hk, rfl, ⟨v, hw, xs, hown, h1⟩, hbel⟩ := hrel
    have H1 := hide h1
    clear h1
    by_cases hlt : k < 1
    · obtain rfl : k = 0 := by omega
      obtain ⟨c0, c1, c2, c3, f0, f3⟩ := hw.cells
      have HW := hide hw
      have HO := hide hown
      clear hw hown
      go_wp2
      have h0 := wrap0
      have hB := HW.out.lt
      have ha : ∀ o, (wr.alloc o).cell? ⟨B, 0, none⟩ = some v := fun o => (World.cell?_alloc_past _ _ _ hB).trans c0
      go_region_law (refine step_put rfl (.tmp 19) (.tmp 25) rfl B n L 0 wr.heap.size v (.int .u8 (IntKind.u8.wrap (x : Int))) xs (by simp [Act.eval]) (by simp [Act.eval]) (by simp) rfl (HW.out.at (Below.heap_alloc _ _ _ HW.out.lt)) (World.ownsRow.alloc HO.out _) (by omega) ?_; intro g' cap' w1 k0 kf KW KO KB)
      all_goals go_wp2
      all_goals go_roundw
      all_goals first
        | exact ⟨1, by omega, rfl, put_st KW.out KO.out (one_more H1.out (by intro u hu; simp at hu; subst hu; rfl)), hbel.trans (put_below KB.out (Nat.le_of_lt hB))⟩
        | simp [intOf]
    · go_wp2
      go_end0
      obtain rfl : k = 1 := by omega
      exact ⟨rfl, ⟨v, hw, xs, hown, H1.out⟩, hbel⟩
theorem shr8 (x : Nat) (hx : x < 256) : (((x : Int) / 256 == 0) = true) := by apply beq_iff_eq.2; omega
set_option maxHeartbeats 400000 in
theorem u8_yes (w : World) (B : Nat) (x n L : Nat) (h : St w B n L 0) (hL : L ≤ 4096) (hn : n + 1 ≤ L) (hx : x < 256) :
    Calls Try.prog 8 #[.pointer (some ⟨B, 0, none⟩), .int .i64 (x : Int)] w fun e w' => e = .returned (.tuple #[]) ∧ St w' B (n + 1) L 0 ∧ Below B w w' := by
  have HS := hide h
  clear h
  have hf : Calls Try.prog 11 #[.pointer (some ⟨B, 0, none⟩), .int .i64 (x : Int), .int .i64 1] w fun e w' => e = .returned (.tuple #[]) ∧ St w' B (n + 1) L 0 ∧ Below B w w' := by
    have h8 := shr8 x hx
    go_enter Try.func11, Try.ntmps11
    go_wp2_with fail
    refine (number_yes w B x n L HS.out hL hn hx).mono ?_
    rintro e w' ⟨rfl, h1, h2⟩
    have H1 := hide h1
    clear h1
    go_wp2
    go_end0
    exact ⟨rfl, H1.out, h2⟩
  have HF := hide hf
  clear hf
  go_enter Try.func8, Try.ntmps8
  go_wp2_with fail
  refine HF.out.mono ?_
  rintro e w' ⟨rfl, h1, h2⟩
  have H1 := hide h1
  clear h1
  go_wp2
  go_end0
  exact ⟨rfl, H1.out, h2⟩
end Go.Proofs.Ytaoppgkkgpdcaaa
