import Derived.Test.YtoddadohmnaolaaE6
namespace Go.Proofs.Ytoddadohmnaolaa
open Go.RowKit

section
variable {P : Program} {ops : Array Oper} {Q : Exit → Act → World → Prop} {S : World → Prop} {fuel : Nat} {listed : Array Bool} {a : Act} {w : World}
/-- the one operation that may come up -/
theorem hd_call (i : Nat) {o : Oper} (hr : Region.ready .any ops listed = [i]) (ho : ops[i]? = some o) (hw : Region.wanted o (yielded ops a.tmps) = true)
    (h : ∀ K : Act → World → Prop, (∀ a w, S w → wpAnyH P .any ops Q S fuel (listed.setIfInBounds i true) a w → K a w) → Oper.wp P o a w K Q) : wpAnyH P .any ops Q S (fuel + 1) listed a w := by
  refine wpAnyH_ready hr (by simp) (AllReadyH.cons ho (fun K hK => ?_) AllReadyH.nil)
  rw [if_pos hw]
  exact h K (fun a w hS hh => hK.out a w hS (fun _ => hh))
/-- what yields in whatever world that meets S -/
theorem hd_take (i : Nat) {o : Oper} (v : Value) (hs : Region.noSelect ops = true) (hf : Region.free .any ops listed i = true) (hr : (Region.ready .any ops listed).contains i = true) (ho : ops[i]? = some o) (hw : Region.wanted o (yielded ops a.tmps) = true)
    (hy : ∀ w, S w → (execOp a.eval o).run P w = .ok (.value v) w)
    (hQ : ∀ c a w, Q (.panic c) (a.put o.dst v) w → Q (.panic c) a w) (h0 : S w) (h : wpAnyH P .any ops Q S fuel (listed.setIfInBounds i true) (a.put o.dst v) w) : wpAnyH P .any ops Q S (fuel + 1) listed a w :=
  wpAnyH_take ho hs hf hr hQ (Or.inl ⟨hw, hy⟩) h0 h
end
/-- registers 0 and 1 of a record that is woken -/
def wokenR (r : Er) (z : Nat) : Nat → Nat := fun i => if i = 0 then 0 else if i = 1 then z else r.rg i
def noticed (r : Er) (n : Int) : Er :=
  if r.st = 2 ∧ ¬ bits .or .i64 r.bi n = 0 then { r with st := 1, bi := 0, rg := wokenR r (bits .or .i64 r.bi n).toNat } else { r with bi := bits .or .i64 r.bi n }
set_option maxHeartbeats 3200000 in
theorem notice_any (w : World) (b : Nat) (r : Er) (h : Rb w b r) (n : Int) (hz : 0 ≤ bits .or .i64 r.bi n ∧ bits .or .i64 r.bi n ≤ 4294967295) : Calls Try.prog 38 #[.pointer (some ⟨b, 0, none⟩), .int .i64 n] w fun e w' => e = .returned (.tuple #[]) ∧ Rb w' b (noticed r n) ∧ At w b w' := by
  have HR := hide h
  obtain ⟨z, hzz⟩ : ∃ z, bits .or .i64 r.bi n = z := ⟨_, rfl⟩
  have hR1 : Rb (w.setCell ⟨b, 4, none⟩ (.int .i64 z)) b { r with bi := z } := HR.out.set rfl
  have HR1 := hide hR1
  have c4 := h.get (j := 4) rfl
  have f4 := h.frz 4
  have HA1 := hide ((At.refl w b).set 4 (.int .i64 z))
  clear h
  rw [hzz] at hz
  by_cases hs : r.st = 2
  · by_cases h0 : z = 0
    · have HN : Hid (noticed r n = { r with bi := z }) := hide (by unfold noticed; rw [if_neg (by rw [hzz]; exact fun h => h.2 h0), hzz])
      have q2 := hR1.get (j := 2) rfl
      have q4 := hR1.get (j := 4) rfl
      simp only [hs] at q2
      have H0 := hide h0
      clear hR1 h0
      go_enter Try.func38, Try.ntmps38
      go_upto_region 1 with fail
      generalize w.setCell ⟨b, 4, none⟩ (.int .i64 z) = w1 at *
      rw [H0.out] at q4
      go_wp2
      refine bodyPost_ret (results_none rfl _ _ _) rfl ?_
      exact ⟨rfl, by rw [HN.out]; exact HR1.out, HA1.out⟩
    · have HN' : Hid (noticed r n = { r with st := 1, bi := 0, rg := wokenR r z.toNat }) := hide (by unfold noticed; rw [if_pos (by rw [hzz]; exact ⟨hs, h0⟩), hzz])
      obtain ⟨zn, rfl⟩ := Int.eq_ofNat_of_zero_le hz.1
      have HN : Hid (noticed r n = { r with st := 1, bi := 0, rg := wokenR r zn }) := hide HN'.out
      clear HN'
      have q2 := hR1.get (j := 2) rfl
      have q4 := hR1.get (j := 4) rfl
      have f2 := hR1.frz 2
      simp only [hs] at q2
      have h0b : ((zn : Int) == 0) = false := by
        have hzn : zn ≠ 0 := fun e => h0 (by rw [e]; rfl)
        simp [hzn]
      have hR2 : Rb ((w.setCell ⟨b, 4, none⟩ (.int .i64 (zn : Int))).setCell ⟨b, 2, none⟩ (.int .i64 1)) b { r with bi := (zn : Int), st := 1 } := hR1.set rfl
      have HA2 := hide (HA1.out.set 2 (.int .i64 1))
      have HR2 := hide hR2
      clear hR1
      go_enter Try.func38, Try.ntmps38
      go_upto_region 1 with fail
      go_upto_region 3 with fail
      generalize (w.setCell ⟨b, 4, none⟩ (.int .i64 (zn : Int))).setCell ⟨b, 2, none⟩ (.int .i64 1) = w2 at *
      clear q2 q4 f2 hzz HR1 HA1 c4 f4
      obtain ⟨w3, hw3⟩ : ∃ w3, w3 = w2.drew := ⟨_, rfl⟩
      have hR3 : Rb w3 b { r with bi := (zn : Int), st := 1 } := by rw [hw3]; exact ⟨HR2.out.out⟩
      have HT := hide (takeBits_any w3 b _ hR3)
      have hR4 : Rb (w3.setCell ⟨b, 4, none⟩ (.int .i64 0)) b { r with bi := 0, st := 1 } := hR3.set rfl
      have d6 := hR4.get (j := 6) rfl
      have g6 := hR4.frz 6
      have hR5 : Rb ((w3.setCell ⟨b, 4, none⟩ (.int .i64 0)).setCell ⟨b, 6, none⟩ (.int .u32 0)) b { r with bi := 0, st := 1, rg := fun i => if i = 0 then 0 else r.rg i } := hR4.set rfl
      have d7 := hR5.get (j := 7) rfl
      have g7 := hR5.frz 7
      have hR6 : Rb (((w3.setCell ⟨b, 4, none⟩ (.int .i64 0)).setCell ⟨b, 6, none⟩ (.int .u32 0)).setCell ⟨b, 7, none⟩ (.int .u32 (zn : Int))) b { r with bi := 0, st := 1, rg := wokenR r zn } := hR5.set rfl
      have HA3 : Hid (At w b w3) := by rw [hw3]; exact ⟨HA2.out.os, HA2.out.tape, HA2.out.output, HA2.out.size, HA2.out.block⟩
      have HA6 := hide (((HA3.out.set 4 (.int .i64 0)).set 6 (.int .u32 0)).set 7 (.int .u32 (zn : Int)))
      have HR6 := hide hR6
      have HWz : Hid (IntKind.u32.wrap (zn : Int) = (zn : Int)) := hide (by simp [IntKind.wrap, IntKind.signed, IntKind.bits]; omega)
      simp only at d6 d7
      clear hR3 hR4 hR5 hR6 HR2 HA2 HA3
      refine wp_region_held_drew (S := fun _ => True) (by kernel_rfl) trivial (fun _ => ?_)
      rw [← hw3]
      clear hw3
      refine hd_take 0 (o := ⟨some 32, _, _, _, _, _⟩) (.pointer (some ⟨b, 0, none⟩)) (by kernel_rfl) (by kernel_rfl) (by kernel_rfl) rfl (by rfl) (fun W hSw => by go_simp) (fun _ _ _ h => h) trivial ?_
      simp only [Act.put, List.setIfInBounds_toArray, List.set_cons_zero, List.set_cons_succ]
      refine hd_take 1 (o := ⟨some 33, _, _, _, _, _⟩) (.pointer (some ⟨b, 0, none⟩)) (by kernel_rfl) (by kernel_rfl) (by kernel_rfl) rfl (by rfl) (fun W hSw => by go_simp) (fun _ _ _ h => h) trivial ?_
      simp only [Act.put, List.setIfInBounds_toArray, List.set_cons_zero, List.set_cons_succ]
      refine hd_take 2 (o := ⟨some 34, _, _, _, _, _⟩) (.pointer (some ⟨b, 0, none⟩)) (by kernel_rfl) (by kernel_rfl) (by kernel_rfl) rfl (by rfl) (fun W hSw => by go_simp) (fun _ _ _ h => h) trivial ?_
      simp only [Act.put, List.setIfInBounds_toArray, List.set_cons_zero, List.set_cons_succ]
      refine hd_take 5 (o := ⟨some 37, _, _, _, _, _⟩) (.pointer (some ⟨b, 0, none⟩)) (by kernel_rfl) (by kernel_rfl) (by kernel_rfl) rfl (by rfl) (fun W hSw => by go_simp) (fun _ _ _ h => h) trivial ?_
      simp only [Act.put, List.setIfInBounds_toArray, List.set_cons_zero, List.set_cons_succ]
      refine hd_take 6 (o := ⟨some 38, _, _, _, _, _⟩) (.pointer (some ⟨b, 0, none⟩)) (by kernel_rfl) (by kernel_rfl) (by kernel_rfl) rfl (by rfl) (fun W hSw => by go_simp) (fun _ _ _ h => h) trivial ?_
      simp only [Act.put, List.setIfInBounds_toArray, List.set_cons_zero, List.set_cons_succ]
      refine hd_take 7 (o := ⟨some 39, _, _, _, _, _⟩) (.pointer (some ⟨b, 6, none⟩)) (by kernel_rfl) (by kernel_rfl) (by kernel_rfl) rfl (by rfl) (fun W hSw => by go_simp) (fun _ _ _ h => h) trivial ?_
      simp only [Act.put, List.setIfInBounds_toArray, List.set_cons_zero, List.set_cons_succ]
      refine hd_take 8 (o := ⟨some 40, _, _, _, _, _⟩) (.pointer (some ⟨b, 6, none⟩)) (by kernel_rfl) (by kernel_rfl) (by kernel_rfl) rfl (by rfl) (fun W hSw => by go_simp) (fun _ _ _ h => h) trivial ?_
      simp only [Act.put, List.setIfInBounds_toArray, List.set_cons_zero, List.set_cons_succ]
      refine hd_take 11 (o := ⟨some 42, _, _, _, _, _⟩) (.pointer (some ⟨b, 0, none⟩)) (by kernel_rfl) (by kernel_rfl) (by kernel_rfl) rfl (by rfl) (fun W hSw => by go_simp) (fun _ _ _ h => h) trivial ?_
      simp only [Act.put, List.setIfInBounds_toArray, List.set_cons_zero, List.set_cons_succ]
      refine hd_take 12 (o := ⟨some 43, _, _, _, _, _⟩) (.pointer (some ⟨b, 0, none⟩)) (by kernel_rfl) (by kernel_rfl) (by kernel_rfl) rfl (by rfl) (fun W hSw => by go_simp) (fun _ _ _ h => h) trivial ?_
      simp only [Act.put, List.setIfInBounds_toArray, List.set_cons_zero, List.set_cons_succ]
      refine hd_take 13 (o := ⟨some 44, _, _, _, _, _⟩) (.pointer (some ⟨b, 6, none⟩)) (by kernel_rfl) (by kernel_rfl) (by kernel_rfl) rfl (by rfl) (fun W hSw => by go_simp) (fun _ _ _ h => h) trivial ?_
      simp only [Act.put, List.setIfInBounds_toArray, List.set_cons_zero, List.set_cons_succ]
      refine hd_take 14 (o := ⟨some 45, _, _, _, _, _⟩) (.pointer (some ⟨b, 6, none⟩)) (by kernel_rfl) (by kernel_rfl) (by kernel_rfl) rfl (by rfl) (fun W hSw => by go_simp) (fun _ _ _ h => h) trivial ?_
      simp only [Act.put, List.setIfInBounds_toArray, List.set_cons_zero, List.set_cons_succ]
      refine hd_call 3 (o := ⟨some 35, _, _, _, _, _⟩) (by kernel_rfl) rfl (by rfl) (fun K hK => ?_)
      go_simp
      go_wp2_with (go_at_call 58; refine HT.out.mono ?_; rintro e1 w9 ⟨rfl, rfl⟩)
      refine hK _ _ trivial ?_
      clear hK K
      try simp only [Act.put, List.setIfInBounds_toArray, List.set_cons_zero, List.set_cons_succ]
      refine hd_take 4 (o := ⟨some 36, _, _, _, _, _⟩) (.int .u32 (zn : Int)) (by kernel_rfl) (by kernel_rfl) (by kernel_rfl) rfl (by rfl) (fun W hSw => by go_simp; exact HWz.out) (fun _ _ _ h => h) trivial ?_
      simp only [Act.put, List.setIfInBounds_toArray, List.set_cons_zero, List.set_cons_succ]
      refine hd_take 9 (o := ⟨some 41, _, _, _, _, _⟩) (.pointer (some ⟨b, 6, none⟩)) (by kernel_rfl) (by kernel_rfl) (by kernel_rfl) rfl (by rfl) (fun W hSw => by go_simp) (fun _ _ _ h => h) trivial ?_
      simp only [Act.put, List.setIfInBounds_toArray, List.set_cons_zero, List.set_cons_succ]
      refine hd_call 10 (o := ⟨none, _, _, _, _, _⟩) (by kernel_rfl) rfl (by rfl) (fun K hK => ?_)
      go_simp
      refine hK _ _ trivial ?_
      clear hK K
      try simp only [Act.put, List.setIfInBounds_toArray, List.set_cons_zero, List.set_cons_succ]
      refine hd_take 15 (o := ⟨some 46, _, _, _, _, _⟩) (.pointer (some ⟨b, 7, none⟩)) (by kernel_rfl) (by kernel_rfl) (by kernel_rfl) rfl (by rfl) (fun W hSw => by go_simp) (fun _ _ _ h => h) trivial ?_
      simp only [Act.put, List.setIfInBounds_toArray, List.set_cons_zero, List.set_cons_succ]
      refine hd_call 16 (o := ⟨none, _, _, _, _, _⟩) (by kernel_rfl) rfl (by rfl) (fun K hK => ?_)
      go_simp
      refine hK _ _ trivial ?_
      clear hK K
      refine wpAnyH_done (by kernel_rfl) ?_ _
      go_wp2
      go_end0
      exact ⟨rfl, by rw [HN.out]; exact HR6.out, HA6.out⟩
  · have HN : Hid (noticed r n = { r with bi := z }) := hide (by unfold noticed; rw [if_neg (fun h => hs h.1), hzz])
    have q2 := hR1.get (j := 2) rfl
    have hsb : (r.st == 2) = false := by simp [hs]
    clear hR1
    go_enter Try.func38, Try.ntmps38
    go_upto_region 1 with fail
    generalize w.setCell ⟨b, 4, none⟩ (.int .i64 z) = w1 at *
    go_wp2
    refine bodyPost_ret (results_none rfl _ _ _) rfl ?_
    exact ⟨rfl, by rw [HN.out]; exact HR1.out, HA1.out⟩
end Go.Proofs.Ytoddadohmnaolaa
