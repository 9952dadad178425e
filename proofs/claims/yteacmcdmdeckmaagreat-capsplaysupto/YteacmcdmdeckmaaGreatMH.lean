import Derived.Test.YteacmcdmdeckmaaGreatMG
namespace Go.Proofs.YteacmcdmdeckmaaGreat
open Go.RowKit

/-- the program's book -/
def BkA (B : Nat) (bk : List (Option Lst)) : Asn := fun w F => Book w F B bk
theorem good_bk (B : Nat) (bk : List (Option Lst)) : Good (BkA B bk) := ⟨fun h b hb => Book.lt h b hb, fun h hs hk => Book.keep h hs hk⟩
/-- a step in its box -/
def BxA (G : Nat) (o : Opr) (two : Bool) (ins : Value) : Asn := fun w H => w.heap[G]? = some (.cells #[.bool two, .int .i64 o.q, .int .i64 o.e, .int .i64 o.s, .int .i64 o.t, .int .i64 o.a, .int .i64 o.r, .int .i64 o.ck, .int .i64 o.co, .int .i64 o.cs, .int .i64 o.cr, ins] 31 (0, 0)) ∧ ∀ b, H b ↔ b = G
theorem good_bx (G : Nat) (o : Opr) (two : Bool) (ins : Value) : Good (BxA G o two ins) := by
  refine ⟨?_, ?_⟩
  · rintro W H ⟨h, he⟩ b hb
    rw [(he b).1 hb]; exact (Array.getElem?_eq_some_iff.1 h).1
  · rintro W W' H ⟨h, he⟩ hs hk
    exact ⟨by rw [hk G ((he G).2 rfl)]; exact h, he⟩
structure Cells12 (W : World) (G : Nat) (o : Opr) (two : Bool) (ins : Value) : Prop where
  c0 : W.cell? ⟨G, 0, none⟩ = some (.bool two)
  c1 : W.cell? ⟨G, 1, none⟩ = some (.int .i64 o.q)
  c2 : W.cell? ⟨G, 2, none⟩ = some (.int .i64 o.e)
  c3 : W.cell? ⟨G, 3, none⟩ = some (.int .i64 o.s)
  c4 : W.cell? ⟨G, 4, none⟩ = some (.int .i64 o.t)
  c5 : W.cell? ⟨G, 5, none⟩ = some (.int .i64 o.a)
  c6 : W.cell? ⟨G, 6, none⟩ = some (.int .i64 o.r)
  c7 : W.cell? ⟨G, 7, none⟩ = some (.int .i64 o.ck)
  c8 : W.cell? ⟨G, 8, none⟩ = some (.int .i64 o.co)
  c9 : W.cell? ⟨G, 9, none⟩ = some (.int .i64 o.cs)
  c10 : W.cell? ⟨G, 10, none⟩ = some (.int .i64 o.cr)
  c11 : W.cell? ⟨G, 11, none⟩ = some (ins)
theorem cells12_of {W : World} {G : Nat} {o : Opr} {two : Bool} {ins : Value} (h : W.heap[G]? = some (.cells #[.bool two, .int .i64 o.q, .int .i64 o.e, .int .i64 o.s, .int .i64 o.t, .int .i64 o.a, .int .i64 o.r, .int .i64 o.ck, .int .i64 o.co, .int .i64 o.cs, .int .i64 o.cr, ins] 31 (0, 0))) : Cells12 W G o two ins :=
  ⟨by rw [cell_of_row _ _ _ _ _ _ h]; rfl, by rw [cell_of_row _ _ _ _ _ _ h]; rfl, by rw [cell_of_row _ _ _ _ _ _ h]; rfl, by rw [cell_of_row _ _ _ _ _ _ h]; rfl, by rw [cell_of_row _ _ _ _ _ _ h]; rfl, by rw [cell_of_row _ _ _ _ _ _ h]; rfl, by rw [cell_of_row _ _ _ _ _ _ h]; rfl, by rw [cell_of_row _ _ _ _ _ _ h]; rfl, by rw [cell_of_row _ _ _ _ _ _ h]; rfl, by rw [cell_of_row _ _ _ _ _ _ h]; rfl, by rw [cell_of_row _ _ _ _ _ _ h]; rfl, by rw [cell_of_row _ _ _ _ _ _ h]; rfl⟩
/-- both books, alike -/
def PrA (B R : Nat) : Asn := fun w H => ∃ bk f, star (BkA B bk) (RbA R bk) w H ∧ Snd bk f
theorem good_pr (B R : Nat) : Good (PrA B R) := by
  refine ⟨?_, ?_⟩
  · rintro W H ⟨bk, f, h, _⟩
    exact ((good_bk B bk).star (good_rb R bk)).lt h
  · rintro W W' H ⟨bk, f, h, hf⟩ hs hk
    exact ⟨bk, f, ((good_bk B bk).star (good_rb R bk)).keep h hs hk, hf⟩
section
variable {w0 w : World} {B R : Nat} {bk bk' : List (Option Lst)} {Rst : Asn} {G : Nat} {o : Opr} {two : Bool} {ins : Value} {f : Int → Int → Nat}
theorem Sys.open8 (h : Sys w0 w (star (PrA B R) Rst)) : ∃ bk f, Snd bk f ∧ Sys w0 w (star (BkA B bk) (star (RbA R bk) Rst)) := by
  obtain ⟨H, ⟨H1, H2, ⟨bk, f, h1, hf⟩, h2, h3, h4⟩, hl, hb⟩ := h
  exact ⟨bk, f, hf, H, star_assoc ⟨H1, H2, h1, h2, h3, h4⟩, hl, hb⟩
theorem Sys.shut8 (h : Sys w0 w (star (BkA B bk) (star (RbA R bk) Rst))) (hf : Snd bk f) : Sys w0 w (star (PrA B R) Rst) := by
  obtain ⟨H, h1, hl, hb⟩ := h
  obtain ⟨H1, H2, h2, h3, h4, h5⟩ := star_assoc2 h1
  exact ⟨H, ⟨H1, H2, ⟨bk, f, h2, hf⟩, h3, h4, h5⟩, hl, hb⟩
theorem Sys.step8 (h : Sys w0 w (star (BkA B bk') (star (RbA R bk') Rst))) (hf : Snd bk f) (hw : Wb bk) (hs : Step o bk bk') : Sys w0 w (star (PrA B R) Rst) := by
  obtain ⟨f', hf'⟩ := Step.snd hf hw.l48 hs
  exact h.shut8 hf'
theorem Sys.box {A : Asn} (h : Sys w0 w A) (hA : Good A) (o : Opr) (two : Bool) (ins : Value) : Sys w0 (w.alloc (.cells #[.bool two, .int .i64 o.q, .int .i64 o.e, .int .i64 o.s, .int .i64 o.t, .int .i64 o.a, .int .i64 o.r, .int .i64 o.ck, .int .i64 o.co, .int .i64 o.cs, .int .i64 o.cr, ins] 31)) (star (BxA w.heap.size o two ins) A) :=
  h.new hA (Fc := fun b => b = w.heap.size) ⟨heap_alloc_last _ _, fun _ => Iff.rfl⟩ (fun b e => by rw [e]; exact Nat.le_refl _) ((Below.refl _ _).alloc (Nat.le_refl _) _)
theorem Sys.bx {X Y : Asn} (h : Sys w0 w (star X (star Y (star (BxA G o two ins) Rst)))) : Cells12 w G o two ins := by
  obtain ⟨F, hx, _⟩ := h.drop.drop.head
  exact cells12_of hx
theorem Sys.wb {X : Asn} (h : Sys w0 w (star (BkA B bk) X)) : Wb bk := by
  obtain ⟨F, hx⟩ := h.head
  exact Book.wb hx
end
set_option maxRecDepth 100000 in
set_option maxHeartbeats 6400000 in
theorem ch_mint {w0 w : World} {B R : Nat} {Rst : Asn} (hS : Sys w0 w (star (PrA B R) Rst)) (hG : Good Rst) (o : Opr) (two : Bool) (ins : Value) (hq : o.q = 3) :
    Calls Tryz.prog 26 #[tp B, tp R, o.val two ins] w fun x w' => x = .returned (.bool true) ∧ Sys w0 w' (star (PrA B R) Rst) := by
  have S0 := hS.box ((good_pr B R).star hG) o two ins
  obtain ⟨bk, f, hsnd, S1⟩ := S0.swap.open8
  have hgX : Good (star (BxA w.heap.size o two ins) Rst) := (good_bx _ _ _ _).star hG
  have hwb := S1.wb
  have HSn := hide hsnd
  have HW := hide hwb
  have HG := hide hG
  have HGX := hide hgX
  have HS1 := hide S1
  obtain ⟨c0, c1, c2, c3, c4, c5, c6, c7, c8, c9, c10, c11⟩ := S1.bx
  have HQ := hide hq
  clear hS S0 S1 hsnd hgX hwb hG hq
  unfold Opr.val
  go_enter Tryz.func26, Tryz.ntmps26
  go_upto_region 1 with fail
  generalize w.alloc (.cells #[.bool two, .int .i64 o.q, .int .i64 o.e, .int .i64 o.s, .int .i64 o.t, .int .i64 o.a, .int .i64 o.r, .int .i64 o.ck, .int .i64 o.co, .int .i64 o.cs, .int .i64 o.cr, ins] 31) = w1 at *
  generalize w.heap.size = G at *
  rw [HQ.out] at c1
  obtain ⟨F1, hb, _, hcl⟩ := HS1.out.call ((good_rb R bk).star HGX.out)
  have HP := hide (mint_any w1 F1 B bk hb o.e o.a o.ck o.co o.cs o.cr)
  have HC := hide hcl
  clear hb hcl
  go_wp2_with fail
  refine HP.out.mono ?_
  rintro e1 w2 ⟨v, c, bk2, F2, rfl, h1, h2, h3⟩
  have HS2 := hide (HC.out _ F2 (BkA B bk2) h1 h2).swap
  have HSt := hide (Step.mint (o := o) HQ.out h3)
  obtain ⟨F3, hr, _, hcl⟩ := HS2.out.call ((good_bk B bk2).star HGX.out)
  have HR := hide (mintR_any hr HW.out o.e o.a o.ck o.co o.cs o.cr v c h3)
  have HC2 := hide hcl
  obtain ⟨-, -, d2, -, -, d5, -, d7, d8, d9, d10, -⟩ := HS2.out.bx
  clear h3
  clear c0 c1 c2 c3 c4 c5 c6 c7 c8 c9 c10 c11 h1 h2 HP HC hr hcl HS1
  go_wp2_with fail
  refine HR.out.mono ?_
  rintro e1 w3 ⟨rfl, F4, k1, k2⟩
  have HE := hide ((HC2.out _ F4 (RbA R bk2) k1 k2).swap.step8 HSn.out HW.out HSt.out).swap.drop
  clear k1 k2 HR HC2
  go_wp2
  go_ret
  exact ⟨rfl, HE.out⟩
set_option maxRecDepth 100000 in
set_option maxHeartbeats 6400000 in
theorem ch_derive {w0 w : World} {B R : Nat} {Rst : Asn} (hS : Sys w0 w (star (PrA B R) Rst)) (hG : Good Rst) (o : Opr) (two : Bool) (ins : Value) (hq : o.q = 4) :
    Calls Tryz.prog 26 #[tp B, tp R, o.val two ins] w fun x w' => x = .returned (.bool true) ∧ Sys w0 w' (star (PrA B R) Rst) := by
  have S0 := hS.box ((good_pr B R).star hG) o two ins
  obtain ⟨bk, f, hsnd, S1⟩ := S0.swap.open8
  have hgX : Good (star (BxA w.heap.size o two ins) Rst) := (good_bx _ _ _ _).star hG
  have hwb := S1.wb
  have HSn := hide hsnd
  have HW := hide hwb
  have HG := hide hG
  have HGX := hide hgX
  have HS1 := hide S1
  obtain ⟨c0, c1, c2, c3, c4, c5, c6, c7, c8, c9, c10, c11⟩ := S1.bx
  have HQ := hide hq
  clear hS S0 S1 hsnd hgX hwb hG hq
  unfold Opr.val
  go_enter Tryz.func26, Tryz.ntmps26
  go_upto_region 1 with fail
  generalize w.alloc (.cells #[.bool two, .int .i64 o.q, .int .i64 o.e, .int .i64 o.s, .int .i64 o.t, .int .i64 o.a, .int .i64 o.r, .int .i64 o.ck, .int .i64 o.co, .int .i64 o.cs, .int .i64 o.cr, ins] 31) = w1 at *
  generalize w.heap.size = G at *
  rw [HQ.out] at c1
  obtain ⟨F1, hb, _, hcl⟩ := HS1.out.call ((good_rb R bk).star HGX.out)
  have HP := hide (derive_any w1 F1 B bk hb o.e o.s o.t o.a o.r)
  have HC := hide hcl
  clear hb hcl
  go_wp2_with fail
  refine HP.out.mono ?_
  rintro e1 w2 ⟨v, c, bk2, F2, rfl, h1, h2, h3⟩
  have HS2 := hide (HC.out _ F2 (BkA B bk2) h1 h2).swap
  have HSt := hide (Step.derive (o := o) HQ.out h3)
  obtain ⟨F3, hr, _, hcl⟩ := HS2.out.call ((good_bk B bk2).star HGX.out)
  have HR := hide (deriveD_any hr HW.out (fun e s r h => (HSn.out e s r h).1) o.e o.s o.t o.a o.r v c h3)
  have HC2 := hide hcl
  obtain ⟨-, -, d2, d3, d4, d5, d6, -, -, -, -, -⟩ := HS2.out.bx
  clear h3
  clear c0 c1 c2 c3 c4 c5 c6 c7 c8 c9 c10 c11 h1 h2 HP HC hr hcl HS1
  go_wp2_with fail
  refine HR.out.mono ?_
  rintro e1 w3 ⟨rfl, F4, k1, k2⟩
  have HE := hide ((HC2.out _ F4 (RbA R bk2) k1 k2).swap.step8 HSn.out HW.out HSt.out).swap.drop
  clear k1 k2 HR HC2
  go_wp2
  go_ret
  exact ⟨rfl, HE.out⟩
set_option maxRecDepth 100000 in
set_option maxHeartbeats 6400000 in
theorem ch_rest {w0 w : World} {B R : Nat} {Rst : Asn} (hS : Sys w0 w (star (PrA B R) Rst)) (hG : Good Rst) (o : Opr) (two : Bool) (ins : Value) (hq : ∀ k : Nat, 1 ≤ k → k ≤ 7 → o.q ≠ k) :
    Calls Tryz.prog 26 #[tp B, tp R, o.val two ins] w fun x w' => x = .returned (.bool true) ∧ Sys w0 w' (star (PrA B R) Rst) := by
  have S0 := hS.box ((good_pr B R).star hG) o two ins
  obtain ⟨bk, f, hsnd, S1⟩ := S0.swap.open8
  have hgX : Good (star (BxA w.heap.size o two ins) Rst) := (good_bx _ _ _ _).star hG
  have hwb := S1.wb
  have HSn := hide hsnd
  have HW := hide hwb
  have HG := hide hG
  have HGX := hide hgX
  have HS1 := hide S1
  obtain ⟨c0, c1, c2, c3, c4, c5, c6, c7, c8, c9, c10, c11⟩ := S1.bx
  have HQ := hide hq
  clear hS S0 S1 hsnd hgX hwb hG hq
  unfold Opr.val
  go_enter Tryz.func26, Tryz.ntmps26
  go_upto_region 1 with fail
  generalize w.alloc (.cells #[.bool two, .int .i64 o.q, .int .i64 o.e, .int .i64 o.s, .int .i64 o.t, .int .i64 o.a, .int .i64 o.r, .int .i64 o.ck, .int .i64 o.co, .int .i64 o.cs, .int .i64 o.cr, ins] 31) = w1 at *
  generalize w.heap.size = G at *
  have h1 : (o.q == 1) = false := by rw [beq_eq_false_iff_ne]; exact HQ.out 1 (by omega) (by omega)
  have h2 : (o.q == 2) = false := by rw [beq_eq_false_iff_ne]; exact HQ.out 2 (by omega) (by omega)
  have h3 : (o.q == 3) = false := by rw [beq_eq_false_iff_ne]; exact HQ.out 3 (by omega) (by omega)
  have h4 : (o.q == 4) = false := by rw [beq_eq_false_iff_ne]; exact HQ.out 4 (by omega) (by omega)
  have h5 : (o.q == 5) = false := by rw [beq_eq_false_iff_ne]; exact HQ.out 5 (by omega) (by omega)
  have h6 : (o.q == 6) = false := by rw [beq_eq_false_iff_ne]; exact HQ.out 6 (by omega) (by omega)
  have h7 : (o.q == 7) = false := by rw [beq_eq_false_iff_ne]; exact HQ.out 7 (by omega) (by omega)
  have HE := hide (HS1.out.shut8 HSn.out).swap.drop
  clear HS1
  go_wp2
  go_ret
  exact ⟨rfl, HE.out⟩
set_option maxRecDepth 100000 in
set_option maxHeartbeats 6400000 in
theorem ch_open {w0 w : World} {B R : Nat} {Rst : Asn} (hS : Sys w0 w (star (PrA B R) Rst)) (hG : Good Rst) (o : Opr) (two : Bool) (ins : Value) (hq : o.q = 1) :
    Calls Tryz.prog 26 #[tp B, tp R, o.val two ins] w fun x w' => x = .returned (.bool true) ∧ Sys w0 w' (star (PrA B R) Rst) := by
  have S0 := hS.box ((good_pr B R).star hG) o two ins
  obtain ⟨bk, f, hsnd, S1⟩ := S0.swap.open8
  have hgX : Good (star (BxA w.heap.size o two ins) Rst) := (good_bx _ _ _ _).star hG
  have hwb := S1.wb
  have HSn := hide hsnd
  have HW := hide hwb
  have HG := hide hG
  have HGX := hide hgX
  have HS1 := hide S1
  obtain ⟨c0, c1, c2, c3, c4, c5, c6, c7, c8, c9, c10, c11⟩ := S1.bx
  have HQ := hide hq
  clear hS S0 S1 hsnd hgX hwb hG hq
  unfold Opr.val
  go_enter Tryz.func26, Tryz.ntmps26
  go_upto_region 1 with fail
  generalize w.alloc (.cells #[.bool two, .int .i64 o.q, .int .i64 o.e, .int .i64 o.s, .int .i64 o.t, .int .i64 o.a, .int .i64 o.r, .int .i64 o.ck, .int .i64 o.co, .int .i64 o.cs, .int .i64 o.cr, ins] 31) = w1 at *
  generalize w.heap.size = G at *
  rw [HQ.out] at c1
  go_upto_region 3 with fail
  obtain ⟨wd, hwd⟩ : ∃ W, W = w1.drew := ⟨_, rfl⟩
  have HSd : Hid (Sys w0 wd (star (BkA B bk) (star (RbA R bk) (star (BxA G o two ins) Rst)))) := hide (HS1.out.below ((good_bk B bk).star ((good_rb R bk).star HGX.out)) (by rw [hwd]; exact ⟨rfl, rfl, rfl, Nat.le_refl _, fun _ _ => rfl⟩))
  have HS : Hid (Cells12 wd G o two ins) := hide HSd.out.bx
  refine wp_region_held_drew (S := fun W => Cells12 W G o two ins) (by kernel_rfl) (by rw [← hwd]; exact HS.out) (fun _ => ?_)
  rw [← hwd]
  clear hwd HS1
  refine hd_take 0 (o := ⟨some 31, _, _, _, _, _⟩) (tp B) (by kernel_rfl) (by kernel_rfl) (by kernel_rfl) rfl (by rfl) (fun W hSw => by go_simp) (fun _ _ _ h => h) HS.out ?_
  simp only [Act.put, List.setIfInBounds_toArray, List.set_cons_zero, List.set_cons_succ]
  refine hd_take 1 (o := ⟨some 32, _, _, _, _, _⟩) (.pointer (some ⟨G, 2, none⟩)) (by kernel_rfl) (by kernel_rfl) (by kernel_rfl) rfl (by rfl) (fun W hSw => by go_simp) (fun _ _ _ h => h) HS.out ?_
  simp only [Act.put, List.setIfInBounds_toArray, List.set_cons_zero, List.set_cons_succ]
  refine hd_take 2 (o := ⟨some 33, _, _, _, _, _⟩) (.int .i64 o.e) (by kernel_rfl) (by kernel_rfl) (by kernel_rfl) rfl (by rfl) (fun W hSw => by have hc := hSw.c2; go_simp) (fun _ _ _ h => h) HS.out ?_
  simp only [Act.put, List.setIfInBounds_toArray, List.set_cons_zero, List.set_cons_succ]
  refine hd_take 4 (o := ⟨some 35, _, _, _, _, _⟩) (tp R) (by kernel_rfl) (by kernel_rfl) (by kernel_rfl) rfl (by rfl) (fun W hSw => by go_simp) (fun _ _ _ h => h) HS.out ?_
  simp only [Act.put, List.setIfInBounds_toArray, List.set_cons_zero, List.set_cons_succ]
  refine hd_take 5 (o := ⟨some 36, _, _, _, _, _⟩) (.pointer (some ⟨G, 2, none⟩)) (by kernel_rfl) (by kernel_rfl) (by kernel_rfl) rfl (by rfl) (fun W hSw => by go_simp) (fun _ _ _ h => h) HS.out ?_
  simp only [Act.put, List.setIfInBounds_toArray, List.set_cons_zero, List.set_cons_succ]
  refine hd_take 6 (o := ⟨some 37, _, _, _, _, _⟩) (.int .i64 o.e) (by kernel_rfl) (by kernel_rfl) (by kernel_rfl) rfl (by rfl) (fun W hSw => by have hc := hSw.c2; go_simp) (fun _ _ _ h => h) HS.out ?_
  simp only [Act.put, List.setIfInBounds_toArray, List.set_cons_zero, List.set_cons_succ]
  obtain ⟨F1, hb, _, hcl⟩ := HSd.out.call ((good_rb R bk).star HGX.out)
  have HP := hide (open_any wd F1 B bk hb o.e)
  have HC := hide hcl
  clear hb hcl c0 c1 c2 c3 c4 c5 c6 c7 c8 c9 c10 c11
  refine hd_call 3 (o := ⟨some 34, _, _, _, _, _⟩) (by kernel_rfl) rfl (by rfl) (fun K' hK => ?_)
  go_simp
  go_wp2_with (go_at_call 49; refine HP.out.mono ?_; rintro e1 w2 ⟨c, bk2, F2, rfl, h1, h2, h3⟩)
  have HS2 := hide (HC.out _ F2 (BkA B bk2) h1 h2).swap
  have HSt := hide (Step.opn (o := o) HQ.out h3)
  obtain ⟨F3, hr, _, hcl⟩ := HS2.out.call ((good_bk B bk2).star HGX.out)
  have HR := hide (openR_any hr HW.out o.e c h3)
  have HC2 := hide hcl
  clear hr hcl HP HC h1 h2 h3
  refine hK _ _ HS2.out.bx ?_
  clear hK K'
  try simp only [Act.put, List.setIfInBounds_toArray, List.set_cons_zero, List.set_cons_succ]
  refine hd_call 7 (o := ⟨some 38, _, _, _, _, _⟩) (by kernel_rfl) rfl (by rfl) (fun K' hK => ?_)
  go_simp
  go_wp2_with (go_at_call 50; refine HR.out.mono ?_; rintro e1 w3 ⟨rfl, k1, k2⟩)
  have HS3 := hide (HC2.out _ F3 (RbA R bk2) k1 k2)
  have HE := hide (HS3.out.swap.step8 HSn.out HW.out HSt.out).swap.drop
  clear k1 k2 HR HC2
  refine hK _ _ HS3.out.bx ?_
  clear hK K'
  try simp only [Act.put, List.setIfInBounds_toArray, List.set_cons_zero, List.set_cons_succ]
  refine hd_call 8 (o := ⟨some 39, _, _, _, _, _⟩) (by kernel_rfl) rfl (by rfl) (fun K' hK => ?_)
  go_simp
  refine hK _ _ HS3.out.bx ?_
  clear hK K'
  try simp only [Act.put, List.setIfInBounds_toArray, List.set_cons_zero, List.set_cons_succ]
  refine hd_call 9 (o := ⟨some 6, _, _, _, _, _⟩) (by kernel_rfl) rfl (by rfl) (fun K' hK => ?_)
  go_simp
  refine hK _ _ HS3.out.bx ?_
  clear hK K'
  try simp only [Act.put, List.setIfInBounds_toArray, List.set_cons_zero, List.set_cons_succ]
  refine wpAnyH_done (by kernel_rfl) ?_ _
  go_wp2
  go_ret
  exact ⟨rfl, HE.out⟩
end Go.Proofs.YteacmcdmdeckmaaGreat

namespace Go.Proofs.YteacmcdmdeckmaaGreat
open Go.RowKit

def ObA (b : Nat) (cs : Array Value) (t : TypeId) : Asn := fun w H => w.heap[b]? = some (.cells cs t (0, 0)) ∧ ∀ x, H x ↔ x = b
theorem good_ob (b : Nat) (cs : Array Value) (t : TypeId) : Good (ObA b cs t) := by
  refine ⟨?_, ?_⟩
  · rintro W H ⟨h, he⟩ x hx
    rw [(he x).1 hx]; exact (Array.getElem?_eq_some_iff.1 h).1
  · rintro W W' H ⟨h, he⟩ hs hk
    exact ⟨by rw [hk b ((he b).2 rfl)]; exact h, he⟩
theorem Sys.ob {w0 w : World} {A : Asn} (h : Sys w0 w A) (hA : Good A) (cs : Array Value) (t : TypeId) : Sys w0 (w.alloc (.cells cs t)) (star (ObA w.heap.size cs t) A) :=
  h.new hA (Fc := fun b => b = w.heap.size) ⟨heap_alloc_last _ _, fun _ => Iff.rfl⟩ (fun b e => by rw [e]; exact Nat.le_refl _) ((Below.refl _ _).alloc (Nat.le_refl _) _)
theorem Sys.obAt {w0 w : World} {b : Nat} {cs : Array Value} {t : TypeId} {A : Asn} (h : Sys w0 w (star (ObA b cs t) A)) : w.heap[b]? = some (.cells cs t (0, 0)) := by
  obtain ⟨F, hx, _⟩ := h.head
  exact hx
theorem blkc4 {w1 : World} {b : Nat} {x0 x1 x2 x3 : Value} {t : TypeId} (h : w1.heap[b]? = some (.cells #[x0, x1, x2, x3] t (0, 0))) :
    w1.cell? ⟨b, 0, none⟩ = some x0 ∧ w1.cell? ⟨b, 1, none⟩ = some x1 ∧ w1.cell? ⟨b, 2, none⟩ = some x2 ∧ w1.cell? ⟨b, 3, none⟩ = some x3 :=
  ⟨by rw [cell_of_row _ _ _ _ _ _ h]; rfl, by rw [cell_of_row _ _ _ _ _ _ h]; rfl, by rw [cell_of_row _ _ _ _ _ _ h]; rfl, by rw [cell_of_row _ _ _ _ _ _ h]; rfl⟩
set_option maxRecDepth 100000 in
set_option maxHeartbeats 6400000 in
theorem ch_drop {w0 w : World} {B R : Nat} {Rst : Asn} (hS : Sys w0 w (star (PrA B R) Rst)) (hG : Good Rst) (o : Opr) (two : Bool) (ins : Value) (hq : o.q = 5) :
    Calls Tryz.prog 26 #[tp B, tp R, o.val two ins] w fun x w' => x = .returned (.bool true) ∧ Sys w0 w' (star (PrA B R) Rst) := by
  have S0 := hS.box ((good_pr B R).star hG) o two ins
  obtain ⟨bk, f, hsnd, S1⟩ := S0.swap.open8
  have hgX : Good (star (BxA w.heap.size o two ins) Rst) := (good_bx _ _ _ _).star hG
  have hwb := S1.wb
  have HSn := hide hsnd
  have HW := hide hwb
  have HG := hide hG
  have HGX := hide hgX
  have HS1 := hide S1
  obtain ⟨c0, c1, c2, c3, c4, c5, c6, c7, c8, c9, c10, c11⟩ := S1.bx
  have HQ := hide hq
  clear hS S0 S1 hsnd hgX hwb hG hq
  unfold Opr.val
  go_enter Tryz.func26, Tryz.ntmps26
  go_upto_region 1 with fail
  generalize w.alloc (.cells #[.bool two, .int .i64 o.q, .int .i64 o.e, .int .i64 o.s, .int .i64 o.t, .int .i64 o.a, .int .i64 o.r, .int .i64 o.ck, .int .i64 o.co, .int .i64 o.cs, .int .i64 o.cr, ins] 31) = w1 at *
  generalize w.heap.size = G at *
  rw [HQ.out] at c1
  cases hat : atB bk o.e o.s with
  | none =>
    have hP0 := fun F1 hb => dropNone_any w1 F1 B bk hb o.e o.s hat
    have hR0 := fun w3 F3 hr => dropD_none (w := w3) (F := F3) (R := R) hr HW.out o.e o.s hat
    obtain ⟨lc, hlc⟩ : ∃ lc, lcode bk o.e o.s = lc := ⟨_, rfl⟩
    rw [hlc] at hP0
    simp only [hlc] at hR0
    simp only [Rc.cap, Rc.zero] at hP0 hR0
    have HR0 := hide hR0
    have HP0 := hide hP0
    clear hP0 hR0 hlc hat
    obtain ⟨F1, hb, _, hcl⟩ := HS1.out.call ((good_rb R bk).star HGX.out)
    have HP := hide (HP0.out F1 hb)
    have HC := hide hcl
    have HBk := hide hb
    clear hb hcl
    go_wp2_with fail
    refine HP.out.mono ?_
    rintro e1 w2 ⟨rfl, h1⟩
    have HS2 := hide (HC.out _ F1 (BkA B bk) (HBk.out.below h1) (Ext.of_below h1))
    obtain ⟨-, -, d2, d3, -, -, -, -, -, -, -, -⟩ := HS2.out.bx
    clear c0 c1 c2 c3 c4 c5 c6 c7 c8 c9 c10 c11 h1 HBk HP0 HP HC HS1
    go_upto_region 18 with fail
    have HS3 := hide (HS2.out.ob ((good_bk B bk).star ((good_rb R bk).star HGX.out)) #[.int .i64 0, .int .i64 0, .int .i64 0, .int .i64 0] 28).swap.swap2.swap
    obtain ⟨-, -, e2, e3, -, -, -, -, -, -, -, -⟩ := HS3.out.drop.bx
    clear d2 d3 HS2
    generalize w2.alloc (.cells #[.int .i64 0, .int .i64 0, .int .i64 0, .int .i64 0] 28) = w3 at *
    generalize w2.heap.size = g1 at *
    obtain ⟨F3, hr, _, hcl⟩ := HS3.out.call ((good_bk B bk).star ((good_ob g1 #[.int .i64 0, .int .i64 0, .int .i64 0, .int .i64 0] 28).star HGX.out))
    have HR := hide (HR0.out w3 F3 hr)
    have HC2 := hide hcl
    have HRb := hide hr
    clear hr hcl
    go_wp2_with fail
    refine HR.out.mono ?_
    rintro e1 w4 ⟨rfl, k1⟩
    have HS4 := hide (HC2.out _ F3 (RbA R bk) (RbA.below HRb.out k1) (Ext.of_below k1))
    clear e2 e3 k1 HRb HR HC2 HS3
    go_upto_region 19 with fail
    have HS5 := hide (HS4.out.alloc ((good_rb R bk).star ((good_bk B bk).star ((good_ob g1 #[.int .i64 0, .int .i64 0, .int .i64 0, .int .i64 0] 28).star HGX.out))) (.cells #[.int .i64 0, .int .i64 0, .int .i64 0, .int .i64 0] 28))
    have hx2 : (w4.alloc (.cells #[.int .i64 0, .int .i64 0, .int .i64 0, .int .i64 0] 28)).heap[w4.heap.size]? = some (.cells #[.int .i64 0, .int .i64 0, .int .i64 0, .int .i64 0] 28 (0, 0)) := heap_alloc_last _ _
    have hx1 := HS5.out.drop.drop.obAt
    have HE := hide (((HS5.out.swap.shut8 HSn.out).swap.drop).swap.drop)
    clear HS4 HS5
    generalize w4.alloc (.cells #[.int .i64 0, .int .i64 0, .int .i64 0, .int .i64 0] 28) = w5 at *
    generalize w4.heap.size = g2 at *
    obtain ⟨p0, p1, p2, p3⟩ := blkc4 hx1
    obtain ⟨q0, q1, q2, q3⟩ := blkc4 hx2
    clear hx1 hx2
    go_wp2
    go_ret
    exact ⟨rfl, HE.out⟩
  | some r =>
    obtain ⟨i, j, _, ei, ej, _, _, _⟩ := atB_some hat
    rw [ei, ej] at hat
    rw [ei] at c2
    rw [ej] at c3
    have hP0 := fun F1 hb => dropSome_any w1 F1 B bk hb i j r hat
    have hR0 := fun w3 F3 bk2 hr h3 => dropD_some (w := w3) (F := F3) (R := R) (bk' := bk2) hr HW.out i j r hat h3
    simp only [Rc.cap] at hP0 hR0
    have HR0 := hide hR0
    have HP0 := hide hP0
    have Hat := hide (And.intro ei (And.intro ej hat))
    clear hP0 hR0 hat ei ej
    obtain ⟨F1, hb, _, hcl⟩ := HS1.out.call ((good_rb R bk).star HGX.out)
    have HP := hide (HP0.out F1 hb)
    have HC := hide hcl
    clear hb hcl
    go_wp2_with fail
    refine HP.out.mono ?_
    rintro e1 w2 ⟨rfl, bk2, h1, h2, h3⟩
    have H3 := hide h3
    have HS2 := hide (HC.out _ F1 (BkA B bk2) h1 h2)
    obtain ⟨-, -, d2, d3, -, -, -, -, -, -, -, -⟩ := HS2.out.bx
    clear c0 c1 c2 c3 c4 c5 c6 c7 c8 c9 c10 c11 h1 h2 h3 HP0 HP HC HS1
    go_upto_region 18 with fail
    have HS3 := hide (HS2.out.ob ((good_bk B bk2).star ((good_rb R bk).star HGX.out)) #[.int .i64 r.k, .int .i64 r.o, .int .i64 r.s, .int .i64 r.r] 28).swap.swap2.swap
    obtain ⟨-, -, e2, e3, -, -, -, -, -, -, -, -⟩ := HS3.out.drop.bx
    clear d2 d3 HS2
    generalize w2.alloc (.cells #[.int .i64 r.k, .int .i64 r.o, .int .i64 r.s, .int .i64 r.r] 28) = w3 at *
    generalize w2.heap.size = g1 at *
    rw [Hat.out.1] at e2
    rw [Hat.out.2.1] at e3
    obtain ⟨F3, hr, _, hcl⟩ := HS3.out.call ((good_bk B bk2).star ((good_ob g1 #[.int .i64 r.k, .int .i64 r.o, .int .i64 r.s, .int .i64 r.r] 28).star HGX.out))
    have HR := hide (HR0.out w3 F3 bk2 hr H3.out)
    have HC2 := hide hcl
    clear hr hcl
    go_wp2_with fail
    refine HR.out.mono ?_
    rintro e1 w4 ⟨rfl, F4, k1, k2⟩
    have HS4 := hide (HC2.out _ F4 (RbA R bk2) k1 k2)
    clear e2 e3 k1 k2 HR HC2 HS3
    go_upto_region 19 with fail
    have HS5 := hide (HS4.out.alloc ((good_rb R bk2).star ((good_bk B bk2).star ((good_ob g1 #[.int .i64 r.k, .int .i64 r.o, .int .i64 r.s, .int .i64 r.r] 28).star HGX.out))) (.cells #[.int .i64 r.k, .int .i64 r.o, .int .i64 r.s, .int .i64 r.r] 28))
    have hx2 : (w4.alloc (.cells #[.int .i64 r.k, .int .i64 r.o, .int .i64 r.s, .int .i64 r.r] 28)).heap[w4.heap.size]? = some (.cells #[.int .i64 r.k, .int .i64 r.o, .int .i64 r.s, .int .i64 r.r] 28 (0, 0)) := heap_alloc_last _ _
    have hx1 := HS5.out.drop.drop.obAt
    have HE := hide (((HS5.out.swap.step8 HSn.out HW.out (Step.drop (o := o) HQ.out Hat.out.1 Hat.out.2.1 Hat.out.2.2 H3.out)).swap.drop).swap.drop)
    clear HS4 HS5
    generalize w4.alloc (.cells #[.int .i64 r.k, .int .i64 r.o, .int .i64 r.s, .int .i64 r.r] 28) = w5 at *
    generalize w4.heap.size = g2 at *
    obtain ⟨p0, p1, p2, p3⟩ := blkc4 hx1
    obtain ⟨q0, q1, q2, q3⟩ := blkc4 hx2
    clear hx1 hx2
    go_wp2
    go_ret
    exact ⟨rfl, HE.out⟩
end Go.Proofs.YteacmcdmdeckmaaGreat

namespace Go.Proofs.YteacmcdmdeckmaaGreat
open Go.RowKit

/-- a row of the call's own -/
def RwA (u : Value) (n : Nat) (xs : List Value) : Asn := fun w H => w.ownsRow 0 78 6 u n xs ∧ ∀ b, H b ↔ u.ownBlock = some b
theorem good_rw (u : Value) (n : Nat) (xs : List Value) : Good (RwA u n xs) := by
  refine ⟨?_, ?_⟩
  · rintro W H ⟨h, he⟩ b hb
    exact ownsRow_lt h ((he b).1 hb)
  · rintro W W' H ⟨h, he⟩ hs hk
    exact ⟨ownsRow_keep h (fun b hb => hk b ((he b).2 hb)), he⟩
theorem Sys.callRow {w0 w : World} {X R : Asn} (h : Sys w0 w (star X R)) (hX : Good X) (hR : Good R) : ∃ F, X w F ∧ ∀ (w' : World) (X' : Asn) (u : Value) (n : Nat) (xs : List Value), X' w' F → Ext F w F w' → w'.ownsRow w.heap.size 78 6 u n xs → Sys w0 w' (star (RwA u n xs) (star X' R)) := by
  obtain ⟨H, ⟨H1, H2, h1, h2, h3, h4⟩, hl, hb⟩ := h
  refine ⟨H1, h1, fun w' X' u n xs hT hE ho => ?_⟩
  have hlt1 := hX.lt h1
  have hlt2 := hR.lt h2
  have key : star X' R w' H := ⟨H1, H2, hT, hR.keep h2 hE.mod.size (fun b hb2 => hE.mod.block b (hlt2 b hb2) (fun hb1 => h4 b hb1 hb2)), h3, h4⟩
  refine ⟨fun b => u.ownBlock = some b ∨ H b, ⟨fun b => u.ownBlock = some b, H, ⟨own_base0 ho, fun _ => Iff.rfl⟩, key, fun _ => Iff.rfl, fun b hb1 hb2 => ?_⟩, fun b hb' => ?_, ?_⟩
  · have h5 := (World.ownsRow.lt ho b hb1).1
    rcases (h3 b).1 hb2 with q | q
    · have := hlt1 b q; omega
    · have := hlt2 b q; omega
  · rcases hb' with q | q
    · have h5 := (World.ownsRow.lt ho b q).1
      have := hb.size; omega
    · exact hl b q
  · exact hb.trans (hE.mod.below (fun b hb' => hl b ((h3 b).2 (.inl hb'))) hb.size)
theorem Sys.rwAt {w0 w : World} {u : Value} {n : Nat} {xs : List Value} {A : Asn} (h : Sys w0 w (star (RwA u n xs) A)) : w.ownsRow 0 78 6 u n xs := by
  obtain ⟨F, hx, _⟩ := h.head
  exact hx
/-- rows of capabilities as they are told -/
def Hl (n : Nat) (xs : List Value) : Prop := ∃ K : List Rw, n = K.length ∧ xs = encG K ∧ K.length ≤ 768
theorem hl_nil : Hl 0 [] := ⟨[], rfl, rfl, by simp⟩
theorem hl_one {bk : List (Option Lst)} (hw : Wb bk) {i : Nat} {l : Lst} (hl : bk[i]? = some (some l)) : Hl (prs l 0).length (encHs (i : Int) (prs l 0)) := by
  refine ⟨lrw i l, by simp [lrw], (encG_lrw i l).symm, ?_⟩
  have : (prs l 0).length ≤ 48 := by rw [prs_len, ← hw.l48 i l hl]; exact count_le
  simp [lrw]; omega
theorem hl_cut {bk : List (Option Lst)} (hw : Wb bk) {ps : List (Nat × Nat)} (hc : Cuts bk ps) : Hl ps.length (encT bk ps) := by
  refine ⟨rws bk ps, (rws_len hc.2).symm, encT_rws bk ps, ?_⟩
  rw [rws_len hc.2]
  refine Nat.le_trans (nodup_le ps (pls (fun _ => true) bk) (hc.1.imp PLt.ne) (fun x hx => ?_)) hw.p8
  obtain ⟨a, b⟩ := x
  obtain ⟨r, hr⟩ := hc.2 _ hx
  exact mem_pls.2 ⟨r, hr, rfl⟩
theorem same_hl {w : World} {b1 b2 n : Nat} {u1 u2 : Value} {xs : List Value} (hl : Hl n xs) (h1 : w.ownsRow b1 78 6 u1 n xs) (h2 : w.ownsRow b2 78 6 u2 n xs) : Calls Tryz.prog 17 #[u1, u2] w fun x w' => x = .returned (.bool true) ∧ Below w.heap.size w w' := by
  obtain ⟨K, rfl, rfl, h768⟩ := hl
  exact same_any h1 h2 h768
section
variable {w1 : World} {F1 : Nat → Prop} {B R : Nat} {bk : List (Option Lst)} {f : Int → Int → Nat} {o : Opr}
theorem shut_both (h : Book w1 F1 B bk) (hq : o.q = 2) : Calls Tryz.prog 51 #[tp B, .int .i64 o.e] w1 fun x w2 => ∃ (u1 : Value) (c : Int) (n : Nat) (xs : List Value) (bk2 : List (Option Lst)), x = .returned (.tuple #[u1, .int .i64 c]) ∧ w2.ownsRow w1.heap.size 78 6 u1 n xs ∧ Book w2 F1 B bk2 ∧ Ext F1 w1 F1 w2 ∧ Hl n xs ∧ Step o bk bk2 ∧ ∀ w3 F3, RbA R bk w3 F3 → Calls Tryz.prog 52 #[tp R, .int .i64 o.e] w3 fun x w4 => ∃ u2 F4, x = .returned (.tuple #[u2, .int .i64 c]) ∧ w4.ownsRow w3.heap.size 78 6 u2 n xs ∧ RbA R bk2 w4 F4 ∧ Ext F3 w3 F4 w4 := by
  have hw := h.wb
  cases hl : look bk o.e with
  | none =>
    refine (shut_none w1 F1 B bk h o.e hl).mono ?_
    rintro x w2 ⟨rfl, hb⟩
    refine ⟨_, _, 0, [], bk, rfl, World.ownsRow_nil _ _ _ _, h.below hb, Ext.of_below hb, hl_nil, .shut0 hq hl, fun w3 F3 hr => ?_⟩
    refine (shutD_none hr hw o.e hl).mono ?_
    rintro x w4 ⟨rfl, rfl⟩
    exact ⟨_, F3, rfl, World.ownsRow_nil _ _ _ _, hr, Ext.refl _ _⟩
  | some l =>
    obtain ⟨i, ei, hi⟩ := look_open hl
    rw [ei]
    refine (shut_some w1 F1 B bk h i l hi).mono ?_
    rintro x w2 ⟨v, bk', rfl, h1, h2, h3, h4⟩
    refine ⟨_, _, _, _, bk'.set i none, rfl, h1, h2, h3, hl_one hw hi, .shut hq ei hi h4, fun w3 F3 hr => ?_⟩
    refine (shutD_some hr hw i l hi h4).mono ?_
    rintro x w4 ⟨u, F4, rfl, k1, k2, k3⟩
    exact ⟨u, F4, rfl, k1, k2, k3⟩
theorem revoke_both (h : Book w1 F1 B bk) (hf : Snd bk f) (hq : o.q = 6) : Calls Tryz.prog 59 #[tp B, .int .i64 o.e, .int .i64 o.s] w1 fun x w2 => ∃ (u1 : Value) (c : Int) (n : Nat) (xs : List Value) (bk2 : List (Option Lst)), x = .returned (.tuple #[u1, .int .i64 c]) ∧ w2.ownsRow w1.heap.size 78 6 u1 n xs ∧ Book w2 F1 B bk2 ∧ Ext F1 w1 F1 w2 ∧ Hl n xs ∧ Step o bk bk2 ∧ ∀ w3 F3, RbA R bk w3 F3 → Calls Tryz.prog 60 #[tp R, .int .i64 o.e, .int .i64 o.s] w3 fun x w4 => ∃ u2 F4, x = .returned (.tuple #[u2, .int .i64 c]) ∧ w4.ownsRow w3.heap.size 78 6 u2 n xs ∧ RbA R bk2 w4 F4 ∧ Ext F3 w3 F4 w4 := by
  have hw := h.wb
  cases hl : atB bk o.e o.s with
  | none =>
    refine (revokeNone_any w1 F1 B bk h o.e o.s hl).mono ?_
    rintro x w2 ⟨rfl, hb⟩
    refine ⟨_, _, 0, [], bk, rfl, World.ownsRow_nil _ _ _ _, h.below hb, Ext.of_below hb, hl_nil, .revoke0 hq hl, fun w3 F3 hr => ?_⟩
    refine (revokeD_none hr hw o.e o.s hl).mono ?_
    rintro x w4 ⟨rfl, hb4⟩
    exact ⟨_, F3, rfl, World.ownsRow_nil _ _ _ _, hr.below hb4, Ext.of_below hb4⟩
  | some r =>
    obtain ⟨i, j, _, ei, ej, _, _, _⟩ := atB_some hl
    have hl' := hl
    rw [ei, ej] at hl'
    rw [ei, ej]
    refine (revokeSome_any w1 F1 B bk h f hf.rk i j r hl').mono ?_
    rintro x w2 ⟨v, ps, n, rfl, hd, hp1, hp2, h1, h2, h3⟩
    have hc : Cuts bk ps := ⟨hp1, fun p hp => bel_mem _ (hp2.mem_iff.1 hp)⟩
    refine ⟨_, _, _, _, rmv bk ps, rfl, h1, h2, h3, hl_cut hw hc, .revoke hq ei ej hl' hd hp1 hp2, fun w3 F3 hr => ?_⟩
    refine (revokeD_some hr hw hf.rk i j r hl' hd hp1 hp2).mono ?_
    rintro x w4 ⟨u, F4, rfl, k1, k2, k3⟩
    exact ⟨u, F4, rfl, k1, k2, k3⟩
theorem purge_both (h : Book w1 F1 B bk) (hq : o.q = 7) : Calls Tryz.prog 61 #[tp B, .int .i64 o.ck, .int .i64 o.co] w1 fun x w2 => ∃ (u1 : Value) (c : Int) (n : Nat) (xs : List Value) (bk2 : List (Option Lst)), x = .returned (u1) ∧ w2.ownsRow w1.heap.size 78 6 u1 n xs ∧ Book w2 F1 B bk2 ∧ Ext F1 w1 F1 w2 ∧ Hl n xs ∧ c = 0 ∧ Step o bk bk2 ∧ ∀ w3 F3, RbA R bk w3 F3 → Calls Tryz.prog 62 #[tp R, .int .i64 o.ck, .int .i64 o.co] w3 fun x w4 => ∃ u2 F4, x = .returned (u2) ∧ w4.ownsRow w3.heap.size 78 6 u2 n xs ∧ RbA R bk2 w4 F4 ∧ Ext F3 w3 F4 w4 := by
  have hw := h.wb
  refine (purge_any w1 F1 B bk h o.ck o.co).mono ?_
  rintro x w2 ⟨v, rfl, h1, h2, h3⟩
  have hc : Cuts bk (pls (fun r => decide (r.k = o.ck) && decide (r.o = o.co)) bk) := ⟨pls_sorted _ bk, fun p hp => by
    obtain ⟨r, hr, _⟩ := mem_pls.1 (show (p.1, p.2) ∈ _ from hp)
    exact ⟨r, hr⟩⟩
  refine ⟨v, 0, _, _, _, rfl, h1, h2, h3, hl_cut hw hc, rfl, .purge hq, fun w3 F3 hr => ?_⟩
  refine (purgeD_any hr hw o.ck o.co _ rfl).mono ?_
  rintro x w4 ⟨u, F4, rfl, k1, k2, k3⟩
  exact ⟨u, F4, rfl, k1, k2, k3⟩
end
set_option maxRecDepth 100000 in
set_option maxHeartbeats 6400000 in
theorem ch_shut {w0 w : World} {B R : Nat} {Rst : Asn} (hS : Sys w0 w (star (PrA B R) Rst)) (hG : Good Rst) (o : Opr) (two : Bool) (ins : Value) (hq : o.q = 2) :
    Calls Tryz.prog 26 #[tp B, tp R, o.val two ins] w fun x w' => x = .returned (.bool true) ∧ Sys w0 w' (star (PrA B R) Rst) := by
  have S0 := hS.box ((good_pr B R).star hG) o two ins
  obtain ⟨bk, f, hsnd, S1⟩ := S0.swap.open8
  have hgX : Good (star (BxA w.heap.size o two ins) Rst) := (good_bx _ _ _ _).star hG
  have hwb := S1.wb
  have HSn := hide hsnd
  have HW := hide hwb
  have HG := hide hG
  have HGX := hide hgX
  have HS1 := hide S1
  obtain ⟨c0, c1, c2, c3, c4, c5, c6, c7, c8, c9, c10, c11⟩ := S1.bx
  have HQ := hide hq
  clear hS S0 S1 hsnd hgX hwb hG hq
  unfold Opr.val
  go_enter Tryz.func26, Tryz.ntmps26
  go_upto_region 1 with fail
  generalize w.alloc (.cells #[.bool two, .int .i64 o.q, .int .i64 o.e, .int .i64 o.s, .int .i64 o.t, .int .i64 o.a, .int .i64 o.r, .int .i64 o.ck, .int .i64 o.co, .int .i64 o.cs, .int .i64 o.cr, ins] 31) = w1 at *
  generalize w.heap.size = G at *
  rw [HQ.out] at c1
  obtain ⟨F1, hb, hcl⟩ := HS1.out.callRow (good_bk B bk) ((good_rb R bk).star HGX.out)
  have HP := hide (shut_both (R := R) hb HQ.out)
  have HC := hide hcl
  clear hb hcl
  go_wp2_with fail
  refine HP.out.mono ?_
  rintro e1 w2 ⟨u1, c, n, xs, bk2, rfl, h1, h2, h3, h4, h5, h6⟩
  have HS2 := hide (HC.out w2 (BkA B bk2) u1 n xs h2 h3 h1).swap.swap2.swap
  have HSt := hide h5
  have HHl := hide h4
  obtain ⟨-, -, d2, -, -, -, -, -, -, -, -, -⟩ := HS2.out.drop.bx
  obtain ⟨F3, hr, _, hcl⟩ := HS2.out.call ((good_bk B bk2).star ((good_rw u1 n xs).star HGX.out))
  have HR := hide (h6 w2 F3 hr)
  have HC2 := hide hcl
  clear c0 c1 c2 c3 c4 c5 c6 c7 c8 c9 c10 c11 h1 h2 h3 h4 h5 h6 hr hcl HP HC HS1
  go_wp2_with fail
  refine HR.out.mono ?_
  rintro e1 w3 ⟨u2, F4, rfl, k1, k2, k3⟩
  have HS3 := hide (HC2.out _ F4 (RbA R bk2) k2 k3)
  have HSm := hide (same_hl HHl.out HS3.out.drop.drop.rwAt k1)
  clear k1 k2 k3 HR HC2 d2
  go_wp2_with fail
  refine HSm.out.mono ?_
  rintro e1 w4 ⟨rfl, hb4⟩
  have HE := hide (((HS3.out.below ((good_rb R bk2).star ((good_bk B bk2).star ((good_rw u1 n xs).star HGX.out))) hb4).swap.step8 HSn.out HW.out HSt.out).swap.drop).swap.drop
  clear hb4 HSm HS3
  go_wp2
  go_ret
  exact ⟨rfl, HE.out⟩
set_option maxRecDepth 100000 in
set_option maxHeartbeats 6400000 in
theorem ch_revoke {w0 w : World} {B R : Nat} {Rst : Asn} (hS : Sys w0 w (star (PrA B R) Rst)) (hG : Good Rst) (o : Opr) (two : Bool) (ins : Value) (hq : o.q = 6) :
    Calls Tryz.prog 26 #[tp B, tp R, o.val two ins] w fun x w' => x = .returned (.bool true) ∧ Sys w0 w' (star (PrA B R) Rst) := by
  have S0 := hS.box ((good_pr B R).star hG) o two ins
  obtain ⟨bk, f, hsnd, S1⟩ := S0.swap.open8
  have hgX : Good (star (BxA w.heap.size o two ins) Rst) := (good_bx _ _ _ _).star hG
  have hwb := S1.wb
  have HSn := hide hsnd
  have HW := hide hwb
  have HG := hide hG
  have HGX := hide hgX
  have HS1 := hide S1
  obtain ⟨c0, c1, c2, c3, c4, c5, c6, c7, c8, c9, c10, c11⟩ := S1.bx
  have HQ := hide hq
  clear hS S0 S1 hsnd hgX hwb hG hq
  unfold Opr.val
  go_enter Tryz.func26, Tryz.ntmps26
  go_upto_region 1 with fail
  generalize w.alloc (.cells #[.bool two, .int .i64 o.q, .int .i64 o.e, .int .i64 o.s, .int .i64 o.t, .int .i64 o.a, .int .i64 o.r, .int .i64 o.ck, .int .i64 o.co, .int .i64 o.cs, .int .i64 o.cr, ins] 31) = w1 at *
  generalize w.heap.size = G at *
  rw [HQ.out] at c1
  obtain ⟨F1, hb, hcl⟩ := HS1.out.callRow (good_bk B bk) ((good_rb R bk).star HGX.out)
  have HP := hide (revoke_both (R := R) hb HSn.out HQ.out)
  have HC := hide hcl
  clear hb hcl
  go_wp2_with fail
  refine HP.out.mono ?_
  rintro e1 w2 ⟨u1, c, n, xs, bk2, rfl, h1, h2, h3, h4, h5, h6⟩
  have HS2 := hide (HC.out w2 (BkA B bk2) u1 n xs h2 h3 h1).swap.swap2.swap
  have HSt := hide h5
  have HHl := hide h4
  obtain ⟨-, -, d2, d3, -, -, -, -, -, -, -, -⟩ := HS2.out.drop.bx
  obtain ⟨F3, hr, _, hcl⟩ := HS2.out.call ((good_bk B bk2).star ((good_rw u1 n xs).star HGX.out))
  have HR := hide (h6 w2 F3 hr)
  have HC2 := hide hcl
  clear c0 c1 c2 c3 c4 c5 c6 c7 c8 c9 c10 c11 h1 h2 h3 h4 h5 h6 hr hcl HP HC HS1
  go_wp2_with fail
  refine HR.out.mono ?_
  rintro e1 w3 ⟨u2, F4, rfl, k1, k2, k3⟩
  have HS3 := hide (HC2.out _ F4 (RbA R bk2) k2 k3)
  have HSm := hide (same_hl HHl.out HS3.out.drop.drop.rwAt k1)
  clear k1 k2 k3 HR HC2 d2 d3
  go_wp2_with fail
  refine HSm.out.mono ?_
  rintro e1 w4 ⟨rfl, hb4⟩
  have HE := hide (((HS3.out.below ((good_rb R bk2).star ((good_bk B bk2).star ((good_rw u1 n xs).star HGX.out))) hb4).swap.step8 HSn.out HW.out HSt.out).swap.drop).swap.drop
  clear hb4 HSm HS3
  go_wp2
  go_ret
  exact ⟨rfl, HE.out⟩
set_option maxRecDepth 100000 in
set_option maxHeartbeats 6400000 in
theorem ch_purge {w0 w : World} {B R : Nat} {Rst : Asn} (hS : Sys w0 w (star (PrA B R) Rst)) (hG : Good Rst) (o : Opr) (two : Bool) (ins : Value) (hq : o.q = 7) :
    Calls Tryz.prog 26 #[tp B, tp R, o.val two ins] w fun x w' => x = .returned (.bool true) ∧ Sys w0 w' (star (PrA B R) Rst) := by
  have S0 := hS.box ((good_pr B R).star hG) o two ins
  obtain ⟨bk, f, hsnd, S1⟩ := S0.swap.open8
  have hgX : Good (star (BxA w.heap.size o two ins) Rst) := (good_bx _ _ _ _).star hG
  have hwb := S1.wb
  have HSn := hide hsnd
  have HW := hide hwb
  have HG := hide hG
  have HGX := hide hgX
  have HS1 := hide S1
  obtain ⟨c0, c1, c2, c3, c4, c5, c6, c7, c8, c9, c10, c11⟩ := S1.bx
  have HQ := hide hq
  clear hS S0 S1 hsnd hgX hwb hG hq
  unfold Opr.val
  go_enter Tryz.func26, Tryz.ntmps26
  go_upto_region 1 with fail
  generalize w.alloc (.cells #[.bool two, .int .i64 o.q, .int .i64 o.e, .int .i64 o.s, .int .i64 o.t, .int .i64 o.a, .int .i64 o.r, .int .i64 o.ck, .int .i64 o.co, .int .i64 o.cs, .int .i64 o.cr, ins] 31) = w1 at *
  generalize w.heap.size = G at *
  rw [HQ.out] at c1
  go_upto_region 25 with fail
  obtain ⟨wd, hwd⟩ : ∃ W, W = w1.drew := ⟨_, rfl⟩
  have HSd : Hid (Sys w0 wd (star (BkA B bk) (star (RbA R bk) (star (BxA G o two ins) Rst)))) := hide (HS1.out.below ((good_bk B bk).star ((good_rb R bk).star HGX.out)) (by rw [hwd]; exact ⟨rfl, rfl, rfl, Nat.le_refl _, fun _ _ => rfl⟩))
  have HS : Hid (Cells12 wd G o two ins) := hide HSd.out.bx
  refine wp_region_held_drew (S := fun W => Cells12 W G o two ins) (by kernel_rfl) (by rw [← hwd]; exact HS.out) (fun _ => ?_)
  rw [← hwd]
  clear hwd HS1
  refine hd_take 0 (o := ⟨some 194, _, _, _, _, _⟩) (tp B) (by kernel_rfl) (by kernel_rfl) (by kernel_rfl) rfl (by rfl) (fun W hSw => by go_simp) (fun _ _ _ h => h) HS.out ?_
  simp only [Act.put, List.setIfInBounds_toArray, List.set_cons_zero, List.set_cons_succ]
  refine hd_take 1 (o := ⟨some 195, _, _, _, _, _⟩) (.pointer (some ⟨G, 7, none⟩)) (by kernel_rfl) (by kernel_rfl) (by kernel_rfl) rfl (by rfl) (fun W hSw => by go_simp) (fun _ _ _ h => h) HS.out ?_
  simp only [Act.put, List.setIfInBounds_toArray, List.set_cons_zero, List.set_cons_succ]
  refine hd_take 2 (o := ⟨some 196, _, _, _, _, _⟩) (.pointer (some ⟨G, 7, none⟩)) (by kernel_rfl) (by kernel_rfl) (by kernel_rfl) rfl (by rfl) (fun W hSw => by go_simp) (fun _ _ _ h => h) HS.out ?_
  simp only [Act.put, List.setIfInBounds_toArray, List.set_cons_zero, List.set_cons_succ]
  refine hd_take 3 (o := ⟨some 197, _, _, _, _, _⟩) (.int .i64 o.ck) (by kernel_rfl) (by kernel_rfl) (by kernel_rfl) rfl (by rfl) (fun W hSw => by have hc := hSw.c7; go_simp) (fun _ _ _ h => h) HS.out ?_
  simp only [Act.put, List.setIfInBounds_toArray, List.set_cons_zero, List.set_cons_succ]
  refine hd_take 4 (o := ⟨some 198, _, _, _, _, _⟩) (.pointer (some ⟨G, 7, none⟩)) (by kernel_rfl) (by kernel_rfl) (by kernel_rfl) rfl (by rfl) (fun W hSw => by go_simp) (fun _ _ _ h => h) HS.out ?_
  simp only [Act.put, List.setIfInBounds_toArray, List.set_cons_zero, List.set_cons_succ]
  refine hd_take 5 (o := ⟨some 199, _, _, _, _, _⟩) (.pointer (some ⟨G, 8, none⟩)) (by kernel_rfl) (by kernel_rfl) (by kernel_rfl) rfl (by rfl) (fun W hSw => by go_simp) (fun _ _ _ h => h) HS.out ?_
  simp only [Act.put, List.setIfInBounds_toArray, List.set_cons_zero, List.set_cons_succ]
  refine hd_take 6 (o := ⟨some 200, _, _, _, _, _⟩) (.int .i64 o.co) (by kernel_rfl) (by kernel_rfl) (by kernel_rfl) rfl (by rfl) (fun W hSw => by have hc := hSw.c8; go_simp) (fun _ _ _ h => h) HS.out ?_
  simp only [Act.put, List.setIfInBounds_toArray, List.set_cons_zero, List.set_cons_succ]
  refine hd_take 8 (o := ⟨some 202, _, _, _, _, _⟩) (tp R) (by kernel_rfl) (by kernel_rfl) (by kernel_rfl) rfl (by rfl) (fun W hSw => by go_simp) (fun _ _ _ h => h) HS.out ?_
  simp only [Act.put, List.setIfInBounds_toArray, List.set_cons_zero, List.set_cons_succ]
  refine hd_take 9 (o := ⟨some 203, _, _, _, _, _⟩) (.pointer (some ⟨G, 7, none⟩)) (by kernel_rfl) (by kernel_rfl) (by kernel_rfl) rfl (by rfl) (fun W hSw => by go_simp) (fun _ _ _ h => h) HS.out ?_
  simp only [Act.put, List.setIfInBounds_toArray, List.set_cons_zero, List.set_cons_succ]
  refine hd_take 10 (o := ⟨some 204, _, _, _, _, _⟩) (.pointer (some ⟨G, 7, none⟩)) (by kernel_rfl) (by kernel_rfl) (by kernel_rfl) rfl (by rfl) (fun W hSw => by go_simp) (fun _ _ _ h => h) HS.out ?_
  simp only [Act.put, List.setIfInBounds_toArray, List.set_cons_zero, List.set_cons_succ]
  refine hd_take 11 (o := ⟨some 205, _, _, _, _, _⟩) (.int .i64 o.ck) (by kernel_rfl) (by kernel_rfl) (by kernel_rfl) rfl (by rfl) (fun W hSw => by have hc := hSw.c7; go_simp) (fun _ _ _ h => h) HS.out ?_
  simp only [Act.put, List.setIfInBounds_toArray, List.set_cons_zero, List.set_cons_succ]
  refine hd_take 12 (o := ⟨some 206, _, _, _, _, _⟩) (.pointer (some ⟨G, 7, none⟩)) (by kernel_rfl) (by kernel_rfl) (by kernel_rfl) rfl (by rfl) (fun W hSw => by go_simp) (fun _ _ _ h => h) HS.out ?_
  simp only [Act.put, List.setIfInBounds_toArray, List.set_cons_zero, List.set_cons_succ]
  refine hd_take 13 (o := ⟨some 207, _, _, _, _, _⟩) (.pointer (some ⟨G, 8, none⟩)) (by kernel_rfl) (by kernel_rfl) (by kernel_rfl) rfl (by rfl) (fun W hSw => by go_simp) (fun _ _ _ h => h) HS.out ?_
  simp only [Act.put, List.setIfInBounds_toArray, List.set_cons_zero, List.set_cons_succ]
  refine hd_take 14 (o := ⟨some 208, _, _, _, _, _⟩) (.int .i64 o.co) (by kernel_rfl) (by kernel_rfl) (by kernel_rfl) rfl (by rfl) (fun W hSw => by have hc := hSw.c8; go_simp) (fun _ _ _ h => h) HS.out ?_
  simp only [Act.put, List.setIfInBounds_toArray, List.set_cons_zero, List.set_cons_succ]
  obtain ⟨F1, hb, hcl⟩ := HSd.out.callRow (good_bk B bk) ((good_rb R bk).star HGX.out)
  have HP := hide (purge_both (R := R) hb HQ.out)
  have HC := hide hcl
  clear hb hcl c0 c1 c2 c3 c4 c5 c6 c7 c8 c9 c10 c11
  refine hd_call 7 (o := ⟨some 201, _, _, _, _, _⟩) (by kernel_rfl) rfl (by rfl) (fun K' hK => ?_)
  go_simp
  go_wp2_with (go_at_call 61; refine HP.out.mono ?_; rintro e1 w2 ⟨u1, c, n, xs, bk2, rfl, h1, h2, h3, h4, -, h5, h6⟩)
  have HS2 := hide (HC.out w2 (BkA B bk2) u1 n xs h2 h3 h1).swap.swap2.swap
  have HSt := hide h5
  have HHl := hide h4
  obtain ⟨F3, hr, _, hcl⟩ := HS2.out.call ((good_bk B bk2).star ((good_rw u1 n xs).star HGX.out))
  have HR := hide (h6 w2 F3 hr)
  have HC2 := hide hcl
  clear h1 h2 h3 h4 h5 h6 hr hcl HP HC
  refine hK _ _ HS2.out.drop.bx ?_
  clear hK K'
  try simp only [Act.put, List.setIfInBounds_toArray, List.set_cons_zero, List.set_cons_succ]
  refine hd_call 15 (o := ⟨some 209, _, _, _, _, _⟩) (by kernel_rfl) rfl (by rfl) (fun K' hK => ?_)
  go_simp
  go_wp2_with (go_at_call 62; refine HR.out.mono ?_; rintro e1 w3 ⟨u2, F4, rfl, k1, k2, k3⟩)
  have HS3 := hide (HC2.out _ F4 (RbA R bk2) k2 k3)
  have HSm := hide (same_hl HHl.out HS3.out.drop.drop.rwAt k1)
  clear k1 k2 k3 HR HC2
  refine hK _ _ HS3.out.drop.bx ?_
  clear hK K'
  try simp only [Act.put, List.setIfInBounds_toArray, List.set_cons_zero, List.set_cons_succ]
  refine hd_call 16 (o := ⟨some 210, _, _, _, _, _⟩) (by kernel_rfl) rfl (by rfl) (fun K' hK => ?_)
  go_simp
  go_wp2_with (go_at_call 17; refine HSm.out.mono ?_; rintro e1 w4 ⟨rfl, hb4⟩)
  have HS4 := hide (HS3.out.below ((good_rb R bk2).star ((good_bk B bk2).star ((good_rw u1 n xs).star HGX.out))) hb4)
  have HE := hide ((HS4.out.swap.step8 HSn.out HW.out HSt.out).swap.drop).swap.drop
  clear hb4 HSm HS3
  refine hK _ _ HS4.out.drop.bx ?_
  clear hK K'
  try simp only [Act.put, List.setIfInBounds_toArray, List.set_cons_zero, List.set_cons_succ]
  refine hd_call 17 (o := ⟨some 6, _, _, _, _, _⟩) (by kernel_rfl) rfl (by rfl) (fun K' hK => ?_)
  go_simp
  refine hK _ _ HS4.out.drop.bx ?_
  clear hK K'
  try simp only [Act.put, List.setIfInBounds_toArray, List.set_cons_zero, List.set_cons_succ]
  refine wpAnyH_done (by kernel_rfl) ?_ _
  go_wp2
  go_ret
  exact ⟨rfl, HE.out⟩
end Go.Proofs.YteacmcdmdeckmaaGreat
