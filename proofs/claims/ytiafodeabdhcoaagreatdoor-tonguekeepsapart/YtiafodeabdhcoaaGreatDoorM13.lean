import Derived.Test.YtiafodeabdhcoaaGreatDoorM12
namespace Go.Proofs.YtiafodeabdhcoaaGreatDoor
open Go.RowKit
/-- what a declaration keeps -/
structure Kd (g mp : Nat) (w w' : World) : Prop where
  os : w'.os = w.os
  tape : w'.tape = w.tape
  output : w'.output = w.output
  size : w.heap.size ≤ w'.heap.size
  block : ∀ k, k < g → k ≠ mp → w'.heap[k]? = w.heap[k]?
theorem Kd.of {g mp : Nat} {w w' : World} (h : Kp g w w') (hg : g < w.heap.size) : Kd g mp w w' := ⟨h.os, h.tape, h.output, h.size, fun k hk _ => h.block k (by omega) (by omega)⟩
def DcPost (w : World) (g : Nat) (ts : List Tk) (F : Fx) (r' : Rd) (e : Ending) (w' : World) : Prop := e = .returned (.tuple #[]) ∧ ∃ F' : Fx, F'.ao = F.ao ∧ F'.c = F.c ∧ F'.mp = F.mp ∧ RdA w' g ts F' r' ∧ Dc w' g F' r' ∧ Below F.mp w w'
def Rd.dc2 (r1 : Rd) (w0 : Nat) (v : Vr) (t : Tk) : Rd :=
  let r2 := { r1 with words := r1.words + v.size }
  let r3 := if 96 < r2.words then r2.ndat t.line else r2
  { r3 with vars := r3.vars ++ [{ v with at' := 384 + w0 }] }
set_option maxRecDepth 100000 in
set_option maxHeartbeats 4000000 in
theorem declare_any (w : World) (g : Nat) (ts : List Tk) (F : Fx) (r : Rd) (v : Vr) (t : Tk) (h : RdA w g ts F r) (hd : Dc w g F r) (hwd : r.words ≤ 100000000000000) (hvs : v.size ≤ 4294967295) (hvl : r.vars.length ≤ 20000) : Calls Tryz.prog 80 #[.pointer (some ⟨g, 0, none⟩), .agg (vrL v).toArray, .agg (tkL t).toArray] w (DcPost w g ts F (r.declare v t)) := by
  obtain ⟨i9, hi, hz, hsz9, hb9⟩ := info_vr4
  have hgl := h.b.lt
  have HR := hide h
  have HD := hide hd
  have HV0 : Hid (r.declare v t = Rd.dc2 (if (r.find v.name).isSome ∨ t.kind = 2 then r.nname t.line else r) r.words v t) := hide rfl
  have hmg := hd.mg
  clear h hd
  generalize r.declare v t = RT at *
  obtain ⟨vn, va, vs, vt⟩ := v
  obtain ⟨tk, tx, tv, tl⟩ := t
  simp only [vrL, tkL] at HV0 hvs ⊢
  have hb1 := bel1 w (.cells #[.string ⟨vn.toArray⟩, .bool va, .int .i64 (vs : Nat), .int .i64 (vt : Nat)] 63)
  have hb2 := bel1 (w.alloc (.cells #[.string ⟨vn.toArray⟩, .bool va, .int .i64 (vs : Nat), .int .i64 (vt : Nat)] 63)) (.cells #[.int .i64 (tk : Nat), .string ⟨tx.toArray⟩, .int .u32 (tv : Nat), .int .i64 (tl : Nat)] 115)
  have hX1 : Blk (w.alloc (.cells #[.string ⟨vn.toArray⟩, .bool va, .int .i64 (vs : Nat), .int .i64 (vt : Nat)] 63)) w.heap.size 63 (vrL ⟨vn, va, vs, vt⟩) := ⟨heap_alloc_new _ _⟩
  have hT1 : Blk ((w.alloc (.cells #[.string ⟨vn.toArray⟩, .bool va, .int .i64 (vs : Nat), .int .i64 (vt : Nat)] 63)).alloc (.cells #[.int .i64 (tk : Nat), .string ⟨tx.toArray⟩, .int .u32 (tv : Nat), .int .i64 (tl : Nat)] 115)) (w.alloc (.cells #[.string ⟨vn.toArray⟩, .bool va, .int .i64 (vs : Nat), .int .i64 (vt : Nat)] 63)).heap.size 115 (tkL ⟨tk, tx, tv, tl⟩) := ⟨heap_alloc_new _ _⟩
  rw [World.size_alloc] at hT1
  have HX2 := hide (hX1.below hb2 (by simp))
  have HT2 : Hid (Blk ((w.alloc (.cells #[.string ⟨vn.toArray⟩, .bool va, .int .i64 (vs : Nat), .int .i64 (vt : Nat)] 63)).alloc (.cells #[.int .i64 (tk : Nat), .string ⟨tx.toArray⟩, .int .u32 (tv : Nat), .int .i64 (tl : Nat)] 115)) (w.heap.size + 1) 115 (tkL ⟨tk, tx, tv, tl⟩)) := hide hT1
  have HA2 := hide ((HR.out.keep hb1).keep hb2)
  have HK2 := hide ((Kp.of (g := g) hb1).trans (Kp.of hb2))
  clear hb1 hb2 hX1 hT1
  go_enter Tryz.func80, Tryz.ntmps80
  go_upto_region 1 with fail
  generalize (w.alloc (.cells #[.string ⟨vn.toArray⟩, .bool va, .int .i64 (vs : Nat), .int .i64 (vt : Nat)] 63)).alloc (.cells #[.int .i64 (tk : Nat), .string ⟨tx.toArray⟩, .int .u32 (tv : Nat), .int .i64 (tl : Nat)] 115) = W2 at *
  obtain ⟨w0, hwD⟩ : ∃ wD, wD = W2.drew := ⟨_, rfl⟩
  have HA3 : Hid (RdA w0 g ts F r) := by rw [hwD]; exact hide (HA2.out.keep (Below.refl _ W2).drew)
  have HK3 : Hid (Kp g w w0) := by rw [hwD]; exact hide (HK2.out.drew)
  have HX3 : Hid (Blk w0 w.heap.size 63 (vrL ⟨vn, va, vs, vt⟩)) := by rw [hwD]; exact hide (HX2.out.below (Below.refl _ W2).drew HX2.out.lt)
  have HT3 : Hid (Blk w0 (w.heap.size + 1) 115 (tkL ⟨tk, tx, tv, tl⟩)) := by rw [hwD]; exact hide (HT2.out.below (Below.refl _ W2).drew HT2.out.lt)
  have HS0 : Hid ((fun W => W.cell? ⟨g, 7, none⟩ = some (.map (some F.mp)) ∧ W.cell? ⟨w.heap.size, 0, none⟩ = some (.string ⟨vn.toArray⟩) ∧ (Instr.lookup 74 (.map (some F.mp)) (.string ⟨vn.toArray⟩) true).run Tryz.prog W = .ok (.tuple #[((atK KS F.ps vn).map pE).getD (.int .i64 0), .bool (atK KS F.ps vn).isSome]) W) w0) := hide ⟨HA3.out.b.get (j := 7) rfl, HX3.out.get (j := 0) rfl, lookP HA3.out.mo vn⟩
  refine wp_region_held_drew (S := fun W => W.cell? ⟨g, 7, none⟩ = some (.map (some F.mp)) ∧ W.cell? ⟨w.heap.size, 0, none⟩ = some (.string ⟨vn.toArray⟩) ∧ (Instr.lookup 74 (.map (some F.mp)) (.string ⟨vn.toArray⟩) true).run Tryz.prog W = .ok (.tuple #[((atK KS F.ps vn).map pE).getD (.int .i64 0), .bool (atK KS F.ps vn).isSome]) W) (by kernel_rfl) (by rw [← hwD]; exact HS0.out) (fun hHeld => ?_)
  rw [← hwD]
  clear hwD hHeld HA2 HK2 HX2 HT2
  refine hd_take 0 (o := ⟨some 9, _, _, _, _, _⟩) (.pointer (some ⟨g, 0, none⟩)) (by kernel_rfl) (by kernel_rfl) (by kernel_rfl) rfl (by rfl) (fun W hSw => by go_simp) (fun _ _ _ h => h) HS0.out ?_
  simp only [Act.put, List.setIfInBounds_toArray, List.set_cons_zero, List.set_cons_succ]
  refine hd_take 1 (o := ⟨some 10, _, _, _, _, _⟩) (.pointer (some ⟨g, 0, none⟩)) (by kernel_rfl) (by kernel_rfl) (by kernel_rfl) rfl (by rfl) (fun W hSw => by go_simp) (fun _ _ _ h => h) HS0.out ?_
  simp only [Act.put, List.setIfInBounds_toArray, List.set_cons_zero, List.set_cons_succ]
  refine hd_take 2 (o := ⟨some 11, _, _, _, _, _⟩) (.pointer (some ⟨g, 7, none⟩)) (by kernel_rfl) (by kernel_rfl) (by kernel_rfl) rfl (by rfl) (fun W hSw => by go_simp) (fun _ _ _ h => h) HS0.out ?_
  simp only [Act.put, List.setIfInBounds_toArray, List.set_cons_zero, List.set_cons_succ]
  refine hd_take 3 (o := ⟨some 12, _, _, _, _, _⟩) (.map (some F.mp)) (by kernel_rfl) (by kernel_rfl) (by kernel_rfl) rfl (by rfl) (fun W hSw => by have k := hSw.1; go_simp) (fun _ _ _ h => h) HS0.out ?_
  simp only [Act.put, List.setIfInBounds_toArray, List.set_cons_zero, List.set_cons_succ]
  refine hd_take 4 (o := ⟨some 13, _, _, _, _, _⟩) (.pointer (some ⟨w.heap.size, 0, none⟩)) (by kernel_rfl) (by kernel_rfl) (by kernel_rfl) rfl (by rfl) (fun W hSw => by go_simp) (fun _ _ _ h => h) HS0.out ?_
  simp only [Act.put, List.setIfInBounds_toArray, List.set_cons_zero, List.set_cons_succ]
  refine hd_take 5 (o := ⟨some 14, _, _, _, _, _⟩) (.string ⟨vn.toArray⟩) (by kernel_rfl) (by kernel_rfl) (by kernel_rfl) rfl (by rfl) (fun W hSw => by have k := hSw.2.1; go_simp) (fun _ _ _ h => h) HS0.out ?_
  simp only [Act.put, List.setIfInBounds_toArray, List.set_cons_zero, List.set_cons_succ]
  refine hd_take 6 (o := ⟨some 15, _, _, _, _, _⟩) (.tuple #[((atK KS F.ps vn).map pE).getD (.int .i64 0), .bool (atK KS F.ps vn).isSome]) (by kernel_rfl) (by kernel_rfl) (by kernel_rfl) rfl (by rfl) (fun W hSw => by have k := hSw.2.2; go_simp) (fun _ _ _ h => h) HS0.out ?_
  simp only [Act.put, List.setIfInBounds_toArray, List.set_cons_zero, List.set_cons_succ]
  refine hd_take 7 (o := ⟨some 8, _, _, _, _, _⟩) (.tuple #[((atK KS F.ps vn).map pE).getD (.int .i64 0), .bool (atK KS F.ps vn).isSome]) (by kernel_rfl) (by kernel_rfl) (by kernel_rfl) rfl (by rfl) (fun W hSw => by go_simp) (fun _ _ _ h => h) HS0.out ?_
  simp only [Act.put, List.setIfInBounds_toArray, List.set_cons_zero, List.set_cons_succ]
  refine hd_take 8 (o := ⟨some 16, _, _, _, _, _⟩) (((atK KS F.ps vn).map pE).getD (.int .i64 0)) (by kernel_rfl) (by kernel_rfl) (by kernel_rfl) rfl (by rfl) (fun W hSw => by go_simp) (fun _ _ _ h => h) HS0.out ?_
  simp only [Act.put, List.setIfInBounds_toArray, List.set_cons_zero, List.set_cons_succ]
  refine hd_take 9 (o := ⟨some 17, _, _, _, _, _⟩) (.bool (atK KS F.ps vn).isSome) (by kernel_rfl) (by kernel_rfl) (by kernel_rfl) rfl (by rfl) (fun W hSw => by go_simp) (fun _ _ _ h => h) HS0.out ?_
  simp only [Act.put, List.setIfInBounds_toArray, List.set_cons_zero, List.set_cons_succ]
  refine hd_take 10 (o := ⟨some 6, _, _, _, _, _⟩) (((atK KS F.ps vn).map pE).getD (.int .i64 0)) (by kernel_rfl) (by kernel_rfl) (by kernel_rfl) rfl (by rfl) (fun W hSw => by go_simp) (fun _ _ _ h => h) HS0.out ?_
  simp only [Act.put, List.setIfInBounds_toArray, List.set_cons_zero, List.set_cons_succ]
  refine hd_take 11 (o := ⟨some 7, _, _, _, _, _⟩) (.bool (atK KS F.ps vn).isSome) (by kernel_rfl) (by kernel_rfl) (by kernel_rfl) rfl (by rfl) (fun W hSw => by go_simp) (fun _ _ _ h => h) HS0.out ?_
  simp only [Act.put, List.setIfInBounds_toArray, List.set_cons_zero, List.set_cons_succ]
  refine wpAnyH_done (by kernel_rfl) ?_ _
  clear HS0
  have HFi : Hid ((r.find vn).isSome = (atK KS F.ps vn).isSome) := hide (by
    have hmv := HA3.out.mv vn
    cases hat : atK KS F.ps vn with
    | none => rw [hat] at hmv; rw [hmv]; rfl
    | some n => rw [hat] at hmv; obtain ⟨_, h2⟩ := hmv; rw [h2]; rfl)
  rw [HFi.out] at HV0
  have hpx : ∃ px, ((atK KS F.ps vn).map pE).getD (.int .i64 0) = px := ⟨_, rfl⟩
  obtain ⟨px, hpx⟩ := hpx
  rw [hpx]
  have HNt := hide (note_any w0 g ts F r 1 tl 1 rfl (by decide) HA3.out)
  change Hid (Calls _ _ _ w0 fun e w' => e = .returned (.tuple #[]) ∧ RdA w' g ts F (r.nname tl) ∧ Kp g w0 w') at HNt
  have t0 := HT3.out.get (j := 0) rfl
  have t3 := HT3.out.get (j := 3) rfl
  simp only at t0 t3
  clear hpx HFi
  generalize (atK KS F.ps vn).isSome = tw at *
  cases tw with
  | true =>
    have HV1 : Hid (RT = Rd.dc2 (r.nname tl) r.words ⟨vn, va, vs, vt⟩ ⟨tk, tx, tv, tl⟩) := hide (HV0.out.trans (by rw [if_pos (.inl rfl)]))
    clear HV0 
    go_wp2_with fail
    refine HNt.out.mono ?_
    rintro e w3 ⟨rfl, hA4, hk4⟩
    have HA4 := hide hA4
    have HK4 := hide (HK3.out.trans hk4)
    have HX4 := hide (HX3.out.keepK hk4 (by omega))
    have HT4 := hide (HT3.out.keepK hk4 (by omega))
    have hw1 : (r.nname tl).words ≤ 100000000000000 := by rw [(fr_name r tl).words]; exact hwd
    have hr1 : (r.nname tl).vars = r.vars ∧ (r.nname tl).at' = r.at' ∧ (r.nname tl).words = r.words := ⟨(fr_name r tl).vars, by unfold Rd.nname; split <;> rfl, (fr_name r tl).words⟩
    have HR1 := hide hr1
    clear hA4 hk4 HNt HA3 HK3 HX3 HT3 t0 t3 hr1
    generalize r.nname tl = r1 at *
    have c8 := HA4.out.b.get (j := 8) rfl
    have x3 := HX4.out.get (j := 3) rfl
    have f3 := HX4.out.frz 3
    have HA5 := hide (RdA.setN (N := w.heap.size) (j := 3) HR.out HK4.out HA4.out HR1.out.1 (Nat.le_refl _) (.int .i64 (384 + (r1.words : Int))))
    have HK5 := hide (HK4.out.setN (N := w.heap.size) (j := 3) (Nat.le_refl _) (.int .i64 (384 + (r1.words : Int))))
    have HX5 : Hid (Blk (w3.setCell ⟨w.heap.size, 3, none⟩ (.int .i64 (384 + (r1.words : Int)))) w.heap.size 63 (vrL ⟨vn, va, vs, 384 + r1.words⟩)) := hide (by
      have e : ((384 + r1.words : Nat) : Int) = 384 + (r1.words : Int) := by omega
      have := HX4.out.set 3 (.int .i64 ((384 + r1.words : Nat) : Int))
      rw [e] at this
      refine ⟨this.out.trans ?_⟩
      simp [vrL])
    have HT5 := hide (HT4.out.setN (N := w.heap.size) (j := 3) (by omega) (.int .i64 (384 + (r1.words : Int))))
    clear HA4 HK4 HX4 HT4
    go_upto_region 5 with fail
    clear c8 x3 f3
    generalize w3.setCell ⟨w.heap.size, 3, none⟩ (.int .i64 (384 + (r1.words : Int))) = W5 at *
    (try generalize w0 = wold at *)
    obtain ⟨w0, hwD⟩ : ∃ wD, wD = W5.drew := ⟨_, rfl⟩
    have HA6 : Hid (RdA w0 g ts F r1) := by rw [hwD]; exact hide (HA5.out.keep (Below.refl _ W5).drew)
    have HK6 : Hid (Kp g w w0) := by rw [hwD]; exact hide (HK5.out.drew)
    have HX6 : Hid (Blk w0 w.heap.size 63 (vrL ⟨vn, va, vs, 384 + r1.words⟩)) := by rw [hwD]; exact hide (HX5.out.below (Below.refl _ W5).drew HX5.out.lt)
    have HT6 : Hid (Blk w0 (w.heap.size + 1) 115 (tkL ⟨tk, tx, tv, tl⟩)) := by rw [hwD]; exact hide (HT5.out.below (Below.refl _ W5).drew HT5.out.lt)
    have HS0 : Hid ((fun W => W.cell? ⟨w.heap.size, 2, none⟩ = some (.int .i64 (vs : Nat))) w0) := hide (HX6.out.get (j := 2) rfl)
    have c8 := HA6.out.b.get (j := 8) rfl
    have f8 := HA6.out.b.frz 8
    have hwa : IntKind.i64.wrap ((r1.words : Int) + (vs : Int)) = (r1.words : Int) + (vs : Int) := by rw [IntKind.wrap_i64]; omega
    have HA7 : Hid (RdA (w0.setCell ⟨g, 8, none⟩ (.int .i64 ((r1.words : Int) + (vs : Int)))) g ts F { r1 with words := r1.words + vs }) := hide (by
      have e : ((r1.words + vs : Nat) : Int) = (r1.words : Int) + (vs : Int) := by omega
      rw [← e]
      exact HA6.out.to (Kp.set (Kp.refl g w0) _) (HA6.out.b.set 8 _) rfl HA6.out.hat)
    have HK7 := hide (Kp.set (j := 8) HK6.out (.int .i64 ((r1.words : Int) + (vs : Int))))
    have HX7 := hide (HX6.out.setN (N := g) (j := 8) (by omega) (.int .i64 ((r1.words : Int) + (vs : Int))))
    have HT7 := hide (HT6.out.setN (N := g) (j := 8) (by omega) (.int .i64 ((r1.words : Int) + (vs : Int))))
    have HS1 : Hid ((fun W => W.cell? ⟨w.heap.size, 2, none⟩ = some (.int .i64 (vs : Nat))) (w0.setCell ⟨g, 8, none⟩ (.int .i64 ((r1.words : Int) + (vs : Int))))) := hide (HX7.out.get (j := 2) rfl)
    refine wp_region_held_drew (S := fun W => W.cell? ⟨w.heap.size, 2, none⟩ = some (.int .i64 (vs : Nat))) (by kernel_rfl) (by rw [← hwD]; exact HS0.out) (fun hHeld => ?_)
    rw [← hwD]
    clear hwD hHeld HA5 HK5 HX5 HT5
    refine hd_take 0 (o := ⟨some 34, _, _, _, _, _⟩) (.pointer (some ⟨g, 0, none⟩)) (by kernel_rfl) (by kernel_rfl) (by kernel_rfl) rfl (by rfl) (fun W hSw => by go_simp) (fun _ _ _ h => h) HS0.out ?_
    simp only [Act.put, List.setIfInBounds_toArray, List.set_cons_zero, List.set_cons_succ]
    refine hd_take 1 (o := ⟨some 35, _, _, _, _, _⟩) (.pointer (some ⟨g, 0, none⟩)) (by kernel_rfl) (by kernel_rfl) (by kernel_rfl) rfl (by rfl) (fun W hSw => by go_simp) (fun _ _ _ h => h) HS0.out ?_
    simp only [Act.put, List.setIfInBounds_toArray, List.set_cons_zero, List.set_cons_succ]
    refine hd_take 2 (o := ⟨some 36, _, _, _, _, _⟩) (.pointer (some ⟨g, 8, none⟩)) (by kernel_rfl) (by kernel_rfl) (by kernel_rfl) rfl (by rfl) (fun W hSw => by go_simp) (fun _ _ _ h => h) HS0.out ?_
    simp only [Act.put, List.setIfInBounds_toArray, List.set_cons_zero, List.set_cons_succ]
    refine hd_take 4 (o := ⟨some 38, _, _, _, _, _⟩) (.pointer (some ⟨w.heap.size, 2, none⟩)) (by kernel_rfl) (by kernel_rfl) (by kernel_rfl) rfl (by rfl) (fun W hSw => by go_simp) (fun _ _ _ h => h) HS0.out ?_
    simp only [Act.put, List.setIfInBounds_toArray, List.set_cons_zero, List.set_cons_succ]
    refine hd_take 5 (o := ⟨some 39, _, _, _, _, _⟩) (.int .i64 (vs : Nat)) (by kernel_rfl) (by kernel_rfl) (by kernel_rfl) rfl (by rfl) (fun W hSw => by have k : W.cell? ⟨w.heap.size, 2, none⟩ = some (.int .i64 (vs : Nat)) := hSw; go_simp) (fun _ _ _ h => h) HS0.out ?_
    simp only [Act.put, List.setIfInBounds_toArray, List.set_cons_zero, List.set_cons_succ]
    refine hd_call 3 (o := ⟨some 37, _, _, _, _, _⟩) (by kernel_rfl) rfl (by rfl) (fun K' hK => ?_)
    go_simp
    refine hK _ _ HS0.out ?_
    clear hK K'
    try simp only [Act.put, List.setIfInBounds_toArray, List.set_cons_zero, List.set_cons_succ]
    refine hd_take 6 (o := ⟨some 40, _, _, _, _, _⟩) (.int .i64 ((r1.words : Int) + (vs : Int))) (by kernel_rfl) (by kernel_rfl) (by kernel_rfl) rfl (by rfl) (fun W hSw => by go_simp) (fun _ _ _ h => h) HS0.out ?_
    simp only [Act.put, List.setIfInBounds_toArray, List.set_cons_zero, List.set_cons_succ]
    refine hd_take 7 (o := ⟨some 41, _, _, _, _, _⟩) (.pointer (some ⟨g, 0, none⟩)) (by kernel_rfl) (by kernel_rfl) (by kernel_rfl) rfl (by rfl) (fun W hSw => by go_simp) (fun _ _ _ h => h) HS0.out ?_
    simp only [Act.put, List.setIfInBounds_toArray, List.set_cons_zero, List.set_cons_succ]
    refine hd_take 8 (o := ⟨some 42, _, _, _, _, _⟩) (.pointer (some ⟨g, 8, none⟩)) (by kernel_rfl) (by kernel_rfl) (by kernel_rfl) rfl (by rfl) (fun W hSw => by go_simp) (fun _ _ _ h => h) HS0.out ?_
    simp only [Act.put, List.setIfInBounds_toArray, List.set_cons_zero, List.set_cons_succ]
    refine hd_call 9 (o := ⟨none, _, _, _, _, _⟩) (by kernel_rfl) rfl (by rfl) (fun K' hK => ?_)
    go_simp
    refine hK _ _ HS1.out ?_
    clear hK K'
    try simp only [Act.put]
    refine wpAnyH_done (by kernel_rfl) ?_ _
    clear HS0 HS1 c8 f8 HA6 HK6 HX6 HT6
    generalize w0.setCell ⟨g, 8, none⟩ (.int .i64 ((r1.words : Int) + (vs : Int))) = W7 at *
    have HV2 : Hid (RT = { (if 96 < r1.words + vs then ({ r1 with words := r1.words + vs } : Rd).ndat tl else { r1 with words := r1.words + vs }) with vars := (if 96 < r1.words + vs then ({ r1 with words := r1.words + vs } : Rd).ndat tl else { r1 with words := r1.words + vs }).vars ++ [⟨vn, va, vs, 384 + r.words⟩] }) := hide HV1.out
    have HR2 : Hid (({ r1 with words := r1.words + vs } : Rd).vars = r.vars ∧ ({ r1 with words := r1.words + vs } : Rd).at' = r.at') := hide ⟨HR1.out.1, HR1.out.2.1⟩
    have HX7' : Hid (Blk W7 w.heap.size 63 (vrL ⟨vn, va, vs, 384 + r.words⟩)) := hide (by rw [← HR1.out.2.2]; exact HX7.out)
    have c8 := HA7.out.b.get (j := 8) rfl
    simp only [Int.natCast_add] at c8
    have t3 := HT7.out.get (j := 3) rfl
    simp only at t3
    clear HV1 HR1 HX7
    have hw2 : r1.words + vs ≤ 200000000000000 := by omega
    generalize hr2 : ({ r1 with words := r1.words + vs } : Rd) = r2 at *
    clear hr2
    by_cases h96 : 96 < r1.words + vs
    · have h96i : (96 : Int) < (r1.words : Int) + (vs : Int) := by omega
      rw [if_pos h96] at HV2
      have HN7 := hide (note_any W7 g ts F r2 2 tl 2 rfl (by decide) HA7.out)
      change Hid (Calls _ _ _ W7 fun e w' => e = .returned (.tuple #[]) ∧ RdA w' g ts F (r2.ndat tl) ∧ Kp g W7 w') at HN7
      have HR3 : Hid ((r2.ndat tl).vars = r.vars ∧ (r2.ndat tl).at' = r.at') := hide ⟨by unfold Rd.ndat; split <;> exact HR2.out.1, by unfold Rd.ndat; split <;> exact HR2.out.2⟩
      clear h96
      go_wp2_with fail
      refine HN7.out.mono ?_
      rintro e W8 ⟨rfl, hA8, hk8⟩
      have HA8 := hide hA8
      have HK8 := hide (HK7.out.trans hk8)
      have HX8 := hide (HX7'.out.keepK hk8 (by omega))
      clear hA8 hk8 HN7 HA7 HK7 HX7' HT7 HR2 c8 t3
      generalize r2.ndat tl = r3 at *
      go_upto_region 8 with fail
      have HO8 := hide (own_keepK HD.out.own HK8.out (Nat.lt_succ_self g))
      have HNe : Hid ((Value.slice F.av r.vars.length F.cv).ownBlock ≠ some w.heap.size) := hide (fun e => by have := (HD.out.own.lt _ e).2; omega)
      (try generalize w0 = wold at *)
      obtain ⟨w0, hwD⟩ : ∃ wD, wD = W8.drew := ⟨_, rfl⟩
      have HA9 : Hid (RdA w0 g ts F r3) := by rw [hwD]; exact hide (HA8.out.keep (Below.refl _ W8).drew)
      have HK9 : Hid (Kp g w w0) := by rw [hwD]; exact hide (HK8.out.drew)
      have HX9 : Hid (Blk w0 w.heap.size 63 (vrL ⟨vn, va, vs, 384 + r.words⟩)) := by rw [hwD]; exact hide (HX8.out.below (Below.refl _ W8).drew HX8.out.lt)
      have HO9 : Hid (w0.ownsRow (g + 1) 63 4 (.slice F.av r.vars.length F.cv) r.vars.length (r.vars.flatMap vrL)) := by rw [hwD]; exact hide (own_keepK HO8.out (Kp.of (g := g) (Below.refl _ W8).drew) (Nat.lt_succ_self g))
      have c6 : w0.cell? ⟨g, 6, none⟩ = some (.slice F.av r.vars.length F.cv) := by
        have := HA9.out.b.get (j := 6) rfl
        rw [HR3.out.1] at this
        exact this
      have HS0 : Hid ((fun W => W.cell? ⟨g, 7, none⟩ = some (.map (some F.mp)) ∧ W.cell? ⟨w.heap.size, 0, none⟩ = some (.string ⟨vn.toArray⟩) ∧ W.cell? ⟨g, 6, none⟩ = some (.slice F.av r.vars.length F.cv)) w0) := hide ⟨HA9.out.b.get (j := 7) rfl, HX9.out.get (j := 0) rfl, c6⟩
      obtain ⟨es, ck, ps', hup, hmi, hat⟩ := putS HA9.out.mo vn r.vars.length
      have hmlt : F.mp < w0.heap.size := by have := HK9.out.size; omega
      have HKd : Hid (Kd g F.mp w (w0.putObj F.mp (.map es ck))) := hide ⟨HK9.out.os, HK9.out.tape, HK9.out.output, by simp [World.putObj]; exact HK9.out.size, fun k hk hn => by rw [World.putObj_heap_other hn]; exact HK9.out.block k (by omega) (by omega)⟩
      have HBd : Hid (Blk (w0.putObj F.mp (.map es ck)) g 77 (rdL F ts.length r3)) := hide (HA9.out.b.keep (World.putObj_heap_other (by omega)))
      have HXd : Hid (Blk (w0.putObj F.mp (.map es ck)) w.heap.size 63 (vrL ⟨vn, va, vs, 384 + r.words⟩)) := hide (HX9.out.keep (World.putObj_heap_other (by omega)))
      have HOd : Hid ((w0.putObj F.mp (.map es ck)).ownsRow (g + 1) 63 4 (.slice F.av r.vars.length F.cv) r.vars.length (r.vars.flatMap vrL)) := hide (own_keepK HO9.out (g := F.mp) ⟨rfl, rfl, rfl, by simp [World.putObj], fun k _ hn => World.putObj_heap_other hn⟩ (by omega))
      have HMd := hide hmi
      have HAt := hide hat
      have hsd : (w0.putObj F.mp (.map es ck)).heap.size = w0.heap.size := by simp [World.putObj]
      have d6 : (w0.putObj F.mp (.map es ck)).cell? ⟨g, 6, none⟩ = some (.slice F.av r.vars.length F.cv) := by
        have := HBd.out.get (j := 6) rfl
        rw [HR3.out.1] at this
        exact this
      have HS1 : Hid ((fun W => W.cell? ⟨g, 7, none⟩ = some (.map (some F.mp)) ∧ W.cell? ⟨w.heap.size, 0, none⟩ = some (.string ⟨vn.toArray⟩) ∧ W.cell? ⟨g, 6, none⟩ = some (.slice F.av r.vars.length F.cv)) (w0.putObj F.mp (.map es ck))) := hide ⟨HBd.out.get (j := 7) rfl, HXd.out.get (j := 0) rfl, d6⟩
      have hgw0 : g < w0.heap.size := HA9.out.b.lt
      have hxw0 : w.heap.size < w0.heap.size := HX9.out.lt
      refine wp_region_held_drew (S := fun W => W.cell? ⟨g, 7, none⟩ = some (.map (some F.mp)) ∧ W.cell? ⟨w.heap.size, 0, none⟩ = some (.string ⟨vn.toArray⟩) ∧ W.cell? ⟨g, 6, none⟩ = some (.slice F.av r.vars.length F.cv)) (by kernel_rfl) (by rw [← hwD]; exact HS0.out) (fun hHeld => ?_)
      rw [← hwD]
      clear hwD hHeld HA8 HK8 HX8 HO8 hmi hat c6
      refine hd_take 0 (o := ⟨some 52, _, _, _, _, _⟩) (.pointer (some ⟨g, 0, none⟩)) (by kernel_rfl) (by kernel_rfl) (by kernel_rfl) rfl (by rfl) (fun W hSw => by go_simp) (fun _ _ _ h => h) HS0.out ?_
      simp only [Act.put, List.setIfInBounds_toArray, List.set_cons_zero, List.set_cons_succ]
      refine hd_take 1 (o := ⟨some 53, _, _, _, _, _⟩) (.pointer (some ⟨g, 0, none⟩)) (by kernel_rfl) (by kernel_rfl) (by kernel_rfl) rfl (by rfl) (fun W hSw => by go_simp) (fun _ _ _ h => h) HS0.out ?_
      simp only [Act.put, List.setIfInBounds_toArray, List.set_cons_zero, List.set_cons_succ]
      refine hd_take 2 (o := ⟨some 54, _, _, _, _, _⟩) (.pointer (some ⟨g, 7, none⟩)) (by kernel_rfl) (by kernel_rfl) (by kernel_rfl) rfl (by rfl) (fun W hSw => by go_simp) (fun _ _ _ h => h) HS0.out ?_
      simp only [Act.put, List.setIfInBounds_toArray, List.set_cons_zero, List.set_cons_succ]
      refine hd_take 3 (o := ⟨some 55, _, _, _, _, _⟩) (.map (some F.mp)) (by kernel_rfl) (by kernel_rfl) (by kernel_rfl) rfl (by rfl) (fun W hSw => by have k := hSw.1; go_simp) (fun _ _ _ h => h) HS0.out ?_
      simp only [Act.put, List.setIfInBounds_toArray, List.set_cons_zero, List.set_cons_succ]
      refine hd_take 4 (o := ⟨some 56, _, _, _, _, _⟩) (.pointer (some ⟨w.heap.size, 0, none⟩)) (by kernel_rfl) (by kernel_rfl) (by kernel_rfl) rfl (by rfl) (fun W hSw => by go_simp) (fun _ _ _ h => h) HS0.out ?_
      simp only [Act.put, List.setIfInBounds_toArray, List.set_cons_zero, List.set_cons_succ]
      refine hd_take 5 (o := ⟨some 57, _, _, _, _, _⟩) (.string ⟨vn.toArray⟩) (by kernel_rfl) (by kernel_rfl) (by kernel_rfl) rfl (by rfl) (fun W hSw => by have k := hSw.2.1; go_simp) (fun _ _ _ h => h) HS0.out ?_
      simp only [Act.put, List.setIfInBounds_toArray, List.set_cons_zero, List.set_cons_succ]
      refine hd_take 6 (o := ⟨some 58, _, _, _, _, _⟩) (.pointer (some ⟨g, 0, none⟩)) (by kernel_rfl) (by kernel_rfl) (by kernel_rfl) rfl (by rfl) (fun W hSw => by go_simp) (fun _ _ _ h => h) HS0.out ?_
      simp only [Act.put, List.setIfInBounds_toArray, List.set_cons_zero, List.set_cons_succ]
      refine hd_take 7 (o := ⟨some 59, _, _, _, _, _⟩) (.pointer (some ⟨g, 0, none⟩)) (by kernel_rfl) (by kernel_rfl) (by kernel_rfl) rfl (by rfl) (fun W hSw => by go_simp) (fun _ _ _ h => h) HS0.out ?_
      simp only [Act.put, List.setIfInBounds_toArray, List.set_cons_zero, List.set_cons_succ]
      refine hd_take 8 (o := ⟨some 60, _, _, _, _, _⟩) (.pointer (some ⟨g, 6, none⟩)) (by kernel_rfl) (by kernel_rfl) (by kernel_rfl) rfl (by rfl) (fun W hSw => by go_simp) (fun _ _ _ h => h) HS0.out ?_
      simp only [Act.put, List.setIfInBounds_toArray, List.set_cons_zero, List.set_cons_succ]
      refine hd_take 9 (o := ⟨some 61, _, _, _, _, _⟩) (.slice F.av r.vars.length F.cv) (by kernel_rfl) (by kernel_rfl) (by kernel_rfl) rfl (by rfl) (fun W hSw => by have k := hSw.2.2; go_simp) (fun _ _ _ h => h) HS0.out ?_
      simp only [Act.put, List.setIfInBounds_toArray, List.set_cons_zero, List.set_cons_succ]
      refine hd_take 10 (o := ⟨some 62, _, _, _, _, _⟩) (.int .i64 (r.vars.length : Nat)) (by kernel_rfl) (by kernel_rfl) (by kernel_rfl) rfl (by rfl) (fun W hSw => by go_simp) (fun _ _ _ h => h) HS0.out ?_
      simp only [Act.put, List.setIfInBounds_toArray, List.set_cons_zero, List.set_cons_succ]
      refine hd_call 11 (o := ⟨none, _, _, _, _, _⟩) (by kernel_rfl) rfl (by rfl) (fun K' hK => ?_)
      go_simp
      refine hK _ _ HS1.out ?_
      clear hK K'
      try simp only [Act.put]
      refine wpAnyH_done (by kernel_rfl) ?_ _
      clear HS0 HS1 hup HA9 HK9 HX9 HO9 d6
      generalize w0.putObj F.mp (.map es ck) = Wm at *
      go_upto_region 9 with fail
      generalize w0 = wold2 at *
      obtain ⟨w0, hwD⟩ : ∃ wD, wD = Wm.drew := ⟨_, rfl⟩
      have HKe : Hid (Kd g F.mp w w0) := by rw [hwD]; exact hide (⟨HKd.out.os, HKd.out.tape, HKd.out.output, HKd.out.size, fun k hk hn => HKd.out.block k hk hn⟩)
      have HBe : Hid (Blk w0 g 77 (rdL F ts.length r3)) := by rw [hwD]; exact hide (HBd.out.below (Below.refl _ Wm).drew HBd.out.lt)
      have HXe : Hid (Blk w0 w.heap.size 63 (vrL ⟨vn, va, vs, 384 + r.words⟩)) := by rw [hwD]; exact hide (HXd.out.below (Below.refl _ Wm).drew HXd.out.lt)
      have HOe : Hid (w0.ownsRow (g + 1) 63 4 (.slice F.av r.vars.length F.cv) r.vars.length (r.vars.flatMap vrL)) := by rw [hwD]; exact hide (own_keepK HOd.out (Kp.of (g := g) (Below.refl _ Wm).drew) (Nat.lt_succ_self g))
      have HMe : Hid (MapIs w0 F.mp KS pE ps') := by rw [hwD]; exact hide (HMd.out.keepK (Kp.of (g := g) (Below.refl _ Wm).drew) (by omega))
      have hgw := HBe.out.lt
      have hxw := HXe.out.lt
      have HvL : Hid (vrL ⟨vn, va, vs, 384 + r.words⟩ = [.string ⟨vn.toArray⟩, .bool va, .int .i64 (vs : Nat), .int .i64 (384 + (r.words : Int))]) := hide (by simp [vrL])
      have HS0 : Hid ((fun W => ∀ (j : Nat) (u : Value), ([.string ⟨vn.toArray⟩, .bool va, .int .i64 (vs : Nat), .int .i64 (384 + (r.words : Int))] : List Value)[j]? = some u → W.cell? ((⟨w.heap.size, 0, none⟩ : Addr).add j) = some u) w0) := hide (by have hc := HXe.out.cells; rw [HvL.out] at hc; exact hc)
      have c6 : w0.cell? ⟨g, 6, none⟩ = some (.slice F.av r.vars.length F.cv) := by
        have := HBe.out.get (j := 6) rfl
        rw [HR3.out.1] at this
        exact this
      have HbA := hide (bel1 w0 (.cells #[.string ⟨vn.toArray⟩, .bool va, .int .i64 (vs : Nat), .int .i64 (384 + (r.words : Int))] 63))
      have HS1 : Hid ((fun W => ∀ (j : Nat) (u : Value), ([.string ⟨vn.toArray⟩, .bool va, .int .i64 (vs : Nat), .int .i64 (384 + (r.words : Int))] : List Value)[j]? = some u → W.cell? ((⟨w.heap.size, 0, none⟩ : Addr).add j) = some u) (w0.alloc (.cells #[.string ⟨vn.toArray⟩, .bool va, .int .i64 (vs : Nat), .int .i64 (384 + (r.words : Int))] 63))) := hide (fun j u hu => by rw [HbA.out.cell (cell_blk (HS0.out j u hu))]; exact HS0.out j u hu)
      have HOa : Hid ((w0.alloc (.cells #[.string ⟨vn.toArray⟩, .bool va, .int .i64 (vs : Nat), .int .i64 (384 + (r.words : Int))] 63)).ownsRow (g + 1) 63 4 (.slice F.av r.vars.length F.cv) r.vars.length (r.vars.flatMap vrL)) := hide (own_keep HOe.out HbA.out)
      have c6a : (w0.alloc (.cells #[.string ⟨vn.toArray⟩, .bool va, .int .i64 (vs : Nat), .int .i64 (384 + (r.words : Int))] 63)).cell? ⟨g, 6, none⟩ = some (.slice F.av r.vars.length F.cv) := by rw [HbA.out.cell (p := ⟨g, 6, none⟩) HBe.out.lt]; exact c6
      refine wp_region_held_drew (S := fun W => ∀ (j : Nat) (u : Value), ([.string ⟨vn.toArray⟩, .bool va, .int .i64 (vs : Nat), .int .i64 (384 + (r.words : Int))] : List Value)[j]? = some u → W.cell? ((⟨w.heap.size, 0, none⟩ : Addr).add j) = some u) (by kernel_rfl) (by rw [← hwD]; exact HS0.out) (fun hHeld => ?_)
      rw [← hwD]
      clear hwD hHeld HKd HBd HXd HOd HMd hsd hgw0 hxw0 hmlt
      refine hd_take 0 (o := ⟨some 63, _, _, _, _, _⟩) (.pointer (some ⟨g, 0, none⟩)) (by kernel_rfl) (by kernel_rfl) (by kernel_rfl) rfl (by rfl) (fun W hSw => by go_simp) (fun _ _ _ h => h) HS0.out ?_
      simp only [Act.put, List.setIfInBounds_toArray, List.set_cons_zero, List.set_cons_succ]
      refine hd_take 1 (o := ⟨some 64, _, _, _, _, _⟩) (.pointer (some ⟨g, 0, none⟩)) (by kernel_rfl) (by kernel_rfl) (by kernel_rfl) rfl (by rfl) (fun W hSw => by go_simp) (fun _ _ _ h => h) HS0.out ?_
      simp only [Act.put, List.setIfInBounds_toArray, List.set_cons_zero, List.set_cons_succ]
      refine hd_take 2 (o := ⟨some 65, _, _, _, _, _⟩) (.pointer (some ⟨g, 0, none⟩)) (by kernel_rfl) (by kernel_rfl) (by kernel_rfl) rfl (by rfl) (fun W hSw => by go_simp) (fun _ _ _ h => h) HS0.out ?_
      simp only [Act.put, List.setIfInBounds_toArray, List.set_cons_zero, List.set_cons_succ]
      refine hd_take 3 (o := ⟨some 66, _, _, _, _, _⟩) (.pointer (some ⟨g, 6, none⟩)) (by kernel_rfl) (by kernel_rfl) (by kernel_rfl) rfl (by rfl) (fun W hSw => by go_simp) (fun _ _ _ h => h) HS0.out ?_
      simp only [Act.put, List.setIfInBounds_toArray, List.set_cons_zero, List.set_cons_succ]
      refine hd_take 5 (o := ⟨some 68, _, _, _, _, _⟩) (.agg #[.string ⟨vn.toArray⟩, .bool va, .int .i64 (vs : Nat), .int .i64 (384 + (r.words : Int))]) (by kernel_rfl) (by kernel_rfl) (by kernel_rfl) rfl (by rfl) (fun W hSw => by exact run_loadT Tryz.underlying63 rfl [.string ⟨vn.toArray⟩, .bool va, .int .i64 (vs : Nat), .int .i64 (384 + (r.words : Int))] info_vr _ rfl ⟨w.heap.size, 0, none⟩ rfl hSw) (fun _ _ _ h => h) HS0.out ?_
      simp only [Act.put, List.setIfInBounds_toArray, List.set_cons_zero, List.set_cons_succ]
      refine hd_both 4 6 (o1 := ⟨some 67, _, _, _, _, _⟩) (o2 := ⟨some 69, _, _, _, _, _⟩) (by kernel_rfl) rfl rfl (by rfl) (by rfl) (fun K' hK => ?_) (fun K' hK => ?_)
      · go_simp
        refine hK _ _ HS0.out ?_
        clear hK K'
        try simp only [Act.put, List.setIfInBounds_toArray, List.set_cons_zero, List.set_cons_succ]
        refine hd_call 6 (o := ⟨some 69, _, _, _, _, _⟩) (by kernel_rfl) rfl (by rfl) (fun K' hK => ?_)
        go_simp
        refine hK _ _ HS1.out ?_
        clear hK K'
        try simp only [Act.put, List.setIfInBounds_toArray, List.set_cons_zero, List.set_cons_succ]
        refine hd_call 7 (o := ⟨some 70, _, _, _, _, _⟩) (by kernel_rfl) rfl (by rfl) (fun K' hK => ?_)
        refine wp_append_own _ _ _ 54 rfl (g + 1) 63 i9 (.agg (vrL vr0).toArray) 4 40 Tryz.underlying54 hi hz hsz9 hb9 rfl (by decide) (.slice F.av r.vars.length F.cv) r.vars.length _ rfl HOa.out ⟨_, 0, none⟩ 1 1 [.string ⟨vn.toArray⟩, .bool va, .int .i64 (vs : Nat), .int .i64 (384 + (r.words : Int))] rfl rfl (fun j u hu => cells_new w0 [.string ⟨vn.toArray⟩, .bool va, .int .i64 (vs : Nat), .int .i64 (384 + (r.words : Int))] 63 j u hu) (by rw [← HvL.out]; exact vrL_one _) (by unfold maxLen; omega) (by omega) (by simp; omega) ?_
        intro v4 w4 ho4 hg4 _
        obtain ⟨a4, c4, rfl⟩ := own_shape ho4
        have hgA : g < (w0.alloc (.cells #[.string ⟨vn.toArray⟩, .bool va, .int .i64 (vs : Nat), .int .i64 (384 + (r.words : Int))] 63)).heap.size := by simp; have := HBe.out.lt; omega
        have hBf : Blk w4 g 77 (rdL F ts.length r3) := (HBe.out.below HbA.out HBe.out.lt).keep (hg4.block g hgA (fun e => by have := (HOa.out.lt g e.symm).1; omega))
        have hXl := HXe.out.lt
        have hXf : Blk w4 w.heap.size 63 (vrL ⟨vn, va, vs, 384 + r.words⟩) := (HXe.out.below HbA.out HXe.out.lt).keep (hg4.block w.heap.size (by simp; omega) (fun e => HNe.out e.symm))
        have HOf := hide ho4
        have HGf := hide hg4
        have f6 := hBf.frz 6
        have e6 : w4.cell? ⟨g, 6, none⟩ = some (.slice F.av r.vars.length F.cv) := by
          have := hBf.get (j := 6) rfl
          rw [HR3.out.1] at this
          exact this
        have HBf := hide hBf
        have HS2 : Hid ((fun W => ∀ (j : Nat) (u : Value), ([.string ⟨vn.toArray⟩, .bool va, .int .i64 (vs : Nat), .int .i64 (384 + (r.words : Int))] : List Value)[j]? = some u → W.cell? ((⟨w.heap.size, 0, none⟩ : Addr).add j) = some u) w4) := hide (by have hc := hXf.cells; rw [HvL.out] at hc; exact hc)
        have HXf := hide hXf
        clear ho4 hg4 hBf hXf hXl
        refine hK _ _ HS2.out ?_
        clear hK K'
        try simp only [Act.put, List.setIfInBounds_toArray, List.set_cons_zero, List.set_cons_succ]
        refine hd_take 8 (o := ⟨some 71, _, _, _, _, _⟩) (.pointer (some ⟨g, 0, none⟩)) (by kernel_rfl) (by kernel_rfl) (by kernel_rfl) rfl (by rfl) (fun W hSw => by go_simp) (fun _ _ _ h => h) HS2.out ?_
        simp only [Act.put, List.setIfInBounds_toArray, List.set_cons_zero, List.set_cons_succ]
        refine hd_take 9 (o := ⟨some 72, _, _, _, _, _⟩) (.pointer (some ⟨g, 6, none⟩)) (by kernel_rfl) (by kernel_rfl) (by kernel_rfl) rfl (by rfl) (fun W hSw => by go_simp) (fun _ _ _ h => h) HS2.out ?_
        simp only [Act.put, List.setIfInBounds_toArray, List.set_cons_zero, List.set_cons_succ]
        refine hd_call 10 (o := ⟨none, _, _, _, _, _⟩) (by kernel_rfl) rfl (by rfl) (fun K' hK => ?_)
        have HS3 : Hid ((fun W => ∀ (j : Nat) (u : Value), ([.string ⟨vn.toArray⟩, .bool va, .int .i64 (vs : Nat), .int .i64 (384 + (r.words : Int))] : List Value)[j]? = some u → W.cell? ((⟨w.heap.size, 0, none⟩ : Addr).add j) = some u) (w4.setCell ⟨g, 6, none⟩ (.slice a4 (r.vars.length + 1) c4))) := hide (fun j u hu => by have hq := HS2.out j u hu; rw [add0] at hq ⊢; rw [World.cell?_of_block (a := ⟨w.heap.size, j, none⟩) (heap_setCell_other w4 ⟨g, 6, none⟩ w.heap.size _ (by show w.heap.size ≠ g; omega))]; exact hq)
        go_simp
        refine hK _ _ HS3.out ?_
        clear hK K'
        try simp only [Act.put]
        refine wpAnyH_done (by kernel_rfl) ?_ _
        go_wp2
        go_end0
        have hkS := Kp.set (j := 6) (Kp.refl g w4) (.slice a4 (r.vars.length + 1) c4)
        have hblk : ∀ k, k < g → (w4.setCell ⟨g, 6, none⟩ (.slice a4 (r.vars.length + 1) c4)).heap[k]? = w0.heap[k]? := fun k hk => by
          rw [heap_setCell_other w4 ⟨g, 6, none⟩ k _ (by show k ≠ g; omega), HGf.out.block k (by simp; omega) (fun e => by have := (HOa.out.lt k e.symm).1; omega)]
          exact HbA.out.block k (by omega)
        have hfin := RdA.decl (r3 := r3) (v := ⟨vn, va, vs, 384 + r.words⟩) (av := a4) (cv := c4) (ps := ps') HR.out HD.out (w' := w4.setCell ⟨g, 6, none⟩ (.slice a4 (r.vars.length + 1) c4)) (fun k hk hn => (hblk k hk).trans (HKe.out.block k hk hn)) HR3.out.1 HR3.out.2 (by
            have hq := HBf.out.set 6 (.slice a4 (r.vars.length + 1) c4)
            refine ⟨hq.out.trans ?_⟩
            simp [rdL, HR3.out.1]) (by
            have hq := own_keepK HOf.out hkS (Nat.lt_succ_self g)
            rw [← HvL.out] at hq
            simpa using hq) (by
            obtain ⟨es1, c1, e1, e2⟩ := HMe.out
            exact ⟨es1, c1, (hblk F.mp hmg).trans e1, e2⟩) HAt.out
        refine ⟨rfl, { F with av := a4, cv := c4, ps := ps' }, rfl, rfl, rfl, by rw [HV2.out]; exact hfin.1, by rw [HV2.out]; exact hfin.2, ⟨HGf.out.os.trans HKe.out.os, HGf.out.tape.trans HKe.out.tape, HGf.out.output.trans HKe.out.output, ?_, fun k hk => (hblk k (by omega)).trans (HKe.out.block k (by omega) (by omega))⟩⟩
        have h1 := HKe.out.size
        have h2 := HGf.out.size
        simp only [World.size_setCell, World.size_alloc] at h2 ⊢
        omega
      · go_simp
        refine hK _ _ HS1.out ?_
        clear hK K'
        try simp only [Act.put, List.setIfInBounds_toArray, List.set_cons_zero, List.set_cons_succ]
        refine hd_call 4 (o := ⟨some 67, _, _, _, _, _⟩) (by kernel_rfl) rfl (by rfl) (fun K' hK => ?_)
        go_simp
        refine hK _ _ HS1.out ?_
        clear hK K'
        try simp only [Act.put, List.setIfInBounds_toArray, List.set_cons_zero, List.set_cons_succ]
        refine hd_call 7 (o := ⟨some 70, _, _, _, _, _⟩) (by kernel_rfl) rfl (by rfl) (fun K' hK => ?_)
        refine wp_append_own _ _ _ 54 rfl (g + 1) 63 i9 (.agg (vrL vr0).toArray) 4 40 Tryz.underlying54 hi hz hsz9 hb9 rfl (by decide) (.slice F.av r.vars.length F.cv) r.vars.length _ rfl HOa.out ⟨_, 0, none⟩ 1 1 [.string ⟨vn.toArray⟩, .bool va, .int .i64 (vs : Nat), .int .i64 (384 + (r.words : Int))] rfl rfl (fun j u hu => cells_new w0 [.string ⟨vn.toArray⟩, .bool va, .int .i64 (vs : Nat), .int .i64 (384 + (r.words : Int))] 63 j u hu) (by rw [← HvL.out]; exact vrL_one _) (by unfold maxLen; omega) (by omega) (by simp; omega) ?_
        intro v4 w4 ho4 hg4 _
        obtain ⟨a4, c4, rfl⟩ := own_shape ho4
        have hgA : g < (w0.alloc (.cells #[.string ⟨vn.toArray⟩, .bool va, .int .i64 (vs : Nat), .int .i64 (384 + (r.words : Int))] 63)).heap.size := by simp; have := HBe.out.lt; omega
        have hBf : Blk w4 g 77 (rdL F ts.length r3) := (HBe.out.below HbA.out HBe.out.lt).keep (hg4.block g hgA (fun e => by have := (HOa.out.lt g e.symm).1; omega))
        have hXl := HXe.out.lt
        have hXf : Blk w4 w.heap.size 63 (vrL ⟨vn, va, vs, 384 + r.words⟩) := (HXe.out.below HbA.out HXe.out.lt).keep (hg4.block w.heap.size (by simp; omega) (fun e => HNe.out e.symm))
        have HOf := hide ho4
        have HGf := hide hg4
        have f6 := hBf.frz 6
        have e6 : w4.cell? ⟨g, 6, none⟩ = some (.slice F.av r.vars.length F.cv) := by
          have := hBf.get (j := 6) rfl
          rw [HR3.out.1] at this
          exact this
        have HBf := hide hBf
        have HS2 : Hid ((fun W => ∀ (j : Nat) (u : Value), ([.string ⟨vn.toArray⟩, .bool va, .int .i64 (vs : Nat), .int .i64 (384 + (r.words : Int))] : List Value)[j]? = some u → W.cell? ((⟨w.heap.size, 0, none⟩ : Addr).add j) = some u) w4) := hide (by have hc := hXf.cells; rw [HvL.out] at hc; exact hc)
        have HXf := hide hXf
        clear ho4 hg4 hBf hXf hXl
        refine hK _ _ HS2.out ?_
        clear hK K'
        try simp only [Act.put, List.setIfInBounds_toArray, List.set_cons_zero, List.set_cons_succ]
        refine hd_take 8 (o := ⟨some 71, _, _, _, _, _⟩) (.pointer (some ⟨g, 0, none⟩)) (by kernel_rfl) (by kernel_rfl) (by kernel_rfl) rfl (by rfl) (fun W hSw => by go_simp) (fun _ _ _ h => h) HS2.out ?_
        simp only [Act.put, List.setIfInBounds_toArray, List.set_cons_zero, List.set_cons_succ]
        refine hd_take 9 (o := ⟨some 72, _, _, _, _, _⟩) (.pointer (some ⟨g, 6, none⟩)) (by kernel_rfl) (by kernel_rfl) (by kernel_rfl) rfl (by rfl) (fun W hSw => by go_simp) (fun _ _ _ h => h) HS2.out ?_
        simp only [Act.put, List.setIfInBounds_toArray, List.set_cons_zero, List.set_cons_succ]
        refine hd_call 10 (o := ⟨none, _, _, _, _, _⟩) (by kernel_rfl) rfl (by rfl) (fun K' hK => ?_)
        have HS3 : Hid ((fun W => ∀ (j : Nat) (u : Value), ([.string ⟨vn.toArray⟩, .bool va, .int .i64 (vs : Nat), .int .i64 (384 + (r.words : Int))] : List Value)[j]? = some u → W.cell? ((⟨w.heap.size, 0, none⟩ : Addr).add j) = some u) (w4.setCell ⟨g, 6, none⟩ (.slice a4 (r.vars.length + 1) c4))) := hide (fun j u hu => by have hq := HS2.out j u hu; rw [add0] at hq ⊢; rw [World.cell?_of_block (a := ⟨w.heap.size, j, none⟩) (heap_setCell_other w4 ⟨g, 6, none⟩ w.heap.size _ (by show w.heap.size ≠ g; omega))]; exact hq)
        go_simp
        refine hK _ _ HS3.out ?_
        clear hK K'
        try simp only [Act.put]
        refine wpAnyH_done (by kernel_rfl) ?_ _
        go_wp2
        go_end0
        have hkS := Kp.set (j := 6) (Kp.refl g w4) (.slice a4 (r.vars.length + 1) c4)
        have hblk : ∀ k, k < g → (w4.setCell ⟨g, 6, none⟩ (.slice a4 (r.vars.length + 1) c4)).heap[k]? = w0.heap[k]? := fun k hk => by
          rw [heap_setCell_other w4 ⟨g, 6, none⟩ k _ (by show k ≠ g; omega), HGf.out.block k (by simp; omega) (fun e => by have := (HOa.out.lt k e.symm).1; omega)]
          exact HbA.out.block k (by omega)
        have hfin := RdA.decl (r3 := r3) (v := ⟨vn, va, vs, 384 + r.words⟩) (av := a4) (cv := c4) (ps := ps') HR.out HD.out (w' := w4.setCell ⟨g, 6, none⟩ (.slice a4 (r.vars.length + 1) c4)) (fun k hk hn => (hblk k hk).trans (HKe.out.block k hk hn)) HR3.out.1 HR3.out.2 (by
            have hq := HBf.out.set 6 (.slice a4 (r.vars.length + 1) c4)
            refine ⟨hq.out.trans ?_⟩
            simp [rdL, HR3.out.1]) (by
            have hq := own_keepK HOf.out hkS (Nat.lt_succ_self g)
            rw [← HvL.out] at hq
            simpa using hq) (by
            obtain ⟨es1, c1, e1, e2⟩ := HMe.out
            exact ⟨es1, c1, (hblk F.mp hmg).trans e1, e2⟩) HAt.out
        refine ⟨rfl, { F with av := a4, cv := c4, ps := ps' }, rfl, rfl, rfl, by rw [HV2.out]; exact hfin.1, by rw [HV2.out]; exact hfin.2, ⟨HGf.out.os.trans HKe.out.os, HGf.out.tape.trans HKe.out.tape, HGf.out.output.trans HKe.out.output, ?_, fun k hk => (hblk k (by omega)).trans (HKe.out.block k (by omega) (by omega))⟩⟩
        have h1 := HKe.out.size
        have h2 := HGf.out.size
        simp only [World.size_setCell, World.size_alloc] at h2 ⊢
        omega
    · have h96i : ¬ (96 : Int) < (r1.words : Int) + (vs : Int) := by omega
      rw [if_neg h96] at HV2
      clear h96
      go_upto_region 8 with fail
      generalize W7 = W8 at *
      have HA8 := HA7
      have HK8 := HK7
      have HX8 := HX7'
      have HR3 := HR2
      clear HA7 HK7 HX7' HT7 HR2 c8 t3
      generalize r2 = r3 at *
      have HO8 := hide (own_keepK HD.out.own HK8.out (Nat.lt_succ_self g))
      have HNe : Hid ((Value.slice F.av r.vars.length F.cv).ownBlock ≠ some w.heap.size) := hide (fun e => by have := (HD.out.own.lt _ e).2; omega)
      (try generalize w0 = wold at *)
      obtain ⟨w0, hwD⟩ : ∃ wD, wD = W8.drew := ⟨_, rfl⟩
      have HA9 : Hid (RdA w0 g ts F r3) := by rw [hwD]; exact hide (HA8.out.keep (Below.refl _ W8).drew)
      have HK9 : Hid (Kp g w w0) := by rw [hwD]; exact hide (HK8.out.drew)
      have HX9 : Hid (Blk w0 w.heap.size 63 (vrL ⟨vn, va, vs, 384 + r.words⟩)) := by rw [hwD]; exact hide (HX8.out.below (Below.refl _ W8).drew HX8.out.lt)
      have HO9 : Hid (w0.ownsRow (g + 1) 63 4 (.slice F.av r.vars.length F.cv) r.vars.length (r.vars.flatMap vrL)) := by rw [hwD]; exact hide (own_keepK HO8.out (Kp.of (g := g) (Below.refl _ W8).drew) (Nat.lt_succ_self g))
      have c6 : w0.cell? ⟨g, 6, none⟩ = some (.slice F.av r.vars.length F.cv) := by
        have := HA9.out.b.get (j := 6) rfl
        rw [HR3.out.1] at this
        exact this
      have HS0 : Hid ((fun W => W.cell? ⟨g, 7, none⟩ = some (.map (some F.mp)) ∧ W.cell? ⟨w.heap.size, 0, none⟩ = some (.string ⟨vn.toArray⟩) ∧ W.cell? ⟨g, 6, none⟩ = some (.slice F.av r.vars.length F.cv)) w0) := hide ⟨HA9.out.b.get (j := 7) rfl, HX9.out.get (j := 0) rfl, c6⟩
      obtain ⟨es, ck, ps', hup, hmi, hat⟩ := putS HA9.out.mo vn r.vars.length
      have hmlt : F.mp < w0.heap.size := by have := HK9.out.size; omega
      have HKd : Hid (Kd g F.mp w (w0.putObj F.mp (.map es ck))) := hide ⟨HK9.out.os, HK9.out.tape, HK9.out.output, by simp [World.putObj]; exact HK9.out.size, fun k hk hn => by rw [World.putObj_heap_other hn]; exact HK9.out.block k (by omega) (by omega)⟩
      have HBd : Hid (Blk (w0.putObj F.mp (.map es ck)) g 77 (rdL F ts.length r3)) := hide (HA9.out.b.keep (World.putObj_heap_other (by omega)))
      have HXd : Hid (Blk (w0.putObj F.mp (.map es ck)) w.heap.size 63 (vrL ⟨vn, va, vs, 384 + r.words⟩)) := hide (HX9.out.keep (World.putObj_heap_other (by omega)))
      have HOd : Hid ((w0.putObj F.mp (.map es ck)).ownsRow (g + 1) 63 4 (.slice F.av r.vars.length F.cv) r.vars.length (r.vars.flatMap vrL)) := hide (own_keepK HO9.out (g := F.mp) ⟨rfl, rfl, rfl, by simp [World.putObj], fun k _ hn => World.putObj_heap_other hn⟩ (by omega))
      have HMd := hide hmi
      have HAt := hide hat
      have hsd : (w0.putObj F.mp (.map es ck)).heap.size = w0.heap.size := by simp [World.putObj]
      have d6 : (w0.putObj F.mp (.map es ck)).cell? ⟨g, 6, none⟩ = some (.slice F.av r.vars.length F.cv) := by
        have := HBd.out.get (j := 6) rfl
        rw [HR3.out.1] at this
        exact this
      have HS1 : Hid ((fun W => W.cell? ⟨g, 7, none⟩ = some (.map (some F.mp)) ∧ W.cell? ⟨w.heap.size, 0, none⟩ = some (.string ⟨vn.toArray⟩) ∧ W.cell? ⟨g, 6, none⟩ = some (.slice F.av r.vars.length F.cv)) (w0.putObj F.mp (.map es ck))) := hide ⟨HBd.out.get (j := 7) rfl, HXd.out.get (j := 0) rfl, d6⟩
      have hgw0 : g < w0.heap.size := HA9.out.b.lt
      have hxw0 : w.heap.size < w0.heap.size := HX9.out.lt
      refine wp_region_held_drew (S := fun W => W.cell? ⟨g, 7, none⟩ = some (.map (some F.mp)) ∧ W.cell? ⟨w.heap.size, 0, none⟩ = some (.string ⟨vn.toArray⟩) ∧ W.cell? ⟨g, 6, none⟩ = some (.slice F.av r.vars.length F.cv)) (by kernel_rfl) (by rw [← hwD]; exact HS0.out) (fun hHeld => ?_)
      rw [← hwD]
      clear hwD hHeld HA8 HK8 HX8 HO8 hmi hat c6
      refine hd_take 0 (o := ⟨some 52, _, _, _, _, _⟩) (.pointer (some ⟨g, 0, none⟩)) (by kernel_rfl) (by kernel_rfl) (by kernel_rfl) rfl (by rfl) (fun W hSw => by go_simp) (fun _ _ _ h => h) HS0.out ?_
      simp only [Act.put, List.setIfInBounds_toArray, List.set_cons_zero, List.set_cons_succ]
      refine hd_take 1 (o := ⟨some 53, _, _, _, _, _⟩) (.pointer (some ⟨g, 0, none⟩)) (by kernel_rfl) (by kernel_rfl) (by kernel_rfl) rfl (by rfl) (fun W hSw => by go_simp) (fun _ _ _ h => h) HS0.out ?_
      simp only [Act.put, List.setIfInBounds_toArray, List.set_cons_zero, List.set_cons_succ]
      refine hd_take 2 (o := ⟨some 54, _, _, _, _, _⟩) (.pointer (some ⟨g, 7, none⟩)) (by kernel_rfl) (by kernel_rfl) (by kernel_rfl) rfl (by rfl) (fun W hSw => by go_simp) (fun _ _ _ h => h) HS0.out ?_
      simp only [Act.put, List.setIfInBounds_toArray, List.set_cons_zero, List.set_cons_succ]
      refine hd_take 3 (o := ⟨some 55, _, _, _, _, _⟩) (.map (some F.mp)) (by kernel_rfl) (by kernel_rfl) (by kernel_rfl) rfl (by rfl) (fun W hSw => by have k := hSw.1; go_simp) (fun _ _ _ h => h) HS0.out ?_
      simp only [Act.put, List.setIfInBounds_toArray, List.set_cons_zero, List.set_cons_succ]
      refine hd_take 4 (o := ⟨some 56, _, _, _, _, _⟩) (.pointer (some ⟨w.heap.size, 0, none⟩)) (by kernel_rfl) (by kernel_rfl) (by kernel_rfl) rfl (by rfl) (fun W hSw => by go_simp) (fun _ _ _ h => h) HS0.out ?_
      simp only [Act.put, List.setIfInBounds_toArray, List.set_cons_zero, List.set_cons_succ]
      refine hd_take 5 (o := ⟨some 57, _, _, _, _, _⟩) (.string ⟨vn.toArray⟩) (by kernel_rfl) (by kernel_rfl) (by kernel_rfl) rfl (by rfl) (fun W hSw => by have k := hSw.2.1; go_simp) (fun _ _ _ h => h) HS0.out ?_
      simp only [Act.put, List.setIfInBounds_toArray, List.set_cons_zero, List.set_cons_succ]
      refine hd_take 6 (o := ⟨some 58, _, _, _, _, _⟩) (.pointer (some ⟨g, 0, none⟩)) (by kernel_rfl) (by kernel_rfl) (by kernel_rfl) rfl (by rfl) (fun W hSw => by go_simp) (fun _ _ _ h => h) HS0.out ?_
      simp only [Act.put, List.setIfInBounds_toArray, List.set_cons_zero, List.set_cons_succ]
      refine hd_take 7 (o := ⟨some 59, _, _, _, _, _⟩) (.pointer (some ⟨g, 0, none⟩)) (by kernel_rfl) (by kernel_rfl) (by kernel_rfl) rfl (by rfl) (fun W hSw => by go_simp) (fun _ _ _ h => h) HS0.out ?_
      simp only [Act.put, List.setIfInBounds_toArray, List.set_cons_zero, List.set_cons_succ]
      refine hd_take 8 (o := ⟨some 60, _, _, _, _, _⟩) (.pointer (some ⟨g, 6, none⟩)) (by kernel_rfl) (by kernel_rfl) (by kernel_rfl) rfl (by rfl) (fun W hSw => by go_simp) (fun _ _ _ h => h) HS0.out ?_
      simp only [Act.put, List.setIfInBounds_toArray, List.set_cons_zero, List.set_cons_succ]
      refine hd_take 9 (o := ⟨some 61, _, _, _, _, _⟩) (.slice F.av r.vars.length F.cv) (by kernel_rfl) (by kernel_rfl) (by kernel_rfl) rfl (by rfl) (fun W hSw => by have k := hSw.2.2; go_simp) (fun _ _ _ h => h) HS0.out ?_
      simp only [Act.put, List.setIfInBounds_toArray, List.set_cons_zero, List.set_cons_succ]
      refine hd_take 10 (o := ⟨some 62, _, _, _, _, _⟩) (.int .i64 (r.vars.length : Nat)) (by kernel_rfl) (by kernel_rfl) (by kernel_rfl) rfl (by rfl) (fun W hSw => by go_simp) (fun _ _ _ h => h) HS0.out ?_
      simp only [Act.put, List.setIfInBounds_toArray, List.set_cons_zero, List.set_cons_succ]
      refine hd_call 11 (o := ⟨none, _, _, _, _, _⟩) (by kernel_rfl) rfl (by rfl) (fun K' hK => ?_)
      go_simp
      refine hK _ _ HS1.out ?_
      clear hK K'
      try simp only [Act.put]
      refine wpAnyH_done (by kernel_rfl) ?_ _
      clear HS0 HS1 hup HA9 HK9 HX9 HO9 d6
      generalize w0.putObj F.mp (.map es ck) = Wm at *
      go_upto_region 9 with fail
      generalize w0 = wold2 at *
      obtain ⟨w0, hwD⟩ : ∃ wD, wD = Wm.drew := ⟨_, rfl⟩
      have HKe : Hid (Kd g F.mp w w0) := by rw [hwD]; exact hide (⟨HKd.out.os, HKd.out.tape, HKd.out.output, HKd.out.size, fun k hk hn => HKd.out.block k hk hn⟩)
      have HBe : Hid (Blk w0 g 77 (rdL F ts.length r3)) := by rw [hwD]; exact hide (HBd.out.below (Below.refl _ Wm).drew HBd.out.lt)
      have HXe : Hid (Blk w0 w.heap.size 63 (vrL ⟨vn, va, vs, 384 + r.words⟩)) := by rw [hwD]; exact hide (HXd.out.below (Below.refl _ Wm).drew HXd.out.lt)
      have HOe : Hid (w0.ownsRow (g + 1) 63 4 (.slice F.av r.vars.length F.cv) r.vars.length (r.vars.flatMap vrL)) := by rw [hwD]; exact hide (own_keepK HOd.out (Kp.of (g := g) (Below.refl _ Wm).drew) (Nat.lt_succ_self g))
      have HMe : Hid (MapIs w0 F.mp KS pE ps') := by rw [hwD]; exact hide (HMd.out.keepK (Kp.of (g := g) (Below.refl _ Wm).drew) (by omega))
      have hgw := HBe.out.lt
      have hxw := HXe.out.lt
      have HvL : Hid (vrL ⟨vn, va, vs, 384 + r.words⟩ = [.string ⟨vn.toArray⟩, .bool va, .int .i64 (vs : Nat), .int .i64 (384 + (r.words : Int))]) := hide (by simp [vrL])
      have HS0 : Hid ((fun W => ∀ (j : Nat) (u : Value), ([.string ⟨vn.toArray⟩, .bool va, .int .i64 (vs : Nat), .int .i64 (384 + (r.words : Int))] : List Value)[j]? = some u → W.cell? ((⟨w.heap.size, 0, none⟩ : Addr).add j) = some u) w0) := hide (by have hc := HXe.out.cells; rw [HvL.out] at hc; exact hc)
      have c6 : w0.cell? ⟨g, 6, none⟩ = some (.slice F.av r.vars.length F.cv) := by
        have := HBe.out.get (j := 6) rfl
        rw [HR3.out.1] at this
        exact this
      have HbA := hide (bel1 w0 (.cells #[.string ⟨vn.toArray⟩, .bool va, .int .i64 (vs : Nat), .int .i64 (384 + (r.words : Int))] 63))
      have HS1 : Hid ((fun W => ∀ (j : Nat) (u : Value), ([.string ⟨vn.toArray⟩, .bool va, .int .i64 (vs : Nat), .int .i64 (384 + (r.words : Int))] : List Value)[j]? = some u → W.cell? ((⟨w.heap.size, 0, none⟩ : Addr).add j) = some u) (w0.alloc (.cells #[.string ⟨vn.toArray⟩, .bool va, .int .i64 (vs : Nat), .int .i64 (384 + (r.words : Int))] 63))) := hide (fun j u hu => by rw [HbA.out.cell (cell_blk (HS0.out j u hu))]; exact HS0.out j u hu)
      have HOa : Hid ((w0.alloc (.cells #[.string ⟨vn.toArray⟩, .bool va, .int .i64 (vs : Nat), .int .i64 (384 + (r.words : Int))] 63)).ownsRow (g + 1) 63 4 (.slice F.av r.vars.length F.cv) r.vars.length (r.vars.flatMap vrL)) := hide (own_keep HOe.out HbA.out)
      have c6a : (w0.alloc (.cells #[.string ⟨vn.toArray⟩, .bool va, .int .i64 (vs : Nat), .int .i64 (384 + (r.words : Int))] 63)).cell? ⟨g, 6, none⟩ = some (.slice F.av r.vars.length F.cv) := by rw [HbA.out.cell (p := ⟨g, 6, none⟩) HBe.out.lt]; exact c6
      refine wp_region_held_drew (S := fun W => ∀ (j : Nat) (u : Value), ([.string ⟨vn.toArray⟩, .bool va, .int .i64 (vs : Nat), .int .i64 (384 + (r.words : Int))] : List Value)[j]? = some u → W.cell? ((⟨w.heap.size, 0, none⟩ : Addr).add j) = some u) (by kernel_rfl) (by rw [← hwD]; exact HS0.out) (fun hHeld => ?_)
      rw [← hwD]
      clear hwD hHeld HKd HBd HXd HOd HMd hsd hgw0 hxw0 hmlt
      refine hd_take 0 (o := ⟨some 63, _, _, _, _, _⟩) (.pointer (some ⟨g, 0, none⟩)) (by kernel_rfl) (by kernel_rfl) (by kernel_rfl) rfl (by rfl) (fun W hSw => by go_simp) (fun _ _ _ h => h) HS0.out ?_
      simp only [Act.put, List.setIfInBounds_toArray, List.set_cons_zero, List.set_cons_succ]
      refine hd_take 1 (o := ⟨some 64, _, _, _, _, _⟩) (.pointer (some ⟨g, 0, none⟩)) (by kernel_rfl) (by kernel_rfl) (by kernel_rfl) rfl (by rfl) (fun W hSw => by go_simp) (fun _ _ _ h => h) HS0.out ?_
      simp only [Act.put, List.setIfInBounds_toArray, List.set_cons_zero, List.set_cons_succ]
      refine hd_take 2 (o := ⟨some 65, _, _, _, _, _⟩) (.pointer (some ⟨g, 0, none⟩)) (by kernel_rfl) (by kernel_rfl) (by kernel_rfl) rfl (by rfl) (fun W hSw => by go_simp) (fun _ _ _ h => h) HS0.out ?_
      simp only [Act.put, List.setIfInBounds_toArray, List.set_cons_zero, List.set_cons_succ]
      refine hd_take 3 (o := ⟨some 66, _, _, _, _, _⟩) (.pointer (some ⟨g, 6, none⟩)) (by kernel_rfl) (by kernel_rfl) (by kernel_rfl) rfl (by rfl) (fun W hSw => by go_simp) (fun _ _ _ h => h) HS0.out ?_
      simp only [Act.put, List.setIfInBounds_toArray, List.set_cons_zero, List.set_cons_succ]
      refine hd_take 5 (o := ⟨some 68, _, _, _, _, _⟩) (.agg #[.string ⟨vn.toArray⟩, .bool va, .int .i64 (vs : Nat), .int .i64 (384 + (r.words : Int))]) (by kernel_rfl) (by kernel_rfl) (by kernel_rfl) rfl (by rfl) (fun W hSw => by exact run_loadT Tryz.underlying63 rfl [.string ⟨vn.toArray⟩, .bool va, .int .i64 (vs : Nat), .int .i64 (384 + (r.words : Int))] info_vr _ rfl ⟨w.heap.size, 0, none⟩ rfl hSw) (fun _ _ _ h => h) HS0.out ?_
      simp only [Act.put, List.setIfInBounds_toArray, List.set_cons_zero, List.set_cons_succ]
      refine hd_both 4 6 (o1 := ⟨some 67, _, _, _, _, _⟩) (o2 := ⟨some 69, _, _, _, _, _⟩) (by kernel_rfl) rfl rfl (by rfl) (by rfl) (fun K' hK => ?_) (fun K' hK => ?_)
      · go_simp
        refine hK _ _ HS0.out ?_
        clear hK K'
        try simp only [Act.put, List.setIfInBounds_toArray, List.set_cons_zero, List.set_cons_succ]
        refine hd_call 6 (o := ⟨some 69, _, _, _, _, _⟩) (by kernel_rfl) rfl (by rfl) (fun K' hK => ?_)
        go_simp
        refine hK _ _ HS1.out ?_
        clear hK K'
        try simp only [Act.put, List.setIfInBounds_toArray, List.set_cons_zero, List.set_cons_succ]
        refine hd_call 7 (o := ⟨some 70, _, _, _, _, _⟩) (by kernel_rfl) rfl (by rfl) (fun K' hK => ?_)
        refine wp_append_own _ _ _ 54 rfl (g + 1) 63 i9 (.agg (vrL vr0).toArray) 4 40 Tryz.underlying54 hi hz hsz9 hb9 rfl (by decide) (.slice F.av r.vars.length F.cv) r.vars.length _ rfl HOa.out ⟨_, 0, none⟩ 1 1 [.string ⟨vn.toArray⟩, .bool va, .int .i64 (vs : Nat), .int .i64 (384 + (r.words : Int))] rfl rfl (fun j u hu => cells_new w0 [.string ⟨vn.toArray⟩, .bool va, .int .i64 (vs : Nat), .int .i64 (384 + (r.words : Int))] 63 j u hu) (by rw [← HvL.out]; exact vrL_one _) (by unfold maxLen; omega) (by omega) (by simp; omega) ?_
        intro v4 w4 ho4 hg4 _
        obtain ⟨a4, c4, rfl⟩ := own_shape ho4
        have hgA : g < (w0.alloc (.cells #[.string ⟨vn.toArray⟩, .bool va, .int .i64 (vs : Nat), .int .i64 (384 + (r.words : Int))] 63)).heap.size := by simp; have := HBe.out.lt; omega
        have hBf : Blk w4 g 77 (rdL F ts.length r3) := (HBe.out.below HbA.out HBe.out.lt).keep (hg4.block g hgA (fun e => by have := (HOa.out.lt g e.symm).1; omega))
        have hXl := HXe.out.lt
        have hXf : Blk w4 w.heap.size 63 (vrL ⟨vn, va, vs, 384 + r.words⟩) := (HXe.out.below HbA.out HXe.out.lt).keep (hg4.block w.heap.size (by simp; omega) (fun e => HNe.out e.symm))
        have HOf := hide ho4
        have HGf := hide hg4
        have f6 := hBf.frz 6
        have e6 : w4.cell? ⟨g, 6, none⟩ = some (.slice F.av r.vars.length F.cv) := by
          have := hBf.get (j := 6) rfl
          rw [HR3.out.1] at this
          exact this
        have HBf := hide hBf
        have HS2 : Hid ((fun W => ∀ (j : Nat) (u : Value), ([.string ⟨vn.toArray⟩, .bool va, .int .i64 (vs : Nat), .int .i64 (384 + (r.words : Int))] : List Value)[j]? = some u → W.cell? ((⟨w.heap.size, 0, none⟩ : Addr).add j) = some u) w4) := hide (by have hc := hXf.cells; rw [HvL.out] at hc; exact hc)
        have HXf := hide hXf
        clear ho4 hg4 hBf hXf hXl
        refine hK _ _ HS2.out ?_
        clear hK K'
        try simp only [Act.put, List.setIfInBounds_toArray, List.set_cons_zero, List.set_cons_succ]
        refine hd_take 8 (o := ⟨some 71, _, _, _, _, _⟩) (.pointer (some ⟨g, 0, none⟩)) (by kernel_rfl) (by kernel_rfl) (by kernel_rfl) rfl (by rfl) (fun W hSw => by go_simp) (fun _ _ _ h => h) HS2.out ?_
        simp only [Act.put, List.setIfInBounds_toArray, List.set_cons_zero, List.set_cons_succ]
        refine hd_take 9 (o := ⟨some 72, _, _, _, _, _⟩) (.pointer (some ⟨g, 6, none⟩)) (by kernel_rfl) (by kernel_rfl) (by kernel_rfl) rfl (by rfl) (fun W hSw => by go_simp) (fun _ _ _ h => h) HS2.out ?_
        simp only [Act.put, List.setIfInBounds_toArray, List.set_cons_zero, List.set_cons_succ]
        refine hd_call 10 (o := ⟨none, _, _, _, _, _⟩) (by kernel_rfl) rfl (by rfl) (fun K' hK => ?_)
        have HS3 : Hid ((fun W => ∀ (j : Nat) (u : Value), ([.string ⟨vn.toArray⟩, .bool va, .int .i64 (vs : Nat), .int .i64 (384 + (r.words : Int))] : List Value)[j]? = some u → W.cell? ((⟨w.heap.size, 0, none⟩ : Addr).add j) = some u) (w4.setCell ⟨g, 6, none⟩ (.slice a4 (r.vars.length + 1) c4))) := hide (fun j u hu => by have hq := HS2.out j u hu; rw [add0] at hq ⊢; rw [World.cell?_of_block (a := ⟨w.heap.size, j, none⟩) (heap_setCell_other w4 ⟨g, 6, none⟩ w.heap.size _ (by show w.heap.size ≠ g; omega))]; exact hq)
        go_simp
        refine hK _ _ HS3.out ?_
        clear hK K'
        try simp only [Act.put]
        refine wpAnyH_done (by kernel_rfl) ?_ _
        go_wp2
        go_end0
        have hkS := Kp.set (j := 6) (Kp.refl g w4) (.slice a4 (r.vars.length + 1) c4)
        have hblk : ∀ k, k < g → (w4.setCell ⟨g, 6, none⟩ (.slice a4 (r.vars.length + 1) c4)).heap[k]? = w0.heap[k]? := fun k hk => by
          rw [heap_setCell_other w4 ⟨g, 6, none⟩ k _ (by show k ≠ g; omega), HGf.out.block k (by simp; omega) (fun e => by have := (HOa.out.lt k e.symm).1; omega)]
          exact HbA.out.block k (by omega)
        have hfin := RdA.decl (r3 := r3) (v := ⟨vn, va, vs, 384 + r.words⟩) (av := a4) (cv := c4) (ps := ps') HR.out HD.out (w' := w4.setCell ⟨g, 6, none⟩ (.slice a4 (r.vars.length + 1) c4)) (fun k hk hn => (hblk k hk).trans (HKe.out.block k hk hn)) HR3.out.1 HR3.out.2 (by
            have hq := HBf.out.set 6 (.slice a4 (r.vars.length + 1) c4)
            refine ⟨hq.out.trans ?_⟩
            simp [rdL, HR3.out.1]) (by
            have hq := own_keepK HOf.out hkS (Nat.lt_succ_self g)
            rw [← HvL.out] at hq
            simpa using hq) (by
            obtain ⟨es1, c1, e1, e2⟩ := HMe.out
            exact ⟨es1, c1, (hblk F.mp hmg).trans e1, e2⟩) HAt.out
        refine ⟨rfl, { F with av := a4, cv := c4, ps := ps' }, rfl, rfl, rfl, by rw [HV2.out]; exact hfin.1, by rw [HV2.out]; exact hfin.2, ⟨HGf.out.os.trans HKe.out.os, HGf.out.tape.trans HKe.out.tape, HGf.out.output.trans HKe.out.output, ?_, fun k hk => (hblk k (by omega)).trans (HKe.out.block k (by omega) (by omega))⟩⟩
        have h1 := HKe.out.size
        have h2 := HGf.out.size
        simp only [World.size_setCell, World.size_alloc] at h2 ⊢
        omega
      · go_simp
        refine hK _ _ HS1.out ?_
        clear hK K'
        try simp only [Act.put, List.setIfInBounds_toArray, List.set_cons_zero, List.set_cons_succ]
        refine hd_call 4 (o := ⟨some 67, _, _, _, _, _⟩) (by kernel_rfl) rfl (by rfl) (fun K' hK => ?_)
        go_simp
        refine hK _ _ HS1.out ?_
        clear hK K'
        try simp only [Act.put, List.setIfInBounds_toArray, List.set_cons_zero, List.set_cons_succ]
        refine hd_call 7 (o := ⟨some 70, _, _, _, _, _⟩) (by kernel_rfl) rfl (by rfl) (fun K' hK => ?_)
        refine wp_append_own _ _ _ 54 rfl (g + 1) 63 i9 (.agg (vrL vr0).toArray) 4 40 Tryz.underlying54 hi hz hsz9 hb9 rfl (by decide) (.slice F.av r.vars.length F.cv) r.vars.length _ rfl HOa.out ⟨_, 0, none⟩ 1 1 [.string ⟨vn.toArray⟩, .bool va, .int .i64 (vs : Nat), .int .i64 (384 + (r.words : Int))] rfl rfl (fun j u hu => cells_new w0 [.string ⟨vn.toArray⟩, .bool va, .int .i64 (vs : Nat), .int .i64 (384 + (r.words : Int))] 63 j u hu) (by rw [← HvL.out]; exact vrL_one _) (by unfold maxLen; omega) (by omega) (by simp; omega) ?_
        intro v4 w4 ho4 hg4 _
        obtain ⟨a4, c4, rfl⟩ := own_shape ho4
        have hgA : g < (w0.alloc (.cells #[.string ⟨vn.toArray⟩, .bool va, .int .i64 (vs : Nat), .int .i64 (384 + (r.words : Int))] 63)).heap.size := by simp; have := HBe.out.lt; omega
        have hBf : Blk w4 g 77 (rdL F ts.length r3) := (HBe.out.below HbA.out HBe.out.lt).keep (hg4.block g hgA (fun e => by have := (HOa.out.lt g e.symm).1; omega))
        have hXl := HXe.out.lt
        have hXf : Blk w4 w.heap.size 63 (vrL ⟨vn, va, vs, 384 + r.words⟩) := (HXe.out.below HbA.out HXe.out.lt).keep (hg4.block w.heap.size (by simp; omega) (fun e => HNe.out e.symm))
        have HOf := hide ho4
        have HGf := hide hg4
        have f6 := hBf.frz 6
        have e6 : w4.cell? ⟨g, 6, none⟩ = some (.slice F.av r.vars.length F.cv) := by
          have := hBf.get (j := 6) rfl
          rw [HR3.out.1] at this
          exact this
        have HBf := hide hBf
        have HS2 : Hid ((fun W => ∀ (j : Nat) (u : Value), ([.string ⟨vn.toArray⟩, .bool va, .int .i64 (vs : Nat), .int .i64 (384 + (r.words : Int))] : List Value)[j]? = some u → W.cell? ((⟨w.heap.size, 0, none⟩ : Addr).add j) = some u) w4) := hide (by have hc := hXf.cells; rw [HvL.out] at hc; exact hc)
        have HXf := hide hXf
        clear ho4 hg4 hBf hXf hXl
        refine hK _ _ HS2.out ?_
        clear hK K'
        try simp only [Act.put, List.setIfInBounds_toArray, List.set_cons_zero, List.set_cons_succ]
        refine hd_take 8 (o := ⟨some 71, _, _, _, _, _⟩) (.pointer (some ⟨g, 0, none⟩)) (by kernel_rfl) (by kernel_rfl) (by kernel_rfl) rfl (by rfl) (fun W hSw => by go_simp) (fun _ _ _ h => h) HS2.out ?_
        simp only [Act.put, List.setIfInBounds_toArray, List.set_cons_zero, List.set_cons_succ]
        refine hd_take 9 (o := ⟨some 72, _, _, _, _, _⟩) (.pointer (some ⟨g, 6, none⟩)) (by kernel_rfl) (by kernel_rfl) (by kernel_rfl) rfl (by rfl) (fun W hSw => by go_simp) (fun _ _ _ h => h) HS2.out ?_
        simp only [Act.put, List.setIfInBounds_toArray, List.set_cons_zero, List.set_cons_succ]
        refine hd_call 10 (o := ⟨none, _, _, _, _, _⟩) (by kernel_rfl) rfl (by rfl) (fun K' hK => ?_)
        have HS3 : Hid ((fun W => ∀ (j : Nat) (u : Value), ([.string ⟨vn.toArray⟩, .bool va, .int .i64 (vs : Nat), .int .i64 (384 + (r.words : Int))] : List Value)[j]? = some u → W.cell? ((⟨w.heap.size, 0, none⟩ : Addr).add j) = some u) (w4.setCell ⟨g, 6, none⟩ (.slice a4 (r.vars.length + 1) c4))) := hide (fun j u hu => by have hq := HS2.out j u hu; rw [add0] at hq ⊢; rw [World.cell?_of_block (a := ⟨w.heap.size, j, none⟩) (heap_setCell_other w4 ⟨g, 6, none⟩ w.heap.size _ (by show w.heap.size ≠ g; omega))]; exact hq)
        go_simp
        refine hK _ _ HS3.out ?_
        clear hK K'
        try simp only [Act.put]
        refine wpAnyH_done (by kernel_rfl) ?_ _
        go_wp2
        go_end0
        have hkS := Kp.set (j := 6) (Kp.refl g w4) (.slice a4 (r.vars.length + 1) c4)
        have hblk : ∀ k, k < g → (w4.setCell ⟨g, 6, none⟩ (.slice a4 (r.vars.length + 1) c4)).heap[k]? = w0.heap[k]? := fun k hk => by
          rw [heap_setCell_other w4 ⟨g, 6, none⟩ k _ (by show k ≠ g; omega), HGf.out.block k (by simp; omega) (fun e => by have := (HOa.out.lt k e.symm).1; omega)]
          exact HbA.out.block k (by omega)
        have hfin := RdA.decl (r3 := r3) (v := ⟨vn, va, vs, 384 + r.words⟩) (av := a4) (cv := c4) (ps := ps') HR.out HD.out (w' := w4.setCell ⟨g, 6, none⟩ (.slice a4 (r.vars.length + 1) c4)) (fun k hk hn => (hblk k hk).trans (HKe.out.block k hk hn)) HR3.out.1 HR3.out.2 (by
            have hq := HBf.out.set 6 (.slice a4 (r.vars.length + 1) c4)
            refine ⟨hq.out.trans ?_⟩
            simp [rdL, HR3.out.1]) (by
            have hq := own_keepK HOf.out hkS (Nat.lt_succ_self g)
            rw [← HvL.out] at hq
            simpa using hq) (by
            obtain ⟨es1, c1, e1, e2⟩ := HMe.out
            exact ⟨es1, c1, (hblk F.mp hmg).trans e1, e2⟩) HAt.out
        refine ⟨rfl, { F with av := a4, cv := c4, ps := ps' }, rfl, rfl, rfl, by rw [HV2.out]; exact hfin.1, by rw [HV2.out]; exact hfin.2, ⟨HGf.out.os.trans HKe.out.os, HGf.out.tape.trans HKe.out.tape, HGf.out.output.trans HKe.out.output, ?_, fun k hk => (hblk k (by omega)).trans (HKe.out.block k (by omega) (by omega))⟩⟩
        have h1 := HKe.out.size
        have h2 := HGf.out.size
        simp only [World.size_setCell, World.size_alloc] at h2 ⊢
        omega
  | false =>
    by_cases hk2 : tk = 2
    · have hkb : ((tk : Int) == 2) = true := by simp; omega
      have HV1 : Hid (RT = Rd.dc2 (r.nname tl) r.words ⟨vn, va, vs, vt⟩ ⟨tk, tx, tv, tl⟩) := hide (HV0.out.trans (by rw [if_pos (.inr hk2)]))
      clear HV0 hk2
      go_wp2_with fail
      refine HNt.out.mono ?_
      rintro e w3 ⟨rfl, hA4, hk4⟩
      have HA4 := hide hA4
      have HK4 := hide (HK3.out.trans hk4)
      have HX4 := hide (HX3.out.keepK hk4 (by omega))
      have HT4 := hide (HT3.out.keepK hk4 (by omega))
      have hw1 : (r.nname tl).words ≤ 100000000000000 := by rw [(fr_name r tl).words]; exact hwd
      have hr1 : (r.nname tl).vars = r.vars ∧ (r.nname tl).at' = r.at' ∧ (r.nname tl).words = r.words := ⟨(fr_name r tl).vars, by unfold Rd.nname; split <;> rfl, (fr_name r tl).words⟩
      have HR1 := hide hr1
      clear hA4 hk4 HNt HA3 HK3 HX3 HT3 t0 t3 hr1
      generalize r.nname tl = r1 at *
      have c8 := HA4.out.b.get (j := 8) rfl
      have x3 := HX4.out.get (j := 3) rfl
      have f3 := HX4.out.frz 3
      have HA5 := hide (RdA.setN (N := w.heap.size) (j := 3) HR.out HK4.out HA4.out HR1.out.1 (Nat.le_refl _) (.int .i64 (384 + (r1.words : Int))))
      have HK5 := hide (HK4.out.setN (N := w.heap.size) (j := 3) (Nat.le_refl _) (.int .i64 (384 + (r1.words : Int))))
      have HX5 : Hid (Blk (w3.setCell ⟨w.heap.size, 3, none⟩ (.int .i64 (384 + (r1.words : Int)))) w.heap.size 63 (vrL ⟨vn, va, vs, 384 + r1.words⟩)) := hide (by
        have e : ((384 + r1.words : Nat) : Int) = 384 + (r1.words : Int) := by omega
        have := HX4.out.set 3 (.int .i64 ((384 + r1.words : Nat) : Int))
        rw [e] at this
        refine ⟨this.out.trans ?_⟩
        simp [vrL])
      have HT5 := hide (HT4.out.setN (N := w.heap.size) (j := 3) (by omega) (.int .i64 (384 + (r1.words : Int))))
      clear HA4 HK4 HX4 HT4
      go_upto_region 5 with fail
      clear c8 x3 f3
      generalize w3.setCell ⟨w.heap.size, 3, none⟩ (.int .i64 (384 + (r1.words : Int))) = W5 at *
      (try generalize w0 = wold at *)
      obtain ⟨w0, hwD⟩ : ∃ wD, wD = W5.drew := ⟨_, rfl⟩
      have HA6 : Hid (RdA w0 g ts F r1) := by rw [hwD]; exact hide (HA5.out.keep (Below.refl _ W5).drew)
      have HK6 : Hid (Kp g w w0) := by rw [hwD]; exact hide (HK5.out.drew)
      have HX6 : Hid (Blk w0 w.heap.size 63 (vrL ⟨vn, va, vs, 384 + r1.words⟩)) := by rw [hwD]; exact hide (HX5.out.below (Below.refl _ W5).drew HX5.out.lt)
      have HT6 : Hid (Blk w0 (w.heap.size + 1) 115 (tkL ⟨tk, tx, tv, tl⟩)) := by rw [hwD]; exact hide (HT5.out.below (Below.refl _ W5).drew HT5.out.lt)
      have HS0 : Hid ((fun W => W.cell? ⟨w.heap.size, 2, none⟩ = some (.int .i64 (vs : Nat))) w0) := hide (HX6.out.get (j := 2) rfl)
      have c8 := HA6.out.b.get (j := 8) rfl
      have f8 := HA6.out.b.frz 8
      have hwa : IntKind.i64.wrap ((r1.words : Int) + (vs : Int)) = (r1.words : Int) + (vs : Int) := by rw [IntKind.wrap_i64]; omega
      have HA7 : Hid (RdA (w0.setCell ⟨g, 8, none⟩ (.int .i64 ((r1.words : Int) + (vs : Int)))) g ts F { r1 with words := r1.words + vs }) := hide (by
        have e : ((r1.words + vs : Nat) : Int) = (r1.words : Int) + (vs : Int) := by omega
        rw [← e]
        exact HA6.out.to (Kp.set (Kp.refl g w0) _) (HA6.out.b.set 8 _) rfl HA6.out.hat)
      have HK7 := hide (Kp.set (j := 8) HK6.out (.int .i64 ((r1.words : Int) + (vs : Int))))
      have HX7 := hide (HX6.out.setN (N := g) (j := 8) (by omega) (.int .i64 ((r1.words : Int) + (vs : Int))))
      have HT7 := hide (HT6.out.setN (N := g) (j := 8) (by omega) (.int .i64 ((r1.words : Int) + (vs : Int))))
      have HS1 : Hid ((fun W => W.cell? ⟨w.heap.size, 2, none⟩ = some (.int .i64 (vs : Nat))) (w0.setCell ⟨g, 8, none⟩ (.int .i64 ((r1.words : Int) + (vs : Int))))) := hide (HX7.out.get (j := 2) rfl)
      refine wp_region_held_drew (S := fun W => W.cell? ⟨w.heap.size, 2, none⟩ = some (.int .i64 (vs : Nat))) (by kernel_rfl) (by rw [← hwD]; exact HS0.out) (fun hHeld => ?_)
      rw [← hwD]
      clear hwD hHeld HA5 HK5 HX5 HT5
      refine hd_take 0 (o := ⟨some 34, _, _, _, _, _⟩) (.pointer (some ⟨g, 0, none⟩)) (by kernel_rfl) (by kernel_rfl) (by kernel_rfl) rfl (by rfl) (fun W hSw => by go_simp) (fun _ _ _ h => h) HS0.out ?_
      simp only [Act.put, List.setIfInBounds_toArray, List.set_cons_zero, List.set_cons_succ]
      refine hd_take 1 (o := ⟨some 35, _, _, _, _, _⟩) (.pointer (some ⟨g, 0, none⟩)) (by kernel_rfl) (by kernel_rfl) (by kernel_rfl) rfl (by rfl) (fun W hSw => by go_simp) (fun _ _ _ h => h) HS0.out ?_
      simp only [Act.put, List.setIfInBounds_toArray, List.set_cons_zero, List.set_cons_succ]
      refine hd_take 2 (o := ⟨some 36, _, _, _, _, _⟩) (.pointer (some ⟨g, 8, none⟩)) (by kernel_rfl) (by kernel_rfl) (by kernel_rfl) rfl (by rfl) (fun W hSw => by go_simp) (fun _ _ _ h => h) HS0.out ?_
      simp only [Act.put, List.setIfInBounds_toArray, List.set_cons_zero, List.set_cons_succ]
      refine hd_take 4 (o := ⟨some 38, _, _, _, _, _⟩) (.pointer (some ⟨w.heap.size, 2, none⟩)) (by kernel_rfl) (by kernel_rfl) (by kernel_rfl) rfl (by rfl) (fun W hSw => by go_simp) (fun _ _ _ h => h) HS0.out ?_
      simp only [Act.put, List.setIfInBounds_toArray, List.set_cons_zero, List.set_cons_succ]
      refine hd_take 5 (o := ⟨some 39, _, _, _, _, _⟩) (.int .i64 (vs : Nat)) (by kernel_rfl) (by kernel_rfl) (by kernel_rfl) rfl (by rfl) (fun W hSw => by have k : W.cell? ⟨w.heap.size, 2, none⟩ = some (.int .i64 (vs : Nat)) := hSw; go_simp) (fun _ _ _ h => h) HS0.out ?_
      simp only [Act.put, List.setIfInBounds_toArray, List.set_cons_zero, List.set_cons_succ]
      refine hd_call 3 (o := ⟨some 37, _, _, _, _, _⟩) (by kernel_rfl) rfl (by rfl) (fun K' hK => ?_)
      go_simp
      refine hK _ _ HS0.out ?_
      clear hK K'
      try simp only [Act.put, List.setIfInBounds_toArray, List.set_cons_zero, List.set_cons_succ]
      refine hd_take 6 (o := ⟨some 40, _, _, _, _, _⟩) (.int .i64 ((r1.words : Int) + (vs : Int))) (by kernel_rfl) (by kernel_rfl) (by kernel_rfl) rfl (by rfl) (fun W hSw => by go_simp) (fun _ _ _ h => h) HS0.out ?_
      simp only [Act.put, List.setIfInBounds_toArray, List.set_cons_zero, List.set_cons_succ]
      refine hd_take 7 (o := ⟨some 41, _, _, _, _, _⟩) (.pointer (some ⟨g, 0, none⟩)) (by kernel_rfl) (by kernel_rfl) (by kernel_rfl) rfl (by rfl) (fun W hSw => by go_simp) (fun _ _ _ h => h) HS0.out ?_
      simp only [Act.put, List.setIfInBounds_toArray, List.set_cons_zero, List.set_cons_succ]
      refine hd_take 8 (o := ⟨some 42, _, _, _, _, _⟩) (.pointer (some ⟨g, 8, none⟩)) (by kernel_rfl) (by kernel_rfl) (by kernel_rfl) rfl (by rfl) (fun W hSw => by go_simp) (fun _ _ _ h => h) HS0.out ?_
      simp only [Act.put, List.setIfInBounds_toArray, List.set_cons_zero, List.set_cons_succ]
      refine hd_call 9 (o := ⟨none, _, _, _, _, _⟩) (by kernel_rfl) rfl (by rfl) (fun K' hK => ?_)
      go_simp
      refine hK _ _ HS1.out ?_
      clear hK K'
      try simp only [Act.put]
      refine wpAnyH_done (by kernel_rfl) ?_ _
      clear HS0 HS1 c8 f8 HA6 HK6 HX6 HT6
      generalize w0.setCell ⟨g, 8, none⟩ (.int .i64 ((r1.words : Int) + (vs : Int))) = W7 at *
      have HV2 : Hid (RT = { (if 96 < r1.words + vs then ({ r1 with words := r1.words + vs } : Rd).ndat tl else { r1 with words := r1.words + vs }) with vars := (if 96 < r1.words + vs then ({ r1 with words := r1.words + vs } : Rd).ndat tl else { r1 with words := r1.words + vs }).vars ++ [⟨vn, va, vs, 384 + r.words⟩] }) := hide HV1.out
      have HR2 : Hid (({ r1 with words := r1.words + vs } : Rd).vars = r.vars ∧ ({ r1 with words := r1.words + vs } : Rd).at' = r.at') := hide ⟨HR1.out.1, HR1.out.2.1⟩
      have HX7' : Hid (Blk W7 w.heap.size 63 (vrL ⟨vn, va, vs, 384 + r.words⟩)) := hide (by rw [← HR1.out.2.2]; exact HX7.out)
      have c8 := HA7.out.b.get (j := 8) rfl
      simp only [Int.natCast_add] at c8
      have t3 := HT7.out.get (j := 3) rfl
      simp only at t3
      clear HV1 HR1 HX7
      have hw2 : r1.words + vs ≤ 200000000000000 := by omega
      generalize hr2 : ({ r1 with words := r1.words + vs } : Rd) = r2 at *
      clear hr2
      by_cases h96 : 96 < r1.words + vs
      · have h96i : (96 : Int) < (r1.words : Int) + (vs : Int) := by omega
        rw [if_pos h96] at HV2
        have HN7 := hide (note_any W7 g ts F r2 2 tl 2 rfl (by decide) HA7.out)
        change Hid (Calls _ _ _ W7 fun e w' => e = .returned (.tuple #[]) ∧ RdA w' g ts F (r2.ndat tl) ∧ Kp g W7 w') at HN7
        have HR3 : Hid ((r2.ndat tl).vars = r.vars ∧ (r2.ndat tl).at' = r.at') := hide ⟨by unfold Rd.ndat; split <;> exact HR2.out.1, by unfold Rd.ndat; split <;> exact HR2.out.2⟩
        clear h96
        go_wp2_with fail
        refine HN7.out.mono ?_
        rintro e W8 ⟨rfl, hA8, hk8⟩
        have HA8 := hide hA8
        have HK8 := hide (HK7.out.trans hk8)
        have HX8 := hide (HX7'.out.keepK hk8 (by omega))
        clear hA8 hk8 HN7 HA7 HK7 HX7' HT7 HR2 c8 t3
        generalize r2.ndat tl = r3 at *
        go_upto_region 8 with fail
        have HO8 := hide (own_keepK HD.out.own HK8.out (Nat.lt_succ_self g))
        have HNe : Hid ((Value.slice F.av r.vars.length F.cv).ownBlock ≠ some w.heap.size) := hide (fun e => by have := (HD.out.own.lt _ e).2; omega)
        (try generalize w0 = wold at *)
        obtain ⟨w0, hwD⟩ : ∃ wD, wD = W8.drew := ⟨_, rfl⟩
        have HA9 : Hid (RdA w0 g ts F r3) := by rw [hwD]; exact hide (HA8.out.keep (Below.refl _ W8).drew)
        have HK9 : Hid (Kp g w w0) := by rw [hwD]; exact hide (HK8.out.drew)
        have HX9 : Hid (Blk w0 w.heap.size 63 (vrL ⟨vn, va, vs, 384 + r.words⟩)) := by rw [hwD]; exact hide (HX8.out.below (Below.refl _ W8).drew HX8.out.lt)
        have HO9 : Hid (w0.ownsRow (g + 1) 63 4 (.slice F.av r.vars.length F.cv) r.vars.length (r.vars.flatMap vrL)) := by rw [hwD]; exact hide (own_keepK HO8.out (Kp.of (g := g) (Below.refl _ W8).drew) (Nat.lt_succ_self g))
        have c6 : w0.cell? ⟨g, 6, none⟩ = some (.slice F.av r.vars.length F.cv) := by
          have := HA9.out.b.get (j := 6) rfl
          rw [HR3.out.1] at this
          exact this
        have HS0 : Hid ((fun W => W.cell? ⟨g, 7, none⟩ = some (.map (some F.mp)) ∧ W.cell? ⟨w.heap.size, 0, none⟩ = some (.string ⟨vn.toArray⟩) ∧ W.cell? ⟨g, 6, none⟩ = some (.slice F.av r.vars.length F.cv)) w0) := hide ⟨HA9.out.b.get (j := 7) rfl, HX9.out.get (j := 0) rfl, c6⟩
        obtain ⟨es, ck, ps', hup, hmi, hat⟩ := putS HA9.out.mo vn r.vars.length
        have hmlt : F.mp < w0.heap.size := by have := HK9.out.size; omega
        have HKd : Hid (Kd g F.mp w (w0.putObj F.mp (.map es ck))) := hide ⟨HK9.out.os, HK9.out.tape, HK9.out.output, by simp [World.putObj]; exact HK9.out.size, fun k hk hn => by rw [World.putObj_heap_other hn]; exact HK9.out.block k (by omega) (by omega)⟩
        have HBd : Hid (Blk (w0.putObj F.mp (.map es ck)) g 77 (rdL F ts.length r3)) := hide (HA9.out.b.keep (World.putObj_heap_other (by omega)))
        have HXd : Hid (Blk (w0.putObj F.mp (.map es ck)) w.heap.size 63 (vrL ⟨vn, va, vs, 384 + r.words⟩)) := hide (HX9.out.keep (World.putObj_heap_other (by omega)))
        have HOd : Hid ((w0.putObj F.mp (.map es ck)).ownsRow (g + 1) 63 4 (.slice F.av r.vars.length F.cv) r.vars.length (r.vars.flatMap vrL)) := hide (own_keepK HO9.out (g := F.mp) ⟨rfl, rfl, rfl, by simp [World.putObj], fun k _ hn => World.putObj_heap_other hn⟩ (by omega))
        have HMd := hide hmi
        have HAt := hide hat
        have hsd : (w0.putObj F.mp (.map es ck)).heap.size = w0.heap.size := by simp [World.putObj]
        have d6 : (w0.putObj F.mp (.map es ck)).cell? ⟨g, 6, none⟩ = some (.slice F.av r.vars.length F.cv) := by
          have := HBd.out.get (j := 6) rfl
          rw [HR3.out.1] at this
          exact this
        have HS1 : Hid ((fun W => W.cell? ⟨g, 7, none⟩ = some (.map (some F.mp)) ∧ W.cell? ⟨w.heap.size, 0, none⟩ = some (.string ⟨vn.toArray⟩) ∧ W.cell? ⟨g, 6, none⟩ = some (.slice F.av r.vars.length F.cv)) (w0.putObj F.mp (.map es ck))) := hide ⟨HBd.out.get (j := 7) rfl, HXd.out.get (j := 0) rfl, d6⟩
        have hgw0 : g < w0.heap.size := HA9.out.b.lt
        have hxw0 : w.heap.size < w0.heap.size := HX9.out.lt
        refine wp_region_held_drew (S := fun W => W.cell? ⟨g, 7, none⟩ = some (.map (some F.mp)) ∧ W.cell? ⟨w.heap.size, 0, none⟩ = some (.string ⟨vn.toArray⟩) ∧ W.cell? ⟨g, 6, none⟩ = some (.slice F.av r.vars.length F.cv)) (by kernel_rfl) (by rw [← hwD]; exact HS0.out) (fun hHeld => ?_)
        rw [← hwD]
        clear hwD hHeld HA8 HK8 HX8 HO8 hmi hat c6
        refine hd_take 0 (o := ⟨some 52, _, _, _, _, _⟩) (.pointer (some ⟨g, 0, none⟩)) (by kernel_rfl) (by kernel_rfl) (by kernel_rfl) rfl (by rfl) (fun W hSw => by go_simp) (fun _ _ _ h => h) HS0.out ?_
        simp only [Act.put, List.setIfInBounds_toArray, List.set_cons_zero, List.set_cons_succ]
        refine hd_take 1 (o := ⟨some 53, _, _, _, _, _⟩) (.pointer (some ⟨g, 0, none⟩)) (by kernel_rfl) (by kernel_rfl) (by kernel_rfl) rfl (by rfl) (fun W hSw => by go_simp) (fun _ _ _ h => h) HS0.out ?_
        simp only [Act.put, List.setIfInBounds_toArray, List.set_cons_zero, List.set_cons_succ]
        refine hd_take 2 (o := ⟨some 54, _, _, _, _, _⟩) (.pointer (some ⟨g, 7, none⟩)) (by kernel_rfl) (by kernel_rfl) (by kernel_rfl) rfl (by rfl) (fun W hSw => by go_simp) (fun _ _ _ h => h) HS0.out ?_
        simp only [Act.put, List.setIfInBounds_toArray, List.set_cons_zero, List.set_cons_succ]
        refine hd_take 3 (o := ⟨some 55, _, _, _, _, _⟩) (.map (some F.mp)) (by kernel_rfl) (by kernel_rfl) (by kernel_rfl) rfl (by rfl) (fun W hSw => by have k := hSw.1; go_simp) (fun _ _ _ h => h) HS0.out ?_
        simp only [Act.put, List.setIfInBounds_toArray, List.set_cons_zero, List.set_cons_succ]
        refine hd_take 4 (o := ⟨some 56, _, _, _, _, _⟩) (.pointer (some ⟨w.heap.size, 0, none⟩)) (by kernel_rfl) (by kernel_rfl) (by kernel_rfl) rfl (by rfl) (fun W hSw => by go_simp) (fun _ _ _ h => h) HS0.out ?_
        simp only [Act.put, List.setIfInBounds_toArray, List.set_cons_zero, List.set_cons_succ]
        refine hd_take 5 (o := ⟨some 57, _, _, _, _, _⟩) (.string ⟨vn.toArray⟩) (by kernel_rfl) (by kernel_rfl) (by kernel_rfl) rfl (by rfl) (fun W hSw => by have k := hSw.2.1; go_simp) (fun _ _ _ h => h) HS0.out ?_
        simp only [Act.put, List.setIfInBounds_toArray, List.set_cons_zero, List.set_cons_succ]
        refine hd_take 6 (o := ⟨some 58, _, _, _, _, _⟩) (.pointer (some ⟨g, 0, none⟩)) (by kernel_rfl) (by kernel_rfl) (by kernel_rfl) rfl (by rfl) (fun W hSw => by go_simp) (fun _ _ _ h => h) HS0.out ?_
        simp only [Act.put, List.setIfInBounds_toArray, List.set_cons_zero, List.set_cons_succ]
        refine hd_take 7 (o := ⟨some 59, _, _, _, _, _⟩) (.pointer (some ⟨g, 0, none⟩)) (by kernel_rfl) (by kernel_rfl) (by kernel_rfl) rfl (by rfl) (fun W hSw => by go_simp) (fun _ _ _ h => h) HS0.out ?_
        simp only [Act.put, List.setIfInBounds_toArray, List.set_cons_zero, List.set_cons_succ]
        refine hd_take 8 (o := ⟨some 60, _, _, _, _, _⟩) (.pointer (some ⟨g, 6, none⟩)) (by kernel_rfl) (by kernel_rfl) (by kernel_rfl) rfl (by rfl) (fun W hSw => by go_simp) (fun _ _ _ h => h) HS0.out ?_
        simp only [Act.put, List.setIfInBounds_toArray, List.set_cons_zero, List.set_cons_succ]
        refine hd_take 9 (o := ⟨some 61, _, _, _, _, _⟩) (.slice F.av r.vars.length F.cv) (by kernel_rfl) (by kernel_rfl) (by kernel_rfl) rfl (by rfl) (fun W hSw => by have k := hSw.2.2; go_simp) (fun _ _ _ h => h) HS0.out ?_
        simp only [Act.put, List.setIfInBounds_toArray, List.set_cons_zero, List.set_cons_succ]
        refine hd_take 10 (o := ⟨some 62, _, _, _, _, _⟩) (.int .i64 (r.vars.length : Nat)) (by kernel_rfl) (by kernel_rfl) (by kernel_rfl) rfl (by rfl) (fun W hSw => by go_simp) (fun _ _ _ h => h) HS0.out ?_
        simp only [Act.put, List.setIfInBounds_toArray, List.set_cons_zero, List.set_cons_succ]
        refine hd_call 11 (o := ⟨none, _, _, _, _, _⟩) (by kernel_rfl) rfl (by rfl) (fun K' hK => ?_)
        go_simp
        refine hK _ _ HS1.out ?_
        clear hK K'
        try simp only [Act.put]
        refine wpAnyH_done (by kernel_rfl) ?_ _
        clear HS0 HS1 hup HA9 HK9 HX9 HO9 d6
        generalize w0.putObj F.mp (.map es ck) = Wm at *
        go_upto_region 9 with fail
        generalize w0 = wold2 at *
        obtain ⟨w0, hwD⟩ : ∃ wD, wD = Wm.drew := ⟨_, rfl⟩
        have HKe : Hid (Kd g F.mp w w0) := by rw [hwD]; exact hide (⟨HKd.out.os, HKd.out.tape, HKd.out.output, HKd.out.size, fun k hk hn => HKd.out.block k hk hn⟩)
        have HBe : Hid (Blk w0 g 77 (rdL F ts.length r3)) := by rw [hwD]; exact hide (HBd.out.below (Below.refl _ Wm).drew HBd.out.lt)
        have HXe : Hid (Blk w0 w.heap.size 63 (vrL ⟨vn, va, vs, 384 + r.words⟩)) := by rw [hwD]; exact hide (HXd.out.below (Below.refl _ Wm).drew HXd.out.lt)
        have HOe : Hid (w0.ownsRow (g + 1) 63 4 (.slice F.av r.vars.length F.cv) r.vars.length (r.vars.flatMap vrL)) := by rw [hwD]; exact hide (own_keepK HOd.out (Kp.of (g := g) (Below.refl _ Wm).drew) (Nat.lt_succ_self g))
        have HMe : Hid (MapIs w0 F.mp KS pE ps') := by rw [hwD]; exact hide (HMd.out.keepK (Kp.of (g := g) (Below.refl _ Wm).drew) (by omega))
        have hgw := HBe.out.lt
        have hxw := HXe.out.lt
        have HvL : Hid (vrL ⟨vn, va, vs, 384 + r.words⟩ = [.string ⟨vn.toArray⟩, .bool va, .int .i64 (vs : Nat), .int .i64 (384 + (r.words : Int))]) := hide (by simp [vrL])
        have HS0 : Hid ((fun W => ∀ (j : Nat) (u : Value), ([.string ⟨vn.toArray⟩, .bool va, .int .i64 (vs : Nat), .int .i64 (384 + (r.words : Int))] : List Value)[j]? = some u → W.cell? ((⟨w.heap.size, 0, none⟩ : Addr).add j) = some u) w0) := hide (by have hc := HXe.out.cells; rw [HvL.out] at hc; exact hc)
        have c6 : w0.cell? ⟨g, 6, none⟩ = some (.slice F.av r.vars.length F.cv) := by
          have := HBe.out.get (j := 6) rfl
          rw [HR3.out.1] at this
          exact this
        have HbA := hide (bel1 w0 (.cells #[.string ⟨vn.toArray⟩, .bool va, .int .i64 (vs : Nat), .int .i64 (384 + (r.words : Int))] 63))
        have HS1 : Hid ((fun W => ∀ (j : Nat) (u : Value), ([.string ⟨vn.toArray⟩, .bool va, .int .i64 (vs : Nat), .int .i64 (384 + (r.words : Int))] : List Value)[j]? = some u → W.cell? ((⟨w.heap.size, 0, none⟩ : Addr).add j) = some u) (w0.alloc (.cells #[.string ⟨vn.toArray⟩, .bool va, .int .i64 (vs : Nat), .int .i64 (384 + (r.words : Int))] 63))) := hide (fun j u hu => by rw [HbA.out.cell (cell_blk (HS0.out j u hu))]; exact HS0.out j u hu)
        have HOa : Hid ((w0.alloc (.cells #[.string ⟨vn.toArray⟩, .bool va, .int .i64 (vs : Nat), .int .i64 (384 + (r.words : Int))] 63)).ownsRow (g + 1) 63 4 (.slice F.av r.vars.length F.cv) r.vars.length (r.vars.flatMap vrL)) := hide (own_keep HOe.out HbA.out)
        have c6a : (w0.alloc (.cells #[.string ⟨vn.toArray⟩, .bool va, .int .i64 (vs : Nat), .int .i64 (384 + (r.words : Int))] 63)).cell? ⟨g, 6, none⟩ = some (.slice F.av r.vars.length F.cv) := by rw [HbA.out.cell (p := ⟨g, 6, none⟩) HBe.out.lt]; exact c6
        refine wp_region_held_drew (S := fun W => ∀ (j : Nat) (u : Value), ([.string ⟨vn.toArray⟩, .bool va, .int .i64 (vs : Nat), .int .i64 (384 + (r.words : Int))] : List Value)[j]? = some u → W.cell? ((⟨w.heap.size, 0, none⟩ : Addr).add j) = some u) (by kernel_rfl) (by rw [← hwD]; exact HS0.out) (fun hHeld => ?_)
        rw [← hwD]
        clear hwD hHeld HKd HBd HXd HOd HMd hsd hgw0 hxw0 hmlt
        refine hd_take 0 (o := ⟨some 63, _, _, _, _, _⟩) (.pointer (some ⟨g, 0, none⟩)) (by kernel_rfl) (by kernel_rfl) (by kernel_rfl) rfl (by rfl) (fun W hSw => by go_simp) (fun _ _ _ h => h) HS0.out ?_
        simp only [Act.put, List.setIfInBounds_toArray, List.set_cons_zero, List.set_cons_succ]
        refine hd_take 1 (o := ⟨some 64, _, _, _, _, _⟩) (.pointer (some ⟨g, 0, none⟩)) (by kernel_rfl) (by kernel_rfl) (by kernel_rfl) rfl (by rfl) (fun W hSw => by go_simp) (fun _ _ _ h => h) HS0.out ?_
        simp only [Act.put, List.setIfInBounds_toArray, List.set_cons_zero, List.set_cons_succ]
        refine hd_take 2 (o := ⟨some 65, _, _, _, _, _⟩) (.pointer (some ⟨g, 0, none⟩)) (by kernel_rfl) (by kernel_rfl) (by kernel_rfl) rfl (by rfl) (fun W hSw => by go_simp) (fun _ _ _ h => h) HS0.out ?_
        simp only [Act.put, List.setIfInBounds_toArray, List.set_cons_zero, List.set_cons_succ]
        refine hd_take 3 (o := ⟨some 66, _, _, _, _, _⟩) (.pointer (some ⟨g, 6, none⟩)) (by kernel_rfl) (by kernel_rfl) (by kernel_rfl) rfl (by rfl) (fun W hSw => by go_simp) (fun _ _ _ h => h) HS0.out ?_
        simp only [Act.put, List.setIfInBounds_toArray, List.set_cons_zero, List.set_cons_succ]
        refine hd_take 5 (o := ⟨some 68, _, _, _, _, _⟩) (.agg #[.string ⟨vn.toArray⟩, .bool va, .int .i64 (vs : Nat), .int .i64 (384 + (r.words : Int))]) (by kernel_rfl) (by kernel_rfl) (by kernel_rfl) rfl (by rfl) (fun W hSw => by exact run_loadT Tryz.underlying63 rfl [.string ⟨vn.toArray⟩, .bool va, .int .i64 (vs : Nat), .int .i64 (384 + (r.words : Int))] info_vr _ rfl ⟨w.heap.size, 0, none⟩ rfl hSw) (fun _ _ _ h => h) HS0.out ?_
        simp only [Act.put, List.setIfInBounds_toArray, List.set_cons_zero, List.set_cons_succ]
        refine hd_both 4 6 (o1 := ⟨some 67, _, _, _, _, _⟩) (o2 := ⟨some 69, _, _, _, _, _⟩) (by kernel_rfl) rfl rfl (by rfl) (by rfl) (fun K' hK => ?_) (fun K' hK => ?_)
        · go_simp
          refine hK _ _ HS0.out ?_
          clear hK K'
          try simp only [Act.put, List.setIfInBounds_toArray, List.set_cons_zero, List.set_cons_succ]
          refine hd_call 6 (o := ⟨some 69, _, _, _, _, _⟩) (by kernel_rfl) rfl (by rfl) (fun K' hK => ?_)
          go_simp
          refine hK _ _ HS1.out ?_
          clear hK K'
          try simp only [Act.put, List.setIfInBounds_toArray, List.set_cons_zero, List.set_cons_succ]
          refine hd_call 7 (o := ⟨some 70, _, _, _, _, _⟩) (by kernel_rfl) rfl (by rfl) (fun K' hK => ?_)
          refine wp_append_own _ _ _ 54 rfl (g + 1) 63 i9 (.agg (vrL vr0).toArray) 4 40 Tryz.underlying54 hi hz hsz9 hb9 rfl (by decide) (.slice F.av r.vars.length F.cv) r.vars.length _ rfl HOa.out ⟨_, 0, none⟩ 1 1 [.string ⟨vn.toArray⟩, .bool va, .int .i64 (vs : Nat), .int .i64 (384 + (r.words : Int))] rfl rfl (fun j u hu => cells_new w0 [.string ⟨vn.toArray⟩, .bool va, .int .i64 (vs : Nat), .int .i64 (384 + (r.words : Int))] 63 j u hu) (by rw [← HvL.out]; exact vrL_one _) (by unfold maxLen; omega) (by omega) (by simp; omega) ?_
          intro v4 w4 ho4 hg4 _
          obtain ⟨a4, c4, rfl⟩ := own_shape ho4
          have hgA : g < (w0.alloc (.cells #[.string ⟨vn.toArray⟩, .bool va, .int .i64 (vs : Nat), .int .i64 (384 + (r.words : Int))] 63)).heap.size := by simp; have := HBe.out.lt; omega
          have hBf : Blk w4 g 77 (rdL F ts.length r3) := (HBe.out.below HbA.out HBe.out.lt).keep (hg4.block g hgA (fun e => by have := (HOa.out.lt g e.symm).1; omega))
          have hXl := HXe.out.lt
          have hXf : Blk w4 w.heap.size 63 (vrL ⟨vn, va, vs, 384 + r.words⟩) := (HXe.out.below HbA.out HXe.out.lt).keep (hg4.block w.heap.size (by simp; omega) (fun e => HNe.out e.symm))
          have HOf := hide ho4
          have HGf := hide hg4
          have f6 := hBf.frz 6
          have e6 : w4.cell? ⟨g, 6, none⟩ = some (.slice F.av r.vars.length F.cv) := by
            have := hBf.get (j := 6) rfl
            rw [HR3.out.1] at this
            exact this
          have HBf := hide hBf
          have HS2 : Hid ((fun W => ∀ (j : Nat) (u : Value), ([.string ⟨vn.toArray⟩, .bool va, .int .i64 (vs : Nat), .int .i64 (384 + (r.words : Int))] : List Value)[j]? = some u → W.cell? ((⟨w.heap.size, 0, none⟩ : Addr).add j) = some u) w4) := hide (by have hc := hXf.cells; rw [HvL.out] at hc; exact hc)
          have HXf := hide hXf
          clear ho4 hg4 hBf hXf hXl
          refine hK _ _ HS2.out ?_
          clear hK K'
          try simp only [Act.put, List.setIfInBounds_toArray, List.set_cons_zero, List.set_cons_succ]
          refine hd_take 8 (o := ⟨some 71, _, _, _, _, _⟩) (.pointer (some ⟨g, 0, none⟩)) (by kernel_rfl) (by kernel_rfl) (by kernel_rfl) rfl (by rfl) (fun W hSw => by go_simp) (fun _ _ _ h => h) HS2.out ?_
          simp only [Act.put, List.setIfInBounds_toArray, List.set_cons_zero, List.set_cons_succ]
          refine hd_take 9 (o := ⟨some 72, _, _, _, _, _⟩) (.pointer (some ⟨g, 6, none⟩)) (by kernel_rfl) (by kernel_rfl) (by kernel_rfl) rfl (by rfl) (fun W hSw => by go_simp) (fun _ _ _ h => h) HS2.out ?_
          simp only [Act.put, List.setIfInBounds_toArray, List.set_cons_zero, List.set_cons_succ]
          refine hd_call 10 (o := ⟨none, _, _, _, _, _⟩) (by kernel_rfl) rfl (by rfl) (fun K' hK => ?_)
          have HS3 : Hid ((fun W => ∀ (j : Nat) (u : Value), ([.string ⟨vn.toArray⟩, .bool va, .int .i64 (vs : Nat), .int .i64 (384 + (r.words : Int))] : List Value)[j]? = some u → W.cell? ((⟨w.heap.size, 0, none⟩ : Addr).add j) = some u) (w4.setCell ⟨g, 6, none⟩ (.slice a4 (r.vars.length + 1) c4))) := hide (fun j u hu => by have hq := HS2.out j u hu; rw [add0] at hq ⊢; rw [World.cell?_of_block (a := ⟨w.heap.size, j, none⟩) (heap_setCell_other w4 ⟨g, 6, none⟩ w.heap.size _ (by show w.heap.size ≠ g; omega))]; exact hq)
          go_simp
          refine hK _ _ HS3.out ?_
          clear hK K'
          try simp only [Act.put]
          refine wpAnyH_done (by kernel_rfl) ?_ _
          go_wp2
          go_end0
          have hkS := Kp.set (j := 6) (Kp.refl g w4) (.slice a4 (r.vars.length + 1) c4)
          have hblk : ∀ k, k < g → (w4.setCell ⟨g, 6, none⟩ (.slice a4 (r.vars.length + 1) c4)).heap[k]? = w0.heap[k]? := fun k hk => by
            rw [heap_setCell_other w4 ⟨g, 6, none⟩ k _ (by show k ≠ g; omega), HGf.out.block k (by simp; omega) (fun e => by have := (HOa.out.lt k e.symm).1; omega)]
            exact HbA.out.block k (by omega)
          have hfin := RdA.decl (r3 := r3) (v := ⟨vn, va, vs, 384 + r.words⟩) (av := a4) (cv := c4) (ps := ps') HR.out HD.out (w' := w4.setCell ⟨g, 6, none⟩ (.slice a4 (r.vars.length + 1) c4)) (fun k hk hn => (hblk k hk).trans (HKe.out.block k hk hn)) HR3.out.1 HR3.out.2 (by
              have hq := HBf.out.set 6 (.slice a4 (r.vars.length + 1) c4)
              refine ⟨hq.out.trans ?_⟩
              simp [rdL, HR3.out.1]) (by
              have hq := own_keepK HOf.out hkS (Nat.lt_succ_self g)
              rw [← HvL.out] at hq
              simpa using hq) (by
              obtain ⟨es1, c1, e1, e2⟩ := HMe.out
              exact ⟨es1, c1, (hblk F.mp hmg).trans e1, e2⟩) HAt.out
          refine ⟨rfl, { F with av := a4, cv := c4, ps := ps' }, rfl, rfl, rfl, by rw [HV2.out]; exact hfin.1, by rw [HV2.out]; exact hfin.2, ⟨HGf.out.os.trans HKe.out.os, HGf.out.tape.trans HKe.out.tape, HGf.out.output.trans HKe.out.output, ?_, fun k hk => (hblk k (by omega)).trans (HKe.out.block k (by omega) (by omega))⟩⟩
          have h1 := HKe.out.size
          have h2 := HGf.out.size
          simp only [World.size_setCell, World.size_alloc] at h2 ⊢
          omega
        · go_simp
          refine hK _ _ HS1.out ?_
          clear hK K'
          try simp only [Act.put, List.setIfInBounds_toArray, List.set_cons_zero, List.set_cons_succ]
          refine hd_call 4 (o := ⟨some 67, _, _, _, _, _⟩) (by kernel_rfl) rfl (by rfl) (fun K' hK => ?_)
          go_simp
          refine hK _ _ HS1.out ?_
          clear hK K'
          try simp only [Act.put, List.setIfInBounds_toArray, List.set_cons_zero, List.set_cons_succ]
          refine hd_call 7 (o := ⟨some 70, _, _, _, _, _⟩) (by kernel_rfl) rfl (by rfl) (fun K' hK => ?_)
          refine wp_append_own _ _ _ 54 rfl (g + 1) 63 i9 (.agg (vrL vr0).toArray) 4 40 Tryz.underlying54 hi hz hsz9 hb9 rfl (by decide) (.slice F.av r.vars.length F.cv) r.vars.length _ rfl HOa.out ⟨_, 0, none⟩ 1 1 [.string ⟨vn.toArray⟩, .bool va, .int .i64 (vs : Nat), .int .i64 (384 + (r.words : Int))] rfl rfl (fun j u hu => cells_new w0 [.string ⟨vn.toArray⟩, .bool va, .int .i64 (vs : Nat), .int .i64 (384 + (r.words : Int))] 63 j u hu) (by rw [← HvL.out]; exact vrL_one _) (by unfold maxLen; omega) (by omega) (by simp; omega) ?_
          intro v4 w4 ho4 hg4 _
          obtain ⟨a4, c4, rfl⟩ := own_shape ho4
          have hgA : g < (w0.alloc (.cells #[.string ⟨vn.toArray⟩, .bool va, .int .i64 (vs : Nat), .int .i64 (384 + (r.words : Int))] 63)).heap.size := by simp; have := HBe.out.lt; omega
          have hBf : Blk w4 g 77 (rdL F ts.length r3) := (HBe.out.below HbA.out HBe.out.lt).keep (hg4.block g hgA (fun e => by have := (HOa.out.lt g e.symm).1; omega))
          have hXl := HXe.out.lt
          have hXf : Blk w4 w.heap.size 63 (vrL ⟨vn, va, vs, 384 + r.words⟩) := (HXe.out.below HbA.out HXe.out.lt).keep (hg4.block w.heap.size (by simp; omega) (fun e => HNe.out e.symm))
          have HOf := hide ho4
          have HGf := hide hg4
          have f6 := hBf.frz 6
          have e6 : w4.cell? ⟨g, 6, none⟩ = some (.slice F.av r.vars.length F.cv) := by
            have := hBf.get (j := 6) rfl
            rw [HR3.out.1] at this
            exact this
          have HBf := hide hBf
          have HS2 : Hid ((fun W => ∀ (j : Nat) (u : Value), ([.string ⟨vn.toArray⟩, .bool va, .int .i64 (vs : Nat), .int .i64 (384 + (r.words : Int))] : List Value)[j]? = some u → W.cell? ((⟨w.heap.size, 0, none⟩ : Addr).add j) = some u) w4) := hide (by have hc := hXf.cells; rw [HvL.out] at hc; exact hc)
          have HXf := hide hXf
          clear ho4 hg4 hBf hXf hXl
          refine hK _ _ HS2.out ?_
          clear hK K'
          try simp only [Act.put, List.setIfInBounds_toArray, List.set_cons_zero, List.set_cons_succ]
          refine hd_take 8 (o := ⟨some 71, _, _, _, _, _⟩) (.pointer (some ⟨g, 0, none⟩)) (by kernel_rfl) (by kernel_rfl) (by kernel_rfl) rfl (by rfl) (fun W hSw => by go_simp) (fun _ _ _ h => h) HS2.out ?_
          simp only [Act.put, List.setIfInBounds_toArray, List.set_cons_zero, List.set_cons_succ]
          refine hd_take 9 (o := ⟨some 72, _, _, _, _, _⟩) (.pointer (some ⟨g, 6, none⟩)) (by kernel_rfl) (by kernel_rfl) (by kernel_rfl) rfl (by rfl) (fun W hSw => by go_simp) (fun _ _ _ h => h) HS2.out ?_
          simp only [Act.put, List.setIfInBounds_toArray, List.set_cons_zero, List.set_cons_succ]
          refine hd_call 10 (o := ⟨none, _, _, _, _, _⟩) (by kernel_rfl) rfl (by rfl) (fun K' hK => ?_)
          have HS3 : Hid ((fun W => ∀ (j : Nat) (u : Value), ([.string ⟨vn.toArray⟩, .bool va, .int .i64 (vs : Nat), .int .i64 (384 + (r.words : Int))] : List Value)[j]? = some u → W.cell? ((⟨w.heap.size, 0, none⟩ : Addr).add j) = some u) (w4.setCell ⟨g, 6, none⟩ (.slice a4 (r.vars.length + 1) c4))) := hide (fun j u hu => by have hq := HS2.out j u hu; rw [add0] at hq ⊢; rw [World.cell?_of_block (a := ⟨w.heap.size, j, none⟩) (heap_setCell_other w4 ⟨g, 6, none⟩ w.heap.size _ (by show w.heap.size ≠ g; omega))]; exact hq)
          go_simp
          refine hK _ _ HS3.out ?_
          clear hK K'
          try simp only [Act.put]
          refine wpAnyH_done (by kernel_rfl) ?_ _
          go_wp2
          go_end0
          have hkS := Kp.set (j := 6) (Kp.refl g w4) (.slice a4 (r.vars.length + 1) c4)
          have hblk : ∀ k, k < g → (w4.setCell ⟨g, 6, none⟩ (.slice a4 (r.vars.length + 1) c4)).heap[k]? = w0.heap[k]? := fun k hk => by
            rw [heap_setCell_other w4 ⟨g, 6, none⟩ k _ (by show k ≠ g; omega), HGf.out.block k (by simp; omega) (fun e => by have := (HOa.out.lt k e.symm).1; omega)]
            exact HbA.out.block k (by omega)
          have hfin := RdA.decl (r3 := r3) (v := ⟨vn, va, vs, 384 + r.words⟩) (av := a4) (cv := c4) (ps := ps') HR.out HD.out (w' := w4.setCell ⟨g, 6, none⟩ (.slice a4 (r.vars.length + 1) c4)) (fun k hk hn => (hblk k hk).trans (HKe.out.block k hk hn)) HR3.out.1 HR3.out.2 (by
              have hq := HBf.out.set 6 (.slice a4 (r.vars.length + 1) c4)
              refine ⟨hq.out.trans ?_⟩
              simp [rdL, HR3.out.1]) (by
              have hq := own_keepK HOf.out hkS (Nat.lt_succ_self g)
              rw [← HvL.out] at hq
              simpa using hq) (by
              obtain ⟨es1, c1, e1, e2⟩ := HMe.out
              exact ⟨es1, c1, (hblk F.mp hmg).trans e1, e2⟩) HAt.out
          refine ⟨rfl, { F with av := a4, cv := c4, ps := ps' }, rfl, rfl, rfl, by rw [HV2.out]; exact hfin.1, by rw [HV2.out]; exact hfin.2, ⟨HGf.out.os.trans HKe.out.os, HGf.out.tape.trans HKe.out.tape, HGf.out.output.trans HKe.out.output, ?_, fun k hk => (hblk k (by omega)).trans (HKe.out.block k (by omega) (by omega))⟩⟩
          have h1 := HKe.out.size
          have h2 := HGf.out.size
          simp only [World.size_setCell, World.size_alloc] at h2 ⊢
          omega
      · have h96i : ¬ (96 : Int) < (r1.words : Int) + (vs : Int) := by omega
        rw [if_neg h96] at HV2
        clear h96
        go_upto_region 8 with fail
        generalize W7 = W8 at *
        have HA8 := HA7
        have HK8 := HK7
        have HX8 := HX7'
        have HR3 := HR2
        clear HA7 HK7 HX7' HT7 HR2 c8 t3
        generalize r2 = r3 at *
        have HO8 := hide (own_keepK HD.out.own HK8.out (Nat.lt_succ_self g))
        have HNe : Hid ((Value.slice F.av r.vars.length F.cv).ownBlock ≠ some w.heap.size) := hide (fun e => by have := (HD.out.own.lt _ e).2; omega)
        (try generalize w0 = wold at *)
        obtain ⟨w0, hwD⟩ : ∃ wD, wD = W8.drew := ⟨_, rfl⟩
        have HA9 : Hid (RdA w0 g ts F r3) := by rw [hwD]; exact hide (HA8.out.keep (Below.refl _ W8).drew)
        have HK9 : Hid (Kp g w w0) := by rw [hwD]; exact hide (HK8.out.drew)
        have HX9 : Hid (Blk w0 w.heap.size 63 (vrL ⟨vn, va, vs, 384 + r.words⟩)) := by rw [hwD]; exact hide (HX8.out.below (Below.refl _ W8).drew HX8.out.lt)
        have HO9 : Hid (w0.ownsRow (g + 1) 63 4 (.slice F.av r.vars.length F.cv) r.vars.length (r.vars.flatMap vrL)) := by rw [hwD]; exact hide (own_keepK HO8.out (Kp.of (g := g) (Below.refl _ W8).drew) (Nat.lt_succ_self g))
        have c6 : w0.cell? ⟨g, 6, none⟩ = some (.slice F.av r.vars.length F.cv) := by
          have := HA9.out.b.get (j := 6) rfl
          rw [HR3.out.1] at this
          exact this
        have HS0 : Hid ((fun W => W.cell? ⟨g, 7, none⟩ = some (.map (some F.mp)) ∧ W.cell? ⟨w.heap.size, 0, none⟩ = some (.string ⟨vn.toArray⟩) ∧ W.cell? ⟨g, 6, none⟩ = some (.slice F.av r.vars.length F.cv)) w0) := hide ⟨HA9.out.b.get (j := 7) rfl, HX9.out.get (j := 0) rfl, c6⟩
        obtain ⟨es, ck, ps', hup, hmi, hat⟩ := putS HA9.out.mo vn r.vars.length
        have hmlt : F.mp < w0.heap.size := by have := HK9.out.size; omega
        have HKd : Hid (Kd g F.mp w (w0.putObj F.mp (.map es ck))) := hide ⟨HK9.out.os, HK9.out.tape, HK9.out.output, by simp [World.putObj]; exact HK9.out.size, fun k hk hn => by rw [World.putObj_heap_other hn]; exact HK9.out.block k (by omega) (by omega)⟩
        have HBd : Hid (Blk (w0.putObj F.mp (.map es ck)) g 77 (rdL F ts.length r3)) := hide (HA9.out.b.keep (World.putObj_heap_other (by omega)))
        have HXd : Hid (Blk (w0.putObj F.mp (.map es ck)) w.heap.size 63 (vrL ⟨vn, va, vs, 384 + r.words⟩)) := hide (HX9.out.keep (World.putObj_heap_other (by omega)))
        have HOd : Hid ((w0.putObj F.mp (.map es ck)).ownsRow (g + 1) 63 4 (.slice F.av r.vars.length F.cv) r.vars.length (r.vars.flatMap vrL)) := hide (own_keepK HO9.out (g := F.mp) ⟨rfl, rfl, rfl, by simp [World.putObj], fun k _ hn => World.putObj_heap_other hn⟩ (by omega))
        have HMd := hide hmi
        have HAt := hide hat
        have hsd : (w0.putObj F.mp (.map es ck)).heap.size = w0.heap.size := by simp [World.putObj]
        have d6 : (w0.putObj F.mp (.map es ck)).cell? ⟨g, 6, none⟩ = some (.slice F.av r.vars.length F.cv) := by
          have := HBd.out.get (j := 6) rfl
          rw [HR3.out.1] at this
          exact this
        have HS1 : Hid ((fun W => W.cell? ⟨g, 7, none⟩ = some (.map (some F.mp)) ∧ W.cell? ⟨w.heap.size, 0, none⟩ = some (.string ⟨vn.toArray⟩) ∧ W.cell? ⟨g, 6, none⟩ = some (.slice F.av r.vars.length F.cv)) (w0.putObj F.mp (.map es ck))) := hide ⟨HBd.out.get (j := 7) rfl, HXd.out.get (j := 0) rfl, d6⟩
        have hgw0 : g < w0.heap.size := HA9.out.b.lt
        have hxw0 : w.heap.size < w0.heap.size := HX9.out.lt
        refine wp_region_held_drew (S := fun W => W.cell? ⟨g, 7, none⟩ = some (.map (some F.mp)) ∧ W.cell? ⟨w.heap.size, 0, none⟩ = some (.string ⟨vn.toArray⟩) ∧ W.cell? ⟨g, 6, none⟩ = some (.slice F.av r.vars.length F.cv)) (by kernel_rfl) (by rw [← hwD]; exact HS0.out) (fun hHeld => ?_)
        rw [← hwD]
        clear hwD hHeld HA8 HK8 HX8 HO8 hmi hat c6
        refine hd_take 0 (o := ⟨some 52, _, _, _, _, _⟩) (.pointer (some ⟨g, 0, none⟩)) (by kernel_rfl) (by kernel_rfl) (by kernel_rfl) rfl (by rfl) (fun W hSw => by go_simp) (fun _ _ _ h => h) HS0.out ?_
        simp only [Act.put, List.setIfInBounds_toArray, List.set_cons_zero, List.set_cons_succ]
        refine hd_take 1 (o := ⟨some 53, _, _, _, _, _⟩) (.pointer (some ⟨g, 0, none⟩)) (by kernel_rfl) (by kernel_rfl) (by kernel_rfl) rfl (by rfl) (fun W hSw => by go_simp) (fun _ _ _ h => h) HS0.out ?_
        simp only [Act.put, List.setIfInBounds_toArray, List.set_cons_zero, List.set_cons_succ]
        refine hd_take 2 (o := ⟨some 54, _, _, _, _, _⟩) (.pointer (some ⟨g, 7, none⟩)) (by kernel_rfl) (by kernel_rfl) (by kernel_rfl) rfl (by rfl) (fun W hSw => by go_simp) (fun _ _ _ h => h) HS0.out ?_
        simp only [Act.put, List.setIfInBounds_toArray, List.set_cons_zero, List.set_cons_succ]
        refine hd_take 3 (o := ⟨some 55, _, _, _, _, _⟩) (.map (some F.mp)) (by kernel_rfl) (by kernel_rfl) (by kernel_rfl) rfl (by rfl) (fun W hSw => by have k := hSw.1; go_simp) (fun _ _ _ h => h) HS0.out ?_
        simp only [Act.put, List.setIfInBounds_toArray, List.set_cons_zero, List.set_cons_succ]
        refine hd_take 4 (o := ⟨some 56, _, _, _, _, _⟩) (.pointer (some ⟨w.heap.size, 0, none⟩)) (by kernel_rfl) (by kernel_rfl) (by kernel_rfl) rfl (by rfl) (fun W hSw => by go_simp) (fun _ _ _ h => h) HS0.out ?_
        simp only [Act.put, List.setIfInBounds_toArray, List.set_cons_zero, List.set_cons_succ]
        refine hd_take 5 (o := ⟨some 57, _, _, _, _, _⟩) (.string ⟨vn.toArray⟩) (by kernel_rfl) (by kernel_rfl) (by kernel_rfl) rfl (by rfl) (fun W hSw => by have k := hSw.2.1; go_simp) (fun _ _ _ h => h) HS0.out ?_
        simp only [Act.put, List.setIfInBounds_toArray, List.set_cons_zero, List.set_cons_succ]
        refine hd_take 6 (o := ⟨some 58, _, _, _, _, _⟩) (.pointer (some ⟨g, 0, none⟩)) (by kernel_rfl) (by kernel_rfl) (by kernel_rfl) rfl (by rfl) (fun W hSw => by go_simp) (fun _ _ _ h => h) HS0.out ?_
        simp only [Act.put, List.setIfInBounds_toArray, List.set_cons_zero, List.set_cons_succ]
        refine hd_take 7 (o := ⟨some 59, _, _, _, _, _⟩) (.pointer (some ⟨g, 0, none⟩)) (by kernel_rfl) (by kernel_rfl) (by kernel_rfl) rfl (by rfl) (fun W hSw => by go_simp) (fun _ _ _ h => h) HS0.out ?_
        simp only [Act.put, List.setIfInBounds_toArray, List.set_cons_zero, List.set_cons_succ]
        refine hd_take 8 (o := ⟨some 60, _, _, _, _, _⟩) (.pointer (some ⟨g, 6, none⟩)) (by kernel_rfl) (by kernel_rfl) (by kernel_rfl) rfl (by rfl) (fun W hSw => by go_simp) (fun _ _ _ h => h) HS0.out ?_
        simp only [Act.put, List.setIfInBounds_toArray, List.set_cons_zero, List.set_cons_succ]
        refine hd_take 9 (o := ⟨some 61, _, _, _, _, _⟩) (.slice F.av r.vars.length F.cv) (by kernel_rfl) (by kernel_rfl) (by kernel_rfl) rfl (by rfl) (fun W hSw => by have k := hSw.2.2; go_simp) (fun _ _ _ h => h) HS0.out ?_
        simp only [Act.put, List.setIfInBounds_toArray, List.set_cons_zero, List.set_cons_succ]
        refine hd_take 10 (o := ⟨some 62, _, _, _, _, _⟩) (.int .i64 (r.vars.length : Nat)) (by kernel_rfl) (by kernel_rfl) (by kernel_rfl) rfl (by rfl) (fun W hSw => by go_simp) (fun _ _ _ h => h) HS0.out ?_
        simp only [Act.put, List.setIfInBounds_toArray, List.set_cons_zero, List.set_cons_succ]
        refine hd_call 11 (o := ⟨none, _, _, _, _, _⟩) (by kernel_rfl) rfl (by rfl) (fun K' hK => ?_)
        go_simp
        refine hK _ _ HS1.out ?_
        clear hK K'
        try simp only [Act.put]
        refine wpAnyH_done (by kernel_rfl) ?_ _
        clear HS0 HS1 hup HA9 HK9 HX9 HO9 d6
        generalize w0.putObj F.mp (.map es ck) = Wm at *
        go_upto_region 9 with fail
        generalize w0 = wold2 at *
        obtain ⟨w0, hwD⟩ : ∃ wD, wD = Wm.drew := ⟨_, rfl⟩
        have HKe : Hid (Kd g F.mp w w0) := by rw [hwD]; exact hide (⟨HKd.out.os, HKd.out.tape, HKd.out.output, HKd.out.size, fun k hk hn => HKd.out.block k hk hn⟩)
        have HBe : Hid (Blk w0 g 77 (rdL F ts.length r3)) := by rw [hwD]; exact hide (HBd.out.below (Below.refl _ Wm).drew HBd.out.lt)
        have HXe : Hid (Blk w0 w.heap.size 63 (vrL ⟨vn, va, vs, 384 + r.words⟩)) := by rw [hwD]; exact hide (HXd.out.below (Below.refl _ Wm).drew HXd.out.lt)
        have HOe : Hid (w0.ownsRow (g + 1) 63 4 (.slice F.av r.vars.length F.cv) r.vars.length (r.vars.flatMap vrL)) := by rw [hwD]; exact hide (own_keepK HOd.out (Kp.of (g := g) (Below.refl _ Wm).drew) (Nat.lt_succ_self g))
        have HMe : Hid (MapIs w0 F.mp KS pE ps') := by rw [hwD]; exact hide (HMd.out.keepK (Kp.of (g := g) (Below.refl _ Wm).drew) (by omega))
        have hgw := HBe.out.lt
        have hxw := HXe.out.lt
        have HvL : Hid (vrL ⟨vn, va, vs, 384 + r.words⟩ = [.string ⟨vn.toArray⟩, .bool va, .int .i64 (vs : Nat), .int .i64 (384 + (r.words : Int))]) := hide (by simp [vrL])
        have HS0 : Hid ((fun W => ∀ (j : Nat) (u : Value), ([.string ⟨vn.toArray⟩, .bool va, .int .i64 (vs : Nat), .int .i64 (384 + (r.words : Int))] : List Value)[j]? = some u → W.cell? ((⟨w.heap.size, 0, none⟩ : Addr).add j) = some u) w0) := hide (by have hc := HXe.out.cells; rw [HvL.out] at hc; exact hc)
        have c6 : w0.cell? ⟨g, 6, none⟩ = some (.slice F.av r.vars.length F.cv) := by
          have := HBe.out.get (j := 6) rfl
          rw [HR3.out.1] at this
          exact this
        have HbA := hide (bel1 w0 (.cells #[.string ⟨vn.toArray⟩, .bool va, .int .i64 (vs : Nat), .int .i64 (384 + (r.words : Int))] 63))
        have HS1 : Hid ((fun W => ∀ (j : Nat) (u : Value), ([.string ⟨vn.toArray⟩, .bool va, .int .i64 (vs : Nat), .int .i64 (384 + (r.words : Int))] : List Value)[j]? = some u → W.cell? ((⟨w.heap.size, 0, none⟩ : Addr).add j) = some u) (w0.alloc (.cells #[.string ⟨vn.toArray⟩, .bool va, .int .i64 (vs : Nat), .int .i64 (384 + (r.words : Int))] 63))) := hide (fun j u hu => by rw [HbA.out.cell (cell_blk (HS0.out j u hu))]; exact HS0.out j u hu)
        have HOa : Hid ((w0.alloc (.cells #[.string ⟨vn.toArray⟩, .bool va, .int .i64 (vs : Nat), .int .i64 (384 + (r.words : Int))] 63)).ownsRow (g + 1) 63 4 (.slice F.av r.vars.length F.cv) r.vars.length (r.vars.flatMap vrL)) := hide (own_keep HOe.out HbA.out)
        have c6a : (w0.alloc (.cells #[.string ⟨vn.toArray⟩, .bool va, .int .i64 (vs : Nat), .int .i64 (384 + (r.words : Int))] 63)).cell? ⟨g, 6, none⟩ = some (.slice F.av r.vars.length F.cv) := by rw [HbA.out.cell (p := ⟨g, 6, none⟩) HBe.out.lt]; exact c6
        refine wp_region_held_drew (S := fun W => ∀ (j : Nat) (u : Value), ([.string ⟨vn.toArray⟩, .bool va, .int .i64 (vs : Nat), .int .i64 (384 + (r.words : Int))] : List Value)[j]? = some u → W.cell? ((⟨w.heap.size, 0, none⟩ : Addr).add j) = some u) (by kernel_rfl) (by rw [← hwD]; exact HS0.out) (fun hHeld => ?_)
        rw [← hwD]
        clear hwD hHeld HKd HBd HXd HOd HMd hsd hgw0 hxw0 hmlt
        refine hd_take 0 (o := ⟨some 63, _, _, _, _, _⟩) (.pointer (some ⟨g, 0, none⟩)) (by kernel_rfl) (by kernel_rfl) (by kernel_rfl) rfl (by rfl) (fun W hSw => by go_simp) (fun _ _ _ h => h) HS0.out ?_
        simp only [Act.put, List.setIfInBounds_toArray, List.set_cons_zero, List.set_cons_succ]
        refine hd_take 1 (o := ⟨some 64, _, _, _, _, _⟩) (.pointer (some ⟨g, 0, none⟩)) (by kernel_rfl) (by kernel_rfl) (by kernel_rfl) rfl (by rfl) (fun W hSw => by go_simp) (fun _ _ _ h => h) HS0.out ?_
        simp only [Act.put, List.setIfInBounds_toArray, List.set_cons_zero, List.set_cons_succ]
        refine hd_take 2 (o := ⟨some 65, _, _, _, _, _⟩) (.pointer (some ⟨g, 0, none⟩)) (by kernel_rfl) (by kernel_rfl) (by kernel_rfl) rfl (by rfl) (fun W hSw => by go_simp) (fun _ _ _ h => h) HS0.out ?_
        simp only [Act.put, List.setIfInBounds_toArray, List.set_cons_zero, List.set_cons_succ]
        refine hd_take 3 (o := ⟨some 66, _, _, _, _, _⟩) (.pointer (some ⟨g, 6, none⟩)) (by kernel_rfl) (by kernel_rfl) (by kernel_rfl) rfl (by rfl) (fun W hSw => by go_simp) (fun _ _ _ h => h) HS0.out ?_
        simp only [Act.put, List.setIfInBounds_toArray, List.set_cons_zero, List.set_cons_succ]
        refine hd_take 5 (o := ⟨some 68, _, _, _, _, _⟩) (.agg #[.string ⟨vn.toArray⟩, .bool va, .int .i64 (vs : Nat), .int .i64 (384 + (r.words : Int))]) (by kernel_rfl) (by kernel_rfl) (by kernel_rfl) rfl (by rfl) (fun W hSw => by exact run_loadT Tryz.underlying63 rfl [.string ⟨vn.toArray⟩, .bool va, .int .i64 (vs : Nat), .int .i64 (384 + (r.words : Int))] info_vr _ rfl ⟨w.heap.size, 0, none⟩ rfl hSw) (fun _ _ _ h => h) HS0.out ?_
        simp only [Act.put, List.setIfInBounds_toArray, List.set_cons_zero, List.set_cons_succ]
        refine hd_both 4 6 (o1 := ⟨some 67, _, _, _, _, _⟩) (o2 := ⟨some 69, _, _, _, _, _⟩) (by kernel_rfl) rfl rfl (by rfl) (by rfl) (fun K' hK => ?_) (fun K' hK => ?_)
        · go_simp
          refine hK _ _ HS0.out ?_
          clear hK K'
          try simp only [Act.put, List.setIfInBounds_toArray, List.set_cons_zero, List.set_cons_succ]
          refine hd_call 6 (o := ⟨some 69, _, _, _, _, _⟩) (by kernel_rfl) rfl (by rfl) (fun K' hK => ?_)
          go_simp
          refine hK _ _ HS1.out ?_
          clear hK K'
          try simp only [Act.put, List.setIfInBounds_toArray, List.set_cons_zero, List.set_cons_succ]
          refine hd_call 7 (o := ⟨some 70, _, _, _, _, _⟩) (by kernel_rfl) rfl (by rfl) (fun K' hK => ?_)
          refine wp_append_own _ _ _ 54 rfl (g + 1) 63 i9 (.agg (vrL vr0).toArray) 4 40 Tryz.underlying54 hi hz hsz9 hb9 rfl (by decide) (.slice F.av r.vars.length F.cv) r.vars.length _ rfl HOa.out ⟨_, 0, none⟩ 1 1 [.string ⟨vn.toArray⟩, .bool va, .int .i64 (vs : Nat), .int .i64 (384 + (r.words : Int))] rfl rfl (fun j u hu => cells_new w0 [.string ⟨vn.toArray⟩, .bool va, .int .i64 (vs : Nat), .int .i64 (384 + (r.words : Int))] 63 j u hu) (by rw [← HvL.out]; exact vrL_one _) (by unfold maxLen; omega) (by omega) (by simp; omega) ?_
          intro v4 w4 ho4 hg4 _
          obtain ⟨a4, c4, rfl⟩ := own_shape ho4
          have hgA : g < (w0.alloc (.cells #[.string ⟨vn.toArray⟩, .bool va, .int .i64 (vs : Nat), .int .i64 (384 + (r.words : Int))] 63)).heap.size := by simp; have := HBe.out.lt; omega
          have hBf : Blk w4 g 77 (rdL F ts.length r3) := (HBe.out.below HbA.out HBe.out.lt).keep (hg4.block g hgA (fun e => by have := (HOa.out.lt g e.symm).1; omega))
          have hXl := HXe.out.lt
          have hXf : Blk w4 w.heap.size 63 (vrL ⟨vn, va, vs, 384 + r.words⟩) := (HXe.out.below HbA.out HXe.out.lt).keep (hg4.block w.heap.size (by simp; omega) (fun e => HNe.out e.symm))
          have HOf := hide ho4
          have HGf := hide hg4
          have f6 := hBf.frz 6
          have e6 : w4.cell? ⟨g, 6, none⟩ = some (.slice F.av r.vars.length F.cv) := by
            have := hBf.get (j := 6) rfl
            rw [HR3.out.1] at this
            exact this
          have HBf := hide hBf
          have HS2 : Hid ((fun W => ∀ (j : Nat) (u : Value), ([.string ⟨vn.toArray⟩, .bool va, .int .i64 (vs : Nat), .int .i64 (384 + (r.words : Int))] : List Value)[j]? = some u → W.cell? ((⟨w.heap.size, 0, none⟩ : Addr).add j) = some u) w4) := hide (by have hc := hXf.cells; rw [HvL.out] at hc; exact hc)
          have HXf := hide hXf
          clear ho4 hg4 hBf hXf hXl
          refine hK _ _ HS2.out ?_
          clear hK K'
          try simp only [Act.put, List.setIfInBounds_toArray, List.set_cons_zero, List.set_cons_succ]
          refine hd_take 8 (o := ⟨some 71, _, _, _, _, _⟩) (.pointer (some ⟨g, 0, none⟩)) (by kernel_rfl) (by kernel_rfl) (by kernel_rfl) rfl (by rfl) (fun W hSw => by go_simp) (fun _ _ _ h => h) HS2.out ?_
          simp only [Act.put, List.setIfInBounds_toArray, List.set_cons_zero, List.set_cons_succ]
          refine hd_take 9 (o := ⟨some 72, _, _, _, _, _⟩) (.pointer (some ⟨g, 6, none⟩)) (by kernel_rfl) (by kernel_rfl) (by kernel_rfl) rfl (by rfl) (fun W hSw => by go_simp) (fun _ _ _ h => h) HS2.out ?_
          simp only [Act.put, List.setIfInBounds_toArray, List.set_cons_zero, List.set_cons_succ]
          refine hd_call 10 (o := ⟨none, _, _, _, _, _⟩) (by kernel_rfl) rfl (by rfl) (fun K' hK => ?_)
          have HS3 : Hid ((fun W => ∀ (j : Nat) (u : Value), ([.string ⟨vn.toArray⟩, .bool va, .int .i64 (vs : Nat), .int .i64 (384 + (r.words : Int))] : List Value)[j]? = some u → W.cell? ((⟨w.heap.size, 0, none⟩ : Addr).add j) = some u) (w4.setCell ⟨g, 6, none⟩ (.slice a4 (r.vars.length + 1) c4))) := hide (fun j u hu => by have hq := HS2.out j u hu; rw [add0] at hq ⊢; rw [World.cell?_of_block (a := ⟨w.heap.size, j, none⟩) (heap_setCell_other w4 ⟨g, 6, none⟩ w.heap.size _ (by show w.heap.size ≠ g; omega))]; exact hq)
          go_simp
          refine hK _ _ HS3.out ?_
          clear hK K'
          try simp only [Act.put]
          refine wpAnyH_done (by kernel_rfl) ?_ _
          go_wp2
          go_end0
          have hkS := Kp.set (j := 6) (Kp.refl g w4) (.slice a4 (r.vars.length + 1) c4)
          have hblk : ∀ k, k < g → (w4.setCell ⟨g, 6, none⟩ (.slice a4 (r.vars.length + 1) c4)).heap[k]? = w0.heap[k]? := fun k hk => by
            rw [heap_setCell_other w4 ⟨g, 6, none⟩ k _ (by show k ≠ g; omega), HGf.out.block k (by simp; omega) (fun e => by have := (HOa.out.lt k e.symm).1; omega)]
            exact HbA.out.block k (by omega)
          have hfin := RdA.decl (r3 := r3) (v := ⟨vn, va, vs, 384 + r.words⟩) (av := a4) (cv := c4) (ps := ps') HR.out HD.out (w' := w4.setCell ⟨g, 6, none⟩ (.slice a4 (r.vars.length + 1) c4)) (fun k hk hn => (hblk k hk).trans (HKe.out.block k hk hn)) HR3.out.1 HR3.out.2 (by
              have hq := HBf.out.set 6 (.slice a4 (r.vars.length + 1) c4)
              refine ⟨hq.out.trans ?_⟩
              simp [rdL, HR3.out.1]) (by
              have hq := own_keepK HOf.out hkS (Nat.lt_succ_self g)
              rw [← HvL.out] at hq
              simpa using hq) (by
              obtain ⟨es1, c1, e1, e2⟩ := HMe.out
              exact ⟨es1, c1, (hblk F.mp hmg).trans e1, e2⟩) HAt.out
          refine ⟨rfl, { F with av := a4, cv := c4, ps := ps' }, rfl, rfl, rfl, by rw [HV2.out]; exact hfin.1, by rw [HV2.out]; exact hfin.2, ⟨HGf.out.os.trans HKe.out.os, HGf.out.tape.trans HKe.out.tape, HGf.out.output.trans HKe.out.output, ?_, fun k hk => (hblk k (by omega)).trans (HKe.out.block k (by omega) (by omega))⟩⟩
          have h1 := HKe.out.size
          have h2 := HGf.out.size
          simp only [World.size_setCell, World.size_alloc] at h2 ⊢
          omega
        · go_simp
          refine hK _ _ HS1.out ?_
          clear hK K'
          try simp only [Act.put, List.setIfInBounds_toArray, List.set_cons_zero, List.set_cons_succ]
          refine hd_call 4 (o := ⟨some 67, _, _, _, _, _⟩) (by kernel_rfl) rfl (by rfl) (fun K' hK => ?_)
          go_simp
          refine hK _ _ HS1.out ?_
          clear hK K'
          try simp only [Act.put, List.setIfInBounds_toArray, List.set_cons_zero, List.set_cons_succ]
          refine hd_call 7 (o := ⟨some 70, _, _, _, _, _⟩) (by kernel_rfl) rfl (by rfl) (fun K' hK => ?_)
          refine wp_append_own _ _ _ 54 rfl (g + 1) 63 i9 (.agg (vrL vr0).toArray) 4 40 Tryz.underlying54 hi hz hsz9 hb9 rfl (by decide) (.slice F.av r.vars.length F.cv) r.vars.length _ rfl HOa.out ⟨_, 0, none⟩ 1 1 [.string ⟨vn.toArray⟩, .bool va, .int .i64 (vs : Nat), .int .i64 (384 + (r.words : Int))] rfl rfl (fun j u hu => cells_new w0 [.string ⟨vn.toArray⟩, .bool va, .int .i64 (vs : Nat), .int .i64 (384 + (r.words : Int))] 63 j u hu) (by rw [← HvL.out]; exact vrL_one _) (by unfold maxLen; omega) (by omega) (by simp; omega) ?_
          intro v4 w4 ho4 hg4 _
          obtain ⟨a4, c4, rfl⟩ := own_shape ho4
          have hgA : g < (w0.alloc (.cells #[.string ⟨vn.toArray⟩, .bool va, .int .i64 (vs : Nat), .int .i64 (384 + (r.words : Int))] 63)).heap.size := by simp; have := HBe.out.lt; omega
          have hBf : Blk w4 g 77 (rdL F ts.length r3) := (HBe.out.below HbA.out HBe.out.lt).keep (hg4.block g hgA (fun e => by have := (HOa.out.lt g e.symm).1; omega))
          have hXl := HXe.out.lt
          have hXf : Blk w4 w.heap.size 63 (vrL ⟨vn, va, vs, 384 + r.words⟩) := (HXe.out.below HbA.out HXe.out.lt).keep (hg4.block w.heap.size (by simp; omega) (fun e => HNe.out e.symm))
          have HOf := hide ho4
          have HGf := hide hg4
          have f6 := hBf.frz 6
          have e6 : w4.cell? ⟨g, 6, none⟩ = some (.slice F.av r.vars.length F.cv) := by
            have := hBf.get (j := 6) rfl
            rw [HR3.out.1] at this
            exact this
          have HBf := hide hBf
          have HS2 : Hid ((fun W => ∀ (j : Nat) (u : Value), ([.string ⟨vn.toArray⟩, .bool va, .int .i64 (vs : Nat), .int .i64 (384 + (r.words : Int))] : List Value)[j]? = some u → W.cell? ((⟨w.heap.size, 0, none⟩ : Addr).add j) = some u) w4) := hide (by have hc := hXf.cells; rw [HvL.out] at hc; exact hc)
          have HXf := hide hXf
          clear ho4 hg4 hBf hXf hXl
          refine hK _ _ HS2.out ?_
          clear hK K'
          try simp only [Act.put, List.setIfInBounds_toArray, List.set_cons_zero, List.set_cons_succ]
          refine hd_take 8 (o := ⟨some 71, _, _, _, _, _⟩) (.pointer (some ⟨g, 0, none⟩)) (by kernel_rfl) (by kernel_rfl) (by kernel_rfl) rfl (by rfl) (fun W hSw => by go_simp) (fun _ _ _ h => h) HS2.out ?_
          simp only [Act.put, List.setIfInBounds_toArray, List.set_cons_zero, List.set_cons_succ]
          refine hd_take 9 (o := ⟨some 72, _, _, _, _, _⟩) (.pointer (some ⟨g, 6, none⟩)) (by kernel_rfl) (by kernel_rfl) (by kernel_rfl) rfl (by rfl) (fun W hSw => by go_simp) (fun _ _ _ h => h) HS2.out ?_
          simp only [Act.put, List.setIfInBounds_toArray, List.set_cons_zero, List.set_cons_succ]
          refine hd_call 10 (o := ⟨none, _, _, _, _, _⟩) (by kernel_rfl) rfl (by rfl) (fun K' hK => ?_)
          have HS3 : Hid ((fun W => ∀ (j : Nat) (u : Value), ([.string ⟨vn.toArray⟩, .bool va, .int .i64 (vs : Nat), .int .i64 (384 + (r.words : Int))] : List Value)[j]? = some u → W.cell? ((⟨w.heap.size, 0, none⟩ : Addr).add j) = some u) (w4.setCell ⟨g, 6, none⟩ (.slice a4 (r.vars.length + 1) c4))) := hide (fun j u hu => by have hq := HS2.out j u hu; rw [add0] at hq ⊢; rw [World.cell?_of_block (a := ⟨w.heap.size, j, none⟩) (heap_setCell_other w4 ⟨g, 6, none⟩ w.heap.size _ (by show w.heap.size ≠ g; omega))]; exact hq)
          go_simp
          refine hK _ _ HS3.out ?_
          clear hK K'
          try simp only [Act.put]
          refine wpAnyH_done (by kernel_rfl) ?_ _
          go_wp2
          go_end0
          have hkS := Kp.set (j := 6) (Kp.refl g w4) (.slice a4 (r.vars.length + 1) c4)
          have hblk : ∀ k, k < g → (w4.setCell ⟨g, 6, none⟩ (.slice a4 (r.vars.length + 1) c4)).heap[k]? = w0.heap[k]? := fun k hk => by
            rw [heap_setCell_other w4 ⟨g, 6, none⟩ k _ (by show k ≠ g; omega), HGf.out.block k (by simp; omega) (fun e => by have := (HOa.out.lt k e.symm).1; omega)]
            exact HbA.out.block k (by omega)
          have hfin := RdA.decl (r3 := r3) (v := ⟨vn, va, vs, 384 + r.words⟩) (av := a4) (cv := c4) (ps := ps') HR.out HD.out (w' := w4.setCell ⟨g, 6, none⟩ (.slice a4 (r.vars.length + 1) c4)) (fun k hk hn => (hblk k hk).trans (HKe.out.block k hk hn)) HR3.out.1 HR3.out.2 (by
              have hq := HBf.out.set 6 (.slice a4 (r.vars.length + 1) c4)
              refine ⟨hq.out.trans ?_⟩
              simp [rdL, HR3.out.1]) (by
              have hq := own_keepK HOf.out hkS (Nat.lt_succ_self g)
              rw [← HvL.out] at hq
              simpa using hq) (by
              obtain ⟨es1, c1, e1, e2⟩ := HMe.out
              exact ⟨es1, c1, (hblk F.mp hmg).trans e1, e2⟩) HAt.out
          refine ⟨rfl, { F with av := a4, cv := c4, ps := ps' }, rfl, rfl, rfl, by rw [HV2.out]; exact hfin.1, by rw [HV2.out]; exact hfin.2, ⟨HGf.out.os.trans HKe.out.os, HGf.out.tape.trans HKe.out.tape, HGf.out.output.trans HKe.out.output, ?_, fun k hk => (hblk k (by omega)).trans (HKe.out.block k (by omega) (by omega))⟩⟩
          have h1 := HKe.out.size
          have h2 := HGf.out.size
          simp only [World.size_setCell, World.size_alloc] at h2 ⊢
          omega
    · have hkb : ((tk : Int) == 2) = false := by simp; omega
      have HV1 : Hid (RT = Rd.dc2 r r.words ⟨vn, va, vs, vt⟩ ⟨tk, tx, tv, tl⟩) := hide (HV0.out.trans (by rw [if_neg (by simp [hk2])]))
      clear HV0 hk2
      go_upto_region 4 with fail
      generalize w0 = w3 at *
      have HA4 := HA3
      have HK4 := HK3
      have HX4 := HX3
      have HT4 := HT3
      have hw1 : r.words ≤ 100000000000000 := hwd
      have hr1 : r.vars = r.vars ∧ r.at' = r.at' ∧ r.words = r.words := ⟨rfl, rfl, rfl⟩
      have HR1 := hide hr1
      clear HNt HA3 HK3 HX3 HT3 t0 t3 hr1
      have c8 := HA4.out.b.get (j := 8) rfl
      have x3 := HX4.out.get (j := 3) rfl
      have f3 := HX4.out.frz 3
      have HA5 := hide (RdA.setN (N := w.heap.size) (j := 3) HR.out HK4.out HA4.out HR1.out.1 (Nat.le_refl _) (.int .i64 (384 + (r.words : Int))))
      have HK5 := hide (HK4.out.setN (N := w.heap.size) (j := 3) (Nat.le_refl _) (.int .i64 (384 + (r.words : Int))))
      have HX5 : Hid (Blk (w3.setCell ⟨w.heap.size, 3, none⟩ (.int .i64 (384 + (r.words : Int)))) w.heap.size 63 (vrL ⟨vn, va, vs, 384 + r.words⟩)) := hide (by
        have e : ((384 + r.words : Nat) : Int) = 384 + (r.words : Int) := by omega
        have := HX4.out.set 3 (.int .i64 ((384 + r.words : Nat) : Int))
        rw [e] at this
        refine ⟨this.out.trans ?_⟩
        simp [vrL])
      have HT5 := hide (HT4.out.setN (N := w.heap.size) (j := 3) (by omega) (.int .i64 (384 + (r.words : Int))))
      clear HA4 HK4 HX4 HT4
      go_upto_region 5 with fail
      clear c8 x3 f3
      generalize w3.setCell ⟨w.heap.size, 3, none⟩ (.int .i64 (384 + (r.words : Int))) = W5 at *
      (try generalize w0 = wold at *)
      obtain ⟨w0, hwD⟩ : ∃ wD, wD = W5.drew := ⟨_, rfl⟩
      have HA6 : Hid (RdA w0 g ts F r) := by rw [hwD]; exact hide (HA5.out.keep (Below.refl _ W5).drew)
      have HK6 : Hid (Kp g w w0) := by rw [hwD]; exact hide (HK5.out.drew)
      have HX6 : Hid (Blk w0 w.heap.size 63 (vrL ⟨vn, va, vs, 384 + r.words⟩)) := by rw [hwD]; exact hide (HX5.out.below (Below.refl _ W5).drew HX5.out.lt)
      have HT6 : Hid (Blk w0 (w.heap.size + 1) 115 (tkL ⟨tk, tx, tv, tl⟩)) := by rw [hwD]; exact hide (HT5.out.below (Below.refl _ W5).drew HT5.out.lt)
      have HS0 : Hid ((fun W => W.cell? ⟨w.heap.size, 2, none⟩ = some (.int .i64 (vs : Nat))) w0) := hide (HX6.out.get (j := 2) rfl)
      have c8 := HA6.out.b.get (j := 8) rfl
      have f8 := HA6.out.b.frz 8
      have hwa : IntKind.i64.wrap ((r.words : Int) + (vs : Int)) = (r.words : Int) + (vs : Int) := by rw [IntKind.wrap_i64]; omega
      have HA7 : Hid (RdA (w0.setCell ⟨g, 8, none⟩ (.int .i64 ((r.words : Int) + (vs : Int)))) g ts F { r with words := r.words + vs }) := hide (by
        have e : ((r.words + vs : Nat) : Int) = (r.words : Int) + (vs : Int) := by omega
        rw [← e]
        exact HA6.out.to (Kp.set (Kp.refl g w0) _) (HA6.out.b.set 8 _) rfl HA6.out.hat)
      have HK7 := hide (Kp.set (j := 8) HK6.out (.int .i64 ((r.words : Int) + (vs : Int))))
      have HX7 := hide (HX6.out.setN (N := g) (j := 8) (by omega) (.int .i64 ((r.words : Int) + (vs : Int))))
      have HT7 := hide (HT6.out.setN (N := g) (j := 8) (by omega) (.int .i64 ((r.words : Int) + (vs : Int))))
      have HS1 : Hid ((fun W => W.cell? ⟨w.heap.size, 2, none⟩ = some (.int .i64 (vs : Nat))) (w0.setCell ⟨g, 8, none⟩ (.int .i64 ((r.words : Int) + (vs : Int))))) := hide (HX7.out.get (j := 2) rfl)
      refine wp_region_held_drew (S := fun W => W.cell? ⟨w.heap.size, 2, none⟩ = some (.int .i64 (vs : Nat))) (by kernel_rfl) (by rw [← hwD]; exact HS0.out) (fun hHeld => ?_)
      rw [← hwD]
      clear hwD hHeld HA5 HK5 HX5 HT5
      refine hd_take 0 (o := ⟨some 34, _, _, _, _, _⟩) (.pointer (some ⟨g, 0, none⟩)) (by kernel_rfl) (by kernel_rfl) (by kernel_rfl) rfl (by rfl) (fun W hSw => by go_simp) (fun _ _ _ h => h) HS0.out ?_
      simp only [Act.put, List.setIfInBounds_toArray, List.set_cons_zero, List.set_cons_succ]
      refine hd_take 1 (o := ⟨some 35, _, _, _, _, _⟩) (.pointer (some ⟨g, 0, none⟩)) (by kernel_rfl) (by kernel_rfl) (by kernel_rfl) rfl (by rfl) (fun W hSw => by go_simp) (fun _ _ _ h => h) HS0.out ?_
      simp only [Act.put, List.setIfInBounds_toArray, List.set_cons_zero, List.set_cons_succ]
      refine hd_take 2 (o := ⟨some 36, _, _, _, _, _⟩) (.pointer (some ⟨g, 8, none⟩)) (by kernel_rfl) (by kernel_rfl) (by kernel_rfl) rfl (by rfl) (fun W hSw => by go_simp) (fun _ _ _ h => h) HS0.out ?_
      simp only [Act.put, List.setIfInBounds_toArray, List.set_cons_zero, List.set_cons_succ]
      refine hd_take 4 (o := ⟨some 38, _, _, _, _, _⟩) (.pointer (some ⟨w.heap.size, 2, none⟩)) (by kernel_rfl) (by kernel_rfl) (by kernel_rfl) rfl (by rfl) (fun W hSw => by go_simp) (fun _ _ _ h => h) HS0.out ?_
      simp only [Act.put, List.setIfInBounds_toArray, List.set_cons_zero, List.set_cons_succ]
      refine hd_take 5 (o := ⟨some 39, _, _, _, _, _⟩) (.int .i64 (vs : Nat)) (by kernel_rfl) (by kernel_rfl) (by kernel_rfl) rfl (by rfl) (fun W hSw => by have k : W.cell? ⟨w.heap.size, 2, none⟩ = some (.int .i64 (vs : Nat)) := hSw; go_simp) (fun _ _ _ h => h) HS0.out ?_
      simp only [Act.put, List.setIfInBounds_toArray, List.set_cons_zero, List.set_cons_succ]
      refine hd_call 3 (o := ⟨some 37, _, _, _, _, _⟩) (by kernel_rfl) rfl (by rfl) (fun K' hK => ?_)
      go_simp
      refine hK _ _ HS0.out ?_
      clear hK K'
      try simp only [Act.put, List.setIfInBounds_toArray, List.set_cons_zero, List.set_cons_succ]
      refine hd_take 6 (o := ⟨some 40, _, _, _, _, _⟩) (.int .i64 ((r.words : Int) + (vs : Int))) (by kernel_rfl) (by kernel_rfl) (by kernel_rfl) rfl (by rfl) (fun W hSw => by go_simp) (fun _ _ _ h => h) HS0.out ?_
      simp only [Act.put, List.setIfInBounds_toArray, List.set_cons_zero, List.set_cons_succ]
      refine hd_take 7 (o := ⟨some 41, _, _, _, _, _⟩) (.pointer (some ⟨g, 0, none⟩)) (by kernel_rfl) (by kernel_rfl) (by kernel_rfl) rfl (by rfl) (fun W hSw => by go_simp) (fun _ _ _ h => h) HS0.out ?_
      simp only [Act.put, List.setIfInBounds_toArray, List.set_cons_zero, List.set_cons_succ]
      refine hd_take 8 (o := ⟨some 42, _, _, _, _, _⟩) (.pointer (some ⟨g, 8, none⟩)) (by kernel_rfl) (by kernel_rfl) (by kernel_rfl) rfl (by rfl) (fun W hSw => by go_simp) (fun _ _ _ h => h) HS0.out ?_
      simp only [Act.put, List.setIfInBounds_toArray, List.set_cons_zero, List.set_cons_succ]
      refine hd_call 9 (o := ⟨none, _, _, _, _, _⟩) (by kernel_rfl) rfl (by rfl) (fun K' hK => ?_)
      go_simp
      refine hK _ _ HS1.out ?_
      clear hK K'
      try simp only [Act.put]
      refine wpAnyH_done (by kernel_rfl) ?_ _
      clear HS0 HS1 c8 f8 HA6 HK6 HX6 HT6
      generalize w0.setCell ⟨g, 8, none⟩ (.int .i64 ((r.words : Int) + (vs : Int))) = W7 at *
      have HV2 : Hid (RT = { (if 96 < r.words + vs then ({ r with words := r.words + vs } : Rd).ndat tl else { r with words := r.words + vs }) with vars := (if 96 < r.words + vs then ({ r with words := r.words + vs } : Rd).ndat tl else { r with words := r.words + vs }).vars ++ [⟨vn, va, vs, 384 + r.words⟩] }) := hide HV1.out
      have HR2 : Hid (({ r with words := r.words + vs } : Rd).vars = r.vars ∧ ({ r with words := r.words + vs } : Rd).at' = r.at') := hide ⟨HR1.out.1, HR1.out.2.1⟩
      have HX7' : Hid (Blk W7 w.heap.size 63 (vrL ⟨vn, va, vs, 384 + r.words⟩)) := hide (by rw [← HR1.out.2.2]; exact HX7.out)
      have c8 := HA7.out.b.get (j := 8) rfl
      simp only [Int.natCast_add] at c8
      have t3 := HT7.out.get (j := 3) rfl
      simp only at t3
      clear HV1 HR1 HX7
      have hw2 : r.words + vs ≤ 200000000000000 := by omega
      generalize hr2 : ({ r with words := r.words + vs } : Rd) = r2 at *
      clear hr2
      by_cases h96 : 96 < r.words + vs
      · have h96i : (96 : Int) < (r.words : Int) + (vs : Int) := by omega
        rw [if_pos h96] at HV2
        have HN7 := hide (note_any W7 g ts F r2 2 tl 2 rfl (by decide) HA7.out)
        change Hid (Calls _ _ _ W7 fun e w' => e = .returned (.tuple #[]) ∧ RdA w' g ts F (r2.ndat tl) ∧ Kp g W7 w') at HN7
        have HR3 : Hid ((r2.ndat tl).vars = r.vars ∧ (r2.ndat tl).at' = r.at') := hide ⟨by unfold Rd.ndat; split <;> exact HR2.out.1, by unfold Rd.ndat; split <;> exact HR2.out.2⟩
        clear h96
        go_wp2_with fail
        refine HN7.out.mono ?_
        rintro e W8 ⟨rfl, hA8, hk8⟩
        have HA8 := hide hA8
        have HK8 := hide (HK7.out.trans hk8)
        have HX8 := hide (HX7'.out.keepK hk8 (by omega))
        clear hA8 hk8 HN7 HA7 HK7 HX7' HT7 HR2 c8 t3
        generalize r2.ndat tl = r3 at *
        go_upto_region 8 with fail
        have HO8 := hide (own_keepK HD.out.own HK8.out (Nat.lt_succ_self g))
        have HNe : Hid ((Value.slice F.av r.vars.length F.cv).ownBlock ≠ some w.heap.size) := hide (fun e => by have := (HD.out.own.lt _ e).2; omega)
        (try generalize w0 = wold at *)
        obtain ⟨w0, hwD⟩ : ∃ wD, wD = W8.drew := ⟨_, rfl⟩
        have HA9 : Hid (RdA w0 g ts F r3) := by rw [hwD]; exact hide (HA8.out.keep (Below.refl _ W8).drew)
        have HK9 : Hid (Kp g w w0) := by rw [hwD]; exact hide (HK8.out.drew)
        have HX9 : Hid (Blk w0 w.heap.size 63 (vrL ⟨vn, va, vs, 384 + r.words⟩)) := by rw [hwD]; exact hide (HX8.out.below (Below.refl _ W8).drew HX8.out.lt)
        have HO9 : Hid (w0.ownsRow (g + 1) 63 4 (.slice F.av r.vars.length F.cv) r.vars.length (r.vars.flatMap vrL)) := by rw [hwD]; exact hide (own_keepK HO8.out (Kp.of (g := g) (Below.refl _ W8).drew) (Nat.lt_succ_self g))
        have c6 : w0.cell? ⟨g, 6, none⟩ = some (.slice F.av r.vars.length F.cv) := by
          have := HA9.out.b.get (j := 6) rfl
          rw [HR3.out.1] at this
          exact this
        have HS0 : Hid ((fun W => W.cell? ⟨g, 7, none⟩ = some (.map (some F.mp)) ∧ W.cell? ⟨w.heap.size, 0, none⟩ = some (.string ⟨vn.toArray⟩) ∧ W.cell? ⟨g, 6, none⟩ = some (.slice F.av r.vars.length F.cv)) w0) := hide ⟨HA9.out.b.get (j := 7) rfl, HX9.out.get (j := 0) rfl, c6⟩
        obtain ⟨es, ck, ps', hup, hmi, hat⟩ := putS HA9.out.mo vn r.vars.length
        have hmlt : F.mp < w0.heap.size := by have := HK9.out.size; omega
        have HKd : Hid (Kd g F.mp w (w0.putObj F.mp (.map es ck))) := hide ⟨HK9.out.os, HK9.out.tape, HK9.out.output, by simp [World.putObj]; exact HK9.out.size, fun k hk hn => by rw [World.putObj_heap_other hn]; exact HK9.out.block k (by omega) (by omega)⟩
        have HBd : Hid (Blk (w0.putObj F.mp (.map es ck)) g 77 (rdL F ts.length r3)) := hide (HA9.out.b.keep (World.putObj_heap_other (by omega)))
        have HXd : Hid (Blk (w0.putObj F.mp (.map es ck)) w.heap.size 63 (vrL ⟨vn, va, vs, 384 + r.words⟩)) := hide (HX9.out.keep (World.putObj_heap_other (by omega)))
        have HOd : Hid ((w0.putObj F.mp (.map es ck)).ownsRow (g + 1) 63 4 (.slice F.av r.vars.length F.cv) r.vars.length (r.vars.flatMap vrL)) := hide (own_keepK HO9.out (g := F.mp) ⟨rfl, rfl, rfl, by simp [World.putObj], fun k _ hn => World.putObj_heap_other hn⟩ (by omega))
        have HMd := hide hmi
        have HAt := hide hat
        have hsd : (w0.putObj F.mp (.map es ck)).heap.size = w0.heap.size := by simp [World.putObj]
        have d6 : (w0.putObj F.mp (.map es ck)).cell? ⟨g, 6, none⟩ = some (.slice F.av r.vars.length F.cv) := by
          have := HBd.out.get (j := 6) rfl
          rw [HR3.out.1] at this
          exact this
        have HS1 : Hid ((fun W => W.cell? ⟨g, 7, none⟩ = some (.map (some F.mp)) ∧ W.cell? ⟨w.heap.size, 0, none⟩ = some (.string ⟨vn.toArray⟩) ∧ W.cell? ⟨g, 6, none⟩ = some (.slice F.av r.vars.length F.cv)) (w0.putObj F.mp (.map es ck))) := hide ⟨HBd.out.get (j := 7) rfl, HXd.out.get (j := 0) rfl, d6⟩
        have hgw0 : g < w0.heap.size := HA9.out.b.lt
        have hxw0 : w.heap.size < w0.heap.size := HX9.out.lt
        refine wp_region_held_drew (S := fun W => W.cell? ⟨g, 7, none⟩ = some (.map (some F.mp)) ∧ W.cell? ⟨w.heap.size, 0, none⟩ = some (.string ⟨vn.toArray⟩) ∧ W.cell? ⟨g, 6, none⟩ = some (.slice F.av r.vars.length F.cv)) (by kernel_rfl) (by rw [← hwD]; exact HS0.out) (fun hHeld => ?_)
        rw [← hwD]
        clear hwD hHeld HA8 HK8 HX8 HO8 hmi hat c6
        refine hd_take 0 (o := ⟨some 52, _, _, _, _, _⟩) (.pointer (some ⟨g, 0, none⟩)) (by kernel_rfl) (by kernel_rfl) (by kernel_rfl) rfl (by rfl) (fun W hSw => by go_simp) (fun _ _ _ h => h) HS0.out ?_
        simp only [Act.put, List.setIfInBounds_toArray, List.set_cons_zero, List.set_cons_succ]
        refine hd_take 1 (o := ⟨some 53, _, _, _, _, _⟩) (.pointer (some ⟨g, 0, none⟩)) (by kernel_rfl) (by kernel_rfl) (by kernel_rfl) rfl (by rfl) (fun W hSw => by go_simp) (fun _ _ _ h => h) HS0.out ?_
        simp only [Act.put, List.setIfInBounds_toArray, List.set_cons_zero, List.set_cons_succ]
        refine hd_take 2 (o := ⟨some 54, _, _, _, _, _⟩) (.pointer (some ⟨g, 7, none⟩)) (by kernel_rfl) (by kernel_rfl) (by kernel_rfl) rfl (by rfl) (fun W hSw => by go_simp) (fun _ _ _ h => h) HS0.out ?_
        simp only [Act.put, List.setIfInBounds_toArray, List.set_cons_zero, List.set_cons_succ]
        refine hd_take 3 (o := ⟨some 55, _, _, _, _, _⟩) (.map (some F.mp)) (by kernel_rfl) (by kernel_rfl) (by kernel_rfl) rfl (by rfl) (fun W hSw => by have k := hSw.1; go_simp) (fun _ _ _ h => h) HS0.out ?_
        simp only [Act.put, List.setIfInBounds_toArray, List.set_cons_zero, List.set_cons_succ]
        refine hd_take 4 (o := ⟨some 56, _, _, _, _, _⟩) (.pointer (some ⟨w.heap.size, 0, none⟩)) (by kernel_rfl) (by kernel_rfl) (by kernel_rfl) rfl (by rfl) (fun W hSw => by go_simp) (fun _ _ _ h => h) HS0.out ?_
        simp only [Act.put, List.setIfInBounds_toArray, List.set_cons_zero, List.set_cons_succ]
        refine hd_take 5 (o := ⟨some 57, _, _, _, _, _⟩) (.string ⟨vn.toArray⟩) (by kernel_rfl) (by kernel_rfl) (by kernel_rfl) rfl (by rfl) (fun W hSw => by have k := hSw.2.1; go_simp) (fun _ _ _ h => h) HS0.out ?_
        simp only [Act.put, List.setIfInBounds_toArray, List.set_cons_zero, List.set_cons_succ]
        refine hd_take 6 (o := ⟨some 58, _, _, _, _, _⟩) (.pointer (some ⟨g, 0, none⟩)) (by kernel_rfl) (by kernel_rfl) (by kernel_rfl) rfl (by rfl) (fun W hSw => by go_simp) (fun _ _ _ h => h) HS0.out ?_
        simp only [Act.put, List.setIfInBounds_toArray, List.set_cons_zero, List.set_cons_succ]
        refine hd_take 7 (o := ⟨some 59, _, _, _, _, _⟩) (.pointer (some ⟨g, 0, none⟩)) (by kernel_rfl) (by kernel_rfl) (by kernel_rfl) rfl (by rfl) (fun W hSw => by go_simp) (fun _ _ _ h => h) HS0.out ?_
        simp only [Act.put, List.setIfInBounds_toArray, List.set_cons_zero, List.set_cons_succ]
        refine hd_take 8 (o := ⟨some 60, _, _, _, _, _⟩) (.pointer (some ⟨g, 6, none⟩)) (by kernel_rfl) (by kernel_rfl) (by kernel_rfl) rfl (by rfl) (fun W hSw => by go_simp) (fun _ _ _ h => h) HS0.out ?_
        simp only [Act.put, List.setIfInBounds_toArray, List.set_cons_zero, List.set_cons_succ]
        refine hd_take 9 (o := ⟨some 61, _, _, _, _, _⟩) (.slice F.av r.vars.length F.cv) (by kernel_rfl) (by kernel_rfl) (by kernel_rfl) rfl (by rfl) (fun W hSw => by have k := hSw.2.2; go_simp) (fun _ _ _ h => h) HS0.out ?_
        simp only [Act.put, List.setIfInBounds_toArray, List.set_cons_zero, List.set_cons_succ]
        refine hd_take 10 (o := ⟨some 62, _, _, _, _, _⟩) (.int .i64 (r.vars.length : Nat)) (by kernel_rfl) (by kernel_rfl) (by kernel_rfl) rfl (by rfl) (fun W hSw => by go_simp) (fun _ _ _ h => h) HS0.out ?_
        simp only [Act.put, List.setIfInBounds_toArray, List.set_cons_zero, List.set_cons_succ]
        refine hd_call 11 (o := ⟨none, _, _, _, _, _⟩) (by kernel_rfl) rfl (by rfl) (fun K' hK => ?_)
        go_simp
        refine hK _ _ HS1.out ?_
        clear hK K'
        try simp only [Act.put]
        refine wpAnyH_done (by kernel_rfl) ?_ _
        clear HS0 HS1 hup HA9 HK9 HX9 HO9 d6
        generalize w0.putObj F.mp (.map es ck) = Wm at *
        go_upto_region 9 with fail
        generalize w0 = wold2 at *
        obtain ⟨w0, hwD⟩ : ∃ wD, wD = Wm.drew := ⟨_, rfl⟩
        have HKe : Hid (Kd g F.mp w w0) := by rw [hwD]; exact hide (⟨HKd.out.os, HKd.out.tape, HKd.out.output, HKd.out.size, fun k hk hn => HKd.out.block k hk hn⟩)
        have HBe : Hid (Blk w0 g 77 (rdL F ts.length r3)) := by rw [hwD]; exact hide (HBd.out.below (Below.refl _ Wm).drew HBd.out.lt)
        have HXe : Hid (Blk w0 w.heap.size 63 (vrL ⟨vn, va, vs, 384 + r.words⟩)) := by rw [hwD]; exact hide (HXd.out.below (Below.refl _ Wm).drew HXd.out.lt)
        have HOe : Hid (w0.ownsRow (g + 1) 63 4 (.slice F.av r.vars.length F.cv) r.vars.length (r.vars.flatMap vrL)) := by rw [hwD]; exact hide (own_keepK HOd.out (Kp.of (g := g) (Below.refl _ Wm).drew) (Nat.lt_succ_self g))
        have HMe : Hid (MapIs w0 F.mp KS pE ps') := by rw [hwD]; exact hide (HMd.out.keepK (Kp.of (g := g) (Below.refl _ Wm).drew) (by omega))
        have hgw := HBe.out.lt
        have hxw := HXe.out.lt
        have HvL : Hid (vrL ⟨vn, va, vs, 384 + r.words⟩ = [.string ⟨vn.toArray⟩, .bool va, .int .i64 (vs : Nat), .int .i64 (384 + (r.words : Int))]) := hide (by simp [vrL])
        have HS0 : Hid ((fun W => ∀ (j : Nat) (u : Value), ([.string ⟨vn.toArray⟩, .bool va, .int .i64 (vs : Nat), .int .i64 (384 + (r.words : Int))] : List Value)[j]? = some u → W.cell? ((⟨w.heap.size, 0, none⟩ : Addr).add j) = some u) w0) := hide (by have hc := HXe.out.cells; rw [HvL.out] at hc; exact hc)
        have c6 : w0.cell? ⟨g, 6, none⟩ = some (.slice F.av r.vars.length F.cv) := by
          have := HBe.out.get (j := 6) rfl
          rw [HR3.out.1] at this
          exact this
        have HbA := hide (bel1 w0 (.cells #[.string ⟨vn.toArray⟩, .bool va, .int .i64 (vs : Nat), .int .i64 (384 + (r.words : Int))] 63))
        have HS1 : Hid ((fun W => ∀ (j : Nat) (u : Value), ([.string ⟨vn.toArray⟩, .bool va, .int .i64 (vs : Nat), .int .i64 (384 + (r.words : Int))] : List Value)[j]? = some u → W.cell? ((⟨w.heap.size, 0, none⟩ : Addr).add j) = some u) (w0.alloc (.cells #[.string ⟨vn.toArray⟩, .bool va, .int .i64 (vs : Nat), .int .i64 (384 + (r.words : Int))] 63))) := hide (fun j u hu => by rw [HbA.out.cell (cell_blk (HS0.out j u hu))]; exact HS0.out j u hu)
        have HOa : Hid ((w0.alloc (.cells #[.string ⟨vn.toArray⟩, .bool va, .int .i64 (vs : Nat), .int .i64 (384 + (r.words : Int))] 63)).ownsRow (g + 1) 63 4 (.slice F.av r.vars.length F.cv) r.vars.length (r.vars.flatMap vrL)) := hide (own_keep HOe.out HbA.out)
        have c6a : (w0.alloc (.cells #[.string ⟨vn.toArray⟩, .bool va, .int .i64 (vs : Nat), .int .i64 (384 + (r.words : Int))] 63)).cell? ⟨g, 6, none⟩ = some (.slice F.av r.vars.length F.cv) := by rw [HbA.out.cell (p := ⟨g, 6, none⟩) HBe.out.lt]; exact c6
        refine wp_region_held_drew (S := fun W => ∀ (j : Nat) (u : Value), ([.string ⟨vn.toArray⟩, .bool va, .int .i64 (vs : Nat), .int .i64 (384 + (r.words : Int))] : List Value)[j]? = some u → W.cell? ((⟨w.heap.size, 0, none⟩ : Addr).add j) = some u) (by kernel_rfl) (by rw [← hwD]; exact HS0.out) (fun hHeld => ?_)
        rw [← hwD]
        clear hwD hHeld HKd HBd HXd HOd HMd hsd hgw0 hxw0 hmlt
        refine hd_take 0 (o := ⟨some 63, _, _, _, _, _⟩) (.pointer (some ⟨g, 0, none⟩)) (by kernel_rfl) (by kernel_rfl) (by kernel_rfl) rfl (by rfl) (fun W hSw => by go_simp) (fun _ _ _ h => h) HS0.out ?_
        simp only [Act.put, List.setIfInBounds_toArray, List.set_cons_zero, List.set_cons_succ]
        refine hd_take 1 (o := ⟨some 64, _, _, _, _, _⟩) (.pointer (some ⟨g, 0, none⟩)) (by kernel_rfl) (by kernel_rfl) (by kernel_rfl) rfl (by rfl) (fun W hSw => by go_simp) (fun _ _ _ h => h) HS0.out ?_
        simp only [Act.put, List.setIfInBounds_toArray, List.set_cons_zero, List.set_cons_succ]
        refine hd_take 2 (o := ⟨some 65, _, _, _, _, _⟩) (.pointer (some ⟨g, 0, none⟩)) (by kernel_rfl) (by kernel_rfl) (by kernel_rfl) rfl (by rfl) (fun W hSw => by go_simp) (fun _ _ _ h => h) HS0.out ?_
        simp only [Act.put, List.setIfInBounds_toArray, List.set_cons_zero, List.set_cons_succ]
        refine hd_take 3 (o := ⟨some 66, _, _, _, _, _⟩) (.pointer (some ⟨g, 6, none⟩)) (by kernel_rfl) (by kernel_rfl) (by kernel_rfl) rfl (by rfl) (fun W hSw => by go_simp) (fun _ _ _ h => h) HS0.out ?_
        simp only [Act.put, List.setIfInBounds_toArray, List.set_cons_zero, List.set_cons_succ]
        refine hd_take 5 (o := ⟨some 68, _, _, _, _, _⟩) (.agg #[.string ⟨vn.toArray⟩, .bool va, .int .i64 (vs : Nat), .int .i64 (384 + (r.words : Int))]) (by kernel_rfl) (by kernel_rfl) (by kernel_rfl) rfl (by rfl) (fun W hSw => by exact run_loadT Tryz.underlying63 rfl [.string ⟨vn.toArray⟩, .bool va, .int .i64 (vs : Nat), .int .i64 (384 + (r.words : Int))] info_vr _ rfl ⟨w.heap.size, 0, none⟩ rfl hSw) (fun _ _ _ h => h) HS0.out ?_
        simp only [Act.put, List.setIfInBounds_toArray, List.set_cons_zero, List.set_cons_succ]
        refine hd_both 4 6 (o1 := ⟨some 67, _, _, _, _, _⟩) (o2 := ⟨some 69, _, _, _, _, _⟩) (by kernel_rfl) rfl rfl (by rfl) (by rfl) (fun K' hK => ?_) (fun K' hK => ?_)
        · go_simp
          refine hK _ _ HS0.out ?_
          clear hK K'
          try simp only [Act.put, List.setIfInBounds_toArray, List.set_cons_zero, List.set_cons_succ]
          refine hd_call 6 (o := ⟨some 69, _, _, _, _, _⟩) (by kernel_rfl) rfl (by rfl) (fun K' hK => ?_)
          go_simp
          refine hK _ _ HS1.out ?_
          clear hK K'
          try simp only [Act.put, List.setIfInBounds_toArray, List.set_cons_zero, List.set_cons_succ]
          refine hd_call 7 (o := ⟨some 70, _, _, _, _, _⟩) (by kernel_rfl) rfl (by rfl) (fun K' hK => ?_)
          refine wp_append_own _ _ _ 54 rfl (g + 1) 63 i9 (.agg (vrL vr0).toArray) 4 40 Tryz.underlying54 hi hz hsz9 hb9 rfl (by decide) (.slice F.av r.vars.length F.cv) r.vars.length _ rfl HOa.out ⟨_, 0, none⟩ 1 1 [.string ⟨vn.toArray⟩, .bool va, .int .i64 (vs : Nat), .int .i64 (384 + (r.words : Int))] rfl rfl (fun j u hu => cells_new w0 [.string ⟨vn.toArray⟩, .bool va, .int .i64 (vs : Nat), .int .i64 (384 + (r.words : Int))] 63 j u hu) (by rw [← HvL.out]; exact vrL_one _) (by unfold maxLen; omega) (by omega) (by simp; omega) ?_
          intro v4 w4 ho4 hg4 _
          obtain ⟨a4, c4, rfl⟩ := own_shape ho4
          have hgA : g < (w0.alloc (.cells #[.string ⟨vn.toArray⟩, .bool va, .int .i64 (vs : Nat), .int .i64 (384 + (r.words : Int))] 63)).heap.size := by simp; have := HBe.out.lt; omega
          have hBf : Blk w4 g 77 (rdL F ts.length r3) := (HBe.out.below HbA.out HBe.out.lt).keep (hg4.block g hgA (fun e => by have := (HOa.out.lt g e.symm).1; omega))
          have hXl := HXe.out.lt
          have hXf : Blk w4 w.heap.size 63 (vrL ⟨vn, va, vs, 384 + r.words⟩) := (HXe.out.below HbA.out HXe.out.lt).keep (hg4.block w.heap.size (by simp; omega) (fun e => HNe.out e.symm))
          have HOf := hide ho4
          have HGf := hide hg4
          have f6 := hBf.frz 6
          have e6 : w4.cell? ⟨g, 6, none⟩ = some (.slice F.av r.vars.length F.cv) := by
            have := hBf.get (j := 6) rfl
            rw [HR3.out.1] at this
            exact this
          have HBf := hide hBf
          have HS2 : Hid ((fun W => ∀ (j : Nat) (u : Value), ([.string ⟨vn.toArray⟩, .bool va, .int .i64 (vs : Nat), .int .i64 (384 + (r.words : Int))] : List Value)[j]? = some u → W.cell? ((⟨w.heap.size, 0, none⟩ : Addr).add j) = some u) w4) := hide (by have hc := hXf.cells; rw [HvL.out] at hc; exact hc)
          have HXf := hide hXf
          clear ho4 hg4 hBf hXf hXl
          refine hK _ _ HS2.out ?_
          clear hK K'
          try simp only [Act.put, List.setIfInBounds_toArray, List.set_cons_zero, List.set_cons_succ]
          refine hd_take 8 (o := ⟨some 71, _, _, _, _, _⟩) (.pointer (some ⟨g, 0, none⟩)) (by kernel_rfl) (by kernel_rfl) (by kernel_rfl) rfl (by rfl) (fun W hSw => by go_simp) (fun _ _ _ h => h) HS2.out ?_
          simp only [Act.put, List.setIfInBounds_toArray, List.set_cons_zero, List.set_cons_succ]
          refine hd_take 9 (o := ⟨some 72, _, _, _, _, _⟩) (.pointer (some ⟨g, 6, none⟩)) (by kernel_rfl) (by kernel_rfl) (by kernel_rfl) rfl (by rfl) (fun W hSw => by go_simp) (fun _ _ _ h => h) HS2.out ?_
          simp only [Act.put, List.setIfInBounds_toArray, List.set_cons_zero, List.set_cons_succ]
          refine hd_call 10 (o := ⟨none, _, _, _, _, _⟩) (by kernel_rfl) rfl (by rfl) (fun K' hK => ?_)
          have HS3 : Hid ((fun W => ∀ (j : Nat) (u : Value), ([.string ⟨vn.toArray⟩, .bool va, .int .i64 (vs : Nat), .int .i64 (384 + (r.words : Int))] : List Value)[j]? = some u → W.cell? ((⟨w.heap.size, 0, none⟩ : Addr).add j) = some u) (w4.setCell ⟨g, 6, none⟩ (.slice a4 (r.vars.length + 1) c4))) := hide (fun j u hu => by have hq := HS2.out j u hu; rw [add0] at hq ⊢; rw [World.cell?_of_block (a := ⟨w.heap.size, j, none⟩) (heap_setCell_other w4 ⟨g, 6, none⟩ w.heap.size _ (by show w.heap.size ≠ g; omega))]; exact hq)
          go_simp
          refine hK _ _ HS3.out ?_
          clear hK K'
          try simp only [Act.put]
          refine wpAnyH_done (by kernel_rfl) ?_ _
          go_wp2
          go_end0
          have hkS := Kp.set (j := 6) (Kp.refl g w4) (.slice a4 (r.vars.length + 1) c4)
          have hblk : ∀ k, k < g → (w4.setCell ⟨g, 6, none⟩ (.slice a4 (r.vars.length + 1) c4)).heap[k]? = w0.heap[k]? := fun k hk => by
            rw [heap_setCell_other w4 ⟨g, 6, none⟩ k _ (by show k ≠ g; omega), HGf.out.block k (by simp; omega) (fun e => by have := (HOa.out.lt k e.symm).1; omega)]
            exact HbA.out.block k (by omega)
          have hfin := RdA.decl (r3 := r3) (v := ⟨vn, va, vs, 384 + r.words⟩) (av := a4) (cv := c4) (ps := ps') HR.out HD.out (w' := w4.setCell ⟨g, 6, none⟩ (.slice a4 (r.vars.length + 1) c4)) (fun k hk hn => (hblk k hk).trans (HKe.out.block k hk hn)) HR3.out.1 HR3.out.2 (by
              have hq := HBf.out.set 6 (.slice a4 (r.vars.length + 1) c4)
              refine ⟨hq.out.trans ?_⟩
              simp [rdL, HR3.out.1]) (by
              have hq := own_keepK HOf.out hkS (Nat.lt_succ_self g)
              rw [← HvL.out] at hq
              simpa using hq) (by
              obtain ⟨es1, c1, e1, e2⟩ := HMe.out
              exact ⟨es1, c1, (hblk F.mp hmg).trans e1, e2⟩) HAt.out
          refine ⟨rfl, { F with av := a4, cv := c4, ps := ps' }, rfl, rfl, rfl, by rw [HV2.out]; exact hfin.1, by rw [HV2.out]; exact hfin.2, ⟨HGf.out.os.trans HKe.out.os, HGf.out.tape.trans HKe.out.tape, HGf.out.output.trans HKe.out.output, ?_, fun k hk => (hblk k (by omega)).trans (HKe.out.block k (by omega) (by omega))⟩⟩
          have h1 := HKe.out.size
          have h2 := HGf.out.size
          simp only [World.size_setCell, World.size_alloc] at h2 ⊢
          omega
        · go_simp
          refine hK _ _ HS1.out ?_
          clear hK K'
          try simp only [Act.put, List.setIfInBounds_toArray, List.set_cons_zero, List.set_cons_succ]
          refine hd_call 4 (o := ⟨some 67, _, _, _, _, _⟩) (by kernel_rfl) rfl (by rfl) (fun K' hK => ?_)
          go_simp
          refine hK _ _ HS1.out ?_
          clear hK K'
          try simp only [Act.put, List.setIfInBounds_toArray, List.set_cons_zero, List.set_cons_succ]
          refine hd_call 7 (o := ⟨some 70, _, _, _, _, _⟩) (by kernel_rfl) rfl (by rfl) (fun K' hK => ?_)
          refine wp_append_own _ _ _ 54 rfl (g + 1) 63 i9 (.agg (vrL vr0).toArray) 4 40 Tryz.underlying54 hi hz hsz9 hb9 rfl (by decide) (.slice F.av r.vars.length F.cv) r.vars.length _ rfl HOa.out ⟨_, 0, none⟩ 1 1 [.string ⟨vn.toArray⟩, .bool va, .int .i64 (vs : Nat), .int .i64 (384 + (r.words : Int))] rfl rfl (fun j u hu => cells_new w0 [.string ⟨vn.toArray⟩, .bool va, .int .i64 (vs : Nat), .int .i64 (384 + (r.words : Int))] 63 j u hu) (by rw [← HvL.out]; exact vrL_one _) (by unfold maxLen; omega) (by omega) (by simp; omega) ?_
          intro v4 w4 ho4 hg4 _
          obtain ⟨a4, c4, rfl⟩ := own_shape ho4
          have hgA : g < (w0.alloc (.cells #[.string ⟨vn.toArray⟩, .bool va, .int .i64 (vs : Nat), .int .i64 (384 + (r.words : Int))] 63)).heap.size := by simp; have := HBe.out.lt; omega
          have hBf : Blk w4 g 77 (rdL F ts.length r3) := (HBe.out.below HbA.out HBe.out.lt).keep (hg4.block g hgA (fun e => by have := (HOa.out.lt g e.symm).1; omega))
          have hXl := HXe.out.lt
          have hXf : Blk w4 w.heap.size 63 (vrL ⟨vn, va, vs, 384 + r.words⟩) := (HXe.out.below HbA.out HXe.out.lt).keep (hg4.block w.heap.size (by simp; omega) (fun e => HNe.out e.symm))
          have HOf := hide ho4
          have HGf := hide hg4
          have f6 := hBf.frz 6
          have e6 : w4.cell? ⟨g, 6, none⟩ = some (.slice F.av r.vars.length F.cv) := by
            have := hBf.get (j := 6) rfl
            rw [HR3.out.1] at this
            exact this
          have HBf := hide hBf
          have HS2 : Hid ((fun W => ∀ (j : Nat) (u : Value), ([.string ⟨vn.toArray⟩, .bool va, .int .i64 (vs : Nat), .int .i64 (384 + (r.words : Int))] : List Value)[j]? = some u → W.cell? ((⟨w.heap.size, 0, none⟩ : Addr).add j) = some u) w4) := hide (by have hc := hXf.cells; rw [HvL.out] at hc; exact hc)
          have HXf := hide hXf
          clear ho4 hg4 hBf hXf hXl
          refine hK _ _ HS2.out ?_
          clear hK K'
          try simp only [Act.put, List.setIfInBounds_toArray, List.set_cons_zero, List.set_cons_succ]
          refine hd_take 8 (o := ⟨some 71, _, _, _, _, _⟩) (.pointer (some ⟨g, 0, none⟩)) (by kernel_rfl) (by kernel_rfl) (by kernel_rfl) rfl (by rfl) (fun W hSw => by go_simp) (fun _ _ _ h => h) HS2.out ?_
          simp only [Act.put, List.setIfInBounds_toArray, List.set_cons_zero, List.set_cons_succ]
          refine hd_take 9 (o := ⟨some 72, _, _, _, _, _⟩) (.pointer (some ⟨g, 6, none⟩)) (by kernel_rfl) (by kernel_rfl) (by kernel_rfl) rfl (by rfl) (fun W hSw => by go_simp) (fun _ _ _ h => h) HS2.out ?_
          simp only [Act.put, List.setIfInBounds_toArray, List.set_cons_zero, List.set_cons_succ]
          refine hd_call 10 (o := ⟨none, _, _, _, _, _⟩) (by kernel_rfl) rfl (by rfl) (fun K' hK => ?_)
          have HS3 : Hid ((fun W => ∀ (j : Nat) (u : Value), ([.string ⟨vn.toArray⟩, .bool va, .int .i64 (vs : Nat), .int .i64 (384 + (r.words : Int))] : List Value)[j]? = some u → W.cell? ((⟨w.heap.size, 0, none⟩ : Addr).add j) = some u) (w4.setCell ⟨g, 6, none⟩ (.slice a4 (r.vars.length + 1) c4))) := hide (fun j u hu => by have hq := HS2.out j u hu; rw [add0] at hq ⊢; rw [World.cell?_of_block (a := ⟨w.heap.size, j, none⟩) (heap_setCell_other w4 ⟨g, 6, none⟩ w.heap.size _ (by show w.heap.size ≠ g; omega))]; exact hq)
          go_simp
          refine hK _ _ HS3.out ?_
          clear hK K'
          try simp only [Act.put]
          refine wpAnyH_done (by kernel_rfl) ?_ _
          go_wp2
          go_end0
          have hkS := Kp.set (j := 6) (Kp.refl g w4) (.slice a4 (r.vars.length + 1) c4)
          have hblk : ∀ k, k < g → (w4.setCell ⟨g, 6, none⟩ (.slice a4 (r.vars.length + 1) c4)).heap[k]? = w0.heap[k]? := fun k hk => by
            rw [heap_setCell_other w4 ⟨g, 6, none⟩ k _ (by show k ≠ g; omega), HGf.out.block k (by simp; omega) (fun e => by have := (HOa.out.lt k e.symm).1; omega)]
            exact HbA.out.block k (by omega)
          have hfin := RdA.decl (r3 := r3) (v := ⟨vn, va, vs, 384 + r.words⟩) (av := a4) (cv := c4) (ps := ps') HR.out HD.out (w' := w4.setCell ⟨g, 6, none⟩ (.slice a4 (r.vars.length + 1) c4)) (fun k hk hn => (hblk k hk).trans (HKe.out.block k hk hn)) HR3.out.1 HR3.out.2 (by
              have hq := HBf.out.set 6 (.slice a4 (r.vars.length + 1) c4)
              refine ⟨hq.out.trans ?_⟩
              simp [rdL, HR3.out.1]) (by
              have hq := own_keepK HOf.out hkS (Nat.lt_succ_self g)
              rw [← HvL.out] at hq
              simpa using hq) (by
              obtain ⟨es1, c1, e1, e2⟩ := HMe.out
              exact ⟨es1, c1, (hblk F.mp hmg).trans e1, e2⟩) HAt.out
          refine ⟨rfl, { F with av := a4, cv := c4, ps := ps' }, rfl, rfl, rfl, by rw [HV2.out]; exact hfin.1, by rw [HV2.out]; exact hfin.2, ⟨HGf.out.os.trans HKe.out.os, HGf.out.tape.trans HKe.out.tape, HGf.out.output.trans HKe.out.output, ?_, fun k hk => (hblk k (by omega)).trans (HKe.out.block k (by omega) (by omega))⟩⟩
          have h1 := HKe.out.size
          have h2 := HGf.out.size
          simp only [World.size_setCell, World.size_alloc] at h2 ⊢
          omega
      · have h96i : ¬ (96 : Int) < (r.words : Int) + (vs : Int) := by omega
        rw [if_neg h96] at HV2
        clear h96
        go_upto_region 8 with fail
        generalize W7 = W8 at *
        have HA8 := HA7
        have HK8 := HK7
        have HX8 := HX7'
        have HR3 := HR2
        clear HA7 HK7 HX7' HT7 HR2 c8 t3
        generalize r2 = r3 at *
        have HO8 := hide (own_keepK HD.out.own HK8.out (Nat.lt_succ_self g))
        have HNe : Hid ((Value.slice F.av r.vars.length F.cv).ownBlock ≠ some w.heap.size) := hide (fun e => by have := (HD.out.own.lt _ e).2; omega)
        (try generalize w0 = wold at *)
        obtain ⟨w0, hwD⟩ : ∃ wD, wD = W8.drew := ⟨_, rfl⟩
        have HA9 : Hid (RdA w0 g ts F r3) := by rw [hwD]; exact hide (HA8.out.keep (Below.refl _ W8).drew)
        have HK9 : Hid (Kp g w w0) := by rw [hwD]; exact hide (HK8.out.drew)
        have HX9 : Hid (Blk w0 w.heap.size 63 (vrL ⟨vn, va, vs, 384 + r.words⟩)) := by rw [hwD]; exact hide (HX8.out.below (Below.refl _ W8).drew HX8.out.lt)
        have HO9 : Hid (w0.ownsRow (g + 1) 63 4 (.slice F.av r.vars.length F.cv) r.vars.length (r.vars.flatMap vrL)) := by rw [hwD]; exact hide (own_keepK HO8.out (Kp.of (g := g) (Below.refl _ W8).drew) (Nat.lt_succ_self g))
        have c6 : w0.cell? ⟨g, 6, none⟩ = some (.slice F.av r.vars.length F.cv) := by
          have := HA9.out.b.get (j := 6) rfl
          rw [HR3.out.1] at this
          exact this
        have HS0 : Hid ((fun W => W.cell? ⟨g, 7, none⟩ = some (.map (some F.mp)) ∧ W.cell? ⟨w.heap.size, 0, none⟩ = some (.string ⟨vn.toArray⟩) ∧ W.cell? ⟨g, 6, none⟩ = some (.slice F.av r.vars.length F.cv)) w0) := hide ⟨HA9.out.b.get (j := 7) rfl, HX9.out.get (j := 0) rfl, c6⟩
        obtain ⟨es, ck, ps', hup, hmi, hat⟩ := putS HA9.out.mo vn r.vars.length
        have hmlt : F.mp < w0.heap.size := by have := HK9.out.size; omega
        have HKd : Hid (Kd g F.mp w (w0.putObj F.mp (.map es ck))) := hide ⟨HK9.out.os, HK9.out.tape, HK9.out.output, by simp [World.putObj]; exact HK9.out.size, fun k hk hn => by rw [World.putObj_heap_other hn]; exact HK9.out.block k (by omega) (by omega)⟩
        have HBd : Hid (Blk (w0.putObj F.mp (.map es ck)) g 77 (rdL F ts.length r3)) := hide (HA9.out.b.keep (World.putObj_heap_other (by omega)))
        have HXd : Hid (Blk (w0.putObj F.mp (.map es ck)) w.heap.size 63 (vrL ⟨vn, va, vs, 384 + r.words⟩)) := hide (HX9.out.keep (World.putObj_heap_other (by omega)))
        have HOd : Hid ((w0.putObj F.mp (.map es ck)).ownsRow (g + 1) 63 4 (.slice F.av r.vars.length F.cv) r.vars.length (r.vars.flatMap vrL)) := hide (own_keepK HO9.out (g := F.mp) ⟨rfl, rfl, rfl, by simp [World.putObj], fun k _ hn => World.putObj_heap_other hn⟩ (by omega))
        have HMd := hide hmi
        have HAt := hide hat
        have hsd : (w0.putObj F.mp (.map es ck)).heap.size = w0.heap.size := by simp [World.putObj]
        have d6 : (w0.putObj F.mp (.map es ck)).cell? ⟨g, 6, none⟩ = some (.slice F.av r.vars.length F.cv) := by
          have := HBd.out.get (j := 6) rfl
          rw [HR3.out.1] at this
          exact this
        have HS1 : Hid ((fun W => W.cell? ⟨g, 7, none⟩ = some (.map (some F.mp)) ∧ W.cell? ⟨w.heap.size, 0, none⟩ = some (.string ⟨vn.toArray⟩) ∧ W.cell? ⟨g, 6, none⟩ = some (.slice F.av r.vars.length F.cv)) (w0.putObj F.mp (.map es ck))) := hide ⟨HBd.out.get (j := 7) rfl, HXd.out.get (j := 0) rfl, d6⟩
        have hgw0 : g < w0.heap.size := HA9.out.b.lt
        have hxw0 : w.heap.size < w0.heap.size := HX9.out.lt
        refine wp_region_held_drew (S := fun W => W.cell? ⟨g, 7, none⟩ = some (.map (some F.mp)) ∧ W.cell? ⟨w.heap.size, 0, none⟩ = some (.string ⟨vn.toArray⟩) ∧ W.cell? ⟨g, 6, none⟩ = some (.slice F.av r.vars.length F.cv)) (by kernel_rfl) (by rw [← hwD]; exact HS0.out) (fun hHeld => ?_)
        rw [← hwD]
        clear hwD hHeld HA8 HK8 HX8 HO8 hmi hat c6
        refine hd_take 0 (o := ⟨some 52, _, _, _, _, _⟩) (.pointer (some ⟨g, 0, none⟩)) (by kernel_rfl) (by kernel_rfl) (by kernel_rfl) rfl (by rfl) (fun W hSw => by go_simp) (fun _ _ _ h => h) HS0.out ?_
        simp only [Act.put, List.setIfInBounds_toArray, List.set_cons_zero, List.set_cons_succ]
        refine hd_take 1 (o := ⟨some 53, _, _, _, _, _⟩) (.pointer (some ⟨g, 0, none⟩)) (by kernel_rfl) (by kernel_rfl) (by kernel_rfl) rfl (by rfl) (fun W hSw => by go_simp) (fun _ _ _ h => h) HS0.out ?_
        simp only [Act.put, List.setIfInBounds_toArray, List.set_cons_zero, List.set_cons_succ]
        refine hd_take 2 (o := ⟨some 54, _, _, _, _, _⟩) (.pointer (some ⟨g, 7, none⟩)) (by kernel_rfl) (by kernel_rfl) (by kernel_rfl) rfl (by rfl) (fun W hSw => by go_simp) (fun _ _ _ h => h) HS0.out ?_
        simp only [Act.put, List.setIfInBounds_toArray, List.set_cons_zero, List.set_cons_succ]
        refine hd_take 3 (o := ⟨some 55, _, _, _, _, _⟩) (.map (some F.mp)) (by kernel_rfl) (by kernel_rfl) (by kernel_rfl) rfl (by rfl) (fun W hSw => by have k := hSw.1; go_simp) (fun _ _ _ h => h) HS0.out ?_
        simp only [Act.put, List.setIfInBounds_toArray, List.set_cons_zero, List.set_cons_succ]
        refine hd_take 4 (o := ⟨some 56, _, _, _, _, _⟩) (.pointer (some ⟨w.heap.size, 0, none⟩)) (by kernel_rfl) (by kernel_rfl) (by kernel_rfl) rfl (by rfl) (fun W hSw => by go_simp) (fun _ _ _ h => h) HS0.out ?_
        simp only [Act.put, List.setIfInBounds_toArray, List.set_cons_zero, List.set_cons_succ]
        refine hd_take 5 (o := ⟨some 57, _, _, _, _, _⟩) (.string ⟨vn.toArray⟩) (by kernel_rfl) (by kernel_rfl) (by kernel_rfl) rfl (by rfl) (fun W hSw => by have k := hSw.2.1; go_simp) (fun _ _ _ h => h) HS0.out ?_
        simp only [Act.put, List.setIfInBounds_toArray, List.set_cons_zero, List.set_cons_succ]
        refine hd_take 6 (o := ⟨some 58, _, _, _, _, _⟩) (.pointer (some ⟨g, 0, none⟩)) (by kernel_rfl) (by kernel_rfl) (by kernel_rfl) rfl (by rfl) (fun W hSw => by go_simp) (fun _ _ _ h => h) HS0.out ?_
        simp only [Act.put, List.setIfInBounds_toArray, List.set_cons_zero, List.set_cons_succ]
        refine hd_take 7 (o := ⟨some 59, _, _, _, _, _⟩) (.pointer (some ⟨g, 0, none⟩)) (by kernel_rfl) (by kernel_rfl) (by kernel_rfl) rfl (by rfl) (fun W hSw => by go_simp) (fun _ _ _ h => h) HS0.out ?_
        simp only [Act.put, List.setIfInBounds_toArray, List.set_cons_zero, List.set_cons_succ]
        refine hd_take 8 (o := ⟨some 60, _, _, _, _, _⟩) (.pointer (some ⟨g, 6, none⟩)) (by kernel_rfl) (by kernel_rfl) (by kernel_rfl) rfl (by rfl) (fun W hSw => by go_simp) (fun _ _ _ h => h) HS0.out ?_
        simp only [Act.put, List.setIfInBounds_toArray, List.set_cons_zero, List.set_cons_succ]
        refine hd_take 9 (o := ⟨some 61, _, _, _, _, _⟩) (.slice F.av r.vars.length F.cv) (by kernel_rfl) (by kernel_rfl) (by kernel_rfl) rfl (by rfl) (fun W hSw => by have k := hSw.2.2; go_simp) (fun _ _ _ h => h) HS0.out ?_
        simp only [Act.put, List.setIfInBounds_toArray, List.set_cons_zero, List.set_cons_succ]
        refine hd_take 10 (o := ⟨some 62, _, _, _, _, _⟩) (.int .i64 (r.vars.length : Nat)) (by kernel_rfl) (by kernel_rfl) (by kernel_rfl) rfl (by rfl) (fun W hSw => by go_simp) (fun _ _ _ h => h) HS0.out ?_
        simp only [Act.put, List.setIfInBounds_toArray, List.set_cons_zero, List.set_cons_succ]
        refine hd_call 11 (o := ⟨none, _, _, _, _, _⟩) (by kernel_rfl) rfl (by rfl) (fun K' hK => ?_)
        go_simp
        refine hK _ _ HS1.out ?_
        clear hK K'
        try simp only [Act.put]
        refine wpAnyH_done (by kernel_rfl) ?_ _
        clear HS0 HS1 hup HA9 HK9 HX9 HO9 d6
        generalize w0.putObj F.mp (.map es ck) = Wm at *
        go_upto_region 9 with fail
        generalize w0 = wold2 at *
        obtain ⟨w0, hwD⟩ : ∃ wD, wD = Wm.drew := ⟨_, rfl⟩
        have HKe : Hid (Kd g F.mp w w0) := by rw [hwD]; exact hide (⟨HKd.out.os, HKd.out.tape, HKd.out.output, HKd.out.size, fun k hk hn => HKd.out.block k hk hn⟩)
        have HBe : Hid (Blk w0 g 77 (rdL F ts.length r3)) := by rw [hwD]; exact hide (HBd.out.below (Below.refl _ Wm).drew HBd.out.lt)
        have HXe : Hid (Blk w0 w.heap.size 63 (vrL ⟨vn, va, vs, 384 + r.words⟩)) := by rw [hwD]; exact hide (HXd.out.below (Below.refl _ Wm).drew HXd.out.lt)
        have HOe : Hid (w0.ownsRow (g + 1) 63 4 (.slice F.av r.vars.length F.cv) r.vars.length (r.vars.flatMap vrL)) := by rw [hwD]; exact hide (own_keepK HOd.out (Kp.of (g := g) (Below.refl _ Wm).drew) (Nat.lt_succ_self g))
        have HMe : Hid (MapIs w0 F.mp KS pE ps') := by rw [hwD]; exact hide (HMd.out.keepK (Kp.of (g := g) (Below.refl _ Wm).drew) (by omega))
        have hgw := HBe.out.lt
        have hxw := HXe.out.lt
        have HvL : Hid (vrL ⟨vn, va, vs, 384 + r.words⟩ = [.string ⟨vn.toArray⟩, .bool va, .int .i64 (vs : Nat), .int .i64 (384 + (r.words : Int))]) := hide (by simp [vrL])
        have HS0 : Hid ((fun W => ∀ (j : Nat) (u : Value), ([.string ⟨vn.toArray⟩, .bool va, .int .i64 (vs : Nat), .int .i64 (384 + (r.words : Int))] : List Value)[j]? = some u → W.cell? ((⟨w.heap.size, 0, none⟩ : Addr).add j) = some u) w0) := hide (by have hc := HXe.out.cells; rw [HvL.out] at hc; exact hc)
        have c6 : w0.cell? ⟨g, 6, none⟩ = some (.slice F.av r.vars.length F.cv) := by
          have := HBe.out.get (j := 6) rfl
          rw [HR3.out.1] at this
          exact this
        have HbA := hide (bel1 w0 (.cells #[.string ⟨vn.toArray⟩, .bool va, .int .i64 (vs : Nat), .int .i64 (384 + (r.words : Int))] 63))
        have HS1 : Hid ((fun W => ∀ (j : Nat) (u : Value), ([.string ⟨vn.toArray⟩, .bool va, .int .i64 (vs : Nat), .int .i64 (384 + (r.words : Int))] : List Value)[j]? = some u → W.cell? ((⟨w.heap.size, 0, none⟩ : Addr).add j) = some u) (w0.alloc (.cells #[.string ⟨vn.toArray⟩, .bool va, .int .i64 (vs : Nat), .int .i64 (384 + (r.words : Int))] 63))) := hide (fun j u hu => by rw [HbA.out.cell (cell_blk (HS0.out j u hu))]; exact HS0.out j u hu)
        have HOa : Hid ((w0.alloc (.cells #[.string ⟨vn.toArray⟩, .bool va, .int .i64 (vs : Nat), .int .i64 (384 + (r.words : Int))] 63)).ownsRow (g + 1) 63 4 (.slice F.av r.vars.length F.cv) r.vars.length (r.vars.flatMap vrL)) := hide (own_keep HOe.out HbA.out)
        have c6a : (w0.alloc (.cells #[.string ⟨vn.toArray⟩, .bool va, .int .i64 (vs : Nat), .int .i64 (384 + (r.words : Int))] 63)).cell? ⟨g, 6, none⟩ = some (.slice F.av r.vars.length F.cv) := by rw [HbA.out.cell (p := ⟨g, 6, none⟩) HBe.out.lt]; exact c6
        refine wp_region_held_drew (S := fun W => ∀ (j : Nat) (u : Value), ([.string ⟨vn.toArray⟩, .bool va, .int .i64 (vs : Nat), .int .i64 (384 + (r.words : Int))] : List Value)[j]? = some u → W.cell? ((⟨w.heap.size, 0, none⟩ : Addr).add j) = some u) (by kernel_rfl) (by rw [← hwD]; exact HS0.out) (fun hHeld => ?_)
        rw [← hwD]
        clear hwD hHeld HKd HBd HXd HOd HMd hsd hgw0 hxw0 hmlt
        refine hd_take 0 (o := ⟨some 63, _, _, _, _, _⟩) (.pointer (some ⟨g, 0, none⟩)) (by kernel_rfl) (by kernel_rfl) (by kernel_rfl) rfl (by rfl) (fun W hSw => by go_simp) (fun _ _ _ h => h) HS0.out ?_
        simp only [Act.put, List.setIfInBounds_toArray, List.set_cons_zero, List.set_cons_succ]
        refine hd_take 1 (o := ⟨some 64, _, _, _, _, _⟩) (.pointer (some ⟨g, 0, none⟩)) (by kernel_rfl) (by kernel_rfl) (by kernel_rfl) rfl (by rfl) (fun W hSw => by go_simp) (fun _ _ _ h => h) HS0.out ?_
        simp only [Act.put, List.setIfInBounds_toArray, List.set_cons_zero, List.set_cons_succ]
        refine hd_take 2 (o := ⟨some 65, _, _, _, _, _⟩) (.pointer (some ⟨g, 0, none⟩)) (by kernel_rfl) (by kernel_rfl) (by kernel_rfl) rfl (by rfl) (fun W hSw => by go_simp) (fun _ _ _ h => h) HS0.out ?_
        simp only [Act.put, List.setIfInBounds_toArray, List.set_cons_zero, List.set_cons_succ]
        refine hd_take 3 (o := ⟨some 66, _, _, _, _, _⟩) (.pointer (some ⟨g, 6, none⟩)) (by kernel_rfl) (by kernel_rfl) (by kernel_rfl) rfl (by rfl) (fun W hSw => by go_simp) (fun _ _ _ h => h) HS0.out ?_
        simp only [Act.put, List.setIfInBounds_toArray, List.set_cons_zero, List.set_cons_succ]
        refine hd_take 5 (o := ⟨some 68, _, _, _, _, _⟩) (.agg #[.string ⟨vn.toArray⟩, .bool va, .int .i64 (vs : Nat), .int .i64 (384 + (r.words : Int))]) (by kernel_rfl) (by kernel_rfl) (by kernel_rfl) rfl (by rfl) (fun W hSw => by exact run_loadT Tryz.underlying63 rfl [.string ⟨vn.toArray⟩, .bool va, .int .i64 (vs : Nat), .int .i64 (384 + (r.words : Int))] info_vr _ rfl ⟨w.heap.size, 0, none⟩ rfl hSw) (fun _ _ _ h => h) HS0.out ?_
        simp only [Act.put, List.setIfInBounds_toArray, List.set_cons_zero, List.set_cons_succ]
        refine hd_both 4 6 (o1 := ⟨some 67, _, _, _, _, _⟩) (o2 := ⟨some 69, _, _, _, _, _⟩) (by kernel_rfl) rfl rfl (by rfl) (by rfl) (fun K' hK => ?_) (fun K' hK => ?_)
        · go_simp
          refine hK _ _ HS0.out ?_
          clear hK K'
          try simp only [Act.put, List.setIfInBounds_toArray, List.set_cons_zero, List.set_cons_succ]
          refine hd_call 6 (o := ⟨some 69, _, _, _, _, _⟩) (by kernel_rfl) rfl (by rfl) (fun K' hK => ?_)
          go_simp
          refine hK _ _ HS1.out ?_
          clear hK K'
          try simp only [Act.put, List.setIfInBounds_toArray, List.set_cons_zero, List.set_cons_succ]
          refine hd_call 7 (o := ⟨some 70, _, _, _, _, _⟩) (by kernel_rfl) rfl (by rfl) (fun K' hK => ?_)
          refine wp_append_own _ _ _ 54 rfl (g + 1) 63 i9 (.agg (vrL vr0).toArray) 4 40 Tryz.underlying54 hi hz hsz9 hb9 rfl (by decide) (.slice F.av r.vars.length F.cv) r.vars.length _ rfl HOa.out ⟨_, 0, none⟩ 1 1 [.string ⟨vn.toArray⟩, .bool va, .int .i64 (vs : Nat), .int .i64 (384 + (r.words : Int))] rfl rfl (fun j u hu => cells_new w0 [.string ⟨vn.toArray⟩, .bool va, .int .i64 (vs : Nat), .int .i64 (384 + (r.words : Int))] 63 j u hu) (by rw [← HvL.out]; exact vrL_one _) (by unfold maxLen; omega) (by omega) (by simp; omega) ?_
          intro v4 w4 ho4 hg4 _
          obtain ⟨a4, c4, rfl⟩ := own_shape ho4
          have hgA : g < (w0.alloc (.cells #[.string ⟨vn.toArray⟩, .bool va, .int .i64 (vs : Nat), .int .i64 (384 + (r.words : Int))] 63)).heap.size := by simp; have := HBe.out.lt; omega
          have hBf : Blk w4 g 77 (rdL F ts.length r3) := (HBe.out.below HbA.out HBe.out.lt).keep (hg4.block g hgA (fun e => by have := (HOa.out.lt g e.symm).1; omega))
          have hXl := HXe.out.lt
          have hXf : Blk w4 w.heap.size 63 (vrL ⟨vn, va, vs, 384 + r.words⟩) := (HXe.out.below HbA.out HXe.out.lt).keep (hg4.block w.heap.size (by simp; omega) (fun e => HNe.out e.symm))
          have HOf := hide ho4
          have HGf := hide hg4
          have f6 := hBf.frz 6
          have e6 : w4.cell? ⟨g, 6, none⟩ = some (.slice F.av r.vars.length F.cv) := by
            have := hBf.get (j := 6) rfl
            rw [HR3.out.1] at this
            exact this
          have HBf := hide hBf
          have HS2 : Hid ((fun W => ∀ (j : Nat) (u : Value), ([.string ⟨vn.toArray⟩, .bool va, .int .i64 (vs : Nat), .int .i64 (384 + (r.words : Int))] : List Value)[j]? = some u → W.cell? ((⟨w.heap.size, 0, none⟩ : Addr).add j) = some u) w4) := hide (by have hc := hXf.cells; rw [HvL.out] at hc; exact hc)
          have HXf := hide hXf
          clear ho4 hg4 hBf hXf hXl
          refine hK _ _ HS2.out ?_
          clear hK K'
          try simp only [Act.put, List.setIfInBounds_toArray, List.set_cons_zero, List.set_cons_succ]
          refine hd_take 8 (o := ⟨some 71, _, _, _, _, _⟩) (.pointer (some ⟨g, 0, none⟩)) (by kernel_rfl) (by kernel_rfl) (by kernel_rfl) rfl (by rfl) (fun W hSw => by go_simp) (fun _ _ _ h => h) HS2.out ?_
          simp only [Act.put, List.setIfInBounds_toArray, List.set_cons_zero, List.set_cons_succ]
          refine hd_take 9 (o := ⟨some 72, _, _, _, _, _⟩) (.pointer (some ⟨g, 6, none⟩)) (by kernel_rfl) (by kernel_rfl) (by kernel_rfl) rfl (by rfl) (fun W hSw => by go_simp) (fun _ _ _ h => h) HS2.out ?_
          simp only [Act.put, List.setIfInBounds_toArray, List.set_cons_zero, List.set_cons_succ]
          refine hd_call 10 (o := ⟨none, _, _, _, _, _⟩) (by kernel_rfl) rfl (by rfl) (fun K' hK => ?_)
          have HS3 : Hid ((fun W => ∀ (j : Nat) (u : Value), ([.string ⟨vn.toArray⟩, .bool va, .int .i64 (vs : Nat), .int .i64 (384 + (r.words : Int))] : List Value)[j]? = some u → W.cell? ((⟨w.heap.size, 0, none⟩ : Addr).add j) = some u) (w4.setCell ⟨g, 6, none⟩ (.slice a4 (r.vars.length + 1) c4))) := hide (fun j u hu => by have hq := HS2.out j u hu; rw [add0] at hq ⊢; rw [World.cell?_of_block (a := ⟨w.heap.size, j, none⟩) (heap_setCell_other w4 ⟨g, 6, none⟩ w.heap.size _ (by show w.heap.size ≠ g; omega))]; exact hq)
          go_simp
          refine hK _ _ HS3.out ?_
          clear hK K'
          try simp only [Act.put]
          refine wpAnyH_done (by kernel_rfl) ?_ _
          go_wp2
          go_end0
          have hkS := Kp.set (j := 6) (Kp.refl g w4) (.slice a4 (r.vars.length + 1) c4)
          have hblk : ∀ k, k < g → (w4.setCell ⟨g, 6, none⟩ (.slice a4 (r.vars.length + 1) c4)).heap[k]? = w0.heap[k]? := fun k hk => by
            rw [heap_setCell_other w4 ⟨g, 6, none⟩ k _ (by show k ≠ g; omega), HGf.out.block k (by simp; omega) (fun e => by have := (HOa.out.lt k e.symm).1; omega)]
            exact HbA.out.block k (by omega)
          have hfin := RdA.decl (r3 := r3) (v := ⟨vn, va, vs, 384 + r.words⟩) (av := a4) (cv := c4) (ps := ps') HR.out HD.out (w' := w4.setCell ⟨g, 6, none⟩ (.slice a4 (r.vars.length + 1) c4)) (fun k hk hn => (hblk k hk).trans (HKe.out.block k hk hn)) HR3.out.1 HR3.out.2 (by
              have hq := HBf.out.set 6 (.slice a4 (r.vars.length + 1) c4)
              refine ⟨hq.out.trans ?_⟩
              simp [rdL, HR3.out.1]) (by
              have hq := own_keepK HOf.out hkS (Nat.lt_succ_self g)
              rw [← HvL.out] at hq
              simpa using hq) (by
              obtain ⟨es1, c1, e1, e2⟩ := HMe.out
              exact ⟨es1, c1, (hblk F.mp hmg).trans e1, e2⟩) HAt.out
          refine ⟨rfl, { F with av := a4, cv := c4, ps := ps' }, rfl, rfl, rfl, by rw [HV2.out]; exact hfin.1, by rw [HV2.out]; exact hfin.2, ⟨HGf.out.os.trans HKe.out.os, HGf.out.tape.trans HKe.out.tape, HGf.out.output.trans HKe.out.output, ?_, fun k hk => (hblk k (by omega)).trans (HKe.out.block k (by omega) (by omega))⟩⟩
          have h1 := HKe.out.size
          have h2 := HGf.out.size
          simp only [World.size_setCell, World.size_alloc] at h2 ⊢
          omega
        · go_simp
          refine hK _ _ HS1.out ?_
          clear hK K'
          try simp only [Act.put, List.setIfInBounds_toArray, List.set_cons_zero, List.set_cons_succ]
          refine hd_call 4 (o := ⟨some 67, _, _, _, _, _⟩) (by kernel_rfl) rfl (by rfl) (fun K' hK => ?_)
          go_simp
          refine hK _ _ HS1.out ?_
          clear hK K'
          try simp only [Act.put, List.setIfInBounds_toArray, List.set_cons_zero, List.set_cons_succ]
          refine hd_call 7 (o := ⟨some 70, _, _, _, _, _⟩) (by kernel_rfl) rfl (by rfl) (fun K' hK => ?_)
          refine wp_append_own _ _ _ 54 rfl (g + 1) 63 i9 (.agg (vrL vr0).toArray) 4 40 Tryz.underlying54 hi hz hsz9 hb9 rfl (by decide) (.slice F.av r.vars.length F.cv) r.vars.length _ rfl HOa.out ⟨_, 0, none⟩ 1 1 [.string ⟨vn.toArray⟩, .bool va, .int .i64 (vs : Nat), .int .i64 (384 + (r.words : Int))] rfl rfl (fun j u hu => cells_new w0 [.string ⟨vn.toArray⟩, .bool va, .int .i64 (vs : Nat), .int .i64 (384 + (r.words : Int))] 63 j u hu) (by rw [← HvL.out]; exact vrL_one _) (by unfold maxLen; omega) (by omega) (by simp; omega) ?_
          intro v4 w4 ho4 hg4 _
          obtain ⟨a4, c4, rfl⟩ := own_shape ho4
          have hgA : g < (w0.alloc (.cells #[.string ⟨vn.toArray⟩, .bool va, .int .i64 (vs : Nat), .int .i64 (384 + (r.words : Int))] 63)).heap.size := by simp; have := HBe.out.lt; omega
          have hBf : Blk w4 g 77 (rdL F ts.length r3) := (HBe.out.below HbA.out HBe.out.lt).keep (hg4.block g hgA (fun e => by have := (HOa.out.lt g e.symm).1; omega))
          have hXl := HXe.out.lt
          have hXf : Blk w4 w.heap.size 63 (vrL ⟨vn, va, vs, 384 + r.words⟩) := (HXe.out.below HbA.out HXe.out.lt).keep (hg4.block w.heap.size (by simp; omega) (fun e => HNe.out e.symm))
          have HOf := hide ho4
          have HGf := hide hg4
          have f6 := hBf.frz 6
          have e6 : w4.cell? ⟨g, 6, none⟩ = some (.slice F.av r.vars.length F.cv) := by
            have := hBf.get (j := 6) rfl
            rw [HR3.out.1] at this
            exact this
          have HBf := hide hBf
          have HS2 : Hid ((fun W => ∀ (j : Nat) (u : Value), ([.string ⟨vn.toArray⟩, .bool va, .int .i64 (vs : Nat), .int .i64 (384 + (r.words : Int))] : List Value)[j]? = some u → W.cell? ((⟨w.heap.size, 0, none⟩ : Addr).add j) = some u) w4) := hide (by have hc := hXf.cells; rw [HvL.out] at hc; exact hc)
          have HXf := hide hXf
          clear ho4 hg4 hBf hXf hXl
          refine hK _ _ HS2.out ?_
          clear hK K'
          try simp only [Act.put, List.setIfInBounds_toArray, List.set_cons_zero, List.set_cons_succ]
          refine hd_take 8 (o := ⟨some 71, _, _, _, _, _⟩) (.pointer (some ⟨g, 0, none⟩)) (by kernel_rfl) (by kernel_rfl) (by kernel_rfl) rfl (by rfl) (fun W hSw => by go_simp) (fun _ _ _ h => h) HS2.out ?_
          simp only [Act.put, List.setIfInBounds_toArray, List.set_cons_zero, List.set_cons_succ]
          refine hd_take 9 (o := ⟨some 72, _, _, _, _, _⟩) (.pointer (some ⟨g, 6, none⟩)) (by kernel_rfl) (by kernel_rfl) (by kernel_rfl) rfl (by rfl) (fun W hSw => by go_simp) (fun _ _ _ h => h) HS2.out ?_
          simp only [Act.put, List.setIfInBounds_toArray, List.set_cons_zero, List.set_cons_succ]
          refine hd_call 10 (o := ⟨none, _, _, _, _, _⟩) (by kernel_rfl) rfl (by rfl) (fun K' hK => ?_)
          have HS3 : Hid ((fun W => ∀ (j : Nat) (u : Value), ([.string ⟨vn.toArray⟩, .bool va, .int .i64 (vs : Nat), .int .i64 (384 + (r.words : Int))] : List Value)[j]? = some u → W.cell? ((⟨w.heap.size, 0, none⟩ : Addr).add j) = some u) (w4.setCell ⟨g, 6, none⟩ (.slice a4 (r.vars.length + 1) c4))) := hide (fun j u hu => by have hq := HS2.out j u hu; rw [add0] at hq ⊢; rw [World.cell?_of_block (a := ⟨w.heap.size, j, none⟩) (heap_setCell_other w4 ⟨g, 6, none⟩ w.heap.size _ (by show w.heap.size ≠ g; omega))]; exact hq)
          go_simp
          refine hK _ _ HS3.out ?_
          clear hK K'
          try simp only [Act.put]
          refine wpAnyH_done (by kernel_rfl) ?_ _
          go_wp2
          go_end0
          have hkS := Kp.set (j := 6) (Kp.refl g w4) (.slice a4 (r.vars.length + 1) c4)
          have hblk : ∀ k, k < g → (w4.setCell ⟨g, 6, none⟩ (.slice a4 (r.vars.length + 1) c4)).heap[k]? = w0.heap[k]? := fun k hk => by
            rw [heap_setCell_other w4 ⟨g, 6, none⟩ k _ (by show k ≠ g; omega), HGf.out.block k (by simp; omega) (fun e => by have := (HOa.out.lt k e.symm).1; omega)]
            exact HbA.out.block k (by omega)
          have hfin := RdA.decl (r3 := r3) (v := ⟨vn, va, vs, 384 + r.words⟩) (av := a4) (cv := c4) (ps := ps') HR.out HD.out (w' := w4.setCell ⟨g, 6, none⟩ (.slice a4 (r.vars.length + 1) c4)) (fun k hk hn => (hblk k hk).trans (HKe.out.block k hk hn)) HR3.out.1 HR3.out.2 (by
              have hq := HBf.out.set 6 (.slice a4 (r.vars.length + 1) c4)
              refine ⟨hq.out.trans ?_⟩
              simp [rdL, HR3.out.1]) (by
              have hq := own_keepK HOf.out hkS (Nat.lt_succ_self g)
              rw [← HvL.out] at hq
              simpa using hq) (by
              obtain ⟨es1, c1, e1, e2⟩ := HMe.out
              exact ⟨es1, c1, (hblk F.mp hmg).trans e1, e2⟩) HAt.out
          refine ⟨rfl, { F with av := a4, cv := c4, ps := ps' }, rfl, rfl, rfl, by rw [HV2.out]; exact hfin.1, by rw [HV2.out]; exact hfin.2, ⟨HGf.out.os.trans HKe.out.os, HGf.out.tape.trans HKe.out.tape, HGf.out.output.trans HKe.out.output, ?_, fun k hk => (hblk k (by omega)).trans (HKe.out.block k (by omega) (by omega))⟩⟩
          have h1 := HKe.out.size
          have h2 := HGf.out.size
          simp only [World.size_setCell, World.size_alloc] at h2 ⊢
          omega
end Go.Proofs.YtiafodeabdhcoaaGreatDoor
