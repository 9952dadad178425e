import Derived.Test.YtnpklhjndominaaQ2
namespace Go.Proofs.Ytnpklhjndominaa
open Go.RowKit

/-- the first j bytes of d laid over o at a -/
def mixt (d : List Nat) (a : Nat) (o : List Nat) (j : Nat) : List Nat := splice o a (d.take j)
theorem mixt_0 (d : List Nat) (a : Nat) (o : List Nat) : mixt d a o 0 = o := by simp [mixt, splice]
theorem mixt_all {d o : List Nat} {a : Nat} : mixt d a o d.length = splice o a d := by unfold mixt; rw [List.take_length]
theorem mixt_len {d o : List Nat} {a j : Nat} (h : a + d.length ≤ 128) (ho : o.length = 128) : (mixt d a o j).length = 128 := by
  unfold mixt; rw [splice_len (by rw [ho, List.length_take]; omega)]; exact ho
theorem mixt_set {d o : List Nat} {a j c : Nat} (h : a + d.length ≤ 128) (ho : o.length = 128) (hc : d[j]? = some c) : (mixt d a o j).set (a + j) c = mixt d a o (j + 1) := splice_set o d a j c (by rw [ho]; exact h) hc
theorem Ow.setBy {w : World} {g cap n i c : Nat} {zs : List Nat} (h : Ow w 0 (.slice (some ⟨g, 0, none⟩) n cap) zs) : Ow (w.setCell ⟨g, i, none⟩ (By c)) 0 (.slice (some ⟨g, 0, none⟩) n cap) (zs.set i c) := by
  obtain ⟨hl, ⟨h0, _⟩ | ⟨g', cap', cur, hv', hb', hg', hn', hm', hs', ht'⟩⟩ := h
  · cases h0
  · cases hv'
    refine ⟨by simp, .inr ⟨g, cap, cur.setIfInBounds i (By c), by simp, hb', heap_setCell_same _ _ _ _ _ _ hg', by simpa using hn', hm', by simpa using hs', ?_⟩⟩
    rw [List.length_set, Array.toList_setIfInBounds, List.take_set, ht', List.map_set]
theorem Ow.fz {w : World} {g cap n : Nat} {zs : List Nat} (h : Ow w 0 (.slice (some ⟨g, 0, none⟩) n cap) zs) (i : Nat) : w.frozen? ⟨g, i, none⟩ = false := by
  obtain ⟨hl, ⟨h0, _⟩ | ⟨g', cap', cur, hv', hb', hg', _⟩⟩ := h
  · cases h0
  · cases hv'; exact frozen_of_row _ _ _ _ _ hg'
theorem RecsAt.at {w : World} {v : Value} {rl : List Rc} {ds : List Value} {G : Nat → Prop} (h : RecsAt w v rl ds G) {i : Nat} {x : Rc} (hx : rl[i]? = some x) :
    ∃ gl cl ax cd, v = .slice (some ⟨gl, 0, none⟩) rl.length cl ∧ w.cell? ⟨gl, i * 3, none⟩ = some (.int .i64 (x.1 : Int)) ∧ w.cell? ⟨gl, i * 3 + 1, none⟩ = some (.int .i64 (x.2.1 : Int)) ∧ w.cell? ⟨gl, i * 3 + 2, none⟩ = some (.slice ax x.2.2.length cd) ∧ (∀ j c, x.2.2[j]? = some c → ∃ xa, ax = some xa ∧ G xa.block ∧ w.cell? (xa.add j) = some (By c)) := by
  obtain ⟨_, hs, d, hd, hr, hG⟩ := h.dat i x hx
  have hil := (List.getElem?_eq_some_iff.1 hx).1
  obtain ⟨gl, cl, hv⟩ : ∃ gl cl, v = .slice (some ⟨gl, 0, none⟩) rl.length cl := by
    obtain ⟨_, ⟨_, h0⟩ | ⟨g, cp, cur, hv, _⟩⟩ := h.row
    · omega
    · exact ⟨g, cp, hv⟩
  have hrow := h.row
  rw [hv] at hrow
  have e0 := World.ownsRow.cells hrow rfl _ _ (encRs_at rl ds i 0 x d _ hx hd rfl)
  have e1 := World.ownsRow.cells hrow rfl _ _ (encRs_at rl ds i 1 x d _ hx hd rfl)
  have e2 := World.ownsRow.cells hrow rfl _ _ (encRs_at rl ds i 2 x d _ hx hd rfl)
  rw [add0] at e0 e1 e2
  rcases hr with ⟨rfl, hz⟩ | ⟨xa, cd, rfl, hc⟩
  · exact ⟨gl, cl, none, 0, hv, e0, e1, by rw [hz]; exact e2, fun j c hj => by rw [hz] at hj; simp at hj⟩
  · exact ⟨gl, cl, some xa, cd, hv, e0, e1, e2, fun j c hj => ⟨xa, rfl, hG xa.block rfl, hc j (By c) (by simp [hj])⟩⟩
set_option maxRecDepth 100000 in
set_option maxHeartbeats 6400000 in
theorem played_any (w : World) (g cap P : Nat) (zs : List Nat) (v : Value) (rl : List Rc) (ds : List Value) (G : Nat → Prop) (ho : Ow w 0 (.slice (some ⟨g, 0, none⟩) 128 cap) zs) (hz : zs.length = 128) (hl : RecsAt w v rl ds G) (hL : rl.length ≤ 4000000) (hg : v.ownBlock ≠ some g) (hG : ¬ G g) (hGl : ∀ b, G b → b < w.heap.size) :
    Calls Try.prog 49 #[.slice (some ⟨g, 0, none⟩) 128 cap, v, .int .i64 (P : Int)] w fun e w' => e = .returned (.tuple #[]) ∧ Ow w' 0 (.slice (some ⟨g, 0, none⟩) 128 cap) (playR (fun _ => zs) rl P) ∧ At w g w' := by
  have HO := hide ho
  have HR := hide hl
  have HG := hide hG
  have Hg := hide hg
  have HKp : Hid (∀ wr, At w g wr → RecsAt wr v rl ds G) := hide (fun wr ha => hl.keep (fun b hb => ha.block b (hb.elim (fun e => ownsRow_lt hl.row e) (fun e => hGl b e)) (fun e => by subst e; exact hb.elim hg hG)))
  clear hGl
  obtain ⟨a, cl, hv⟩ := own_shape hl.row
  subst hv
  have HLen : Hid (∀ k, (playR (fun _ => zs) (rl.take k) P).length = 128) := hide (fun k => by
    have : ∀ (c : List Rc) (M : Nat → List Nat), (∀ s, (M s).length = 128) → (∀ x ∈ c, Rcs x) → ∀ s, (playR M c s).length = 128 := by
      intro c
      induction c with
      | nil => intro M h _ s; exact h s
      | cons y r ih =>
        intro M h hc s
        refine ih (upd M y.1 (splice (M y.1) y.2.1 y.2.2)) (fun s => ?_) (fun x hx => hc x (List.mem_cons_of_mem _ hx)) s
        unfold upd; split
        · rw [splice_len (by rw [h]; exact (hc y (List.mem_cons_self ..)).1)]; exact h _
        · exact h s
    refine this _ _ (fun _ => hz) (fun x hx => ?_) P
    obtain ⟨i, hi⟩ := List.getElem?_of_mem (List.mem_of_mem_take hx)
    exact (hl.dat i x hi).2.1)
  obtain ⟨L, hLn⟩ : ∃ L, rl.length = L := ⟨_, rfl⟩
  rw [hLn] at hL
  simp only [hLn]
  have HLn := hide hLn
  clear ho hl hG hg hLn
  go_enter Try.func49, Try.ntmps49
  go_wp2
  go_loopw [6] (fun x wr => ∃ k : Nat, k ≤ L ∧ x = .int .i64 (k : Int) ∧ Hid (Ow wr 0 (.slice (some ⟨g, 0, none⟩) 128 cap) (playR (fun _ => zs) (rl.take k) P)) ∧ Hid (At w g wr)) (fun x _ => L - (intOf x).toNat)
  case atStart => exact ⟨0, by omega, rfl, HO, At.refl _ _⟩
  case round =>
  obtain ⟨i, hi, rfl, KO, KA⟩ := hrel
  by_cases hlt : i < L
  · have hd : decide ((i : Int) < (L : Int)) = true := by simp; omega
    have hil : (i : Int) < (L : Int) := by omega
    obtain ⟨x, hx⟩ : ∃ x, rl[i]? = some x := ⟨_, List.getElem?_eq_getElem (by rw [HLn.out]; exact hlt)⟩
    have hTk : rl.take (i + 1) = rl.take i ++ [x] := by
      obtain ⟨h1, h2⟩ := List.getElem?_eq_some_iff.1 hx
      rw [List.take_succ_eq_append_getElem h1, h2]
    have hPl : playR (fun _ => zs) (rl.take (i + 1)) P = if P = x.1 then splice (playR (fun _ => zs) (rl.take i) x.1) x.2.1 x.2.2 else playR (fun _ => zs) (rl.take i) P := by rw [hTk, playR_snoc]; rfl
    obtain ⟨gl, cl', ax0, cd0, hv, e0, _, e20, _⟩ := (HKp.out wr KA.out).at hx
    rw [HLn.out] at hv
    cases hv
    have hgl : gl ≠ g := fun e => Hg.out (by rw [e]; rfl)
    by_cases hP : P = x.1
    · rw [if_pos hP] at hPl
      have hbP : ((x.1 : Int) == (P : Int)) = true := by simp [hP]
      have hsec := (HR.out.dat i x hx).2.1
      have HX := hide hx
      have hold := HLen.out i
      obtain ⟨old, hold'⟩ : ∃ old, playR (fun _ => zs) (rl.take i) P = old := ⟨_, rfl⟩
      rw [hold'] at hold KO
      rw [← hP, hold'] at hPl
      obtain ⟨s1, pa, dd⟩ := x
      obtain ⟨m, hm⟩ : ∃ m, dd.length = m := ⟨_, rfl⟩
      have hsum : pa + m ≤ 128 := by rw [← hm]; exact hsec.1
      simp only [hm] at e20
      have Hm := hide hm
      have HPl := hide hPl
      have HNew : Hid (Ow wr 0 (.slice (some ⟨g, 0, none⟩) 128 cap) (mixt dd pa old 0)) := hide (by rw [mixt_0]; exact KO.out)
      subst hP
      clear hTk hPl hold' KO hx hm
      have c0 := e0
      go_upto_region 5 with fail
      go_loopw [7] (fun y wx => ∃ j : Nat, j ≤ m ∧ y = .int .i64 (j : Int) ∧ Hid (Ow wx 0 (.slice (some ⟨g, 0, none⟩) 128 cap) (mixt dd pa old j)) ∧ Hid (At w g wx)) (fun y _ => m - (intOf y).toNat)
      case atStart => exact ⟨0, by omega, rfl, HNew, KA⟩
      case round =>
      clear HNew c0 e0 e20 KA
      obtain ⟨j, hj, rfl, JO, JA⟩ := hrel
      obtain ⟨gl', cl'', ax, cd, hv, _, e1, e2, hdat⟩ := (HKp.out _ JA.out).at HX.out
      simp only [Hm.out] at e1 e2 hdat
      rw [HLn.out] at hv
      cases hv
      by_cases hj2 : j < m
      · have hd2 : decide ((j : Int) < (m : Int)) = true := by simp; omega
        have hj3 : (j : Int) < (m : Int) := by omega
        have hj4 : ((pa + j : Nat) : Int) < 128 := by omega
        obtain ⟨c, hc⟩ : ∃ c, dd[j]? = some c := ⟨_, List.getElem?_eq_getElem (by rw [Hm.out]; exact hj2)⟩
        obtain ⟨xa, rfl, hGx, e3⟩ := hdat j c hc
        have o1 := JO.out.cell (j := pa + j) (by rw [mixt_len hsec.1 hold]; omega)
        have f1 := JO.out.fz (pa + j)
        have HFin : Hid (∀ w2 : World, w2.heap = wr.heap → w2.os = wr.os → w2.tape = wr.tape → w2.output = wr.output → Ow (w2.setCell ⟨g, pa + j, none⟩ (By c)) 0 (.slice (some ⟨g, 0, none⟩) 128 cap) (mixt dd pa old (j + 1)) ∧ At w g (w2.setCell ⟨g, pa + j, none⟩ (By c))) := by
          refine hide (fun w2 q1 q2 q3 q4 => ⟨?_, ?_⟩)
          · rw [← mixt_set hsec.1 hold hc]
            refine Ow.setBy (ownsRow_keep JO.out (fun b _ => by rw [q1]))
          · refine At.set ⟨q2.trans JA.out.os, q3.trans JA.out.tape, q4.trans JA.out.output, by rw [q1]; exact JA.out.size, fun b hb hne => by rw [q1]; exact JA.out.block b hb hne⟩ _ _
        have hxg : (xa.add j).block ≠ g := fun e => HG.out (by rw [show (xa.add j).block = xa.block by unfold Addr.add; split <;> rfl] at e; rw [← e]; exact hGx)
        clear hdat JO JA hc
        go_upto_region 7 with fail
        obtain ⟨w2, hw2⟩ : ∃ w2, w2 = wr.drew := ⟨_, rfl⟩
        have HS2 : Hid (w2.cell? ⟨gl, i * 3 + 1, none⟩ = some (.int .i64 (pa : Int)) ∧ w2.cell? ⟨gl, i * 3 + 2, none⟩ = some (.slice (some xa) m cd) ∧ w2.cell? (xa.add j) = some (.int .u8 (c : Int))) := by rw [hw2]; exact hide ⟨e1, e2, e3⟩
        have HS3 : Hid ((w2.setCell ⟨g, pa + j, none⟩ (By c)).cell? ⟨gl, i * 3 + 1, none⟩ = some (.int .i64 (pa : Int)) ∧ (w2.setCell ⟨g, pa + j, none⟩ (By c)).cell? ⟨gl, i * 3 + 2, none⟩ = some (.slice (some xa) m cd) ∧ (w2.setCell ⟨g, pa + j, none⟩ (By c)).cell? (xa.add j) = some (.int .u8 (c : Int))) := by
          refine hide ⟨?_, ?_, ?_⟩
          · rw [World.cell?_of_block (heap_setCell_other _ _ _ _ hgl)]; exact HS2.out.1
          · rw [World.cell?_of_block (heap_setCell_other _ _ _ _ hgl)]; exact HS2.out.2.1
          · rw [World.cell?_of_block (heap_setCell_other _ _ _ _ hxg)]; exact HS2.out.2.2
        have o2 : w2.cell? ⟨g, pa + j, none⟩ = some (.int .u8 ((mixt dd pa old j).getD (pa + j) 0 : Nat)) := by rw [hw2]; exact o1
        have f2 : w2.frozen? ⟨g, pa + j, none⟩ = false := by rw [hw2]; exact f1
        have HEq : Hid (w2.heap = wr.heap ∧ w2.os = wr.os ∧ w2.tape = wr.tape ∧ w2.output = wr.output) := by rw [hw2]; exact hide ⟨rfl, rfl, rfl, rfl⟩
        refine wp_region_held_drew (S := fun W => W.cell? ⟨gl, i * 3 + 1, none⟩ = some (.int .i64 (pa : Int)) ∧ W.cell? ⟨gl, i * 3 + 2, none⟩ = some (.slice (some xa) m cd) ∧ W.cell? (xa.add j) = some (.int .u8 (c : Int))) (by kernel_rfl) (by rw [← hw2]; exact HS2.out) (fun _ => ?_)
        rw [← hw2]
        clear hw2 e1 e2 e3 o1 f1
        generalize (mixt dd pa old j).getD (pa + j) 0 = ov at *
        refine hd_take 0 (o := ⟨some 31, _, _, _, _, _⟩) (.slice (some ⟨g, 0, none⟩) 128 cap) (by kernel_rfl) (by kernel_rfl) (by kernel_rfl) rfl (by rfl) (fun W hSw => by go_simp) (fun _ _ _ h => h) HS2.out ?_
        simp only [Act.put, List.setIfInBounds_toArray, List.set_cons_zero, List.set_cons_succ]
        refine hd_take 1 (o := ⟨some 32, _, _, _, _, _⟩) (.slice (some ⟨gl, 0, none⟩) L cl) (by kernel_rfl) (by kernel_rfl) (by kernel_rfl) rfl (by rfl) (fun W hSw => by go_simp) (fun _ _ _ h => h) HS2.out ?_
        simp only [Act.put, List.setIfInBounds_toArray, List.set_cons_zero, List.set_cons_succ]
        refine hd_take 2 (o := ⟨some 33, _, _, _, _, _⟩) (.int .i64 (i : Int)) (by kernel_rfl) (by kernel_rfl) (by kernel_rfl) rfl (by rfl) (fun W hSw => by go_simp) (fun _ _ _ h => h) HS2.out ?_
        simp only [Act.put, List.setIfInBounds_toArray, List.set_cons_zero, List.set_cons_succ]
        refine hd_take 3 (o := ⟨some 34, _, _, _, _, _⟩) (.pointer (some ⟨gl, i * 3, none⟩)) (by kernel_rfl) (by kernel_rfl) (by kernel_rfl) rfl (by rfl) (fun W hSw => by go_simp <;> omega) (fun _ _ _ h => h) HS2.out ?_
        simp only [Act.put, List.setIfInBounds_toArray, List.set_cons_zero, List.set_cons_succ]
        refine hd_take 4 (o := ⟨some 35, _, _, _, _, _⟩) (.pointer (some ⟨gl, i * 3 + 1, none⟩)) (by kernel_rfl) (by kernel_rfl) (by kernel_rfl) rfl (by rfl) (fun W hSw => by go_simp) (fun _ _ _ h => h) HS2.out ?_
        simp only [Act.put, List.setIfInBounds_toArray, List.set_cons_zero, List.set_cons_succ]
        refine hd_take 5 (o := ⟨some 36, _, _, _, _, _⟩) (.int .i64 (pa : Int)) (by kernel_rfl) (by kernel_rfl) (by kernel_rfl) rfl (by rfl) (fun W hSw => by obtain ⟨q0, q1, q2⟩ := hSw; go_simp) (fun _ _ _ h => h) HS2.out ?_
        simp only [Act.put, List.setIfInBounds_toArray, List.set_cons_zero, List.set_cons_succ]
        refine hd_take 6 (o := ⟨some 37, _, _, _, _, _⟩) (.int .i64 (j : Int)) (by kernel_rfl) (by kernel_rfl) (by kernel_rfl) rfl (by rfl) (fun W hSw => by go_simp) (fun _ _ _ h => h) HS2.out ?_
        simp only [Act.put, List.setIfInBounds_toArray, List.set_cons_zero, List.set_cons_succ]
        refine hd_take 7 (o := ⟨some 38, _, _, _, _, _⟩) (.int .i64 ((pa + j : Nat) : Int)) (by kernel_rfl) (by kernel_rfl) (by kernel_rfl) rfl (by rfl) (fun W hSw => by go_simp <;> (simp [IntKind.wrap, IntKind.signed, IntKind.bits]; omega)) (fun _ _ _ h => h) HS2.out ?_
        simp only [Act.put, List.setIfInBounds_toArray, List.set_cons_zero, List.set_cons_succ]
        refine hd_take 8 (o := ⟨some 39, _, _, _, _, _⟩) (.slice (some ⟨gl, 0, none⟩) L cl) (by kernel_rfl) (by kernel_rfl) (by kernel_rfl) rfl (by rfl) (fun W hSw => by go_simp) (fun _ _ _ h => h) HS2.out ?_
        simp only [Act.put, List.setIfInBounds_toArray, List.set_cons_zero, List.set_cons_succ]
        refine hd_take 9 (o := ⟨some 40, _, _, _, _, _⟩) (.int .i64 (i : Int)) (by kernel_rfl) (by kernel_rfl) (by kernel_rfl) rfl (by rfl) (fun W hSw => by go_simp) (fun _ _ _ h => h) HS2.out ?_
        simp only [Act.put, List.setIfInBounds_toArray, List.set_cons_zero, List.set_cons_succ]
        refine hd_take 10 (o := ⟨some 41, _, _, _, _, _⟩) (.pointer (some ⟨gl, i * 3, none⟩)) (by kernel_rfl) (by kernel_rfl) (by kernel_rfl) rfl (by rfl) (fun W hSw => by go_simp <;> omega) (fun _ _ _ h => h) HS2.out ?_
        simp only [Act.put, List.setIfInBounds_toArray, List.set_cons_zero, List.set_cons_succ]
        refine hd_take 11 (o := ⟨some 42, _, _, _, _, _⟩) (.pointer (some ⟨gl, i * 3 + 2, none⟩)) (by kernel_rfl) (by kernel_rfl) (by kernel_rfl) rfl (by rfl) (fun W hSw => by go_simp) (fun _ _ _ h => h) HS2.out ?_
        simp only [Act.put, List.setIfInBounds_toArray, List.set_cons_zero, List.set_cons_succ]
        refine hd_take 12 (o := ⟨some 43, _, _, _, _, _⟩) (.slice (some xa) m cd) (by kernel_rfl) (by kernel_rfl) (by kernel_rfl) rfl (by rfl) (fun W hSw => by obtain ⟨q0, q1, q2⟩ := hSw; go_simp) (fun _ _ _ h => h) HS2.out ?_
        simp only [Act.put, List.setIfInBounds_toArray, List.set_cons_zero, List.set_cons_succ]
        refine hd_take 13 (o := ⟨some 44, _, _, _, _, _⟩) (.int .i64 (j : Int)) (by kernel_rfl) (by kernel_rfl) (by kernel_rfl) rfl (by rfl) (fun W hSw => by go_simp) (fun _ _ _ h => h) HS2.out ?_
        simp only [Act.put, List.setIfInBounds_toArray, List.set_cons_zero, List.set_cons_succ]
        refine hd_take 14 (o := ⟨some 45, _, _, _, _, _⟩) (.pointer (some (xa.add j))) (by kernel_rfl) (by kernel_rfl) (by kernel_rfl) rfl (by rfl) (fun W hSw => by go_simp <;> omega) (fun _ _ _ h => h) HS2.out ?_
        simp only [Act.put, List.setIfInBounds_toArray, List.set_cons_zero, List.set_cons_succ]
        refine hd_take 15 (o := ⟨some 46, _, _, _, _, _⟩) (.int .u8 (c : Int)) (by kernel_rfl) (by kernel_rfl) (by kernel_rfl) rfl (by rfl) (fun W hSw => by obtain ⟨q0, q1, q2⟩ := hSw; go_simp) (fun _ _ _ h => h) HS2.out ?_
        simp only [Act.put, List.setIfInBounds_toArray, List.set_cons_zero, List.set_cons_succ]
        refine hd_call 16 (o := ⟨some 47, _, _, _, _, _⟩) (by kernel_rfl) rfl (by rfl) (fun K' hK => ?_)
        go_simp
        go_wp2_with fail
        refine hK _ _ HS2.out ?_
        clear hK K'
        try simp only [Act.put, List.setIfInBounds_toArray, List.set_cons_zero, List.set_cons_succ]
        refine hd_call 17 (o := ⟨none, _, _, _, _, _⟩) (by kernel_rfl) rfl (by rfl) (fun K' hK => ?_)
        go_simp
        refine hK _ _ HS3.out ?_
        clear hK K'
        try simp only [Act.put, List.setIfInBounds_toArray, List.set_cons_zero, List.set_cons_succ]
        refine wpAnyH_done (by kernel_rfl) ?_ _
        obtain ⟨hf1, hf2⟩ := HFin.out w2 HEq.out.1 HEq.out.2.1 HEq.out.2.2.1 HEq.out.2.2.2
        have H1 := hide hf1
        have H2 := hide hf2
        clear hf1 hf2 HFin HS2 HS3 o2 f2
        rw [show Value.int IntKind.u8 (c : Int) = By c from rfl]
        generalize w2.setCell ⟨g, pa + j, none⟩ (By c) = w3 at *
        go_wp2
        go_roundw
        case rel =>
          first
            | exact ⟨j + 1, by omega, by go_num, H1, H2⟩
            | ((repeat apply Exists.intro); refine ⟨?_, rfl⟩; exact ⟨j + 1, by omega, by go_num, H1, H2⟩)
        case measure => simp [intOf]; omega
      · obtain rfl : j = m := by omega
        have hd2 : decide ((j : Int) < (j : Int)) = false := by simp
        have HOk : Hid (Ow wr 0 (.slice (some ⟨g, 0, none⟩) 128 cap) (playR (fun _ => zs) (rl.take (i + 1)) P)) := hide (by rw [HPl.out]; have := JO.out; rwa [← Hm.out, mixt_all] at this)
        go_wp2
        go_roundw
        case rel =>
          first
            | exact ⟨i + 1, by omega, by go_num, HOk, JA⟩
            | ((repeat apply Exists.intro); refine ⟨?_, rfl⟩; exact ⟨i + 1, by omega, by go_num, HOk, JA⟩)
        case measure => simp [intOf]; omega
    · rw [if_neg hP] at hPl
      have hbP : ((x.1 : Int) == (P : Int)) = false := by rw [beq_eq_false_iff_ne]; omega
      have hbP2 : (x.1 == P) = false := by rw [beq_eq_false_iff_ne]; exact fun e => hP e.symm
      have HOk : Hid (Ow wr 0 (.slice (some ⟨g, 0, none⟩) 128 cap) (playR (fun _ => zs) (rl.take (i + 1)) P)) := hide (by rw [hPl]; exact KO.out)
      clear hTk hPl hx
      go_wp2
      go_roundw
      case rel =>
        first
          | exact ⟨i + 1, by omega, by go_num, HOk, KA⟩
          | ((repeat apply Exists.intro); refine ⟨?_, rfl⟩; exact ⟨i + 1, by omega, by go_num, HOk, KA⟩)
      case measure => simp [intOf]; omega
  · obtain rfl : i = L := by omega
    have hd : decide ((i : Int) < (i : Int)) = false := by simp
    have HF : Hid (Ow wr 0 (.slice (some ⟨g, 0, none⟩) 128 cap) (playR (fun _ => zs) rl P)) := hide (by have := KO.out; rwa [List.take_of_length_le (by rw [HLn.out]; exact Nat.le_refl _)] at this)
    go_wp2
    go_end0
    exact ⟨rfl, HF.out, KA.out⟩
end Go.Proofs.Ytnpklhjndominaa
