import Derived.Test.YtnpklhjndominaaQA
namespace Go.Proofs.Ytnpklhjndominaa
open Go.RowKit

theorem MRow.set {M : Nat → List Nat} {cur : List Value} (h : MRow M 1024 cur) {s p : Nat} (c : Nat) (hs : s < 1024) (hp : p < 128) (hl : ∀ t, (M t).length = 128) : MRow (upd M s ((M s).set p c)) 1024 (cur.set (s * 128 + p) (By c)) := by
  refine ⟨by rw [List.length_set]; exact h.len, fun t ht j v hv => ?_⟩
  have hcl := h.len
  unfold upd at hv
  split at hv
  · rename_i e
    subst e
    rw [List.map_set, List.getElem?_set] at hv
    split at hv
    · rename_i e2
      subst e2
      split at hv
      · rw [List.getElem?_set, if_pos rfl, if_pos (by omega)]; exact hv
      · cases hv
    · rename_i e2
      rw [List.getElem?_set, if_neg (by omega)]
      exact h.at' t ht j v hv
  · rename_i e
    have hj : j < 128 := by
      have := (List.getElem?_eq_some_iff.1 hv).1
      rw [List.length_map, hl t] at this; exact this
    rw [List.getElem?_set, if_neg (by omega)]
    exact h.at' t ht j v hv
theorem MRow.zero : MRow zro 1024 (List.replicate 131072 (By 0)) := by
  refine ⟨List.length_replicate, fun s hs j v hv => ?_⟩
  have hj := (List.getElem?_eq_some_iff.1 hv).1
  rw [List.length_map] at hj
  have hj2 : j < 128 := by simpa [zro] using hj
  rw [List.getElem?_replicate, if_pos (by omega)]
  unfold zro at hv
  rw [List.map_replicate, List.getElem?_replicate, if_pos hj2] at hv
  exact hv
theorem MRow.congr {M M' : Nat → List Nat} {k : Nat} {cur : List Value} (h : MRow M k cur) (hm : ∀ s, s < k → M' s = M s) : MRow M' k cur := ⟨h.len, fun s hs j v hv => h.at' s hs j v (by rw [← hm s hs]; exact hv)⟩
theorem upd_upd (M : Nat → List Nat) (s : Nat) (X Y : List Nat) : upd (upd M s X) s Y = upd M s Y := by
  funext k; unfold upd; split <;> rfl
/-- the medium, midst in a record -/
def midM (M : Nat → List Nat) (s pa : Nat) (dd : List Nat) (j : Nat) : Nat → List Nat := upd M s (splice (M s) pa (dd.take j))
theorem midM_0 (M : Nat → List Nat) (s pa : Nat) (dd : List Nat) : midM M s pa dd 0 = M := by
  unfold midM; rw [List.take_zero, splice_nil, upd_self]
theorem midM_len {M : Nat → List Nat} {s pa j : Nat} {dd : List Nat} (hl : ∀ t, (M t).length = 128) (h : pa + dd.length ≤ 128) (t : Nat) : (midM M s pa dd j t).length = 128 := by
  unfold midM upd; split
  · rw [splice_len (by rw [hl, List.length_take]; omega)]; exact hl _
  · exact hl t
theorem midM_next {M : Nat → List Nat} {s pa j c : Nat} {dd : List Nat} (hl : ∀ t, (M t).length = 128) (h : pa + dd.length ≤ 128) (hc : dd[j]? = some c) : upd (midM M s pa dd j) s ((midM M s pa dd j s).set (pa + j) c) = midM M s pa dd (j + 1) := by
  have e : midM M s pa dd j s = splice (M s) pa (dd.take j) := by unfold midM upd; rw [if_pos rfl]
  rw [e, splice_set _ _ _ _ _ (by rw [hl]; exact h) hc]
  unfold midM; rw [upd_upd]
def OutAt (w : World) (G : Nat) (M : Nat → List Nat) : Prop := ∃ cur : List Value, w.heap[G]? = some (.cells cur.toArray 5 (0, 0)) ∧ MRow M 1024 cur
theorem OutAt.keep {w w' : World} {G : Nat} {M : Nat → List Nat} (h : OutAt w G M) (hk : w'.heap[G]? = w.heap[G]?) : OutAt w' G M := by
  obtain ⟨cur, h1, h2⟩ := h; exact ⟨cur, by rw [hk]; exact h1, h2⟩
theorem OutAt.cell {w : World} {G p : Nat} {M : Nat → List Nat} (h : OutAt w G M) (hp : p < 131072) : (∃ v, w.cell? ⟨G, p, none⟩ = some v) ∧ w.frozen? ⟨G, p, none⟩ = false := by
  obtain ⟨cur, h1, h2⟩ := h
  refine ⟨?_, frozen_of_row _ _ _ _ _ h1⟩
  rw [cell_of_row _ _ _ _ _ _ h1]
  have := h2.len
  exact ⟨cur[p], by simp⟩
theorem OutAt.set {w : World} {G s p c : Nat} {M : Nat → List Nat} (h : OutAt w G M) (hs : s < 1024) (hp : p < 128) (hl : ∀ t, (M t).length = 128) : OutAt (w.setCell ⟨G, s * 128 + p, none⟩ (By c)) G (upd M s ((M s).set p c)) := by
  obtain ⟨cur, h1, h2⟩ := h
  refine ⟨cur.set (s * 128 + p) (By c), ?_, h2.set c hs hp hl⟩
  rw [heap_setCell_same _ _ _ _ _ _ h1]; simp
theorem made_med (w : World) : ∃ Z : Array Value, (Instr.makeSlice 27 (.int .i64 131072) (.int .i64 131072)).run Try.prog w = .ok (.slice (some ⟨w.heap.size, 0, none⟩) 131072 131072) (w.alloc (.cells Z 5)) ∧ OutAt (w.alloc (.cells Z 5)) w.heap.size zro := by
  obtain ⟨i5, hi, hz, hs, hb⟩ := info5'
  have hmk := run_make (P := Try.prog) w 27 5 i5 (.int .u8 0) Try.underlying27 hi hz .i64 .i64 131072 131072 (by omega) (Int.le_refl _) (by rw [hb]; omega) (by omega)
  rw [hs] at hmk
  refine ⟨_, hmk, List.replicate 131072 (By 0), ?_, MRow.zero⟩
  have hZ : madeCells (Value.int .u8 0).cells ((131072 : Int).toNat * 1) = (List.replicate 131072 (By 0)).toArray := by
    rw [← Array.toArray_toList (xs := madeCells _ _)]
    rw [show (Value.int IntKind.u8 0).cells = #[Value.int .u8 0] from rfl, toList_madeCells_one]; rfl
  rw [← hZ]; exact heap_alloc_new w _
section
variable {w : World} {R N : Nat} {D : Dsk} {F : Nat → Prop}
set_option maxRecDepth 100000 in
set_option maxHeartbeats 6400000 in
theorem mediumR_any (h : RkA R D N w F) (hN : N ≤ 4000000) : Calls Try.prog 9 #[tp R] w fun e w' => ∃ r cur, e = .returned r ∧ w'.ownsRow w.heap.size 5 1 r 131072 cur ∧ MRow D.M 1024 cur ∧ Below w.heap.size w w' := by
  obtain ⟨lv, wv, rl, ds, es, G, h, hnn, he⟩ := h
  obtain ⟨Z, hmk, hOut⟩ := made_med w
  have HK : Hid (∀ wr, Below w.heap.size w wr → RkAt wr R lv wv rl ds es G D) := hide (fun wr hbb => h.keep hbb.size (fun b hb' => hbb.block b ((good_rk R D N).lt (H := F) ⟨lv, wv, rl, ds, es, G, h, hnn, he⟩ b ((he b).2 hb'))))
  have HG : Hid (∀ b, G b → b < w.heap.size) := hide (fun b hb => (h.nG b hb).2.2)
  have HM := hide h.med
  have HLen : Hid (∀ k t, (playR zro (rl.take k) t).length = 128) := hide (fun k t => (playR_sec (M := zro) (rl := rl.take k) zro_sec (fun x hx => by
    obtain ⟨i, hi⟩ := List.getElem?_of_mem (List.mem_of_mem_take hx)
    exact (h.lan.dat i x hi).2.1) t).1)
  have HRc : Hid (∀ (i : Nat) (x : Rc), rl[i]? = some x → x.1 < 1024 ∧ Rcs x) := hide (fun i x hx => ⟨(h.lan.dat i x hx).1, (h.lan.dat i x hx).2.1⟩)
  obtain ⟨aw, cw, hlv⟩ := own_shape h.lan.row
  obtain ⟨L, hL⟩ : ∃ L, rl.length = L := ⟨_, rfl⟩
  rw [hL] at hlv hnn
  have hLb : L ≤ 4000000 := by omega
  have HL := hide hL
  subst hlv
  obtain ⟨g, hg⟩ : ∃ g, g = w.heap.size := ⟨_, rfl⟩
  have HO0 : Hid (OutAt (w.alloc (.cells Z 5)) g (playR zro (rl.take 0)) ∧ Below g w (w.alloc (.cells Z 5))) := hide ⟨by rw [hg]; exact hOut, by rw [hg]; exact (Below.refl _ _).alloc (Nat.le_refl _) _⟩
  rw [← hg] at hmk HK HG ⊢
  have Hg := hide hg
  clear h hnn he hL hOut hg
  go_enter Try.func9, Try.ntmps9
  go_wp2
  go_loopw [4] (fun x wr => ∃ k : Nat, k ≤ L ∧ x = .int .i64 (k : Int) ∧ Hid (OutAt wr g (playR zro (rl.take k)) ∧ Below g w wr)) (fun x _ => L - (intOf x).toNat)
  case atStart => exact ⟨0, by omega, rfl, HO0⟩
  case round =>
  clear HO0 hmk
  obtain ⟨i, hi, rfl, KO⟩ := hrel
  have hR := HK.out wr KO.out.2
  have c0 := hR.cells.1
  by_cases hlt : i < L
  · have hd : decide ((i : Int) < (L : Int)) = true := by simp; omega
    have hil : (i : Int) < (L : Int) := by omega
    obtain ⟨⟨s, pa, dd⟩, hx⟩ : ∃ x, rl[i]? = some x := ⟨_, List.getElem?_eq_getElem (by rw [HL.out]; exact hlt)⟩
    obtain ⟨hs, hrc⟩ := HRc.out i _ hx
    have hPl : playR zro (rl.take (i + 1)) = midM (playR zro (rl.take i)) s pa dd dd.length := by
      obtain ⟨h1, h2⟩ := List.getElem?_eq_some_iff.1 hx
      rw [List.take_succ_eq_append_getElem h1, h2, playR_snoc]
      unfold midM; rw [List.take_length]
    obtain ⟨gl, cl', ax, cd, hv, e0, e1, e2, hdat⟩ := hR.lan.at hx
    rw [HL.out] at hv
    cases hv
    have hlen0 := HLen.out i
    obtain ⟨M0, hM0⟩ : ∃ M0, playR zro (rl.take i) = M0 := ⟨_, rfl⟩
    rw [hM0] at hPl hlen0
    have KO' := KO.out
    rw [hM0] at KO'
    obtain ⟨m, hm⟩ : ∃ m, dd.length = m := ⟨_, rfl⟩
    have hsum : pa + m ≤ 128 := by rw [← hm]; exact hrc.1
    have hs' : s < 1024 := hs
    simp only [hm] at e2 hPl
    have Hm := hide hm
    have HPl := hide hPl
    have HLn0 := hide hlen0
    have HRcs := hide hrc
    obtain ⟨B5, hB5⟩ : ∃ B5, B5 = wr.heap.size := ⟨_, rfl⟩
    have hgB : g < B5 := by
      have := (Array.getElem?_eq_some_iff.1 (KO'.1.choose_spec.1)).1
      omega
    have HNew : Hid (OutAt (wr.alloc (.cells #[.int .i64 (s : Int), .int .i64 (pa : Int), .slice ax m cd] 51)) g (midM M0 s pa dd 0) ∧ Below g w (wr.alloc (.cells #[.int .i64 (s : Int), .int .i64 (pa : Int), .slice ax m cd] 51)) ∧ (wr.alloc (.cells #[.int .i64 (s : Int), .int .i64 (pa : Int), .slice ax m cd] 51)).heap[B5]? = some (.cells #[.int .i64 (s : Int), .int .i64 (pa : Int), .slice ax m cd] 51 (0, 0))) := by
      refine hide ⟨?_, KO'.2.alloc (by rw [Hg.out]; exact KO'.2.size) _, by rw [hB5]; exact heap_alloc_last _ _⟩
      rw [midM_0]
      exact KO'.1.keep (Below.heap_alloc _ _ _ (by omega))
    have HDat : Hid (∀ j c, dd[j]? = some c → ∃ xa, ax = some xa ∧ G xa.block ∧ ∀ wx, Below g w wx → wx.cell? (xa.add j) = some (By c)) := by
      refine hide (fun j c hj => ?_)
      obtain ⟨xa, q1, q2, q3⟩ := hdat j c hj
      refine ⟨xa, q1, q2, fun wx hbx => ?_⟩
      have hb1 : (xa.add j).block = xa.block := by unfold Addr.add; split <;> rfl
      have hlt1 := HG.out _ q2
      have k1 := KO.out.2.block xa.block hlt1
      have k2 := hbx.block xa.block hlt1
      rw [World.cell?_of_block (show wx.heap[(xa.add j).block]? = wr.heap[(xa.add j).block]? by rw [hb1, k1, k2])]
      exact q3
    clear hPl hlen0 hrc hm KO KO' hM0 hR hdat hx hs
    go_upto_region 6 with fail
    rw [← hB5]
    generalize wr.alloc (.cells #[.int .i64 (s : Int), .int .i64 (pa : Int), .slice ax m cd] 51) = wz at *
    clear hB5 e0 e1 e2 c0
    go_upto_region 7 with fail
    go_loopw [6] (fun y wx => ∃ j : Nat, j ≤ m ∧ y = .int .i64 (j : Int) ∧ Hid (OutAt wx g (midM M0 s pa dd j) ∧ Below g w wx ∧ wx.heap[B5]? = some (.cells #[.int .i64 (s : Int), .int .i64 (pa : Int), .slice ax m cd] 51 (0, 0)))) (fun y _ => m - (intOf y).toNat)
    case atStart => exact ⟨0, by omega, rfl, HNew⟩
    case round =>
    clear HNew
    obtain ⟨j, hj, rfl, JO⟩ := hrel
    have b0 : wr.cell? ⟨B5, 0, none⟩ = some (.int .i64 (s : Int)) := by rw [cell_of_row _ _ _ _ _ _ JO.out.2.2]; rfl
    have b1 : wr.cell? ⟨B5, 1, none⟩ = some (.int .i64 (pa : Int)) := by rw [cell_of_row _ _ _ _ _ _ JO.out.2.2]; rfl
    have b2 : wr.cell? ⟨B5, 2, none⟩ = some (.slice ax m cd) := by rw [cell_of_row _ _ _ _ _ _ JO.out.2.2]; rfl
    by_cases hj2 : j < m
    · have hd2 : decide ((j : Int) < (m : Int)) = true := by simp; omega
      have hj3 : (j : Int) < (m : Int) := by omega
      obtain ⟨c, hc⟩ : ∃ c, dd[j]? = some c := ⟨_, List.getElem?_eq_getElem (by rw [Hm.out]; exact hj2)⟩
      obtain ⟨xa, rfl, hGx, hcell⟩ := HDat.out j c hc
      have e3 := hcell _ JO.out.2.1
      have hxg : (xa.add j).block ≠ g := by
        rw [show (xa.add j).block = xa.block by unfold Addr.add; split <;> rfl]
        have := HG.out _ hGx; omega
      have hB5g : B5 ≠ g := by omega
      obtain ⟨p, hp⟩ : ∃ p, s * 128 + (pa + j) = p := ⟨_, rfl⟩
      have hp2 : (p : Int) < 131072 := by omega
      obtain ⟨⟨ov, o1⟩, f1⟩ := JO.out.1.cell (p := p) (by omega)
      have HFin : Hid (∀ w2 : World, w2.heap = wr.heap → w2.os = wr.os → w2.tape = wr.tape → w2.output = wr.output → OutAt (w2.setCell ⟨g, p, none⟩ (By c)) g (midM M0 s pa dd (j + 1)) ∧ Below g w (w2.setCell ⟨g, p, none⟩ (By c)) ∧ (w2.setCell ⟨g, p, none⟩ (By c)).heap[B5]? = some (.cells #[.int .i64 (s : Int), .int .i64 (pa : Int), .slice (some xa) m cd] 51 (0, 0))) := by
        refine hide (fun w2 q1 q2 q3 q4 => ⟨?_, ?_, ?_⟩)
        · rw [← midM_next (HLn0.out) (by rw [Hm.out]; exact hsum) hc, ← hp]
          exact (JO.out.1.keep (w' := w2) (by rw [q1])).set hs' (by omega) (midM_len HLn0.out (by rw [Hm.out]; exact hsum))
        · have hb := JO.out.2.1
          exact ⟨q2.trans hb.os, q3.trans hb.tape, q4.trans hb.output, by simp [World.setCell, q1]; exact hb.size, fun b hb' => by rw [heap_setCell_other _ _ _ _ (show b ≠ g by omega), q1]; exact hb.block b hb'⟩
        · rw [heap_setCell_other _ _ _ _ hB5g, q1]; exact JO.out.2.2
      clear hcell JO hc HDat
      go_upto_region 9 with fail
      obtain ⟨w2, hw2⟩ : ∃ w2, w2 = wr.drew := ⟨_, rfl⟩
      have HS2 : Hid (w2.cell? ⟨B5, 0, none⟩ = some (.int .i64 (s : Int)) ∧ w2.cell? ⟨B5, 1, none⟩ = some (.int .i64 (pa : Int)) ∧ w2.cell? ⟨B5, 2, none⟩ = some (.slice (some xa) m cd) ∧ w2.cell? (xa.add j) = some (.int .u8 (c : Int))) := by rw [hw2]; exact hide ⟨b0, b1, b2, e3⟩
      have HS3 : Hid ((w2.setCell ⟨g, p, none⟩ (By c)).cell? ⟨B5, 0, none⟩ = some (.int .i64 (s : Int)) ∧ (w2.setCell ⟨g, p, none⟩ (By c)).cell? ⟨B5, 1, none⟩ = some (.int .i64 (pa : Int)) ∧ (w2.setCell ⟨g, p, none⟩ (By c)).cell? ⟨B5, 2, none⟩ = some (.slice (some xa) m cd) ∧ (w2.setCell ⟨g, p, none⟩ (By c)).cell? (xa.add j) = some (.int .u8 (c : Int))) := by
        refine hide ⟨?_, ?_, ?_, ?_⟩
        · rw [World.cell?_of_block (heap_setCell_other _ _ _ _ hB5g)]; exact HS2.out.1
        · rw [World.cell?_of_block (heap_setCell_other _ _ _ _ hB5g)]; exact HS2.out.2.1
        · rw [World.cell?_of_block (heap_setCell_other _ _ _ _ hB5g)]; exact HS2.out.2.2.1
        · rw [World.cell?_of_block (heap_setCell_other _ _ _ _ hxg)]; exact HS2.out.2.2.2
      have o2 : w2.cell? ⟨g, p, none⟩ = some ov := by rw [hw2]; exact o1
      have f2 : w2.frozen? ⟨g, p, none⟩ = false := by rw [hw2]; exact f1
      have HEq : Hid (w2.heap = wr.heap ∧ w2.os = wr.os ∧ w2.tape = wr.tape ∧ w2.output = wr.output) := by rw [hw2]; exact hide ⟨rfl, rfl, rfl, rfl⟩
      refine wp_region_held_drew (S := fun W => W.cell? ⟨B5, 0, none⟩ = some (.int .i64 (s : Int)) ∧ W.cell? ⟨B5, 1, none⟩ = some (.int .i64 (pa : Int)) ∧ W.cell? ⟨B5, 2, none⟩ = some (.slice (some xa) m cd) ∧ W.cell? (xa.add j) = some (.int .u8 (c : Int))) (by kernel_rfl) (by rw [← hw2]; exact HS2.out) (fun _ => ?_)
      rw [← hw2]
      clear hw2 b0 b1 b2 e3 o1 f1
      refine hd_take 0 (o := ⟨some 31, _, _, _, _, _⟩) (.slice (some ⟨g, 0, none⟩) 131072 131072) (by kernel_rfl) (by kernel_rfl) (by kernel_rfl) rfl (by rfl) (fun W hSw => by go_simp) (fun _ _ _ h => h) HS2.out ?_
      simp only [Act.put, List.setIfInBounds_toArray, List.set_cons_zero, List.set_cons_succ]
      refine hd_take 1 (o := ⟨some 32, _, _, _, _, _⟩) (.pointer (some ⟨B5, 0, none⟩)) (by kernel_rfl) (by kernel_rfl) (by kernel_rfl) rfl (by rfl) (fun W hSw => by go_simp) (fun _ _ _ h => h) HS2.out ?_
      simp only [Act.put, List.setIfInBounds_toArray, List.set_cons_zero, List.set_cons_succ]
      refine hd_take 2 (o := ⟨some 33, _, _, _, _, _⟩) (.int .i64 (s : Int)) (by kernel_rfl) (by kernel_rfl) (by kernel_rfl) rfl (by rfl) (fun W hSw => by obtain ⟨q0, q1, q2, q3⟩ := hSw; go_simp) (fun _ _ _ h => h) HS2.out ?_
      simp only [Act.put, List.setIfInBounds_toArray, List.set_cons_zero, List.set_cons_succ]
      refine hd_take 3 (o := ⟨some 34, _, _, _, _, _⟩) (.int .i64 ((s * 128 : Nat) : Int)) (by kernel_rfl) (by kernel_rfl) (by kernel_rfl) rfl (by rfl) (fun W hSw => by go_simp <;> (simp [IntKind.wrap, IntKind.signed, IntKind.bits]; omega)) (fun _ _ _ h => h) HS2.out ?_
      simp only [Act.put, List.setIfInBounds_toArray, List.set_cons_zero, List.set_cons_succ]
      refine hd_take 4 (o := ⟨some 35, _, _, _, _, _⟩) (.pointer (some ⟨B5, 1, none⟩)) (by kernel_rfl) (by kernel_rfl) (by kernel_rfl) rfl (by rfl) (fun W hSw => by go_simp) (fun _ _ _ h => h) HS2.out ?_
      simp only [Act.put, List.setIfInBounds_toArray, List.set_cons_zero, List.set_cons_succ]
      refine hd_take 5 (o := ⟨some 36, _, _, _, _, _⟩) (.int .i64 (pa : Int)) (by kernel_rfl) (by kernel_rfl) (by kernel_rfl) rfl (by rfl) (fun W hSw => by obtain ⟨q0, q1, q2, q3⟩ := hSw; go_simp) (fun _ _ _ h => h) HS2.out ?_
      simp only [Act.put, List.setIfInBounds_toArray, List.set_cons_zero, List.set_cons_succ]
      refine hd_take 6 (o := ⟨some 37, _, _, _, _, _⟩) (.int .i64 ((s * 128 + pa : Nat) : Int)) (by kernel_rfl) (by kernel_rfl) (by kernel_rfl) rfl (by rfl) (fun W hSw => by go_simp <;> (simp [IntKind.wrap, IntKind.signed, IntKind.bits]; omega)) (fun _ _ _ h => h) HS2.out ?_
      simp only [Act.put, List.setIfInBounds_toArray, List.set_cons_zero, List.set_cons_succ]
      refine hd_take 7 (o := ⟨some 38, _, _, _, _, _⟩) (.int .i64 (j : Int)) (by kernel_rfl) (by kernel_rfl) (by kernel_rfl) rfl (by rfl) (fun W hSw => by go_simp) (fun _ _ _ h => h) HS2.out ?_
      simp only [Act.put, List.setIfInBounds_toArray, List.set_cons_zero, List.set_cons_succ]
      refine hd_take 8 (o := ⟨some 39, _, _, _, _, _⟩) (.int .i64 (p : Int)) (by kernel_rfl) (by kernel_rfl) (by kernel_rfl) rfl (by rfl) (fun W hSw => by go_simp <;> (simp [IntKind.wrap, IntKind.signed, IntKind.bits]; omega)) (fun _ _ _ h => h) HS2.out ?_
      simp only [Act.put, List.setIfInBounds_toArray, List.set_cons_zero, List.set_cons_succ]
      refine hd_take 9 (o := ⟨some 40, _, _, _, _, _⟩) (.pointer (some ⟨B5, 2, none⟩)) (by kernel_rfl) (by kernel_rfl) (by kernel_rfl) rfl (by rfl) (fun W hSw => by go_simp) (fun _ _ _ h => h) HS2.out ?_
      simp only [Act.put, List.setIfInBounds_toArray, List.set_cons_zero, List.set_cons_succ]
      refine hd_take 10 (o := ⟨some 41, _, _, _, _, _⟩) (.slice (some xa) m cd) (by kernel_rfl) (by kernel_rfl) (by kernel_rfl) rfl (by rfl) (fun W hSw => by obtain ⟨q0, q1, q2, q3⟩ := hSw; go_simp) (fun _ _ _ h => h) HS2.out ?_
      simp only [Act.put, List.setIfInBounds_toArray, List.set_cons_zero, List.set_cons_succ]
      refine hd_take 11 (o := ⟨some 42, _, _, _, _, _⟩) (.int .i64 (j : Int)) (by kernel_rfl) (by kernel_rfl) (by kernel_rfl) rfl (by rfl) (fun W hSw => by go_simp) (fun _ _ _ h => h) HS2.out ?_
      simp only [Act.put, List.setIfInBounds_toArray, List.set_cons_zero, List.set_cons_succ]
      refine hd_take 12 (o := ⟨some 43, _, _, _, _, _⟩) (.pointer (some (xa.add j))) (by kernel_rfl) (by kernel_rfl) (by kernel_rfl) rfl (by rfl) (fun W hSw => by go_simp <;> omega) (fun _ _ _ h => h) HS2.out ?_
      simp only [Act.put, List.setIfInBounds_toArray, List.set_cons_zero, List.set_cons_succ]
      refine hd_take 13 (o := ⟨some 44, _, _, _, _, _⟩) (.int .u8 (c : Int)) (by kernel_rfl) (by kernel_rfl) (by kernel_rfl) rfl (by rfl) (fun W hSw => by obtain ⟨q0, q1, q2, q3⟩ := hSw; go_simp) (fun _ _ _ h => h) HS2.out ?_
      simp only [Act.put, List.setIfInBounds_toArray, List.set_cons_zero, List.set_cons_succ]
      refine hd_call 14 (o := ⟨some 45, _, _, _, _, _⟩) (by kernel_rfl) rfl (by rfl) (fun K' hK => ?_)
      go_simp
      go_wp2_with fail
      refine hK _ _ HS2.out ?_
      clear hK K'
      try simp only [Act.put, List.setIfInBounds_toArray, List.set_cons_zero, List.set_cons_succ]
      refine hd_call 15 (o := ⟨none, _, _, _, _, _⟩) (by kernel_rfl) rfl (by rfl) (fun K' hK => ?_)
      go_simp
      refine hK _ _ HS3.out ?_
      clear hK K'
      try simp only [Act.put, List.setIfInBounds_toArray, List.set_cons_zero, List.set_cons_succ]
      refine wpAnyH_done (by kernel_rfl) ?_ _
      have H1 := hide (HFin.out w2 HEq.out.1 HEq.out.2.1 HEq.out.2.2.1 HEq.out.2.2.2)
      clear HFin HS2 HS3 o2 f2
      rw [show Value.int IntKind.u8 (c : Int) = By c from rfl]
      generalize w2.setCell ⟨g, p, none⟩ (By c) = w3 at *
      go_wp2
      go_roundw
      case rel =>
        first
          | exact ⟨j + 1, by omega, by go_num, H1⟩
          | ((repeat apply Exists.intro); refine ⟨?_, rfl⟩; exact ⟨j + 1, by omega, by go_num, H1⟩)
      case measure => simp [intOf]; omega
    · obtain rfl : j = m := by omega
      have hd2 : decide ((j : Int) < (j : Int)) = false := by simp
      have HOk : Hid (OutAt wr g (playR zro (rl.take (i + 1))) ∧ Below g w wr) := hide ⟨by rw [HPl.out]; exact JO.out.1, JO.out.2.1⟩
      clear JO
      go_wp2
      go_roundw
      case rel =>
        first
          | exact ⟨i + 1, by omega, by go_num, HOk⟩
          | ((repeat apply Exists.intro); refine ⟨?_, rfl⟩; exact ⟨i + 1, by omega, by go_num, HOk⟩)
      case measure => simp [intOf]; omega
  · obtain rfl : i = L := by omega
    have hd : decide ((i : Int) < (i : Int)) = false := by simp
    clear hR
    go_wp2
    go_ret
    obtain ⟨⟨cur, q1, q2⟩, q3⟩ := KO.out
    rw [List.take_of_length_le (by rw [HL.out]; exact Nat.le_refl _)] at q2
    refine ⟨_, cur, rfl, ⟨by rw [q2.len], .inr ⟨g, 131072, cur.toArray, rfl, Nat.le_refl _, q1, Nat.le_refl _, by unfold maxLen; omega, by simp [q2.len], ?_⟩⟩, q2.congr HM.out, q3⟩
    rw [List.take_of_length_le (by simp [q2.len])]
end
end Go.Proofs.Ytnpklhjndominaa
