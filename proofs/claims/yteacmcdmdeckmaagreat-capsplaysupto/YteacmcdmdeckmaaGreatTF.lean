import Derived.Test.YteacmcdmdeckmaaGreatTD
import Derived.Deep.Cut
namespace Go.Proofs.YteacmcdmdeckmaaGreat
open Go.RowKit

set_option maxHeartbeats 1600000 in
theorem dropR_some (w : World) (F : Nat → Prop) (B : Nat) (m : List (Option Rc)) (h : Tab KR w F B m) (k : Nat) (x : Rc) (hm : m[k]? = some (some x)) :
    Calls Tryz.prog 104 #[.pointer (some ⟨B, 0, none⟩), .int .i64 k] w fun e w' => e = .returned (.tuple #[x.val, .bool true]) ∧ Tab KR w' F B (m.set k none) ∧ Ext F w F w' := by
  have HT := hide (fun o => h.below ((Below.refl w.heap.size w).alloc (Nat.le_refl _) o))
  have HB := hide (fun o => (⟨(Mod.refl F w).alloc o, fun _ h => .inl h⟩ : Ext F w F (w.alloc o)))
  have HG := hide (fun o => getR_any _ F B m (HT.out o) k)
  have hi : look m (k : Int) = some x := by rw [look_nat, hm]; rfl
  rw [hi] at HG
  have HF := hide (show ¬ F w.heap.size from fun e => by have := h.lt _ e; omega)
  have HL := hide (fun b hb => Nat.ne_of_lt (h.lt b hb))
  have hcnt : m.countP Option.isSome ≤ 4096 := Nat.le_trans count_le h.cap
  have hk : k < m.length := (List.getElem?_eq_some_iff.1 hm).1
  clear h hi
  simp only [Rc.val, Option.getD_some, Option.isSome_some] at *
  go_enter Tryz.func104, Tryz.ntmps104
  go_wp2_with fail
  refine (HG.out _).mono ?_
  rintro e w1 ⟨rfl, hb1⟩
  have hlt : w.heap.size < w1.heap.size := by have := hb1.size; simp at this; omega
  obtain ⟨p, ps, h1⟩ := (HT.out _).below hb1
  have HM1 := hide (((HB.out _).mod).trans (Mod.of_below hb1))
  have hR := (hb1.block w.heap.size (by simp)).trans (heap_alloc_new w _)
  obtain ⟨c0, c1, c2, c3, c4, c5, f0, f1, f2, f3, f4, f5⟩ := blk6 hR
  have n1 : B ≠ w.heap.size := HL.out _ h1.fB
  have n2 : p ≠ w.heap.size := HL.out _ h1.fp
  have hR' : ∀ u v, ((w1.setCell ⟨p, k, none⟩ u).setCell ⟨B, 1, none⟩ v).heap[w.heap.size]? = _ := fun u v => (heap_setCell_other _ _ _ _ (fun e => n1 e.symm)).trans ((heap_setCell_other _ _ _ _ (fun e => n2 e.symm)).trans hR)
  have HRR := hide (fun u v => (hR' u v))
  clear hb1 HG HT HB hR hR'
  obtain ⟨d0, d1, g0, g1⟩ := h1.cells
  have g2 := h1.frz k
  obtain ⟨q, hq1, d2, hq3, hq4⟩ := h1.ptr hm
  have hne := h1.ne
  have HD := hide (fun t => h1.drop hm (c := t))
  have n3 := h1.lt _ h1.fB
  have n4 := h1.lt _ h1.fp
  have FB := hide h1.fB
  have FP := hide h1.fp
  have hpos : 0 < m.countP Option.isSome := List.countP_pos_iff.2 ⟨_, List.mem_of_getElem? hm, rfl⟩
  clear h1 hq1 hq3 hq4 hm
  generalize m.countP Option.isSome = cnt at *
  generalize m.length = n at *
  go_upto_region 5 with fail
  have hX : (((w1.setCell ⟨p, k, none⟩ (.pointer none)).setCell ⟨B, 1, none⟩ (.int .i64 ((cnt : Int) - 1))).alloc (Obj.cells #[.int .i64 x.k, .int .i64 x.o, .int .i64 x.s, .int .i64 x.r, .int .i64 x.e, .int .i64 x.t] 65)).heap[w1.heap.size]? = some (Obj.cells #[.int .i64 x.k, .int .i64 x.o, .int .i64 x.s, .int .i64 x.r, .int .i64 x.e, .int .i64 x.t] 65 (0, 0)) := by
    have := heap_alloc_new ((w1.setCell ⟨p, k, none⟩ (.pointer none)).setCell ⟨B, 1, none⟩ (.int .i64 ((cnt : Int) - 1))) (Obj.cells #[.int .i64 x.k, .int .i64 x.o, .int .i64 x.s, .int .i64 x.r, .int .i64 x.e, .int .i64 x.t] 65)
    simpa [World.setCell] using this
  have hY := (Below.heap_alloc ((w1.setCell ⟨p, k, none⟩ (.pointer none)).setCell ⟨B, 1, none⟩ (.int .i64 ((cnt : Int) - 1))) (Obj.cells #[.int .i64 x.k, .int .i64 x.o, .int .i64 x.s, .int .i64 x.r, .int .i64 x.e, .int .i64 x.t] 65) w.heap.size (by simp [World.setCell]; omega)).trans (HRR.out _ _)
  have HT2 : Hid (Tab KR (((w1.setCell ⟨p, k, none⟩ (.pointer none)).setCell ⟨B, 1, none⟩ (.int .i64 ((cnt : Int) - 1))).alloc (Obj.cells #[.int .i64 x.k, .int .i64 x.o, .int .i64 x.s, .int .i64 x.r, .int .i64 x.e, .int .i64 x.t] 65)) F B (m.set k none)) := Tab.below ⟨p, _, HD.out _ rfl⟩ ((Below.refl _ _).alloc (Nat.le_refl _) _)
  have HM2 := hide (((HM1.out.setCell (p := ⟨p, k, none⟩) (.inl FP.out) (.pointer none)).setCell (p := ⟨B, 1, none⟩) (.inl FB.out) (.int .i64 ((cnt : Int) - 1))).alloc (Obj.cells #[.int .i64 x.k, .int .i64 x.o, .int .i64 x.s, .int .i64 x.r, .int .i64 x.e, .int .i64 x.t] 65))
  generalize ((w1.setCell ⟨p, k, none⟩ (.pointer none)).setCell ⟨B, 1, none⟩ (.int .i64 ((cnt : Int) - 1))).alloc (Obj.cells #[.int .i64 x.k, .int .i64 x.o, .int .i64 x.s, .int .i64 x.r, .int .i64 x.e, .int .i64 x.t] 65) = W at *
  clear c0 c1 c2 c3 c4 c5 f0 f1 f2 f3 f4 f5 d0 d1 d2 g0 g1 g2 HD HM1
  obtain ⟨c0, c1, c2, c3, c4, c5, f0, f1, f2, f3, f4, f5⟩ := blk6 hY
  obtain ⟨d0, d1, d2, d3, d4, d5, _, _, _, _, _, _⟩ := blk6 hX
  have HR := hide (fun a b c d e f => set6 hY a b c d e f)
  clear hX hY
  go_wp2
  refine bodyPost_ret (results_row2 rfl _ _ w.heap.size 65 #[.int .i64 x.k, .int .i64 x.o, .int .i64 x.s, .int .i64 x.r, .int .i64 x.e, .int .i64 x.t] (0, 0) _ rfl (HR.out _ _ _ _ _ _) Tryz.underlying65 rfl (by kernel_rfl)) rfl ?_
  refine ⟨rfl, ?_, ?_, fun _ h => .inl h⟩
  · obtain ⟨p2, ps2, h2⟩ := HT2.out
    exact ⟨p2, ps2, ((((((h2.setNew (a := ⟨w.heap.size, 0, none⟩) HF.out (.int .i64 x.k)).setNew (a := ⟨w.heap.size, 1, none⟩) HF.out (.int .i64 x.o)).setNew (a := ⟨w.heap.size, 2, none⟩) HF.out (.int .i64 x.s)).setNew (a := ⟨w.heap.size, 3, none⟩) HF.out (.int .i64 x.r)).setNew (a := ⟨w.heap.size, 4, none⟩) HF.out (.int .i64 x.e)).setNew (a := ⟨w.heap.size, 5, none⟩) HF.out (.int .i64 x.t))⟩
  · exact (((((HM2.out.setCell (p := ⟨w.heap.size, 0, none⟩) (.inr (Nat.le_refl _)) _).setCell (p := ⟨w.heap.size, 1, none⟩) (.inr (Nat.le_refl _)) _).setCell (p := ⟨w.heap.size, 2, none⟩) (.inr (Nat.le_refl _)) _).setCell (p := ⟨w.heap.size, 3, none⟩) (.inr (Nat.le_refl _)) _).setCell (p := ⟨w.heap.size, 4, none⟩) (.inr (Nat.le_refl _)) _).setCell (p := ⟨w.heap.size, 5, none⟩) (.inr (Nat.le_refl _)) _
end Go.Proofs.YteacmcdmdeckmaaGreat
