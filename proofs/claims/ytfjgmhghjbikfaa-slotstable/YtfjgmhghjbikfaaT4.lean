import Derived.Test.YtfjgmhghjbikfaaT3
import Derived.Laws.ResultCell
namespace Go.Proofs.Ytfjgmhghjbikfaa
open Go.RowKit

theorem TabAt.setNew {α : Type} {K : Knd α} {w : World} {F : Nat → Prop} {B p : Nat} {ps : List (Option Nat)} {m : List (Option α)} (h : TabAt K w F B p ps m) {a : Addr} (ha : ¬ F a.block) (u : Value) : TabAt K (w.setCell a u) F B p ps m :=
  h.keep (by simp [World.setCell]) (fun b hb => Below.heap_setCell _ _ _ _ (fun e => by subst e; exact ha hb))
/-- a block of three cells -/
theorem blk3 {w1 : World} {b : Nat} {x0 x1 x2 : Value} {t : TypeId} (h : w1.heap[b]? = some (.cells #[x0, x1, x2] t (0, 0))) :
    w1.cell? ⟨b, 0, none⟩ = some x0 ∧ w1.cell? ⟨b, 1, none⟩ = some x1 ∧ w1.cell? ⟨b, 2, none⟩ = some x2 ∧
    w1.frozen? ⟨b, 0, none⟩ = false ∧ w1.frozen? ⟨b, 1, none⟩ = false ∧ w1.frozen? ⟨b, 2, none⟩ = false :=
  ⟨by rw [cell_of_row _ _ _ _ _ _ h]; rfl, by rw [cell_of_row _ _ _ _ _ _ h]; rfl, by rw [cell_of_row _ _ _ _ _ _ h]; rfl, frozen_of_row _ _ _ _ _ h, frozen_of_row _ _ _ _ _ h, frozen_of_row _ _ _ _ _ h⟩
theorem set3 {w : World} {b : Nat} {x0 x1 x2 : Value} {t : TypeId} (h : w.heap[b]? = some (.cells #[x0, x1, x2] t (0, 0))) (y0 y1 y2 : Value) :
    (((w.setCell ⟨b, 0, none⟩ y0).setCell ⟨b, 1, none⟩ y1).setCell ⟨b, 2, none⟩ y2).heap[b]? = some (.cells #[y0, y1, y2] t (0, 0)) := by
  have h1 := heap_setCell_same _ b 0 _ _ y0 h
  have h2 := heap_setCell_same _ b 1 _ _ y1 h1
  have h3 := heap_setCell_same _ b 2 _ _ y2 h2
  rw [h3]; rfl
theorem results_row2 {P : Program} {fn : Func} {p u : Tmp} {ty : TypeId} (h : fn.results = #[.cell p ty, .tmp u]) (tmps : Array Value) (w : World) (g : Nat) (t : TypeId) (cs : Array Value) (fr : Nat × Nat) (d : TypeDesc)
    (hp : tmps.getD p undef = .pointer (some ⟨g, 0, none⟩)) (hg : w.heap[g]? = some (.cells cs t fr))
    (hu : P.underlying ty = some d) (hd : (match d with | .struct _ | .array _ _ => true | _ => false) = true) (hi : (P.info? ty).map (·.size) = some cs.size) :
    (results fn tmps).run P w = .ok (.tuple #[.agg cs, tmps.getD u undef]) w := by
  rw [results_cell_tmp h, hp]
  simp [asAddr, run_loadVar_row w g t ty cs fr d hg hu hd hi]
set_option maxHeartbeats 800000 in
theorem dropC_none (w : World) (F : Nat → Prop) (B : Nat) (m : List (Option Cl)) (h : Tab KC w F B m) (i : Int) (hi : look m i = none) :
    Calls Try.prog 36 #[.pointer (some ⟨B, 0, none⟩), .int .i64 i] w fun x w' => x = .returned (.tuple #[Cl.zero.val, .bool false]) ∧ Tab KC w' F B m ∧ Ext F w F w' := by
  have HT := hide (fun o => h.below ((Below.refl w.heap.size w).alloc (Nat.le_refl _) o))
  have HB := hide (fun o => (⟨(Mod.refl F w).alloc o, fun _ h => .inl h⟩ : Ext F w F (w.alloc o)))
  have HG := hide (fun o => getC_any _ F B m (HT.out o) i)
  rw [hi] at HG
  have HF := hide (show ¬ F w.heap.size from fun e => by have := h.lt _ e; omega)
  clear h hi
  simp only [Cl.val, Cl.zero, Option.getD_none, Option.isSome_none] at *
  go_enter Try.func36, Try.ntmps36
  go_wp2_with fail
  refine (HG.out _).mono ?_
  rintro e w1 ⟨rfl, hb1⟩
  have hlt : w.heap.size < w1.heap.size := by have := hb1.size; simp at this; omega
  have HT1 := hide ((HT.out _).below hb1)
  have HM1 := hide (((HB.out _).mod).trans (Mod.of_below hb1))
  have hR := (hb1.block w.heap.size (by simp)).trans (heap_alloc_new w _)
  obtain ⟨c0, c1, c2, f0, f1, f2⟩ := blk3 hR
  have HR := hide (fun a b c => set3 hR a b c)
  clear hb1 HG HT HB hR
  go_wp2
  refine bodyPost_ret (results_row2 rfl _ _ w.heap.size 39 #[.string ByteArray.empty, .int .i64 0, .int .i64 0] (0, 0) _ rfl ?_ Try.underlying39 rfl (by kernel_rfl)) rfl ?_
  · rw [Below.heap_alloc _ _ _ (by simp [World.setCell]; omega)]
    exact HR.out _ _ _
  obtain ⟨p, ps, h1⟩ := HT1.out
  refine ⟨rfl, ?_, ?_, fun _ h => .inl h⟩
  · have h2 := ((h1.setNew (a := ⟨w.heap.size, 0, none⟩) HF.out (.string ByteArray.empty)).setNew (a := ⟨w.heap.size, 1, none⟩) HF.out (.int .i64 0)).setNew (a := ⟨w.heap.size, 2, none⟩) HF.out (.int .i64 0)
    exact Tab.below ⟨p, ps, h2⟩ ((Below.refl _ _).alloc (Nat.le_refl _) _)
  · exact (((HM1.out.setCell (p := ⟨w.heap.size, 0, none⟩) (.inr (Nat.le_refl _)) _).setCell (p := ⟨w.heap.size, 1, none⟩) (.inr (Nat.le_refl _)) _).setCell (p := ⟨w.heap.size, 2, none⟩) (.inr (Nat.le_refl _)) _).alloc _
set_option maxHeartbeats 1600000 in
theorem dropC_some (w : World) (F : Nat → Prop) (B : Nat) (m : List (Option Cl)) (h : Tab KC w F B m) (k : Nat) (x : Cl) (hm : m[k]? = some (some x)) :
    Calls Try.prog 36 #[.pointer (some ⟨B, 0, none⟩), .int .i64 k] w fun e w' => e = .returned (.tuple #[x.val, .bool true]) ∧ Tab KC w' F B (m.set k none) ∧ Ext F w F w' := by
  have HT := hide (fun o => h.below ((Below.refl w.heap.size w).alloc (Nat.le_refl _) o))
  have HB := hide (fun o => (⟨(Mod.refl F w).alloc o, fun _ h => .inl h⟩ : Ext F w F (w.alloc o)))
  have HG := hide (fun o => getC_any _ F B m (HT.out o) k)
  have hi : look m (k : Int) = some x := by rw [look_nat, hm]; rfl
  rw [hi] at HG
  have HF := hide (show ¬ F w.heap.size from fun e => by have := h.lt _ e; omega)
  have HL := hide (fun b hb => Nat.ne_of_lt (h.lt b hb))
  have hcnt : m.countP Option.isSome ≤ 4096 := Nat.le_trans count_le h.cap
  have hk : k < m.length := (List.getElem?_eq_some_iff.1 hm).1
  clear h hi
  simp only [Cl.val, Option.getD_some, Option.isSome_some] at *
  go_enter Try.func36, Try.ntmps36
  go_wp2_with fail
  refine (HG.out _).mono ?_
  rintro e w1 ⟨rfl, hb1⟩
  have hlt : w.heap.size < w1.heap.size := by have := hb1.size; simp at this; omega
  obtain ⟨p, ps, h1⟩ := (HT.out _).below hb1
  have HM1 := hide (((HB.out _).mod).trans (Mod.of_below hb1))
  have hR := (hb1.block w.heap.size (by simp)).trans (heap_alloc_new w _)
  obtain ⟨c0, c1, c2, f0, f1, f2⟩ := blk3 hR
  have n1 : B ≠ w.heap.size := HL.out _ h1.fB
  have n2 : p ≠ w.heap.size := HL.out _ h1.fp
  have hR' : ∀ u v, ((w1.setCell ⟨p, k, none⟩ u).setCell ⟨B, 1, none⟩ v).heap[w.heap.size]? = _ := fun u v => (heap_setCell_other _ _ _ _ (fun e => n1 e.symm)).trans ((heap_setCell_other _ _ _ _ (fun e => n2 e.symm)).trans hR)
  have HR := hide (fun u v a b c => set3 (hR' u v) a b c)
  clear hb1 HG HT HB hR hR'
  obtain ⟨d0, d1, g0, g1⟩ := h1.cells
  have g2 := h1.frz k
  obtain ⟨q, hq1, d2, hq3, hq4⟩ := h1.ptr hm
  have hne := h1.ne
  have HD := hide (fun t => h1.drop hm (c := t))
  have n3 := h1.lt _ h1.fB
  have n4 := h1.lt _ h1.fp
  have FB := hide h1.fB
  have FP := hide h1.fp
  have hpos : 0 < m.countP Option.isSome := List.countP_pos_iff.2 ⟨_, List.mem_of_getElem? hm, rfl⟩
  clear h1 hq1 hq3 hq4 hm
  generalize m.countP Option.isSome = cnt at *
  generalize m.length = n at *
  go_wp2
  refine bodyPost_ret (results_row2 rfl _ _ w.heap.size 39 #[.string x.s, .int .i64 x.a, .int .i64 x.b] (0, 0) _ rfl ?_ Try.underlying39 rfl (by kernel_rfl)) rfl ?_
  · rw [Below.heap_alloc _ _ _ (by simp [World.setCell]; omega)]
    exact HR.out _ _ _ _ _
  refine ⟨rfl, ?_, ?_, fun _ h => .inl h⟩
  · have h2 := (((HD.out _ rfl).setNew (a := ⟨w.heap.size, 0, none⟩) HF.out (.string x.s)).setNew (a := ⟨w.heap.size, 1, none⟩) HF.out (.int .i64 x.a)).setNew (a := ⟨w.heap.size, 2, none⟩) HF.out (.int .i64 x.b)
    exact Tab.below ⟨p, _, h2⟩ ((Below.refl _ _).alloc (Nat.le_refl _) _)
  · exact (((((HM1.out.setCell (p := ⟨p, k, none⟩) (.inl FP.out) _).setCell (p := ⟨B, 1, none⟩) (.inl FB.out) _).setCell (p := ⟨w.heap.size, 0, none⟩) (.inr (Nat.le_refl _)) _).setCell (p := ⟨w.heap.size, 1, none⟩) (.inr (Nat.le_refl _)) _).setCell (p := ⟨w.heap.size, 2, none⟩) (.inr (Nat.le_refl _)) _).alloc _
end Go.Proofs.Ytfjgmhghjbikfaa
