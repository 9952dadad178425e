import Derived.Test.YtooikfmebjohfaaM4
import Derived.Test.YtooikfmebjohfaaS3
import Derived.BigRegion
namespace Go.Proofs.Ytooikfmebjohfaa
open Go.RowKit

set_option maxHeartbeats 400000 in
theorem newT_any (w : World) :
    Calls Try.prog 10 #[] w fun x w' => x = .returned (.pointer (some ⟨w.heap.size + 2, 0, none⟩)) ∧ Tie 75 KCl w' (fun b => b = w.heap.size ∨ b = w.heap.size + 1 ∨ b = w.heap.size + 2) (w.heap.size + 2) [] ∧ Below w.heap.size w w' := by
  have hmm := @run_makeMap Try.prog
  have HB := hide (fun a b c => (((Below.refl w.heap.size w).alloc (Nat.le_refl _) a).alloc (by simp) b).alloc (by simp; omega) c)
  go_enter Try.func10, Try.ntmps10
  go_wp2
  go_ret
  exact ⟨rfl, ⟨_, _, TieAt.fresh 75 KCl w⟩, HB.out _ _ _⟩
theorem Tie.below {β : Type} {S : TypeId} {KB : Cod β} {w w' : World} {F : Nat → Prop} {B : Nat} {ps : List (Int × β)} (h : Tie S KB w F B ps) (hb : Below w.heap.size w w') : Tie S KB w' F B ps := by
  obtain ⟨r1, r2, h⟩ := h
  exact ⟨r1, r2, h.keep hb.size (fun b hf => hb.block b (h.lt b hf))⟩
theorem zero28 (w : World) : (zeroValue 28).run Try.prog w = .ok (.agg #[.string ⟨#[]⟩, .int .i64 0, .int .i64 0]) w := by kernel_rfl
set_option maxHeartbeats 400000 in
theorem lenT_any (w : World) (F : Nat → Prop) (B : Nat) (ps : List (Int × Cl)) (h : Tie 75 KCl w F B ps) :
    Calls Try.prog 16 #[.pointer (some ⟨B, 0, none⟩)] w fun x w' => x = .returned (.int .i64 (ps.length : Nat)) ∧ w' = w := by
  obtain ⟨r1, r2, h⟩ := h
  obtain ⟨c0, c1⟩ := h.cells
  have hl := map_len (mt := 72) Try.underlying72 h.to
  clear h
  generalize ps.length = n at *
  go_enter Try.func16, Try.ntmps16
  go_wp2
  go_ret
  exact ⟨rfl, rfl⟩
set_option maxHeartbeats 800000 in
theorem tieT_any (w : World) (F : Nat → Prop) (B : Nat) (ps : List (Int × Cl)) (h : Tie 75 KCl w F B ps) (a : Int) (c : Cl) :
    Calls Try.prog 11 #[.pointer (some ⟨B, 0, none⟩), .int .i64 a, c.val] w fun x w' => ∃ (r : Bool) (ps' : List (Int × Cl)), x = .returned (.bool r) ∧ Tie 75 KCl w' F B ps' ∧ Ext F w F w' ∧
      ((∃ c', atK KI64 ps a = some c' ∧ r = KCl.eqb c' c ∧ ps' = ps) ∨ (atK KI64 ps a = none ∧ (∃ a', atK KCl (ps.map Prod.swap) c = some a') ∧ r = false ∧ ps' = ps) ∨ (atK KI64 ps a = none ∧ atK KCl (ps.map Prod.swap) c = none ∧ r = true ∧ ps' = ps ++ [(a, c)])) := by
  have HT := hide h
  obtain ⟨r1, r2, h⟩ := h
  have hA := fun o => h.keep (w' := w.alloc o) (by simp) (fun b hb => Below.heap_alloc _ _ _ (h.lt b hb))
  have c0 := fun o => (hA o).cells.1
  have hl : ∀ o, (Instr.lookup 72 (.map (some r1)) (.int .i64 a) true).run Try.prog (w.alloc o) = _ := fun o => run_look key_int (E := Cl.val) (K := KI64) Try.underlying72 zero28 (hA o).to a
  simp only [Cl.val]
  cases hq : atK KI64 ps a with
  | some c' =>
    rw [hq] at hl
    simp only [Option.map_some, Option.getD_some, Option.isSome_some, Cl.val] at hl
    have h28 := eq26'
    have HQ := hide hq
    have HB2 := hide (fun x y => (((Below.refl w.heap.size w).alloc (Nat.le_refl _) x).alloc (by simp) y))
    clear h hA hq
    go_enter Try.func11, Try.ntmps11
    go_wp2
    all_goals
      go_ret
      refine ⟨_, ps, rfl, HT.out.below (HB2.out _ _), ⟨Mod.of_below (HB2.out _ _), fun _ h => .inl h⟩, .inl ⟨c', by first | rfl | exact HQ.out, ?_, rfl⟩⟩
      simp_all [KCl]
  | none =>
    rw [hq] at hl
    simp only [Option.map_none, Option.getD_none, Option.isSome_none] at hl
    have HB2 := hide (fun x y => (((Below.refl w.heap.size w).alloc (Nat.le_refl _) x).alloc (by simp) y))
    have hlt := h.lt
    have HH := hide (fun x y => h.keep (w' := (w.alloc x).alloc y) (HB2.out x y).size (fun b hb => (HB2.out x y).block b (h.lt b hb)))
    have HQ := hide hq
    have hBs := h.lt _ h.fB
    have hlr1 : r1 < w.heap.size := h.lt _ h.f1
    obtain ⟨tv, htv⟩ : ∃ tv, ((atK KCl (ps.map Prod.swap) c).map (fun a : Int => Value.int .i64 a)).getD (.int .i64 0) = tv := ⟨_, rfl⟩
    obtain ⟨bv, hbv⟩ : ∃ bv, (atK KCl (ps.map Prod.swap) c).isSome = bv := ⟨_, rfl⟩
    have HTV := hide htv
    have HBV := hide hbv
    clear h hA hq hlt htv hbv
    go_enter Try.func11, Try.ntmps11
    go_wp2_with fail
    obtain ⟨W, hW⟩ : ∃ W, (w.alloc (.cells #[.string c.s, .int .i64 c.a, .int .i64 c.b] 28)).alloc (.cells #[.string ⟨#[]⟩, .int .i64 0, .int .i64 0] 28) = W := ⟨_, rfl⟩
    have hTW := HH.out (.cells #[.string c.s, .int .i64 c.a, .int .i64 c.b] 28) (.cells #[.string ⟨#[]⟩, .int .i64 0, .int .i64 0] 28)
    have hbW := HB2.out (.cells #[.string c.s, .int .i64 c.a, .int .i64 c.b] 28) (.cells #[.string ⟨#[]⟩, .int .i64 0, .int .i64 0] 28)
    have hbox : ((w.alloc (.cells #[.string c.s, .int .i64 c.a, .int .i64 c.b] 28)).alloc (.cells #[.string ⟨#[]⟩, .int .i64 0, .int .i64 0] 28)).heap[w.heap.size]? = some (.cells #[.string c.s, .int .i64 c.a, .int .i64 c.b] 28) := by
      rw [Below.heap_alloc _ _ _ (by simp)]; exact heap_alloc_new _ _
    have hWs : w.heap.size < ((w.alloc (.cells #[.string c.s, .int .i64 c.a, .int .i64 c.b] 28)).alloc (.cells #[.string ⟨#[]⟩, .int .i64 0, .int .i64 0] 28)).heap.size := by simp; omega
    rw [hW] at hTW hbW hbox hWs ⊢
    clear hW HH HB2
    have HTW := hide hTW
    have HbW := hide hbW
    have HBox := hide hbox
    clear hTW hbW hbox
    refine region_below (by kernel_rfl) (by kernel_rfl) ?_
    iterate 3 (refine wpQuiet_step (fun K hK => ?_); go_simp; refine ⟨_, fun _ _ => rfl, hK _ ?_⟩; clear hK K)
    refine wpQuiet_step (fun K hK => ?_)
    go_simp
    refine ⟨.map (some r2), fun w' hw' => ?_, hK _ ?_⟩
    · have c3 := (hw'.cell (p := ⟨B, 1, none⟩) (HTW.out.lt _ HTW.out.fB)).trans HTW.out.cells.2
      go_simp
    clear hK K
    refine wpQuiet_step (fun K hK => ?_)
    go_simp
    refine ⟨.agg #[.string c.s, .int .i64 c.a, .int .i64 c.b], fun w' hw' => ?_, hK _ ?_⟩
    · obtain ⟨_, c3, c4, c5⟩ := row3 ((hw'.block _ hWs).trans HBox.out)
      go_simp
    clear hK K
    refine wpQuiet_step (fun K hK => ?_)
    go_simp
    refine ⟨.tuple #[tv, .bool bv], fun w' hw' => ?_, hK _ ?_⟩
    · have hk := run_look key_cl (E := fun a : Int => Value.int .i64 a) (mt := 73) (et := 3) Try.underlying73 zero3 (HTW.out.keep hw'.size (fun b hb => hw'.block b (HTW.out.lt b hb))).back c
      rw [HTV.out, HBV.out] at hk
      simp only [KCl, Cl.val] at hk
      go_simp
    clear hK K
    iterate 5 (refine wpQuiet_step (fun K hK => ?_); go_simp; refine ⟨_, fun _ _ => rfl, hK _ ?_⟩; clear hK K)
    refine wpQuiet_nil ?_
    intro w5 hw5
    have HT5 := hide (HTW.out.keep hw5.size (fun b hb => hw5.block b (HTW.out.lt b hb)))
    have Hb5 := hide (HbW.out.trans (hw5.mono HbW.out.size))
    have HBox5 := hide ((hw5.block _ hWs).trans HBox.out)
    have hWs5 : w.heap.size < w5.heap.size := Nat.lt_of_lt_of_le hWs hw5.size
    clear hw5 HTW HbW HBox hWs
    cases bv with
    | true =>
      go_wp2
      go_ret
      obtain ⟨a', ha'⟩ : ∃ a', atK KCl (ps.map Prod.swap) c = some a' := by
        cases hx : atK KCl (ps.map Prod.swap) c with
        | none => have := HBV.out; rw [hx] at this; cases this
        | some a' => exact ⟨a', rfl⟩
      exact ⟨_, ps, rfl, ⟨r1, r2, HT5.out⟩, ⟨Mod.of_below Hb5.out, fun _ h => .inl h⟩, .inr (.inl ⟨by first | rfl | exact HQ.out | trivial, ⟨a', ha'⟩, rfl, rfl⟩)⟩
    | false =>
      have hn2 : atK KCl (ps.map Prod.swap) c = none := by
        cases hx : atK KCl (ps.map Prod.swap) c with
        | none => rfl
        | some a' => have := HBV.out; rw [hx] at this; cases this
      have hTd : TieAt 75 KCl w5.drew F B r1 r2 ps := HT5.out.keep (Nat.le_refl _) (fun _ _ => rfl)
      obtain ⟨w6, hu1, m1, u1⟩ := push' key_int Try.underlying72 hTd.to a c HQ.out
      have hu1' : (Instr.mapUpdate 72 (.map (some r1)) (.int .i64 a) (.agg #[.string c.s, .int .i64 c.a, .int .i64 c.b])).run Try.prog w5.drew = .ok () w6 := hu1
      have hBd : w6.drew.heap[r2]? = w5.drew.heap[r2]? := u1.block _ (fun e => hTd.n3 e.symm)
      obtain ⟨w7, hu2, m2, u2⟩ := push' (w := w6.drew) key_cl Try.underlying73 (hTd.back.keep hBd) c a hn2
      have hu2' : (Instr.mapUpdate 73 (.map (some r2)) (.agg #[.string c.s, .int .i64 c.a, .int .i64 c.b]) (.int .i64 a)).run Try.prog w6.drew = .ok () w7 := hu2
      obtain ⟨_, k3, k4, k5⟩ := row3 HBox5.out
      have d0 := HT5.out.cells.1
      have hne1 : w.heap.size ≠ r1 := by omega
      have e1 : w6.cell? ⟨B, 1, none⟩ = some (.map (some r2)) := by rw [World.cell?_of_block (u1.block B (fun e => hTd.n1 e.symm))]; exact HT5.out.cells.2
      obtain ⟨_, q3, q4, q5⟩ := row3 ((u1.block _ hne1).trans HBox5.out)
      have HP := hide (hTd.push key_cl HQ.out hn2 (⟨u1.os, u1.tape, u1.output, u1.size, u1.block⟩ : Upd w5.drew w6.drew r1) (show MapIs w6.drew r1 KI64 KCl.enc (ps ++ [(a, c)]) from m1.keep rfl) u2 m2)
      have HN2 := hide hn2
      clear hu1 hu2 m1 m2 u1 u2 hTd hBd hn2 HTV HBV
      go_wp2_with fail
      go_region
      go_wp2_with fail
      go_region
      go_wp2
      go_ret
      refine ⟨_, _, rfl, ⟨r1, r2, HP.out.1⟩, ?_, .inr (.inr ⟨by first | rfl | exact HQ.out | trivial, HN2.out, rfl, rfl⟩)⟩
      exact Ext.trans ⟨Mod.of_below (Hb5.out.trans ((Below.refl _ w5).drew)), fun _ h => .inl h⟩ HP.out.2

set_option maxHeartbeats 800000 in
theorem toT_any (w : World) (F : Nat → Prop) (B : Nat) (ps : List (Int × Cl)) (h : Tie 75 KCl w F B ps) (a : Int) (c : Cl) (hq : atK KI64 ps a = some c) :
    Calls Try.prog 18 #[.pointer (some ⟨B, 0, none⟩), .int .i64 a] w fun x w' => x = .returned (.tuple #[c.val, .bool true]) ∧ Below w.heap.size w w' := by
  obtain ⟨r1, r2, h⟩ := h
  have hA := fun o => h.keep (w' := w.alloc o) (by simp) (fun b hb => Below.heap_alloc _ _ _ (h.lt b hb))
  have c0 := fun o => (hA o).cells.1
  have hl : ∀ o, (Instr.lookup 72 (.map (some r1)) (.int .i64 a) true).run Try.prog (w.alloc o) = _ := fun o => run_look key_int (E := Cl.val) (K := KI64) Try.underlying72 zero28 (hA o).to a
  rw [hq] at hl
  simp only [Option.map_some, Option.getD_some, Option.isSome_some, Cl.val] at hl
  have HB2 := hide (fun x y => (((Below.refl w.heap.size w).alloc (Nat.le_refl _) x).alloc (by simp) y))
  clear h hA hq
  go_enter Try.func18, Try.ntmps18
  go_wp2
  go_returns
  exact ⟨rfl, HB2.out _ _⟩
end Go.Proofs.Ytooikfmebjohfaa
