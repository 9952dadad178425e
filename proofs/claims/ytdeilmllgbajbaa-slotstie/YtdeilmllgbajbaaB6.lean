import Derived.Test.YtdeilmllgbajbaaB5
namespace Go.Proofs.Ytdeilmllgbajbaa
open Go.RowKit

set_option maxHeartbeats 1600000 in
theorem tieP_any (w : World) (F : Nat → Prop) (B : Nat) (ps : List (Int × Cl)) (h : Tie 56 KI64 KCl w F B ps) (a : Int) (c : Cl) :
    Calls Try.prog 7 #[.pointer (some ⟨B, 0, none⟩), .int .i64 a, c.val] w fun x w' => ∃ (r : Bool) (ps' : List (Int × Cl)), x = .returned (.bool r) ∧ Tie 56 KI64 KCl w' F B ps' ∧ Ext F w F w' ∧
      ((∃ c', atK KI64 ps a = some c' ∧ r = KCl.eqb c' c ∧ ps' = ps) ∨ (atK KI64 ps a = none ∧ (∃ a', atK KCl (ps.map Prod.swap) c = some a') ∧ r = false ∧ ps' = ps) ∨ (atK KI64 ps a = none ∧ atK KCl (ps.map Prod.swap) c = none ∧ r = true ∧ ps' = ps ++ [(a, c)])) := by
  have HT := hide h
  obtain ⟨r1, r2, h⟩ := h
  have hA := fun o => h.keep (w' := w.alloc o) (by simp) (fun b hb => Below.heap_alloc _ _ _ (h.lt b hb))
  have c0 := fun o => (hA o).cells.1
  have hl : ∀ o, (Instr.lookup 53 (.map (some r1)) (.int .i64 a) true).run Try.prog (w.alloc o) = _ := fun o => run_look key_int (E := Cl.val) (K := KI64) Try.underlying53 zero28 (hA o).to a
  have HB2 := hide (fun x y => (((Below.refl w.heap.size w).alloc (Nat.le_refl _) x).alloc (by simp) y))
  simp only [Cl.val]
  cases hq : atK KI64 ps a with
  | some c' =>
    rw [hq] at hl
    simp only [Option.map_some, Option.getD_some, Option.isSome_some, Cl.val] at hl
    have h28 := eq26'
    have HQ := hide hq
    clear h hA hq
    go_enter Try.func7, Try.ntmps7
    go_wp2
    all_goals
      go_ret
      refine ⟨_, ps, rfl, HT.out.below (HB2.out _ _), ⟨Mod.of_below (HB2.out _ _), fun _ h => .inl h⟩, .inl ⟨c', by first | rfl | exact HQ.out, ?_, rfl⟩⟩
      simp_all [KCl]
  | none =>
    rw [hq] at hl
    simp only [Option.map_none, Option.getD_none, Option.isSome_none] at hl
    have HQ := hide hq
    have h2 : TieAt 56 KI64 KCl ((w.alloc (.cells #[.string c.s, .int .i64 c.a, .int .i64 c.b] 28)).alloc (.cells #[.string ⟨#[]⟩, .int .i64 0, .int .i64 0] 28)).drew F B r1 r2 ps := h.keep (HB2.out _ _).size (fun b hb => (HB2.out _ _).block b (h.lt b hb))
    have HX : Hid (Ext F w F ((w.alloc (.cells #[.string c.s, .int .i64 c.a, .int .i64 c.b] 28)).alloc (.cells #[.string ⟨#[]⟩, .int .i64 0, .int .i64 0] 28)).drew) := hide ⟨Mod.of_below ((HB2.out _ _).drew), fun _ h => .inl h⟩
    have bc : ((w.alloc (.cells #[.string c.s, .int .i64 c.a, .int .i64 c.b] 28)).alloc (.cells #[.string ⟨#[]⟩, .int .i64 0, .int .i64 0] 28)).heap[w.heap.size]? = some (.cells #[.string c.s, .int .i64 c.a, .int .i64 c.b] 28) := by
      rw [Below.heap_alloc _ _ _ (by simp)]; exact heap_alloc_new _ _
    have hbr : w.heap.size ≠ r1 := fun e => by have := h.lt _ h.f1; omega
    have hsz : ((w.alloc (.cells #[.string c.s, .int .i64 c.a, .int .i64 c.b] 28)).alloc (.cells #[.string ⟨#[]⟩, .int .i64 0, .int .i64 0] 28)).heap.size = w.heap.size + 2 := by simp
    have hl2 : (Instr.lookup 54 (.map (some r2)) c.val true).run Try.prog ((w.alloc (.cells #[.string c.s, .int .i64 c.a, .int .i64 c.b] 28)).alloc (.cells #[.string ⟨#[]⟩, .int .i64 0, .int .i64 0] 28)).drew = _ := run_look key_cl (E := fun a : Int => Value.int .i64 a) (et := 3) Try.underlying54 zero3 h2.back c
    obtain ⟨d0, d1⟩ := (h.keep (w' := (w.alloc (.cells #[.string c.s, .int .i64 c.a, .int .i64 c.b] 28)).alloc (.cells #[.string ⟨#[]⟩, .int .i64 0, .int .i64 0] 28)) (HB2.out _ _).size (fun b hb => (HB2.out _ _).block b (h.lt b hb))).cells
    obtain ⟨q0, q1, q2, _, _, _⟩ := blk3 bc
    have hv : ((atK KCl (ps.map Prod.swap) c).map (fun a : Int => Value.int .i64 a)).getD (.int .i64 0) = .int .i64 ((atK KCl (ps.map Prod.swap) c).getD 0) := by cases atK KCl (ps.map Prod.swap) c <;> rfl
    rw [hv] at hl2
    obtain ⟨tv, htv⟩ : ∃ tv, (atK KCl (ps.map Prod.swap) c).getD 0 = tv := ⟨_, rfl⟩
    obtain ⟨bv, hbv⟩ : ∃ bv, (atK KCl (ps.map Prod.swap) c).isSome = bv := ⟨_, rfl⟩
    rw [htv, hbv] at hl2
    have HBV := hide hbv
    have HT2 := hide h2
    have HBc := hide bc
    simp only [Cl.val] at hl2
    clear h hA hq h2 bc hv htv hbv
    go_enter Try.func7, Try.ntmps7
    go_wp2
    clear hl c0
    generalize (w.alloc (.cells #[.string c.s, .int .i64 c.a, .int .i64 c.b] 28)).alloc (.cells #[.string ⟨#[]⟩, .int .i64 0, .int .i64 0] 28) = w2 at *
    go_region
    have bc5 : w2.drew.heap[w.heap.size]? = some (.cells #[.string c.s, .int .i64 c.a, .int .i64 c.b] 28) := HBc.out
    clear d0 d1 q0 q1 q2 hl2 HBc hsz
    generalize w2.drew = w5 at *
    cases bv with
    | true =>
      go_wp2
      go_ret
      obtain ⟨a', ha'⟩ : ∃ a', atK KCl (ps.map Prod.swap) c = some a' := by
        cases hx : atK KCl (ps.map Prod.swap) c with
        | none => have := HBV.out; rw [hx] at this; cases this
        | some a' => exact ⟨a', rfl⟩
      exact ⟨_, ps, rfl, ⟨r1, r2, HT2.out⟩, HX.out, .inr (.inl ⟨by first | rfl | exact HQ.out | trivial, ⟨a', ha'⟩, rfl, rfl⟩)⟩
    | false =>
      have hn2 : atK KCl (ps.map Prod.swap) c = none := by
        cases hx : atK KCl (ps.map Prod.swap) c with
        | none => rfl
        | some a' => have := HBV.out; rw [hx] at this; cases this
      have hTd : TieAt 56 KI64 KCl w5.drew F B r1 r2 ps := HT2.out.keep (Nat.le_refl _) (fun _ _ => rfl)
      obtain ⟨w6, hu1, m1, u1⟩ := push' key_int Try.underlying53 hTd.to a c HQ.out
      have hu1' : (Instr.mapUpdate 53 (.map (some r1)) (.int .i64 a) (.agg #[.string c.s, .int .i64 c.a, .int .i64 c.b])).run Try.prog w5.drew = .ok () w6 := hu1
      have hBd : w6.drew.heap[r2]? = w5.drew.heap[r2]? := u1.block _ (fun e => hTd.n3 e.symm)
      obtain ⟨w7, hu2, m2, u2⟩ := push' (w := w6.drew) key_cl Try.underlying54 (hTd.back.keep hBd) c a hn2
      have hu2' : (Instr.mapUpdate 54 (.map (some r2)) (.agg #[.string c.s, .int .i64 c.a, .int .i64 c.b]) (.int .i64 a)).run Try.prog w6.drew = .ok () w7 := hu2
      obtain ⟨k3, k4, k5, _, _, _⟩ := blk3 bc5
      have d0 := HT2.out.cells.1
      have e1 : w6.cell? ⟨B, 1, none⟩ = some (.map (some r2)) := by rw [World.cell?_of_block (u1.block B (fun e => hTd.n1 e.symm))]; exact HT2.out.cells.2
      obtain ⟨q3, q4, q5, _, _, _⟩ := blk3 ((u1.block _ hbr).trans bc5)
      have HP := hide (hTd.push key_int key_cl HQ.out hn2 (⟨u1.os, u1.tape, u1.output, u1.size, u1.block⟩ : Upd w5.drew w6.drew r1) (show MapIs w6.drew r1 KI64 KCl.enc (ps ++ [(a, c)]) from m1.keep rfl) u2 m2)
      have HN2 := hide hn2
      clear hu1 hu2 m1 m2 u1 u2 hTd hBd hn2 HBV bc5
      go_wp2_with fail
      go_region
      go_wp2_with fail
      go_region
      go_wp2
      go_ret
      refine ⟨_, _, rfl, ⟨r1, r2, HP.out.1⟩, ?_, .inr (.inr ⟨by first | rfl | exact HQ.out | trivial, HN2.out, rfl, rfl⟩)⟩
      exact Ext.trans (Ext.trans HX.out ⟨(Mod.refl F w5).drew, fun _ h => .inl h⟩) HP.out.2
end Go.Proofs.Ytdeilmllgbajbaa
