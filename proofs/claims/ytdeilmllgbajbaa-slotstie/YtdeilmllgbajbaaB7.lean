import Derived.Test.YtdeilmllgbajbaaB6
namespace Go.Proofs.Ytdeilmllgbajbaa
open Go.RowKit

set_option maxHeartbeats 1600000 in
theorem cutP_any (w : World) (F : Nat → Prop) (B : Nat) (ps : List (Int × Cl)) (h : Tie 56 KI64 KCl w F B ps) (a : Int) :
    Calls Try.prog 9 #[.pointer (some ⟨B, 0, none⟩), .int .i64 a] w fun x w' => ∃ ps' : List (Int × Cl), x = .returned (.bool (atK KI64 ps a).isSome) ∧ Tie 56 KI64 KCl w' F B ps' ∧ Ext F w F w' ∧
      ((atK KI64 ps a = none ∧ ps' = ps) ∨ ∃ (i : Nat) (c : Cl), ps[i]? = some (a, c) ∧ ps' = ps.eraseIdx i) := by
  have HT := hide h
  obtain ⟨r1, r2, h⟩ := h
  obtain ⟨c0, c1⟩ := h.cells
  have hl : (Instr.lookup 53 (.map (some r1)) (.int .i64 a) true).run Try.prog w = _ := run_look key_int (E := Cl.val) (K := KI64) Try.underlying53 zero28 h.to a
  have HB1 := hide (fun x => ((Below.refl w.heap.size w).alloc (Nat.le_refl _) x))
  cases hq : atK KI64 ps a with
  | none =>
    rw [hq] at hl
    simp only [Option.map_none, Option.getD_none, Option.isSome_none] at hl
    clear h hq
    go_enter Try.func9, Try.ntmps9
    go_wp2
    go_ret
    exact ⟨ps, rfl, HT.out.below (HB1.out _), ⟨Mod.of_below (HB1.out _), fun _ h => .inl h⟩, .inl ⟨by first | rfl | trivial, rfl⟩⟩
  | some c =>
    rw [hq] at hl
    simp only [Option.map_some, Option.getD_some, Option.isSome_some, Cl.val] at hl
    obtain ⟨i, hi⟩ := List.getElem?_of_mem (atK_some key_int hq)
    have i1 : (ps.map Prod.fst).findIdx? (KI64.eqb a) = some i := idx_of key_int _ i a h.nd1 (by simp [hi])
    have i2 : ((ps.map Prod.swap).map Prod.fst).findIdx? (KCl.eqb c) = some i := by rw [swap_keys]; exact idx_of key_cl _ i c h.nd2 (by simp [hi])
    have h1 := h.keep (w' := w.alloc (.cells #[.string c.s, .int .i64 c.a, .int .i64 c.b] 28)) (HB1.out _).size (fun b hb => (HB1.out _).block b (h.lt b hb))
    have HX : Hid (Ext F w F (w.alloc (.cells #[.string c.s, .int .i64 c.a, .int .i64 c.b] 28))) := hide ⟨Mod.of_below (HB1.out _), fun _ h => .inl h⟩
    have bc := heap_alloc_new w (.cells #[.string c.s, .int .i64 c.a, .int .i64 c.b] 28)
    have hbr : w.heap.size ≠ r1 := fun e => by have := h.lt _ h.f1; omega
    obtain ⟨w2, hu1, m1, u1⟩ := erase' key_int Try.underlying53 h1.to a i i1 #[53, 3] rfl
    have hu1' : ∀ ty, (Builtin.delete_ #[53, 3] ty #[.map (some r1), .int .i64 a]).run Try.prog (w.alloc (.cells #[.string c.s, .int .i64 c.a, .int .i64 c.b] 28)) = .ok (.tuple #[]) w2 := hu1
    have hBd : w2.drew.heap[r2]? = (w.alloc (.cells #[.string c.s, .int .i64 c.a, .int .i64 c.b] 28)).heap[r2]? := u1.block _ (fun e => h1.n3 e.symm)
    obtain ⟨w3, hu2, m2, u2⟩ := erase' (w := w2.drew) key_cl Try.underlying54 (h1.back.keep hBd) c i i2 #[54, 28] rfl
    have hu2' : ∀ ty, (Builtin.delete_ #[54, 28] ty #[.map (some r2), .agg #[.string c.s, .int .i64 c.a, .int .i64 c.b]]).run Try.prog w2.drew = .ok (.tuple #[]) w3 := hu2
    obtain ⟨d0, d1⟩ := h1.cells
    have e1 : w2.cell? ⟨B, 1, none⟩ = some (.map (some r2)) := by rw [World.cell?_of_block (u1.block B (fun e => h1.n1 e.symm))]; exact d1
    obtain ⟨q3, q4, q5, _, _, _⟩ := blk3 ((u1.block _ hbr).trans bc)
    have HP := hide (h1.erase (⟨u1.os, u1.tape, u1.output, u1.size, u1.block⟩ : Upd (w.alloc (.cells #[.string c.s, .int .i64 c.a, .int .i64 c.b] 28)) w2.drew r1) (show MapIs w2.drew r1 KI64 KCl.enc (ps.eraseIdx i) from m1.keep rfl) u2 m2)
    have HI := hide hi
    clear h h1 hq hu1 hu2 m1 m2 u1 u2 i1 i2 hi hBd bc
    go_enter Try.func9, Try.ntmps9
    go_wp2
    go_region
    go_wp2
    go_ret
    exact ⟨_, rfl, ⟨_, _, HP.out.1⟩, HX.out.trans HP.out.2, .inr ⟨i, c, HI.out, rfl⟩⟩
set_option maxHeartbeats 1600000 in
theorem cutQ_any (w : World) (F : Nat → Prop) (B : Nat) (ps : List (Cl × Int)) (h : Tie 60 KCl KI64 w F B ps) (c : Cl) :
    Calls Try.prog 28 #[.pointer (some ⟨B, 0, none⟩), c.val] w fun x w' => ∃ ps' : List (Cl × Int), x = .returned (.bool (atK KCl ps c).isSome) ∧ Tie 60 KCl KI64 w' F B ps' ∧ Ext F w F w' ∧
      ((atK KCl ps c = none ∧ ps' = ps) ∨ ∃ (i : Nat) (b : Int), ps[i]? = some (c, b) ∧ ps' = ps.eraseIdx i) := by
  obtain ⟨r1, r2, h⟩ := h
  have hb := (Below.refl w.heap.size w).alloc (Nat.le_refl _) (.cells #[.string c.s, .int .i64 c.a, .int .i64 c.b] 28)
  have h1 := h.keep (w' := w.alloc (.cells #[.string c.s, .int .i64 c.a, .int .i64 c.b] 28)) hb.size (fun b hf => hb.block b (h.lt b hf))
  have h2 : TieAt 60 KCl KI64 (w.alloc (.cells #[.string c.s, .int .i64 c.a, .int .i64 c.b] 28)).drew F B r1 r2 ps := h1.keep (Nat.le_refl _) (fun _ _ => rfl)
  have HX : Hid (Ext F w F (w.alloc (.cells #[.string c.s, .int .i64 c.a, .int .i64 c.b] 28)).drew) := hide ⟨Mod.of_below hb.drew, fun _ h => .inl h⟩
  obtain ⟨c0, c1⟩ := h1.cells
  have bc := heap_alloc_new w (.cells #[.string c.s, .int .i64 c.a, .int .i64 c.b] 28)
  obtain ⟨q0, q1, q2, _, _, _⟩ := blk3 bc
  have hbr : w.heap.size ≠ r1 := fun e => by have := h.lt _ h.f1; omega
  have hl : (Instr.lookup 54 (.map (some r1)) c.val true).run Try.prog (w.alloc (.cells #[.string c.s, .int .i64 c.a, .int .i64 c.b] 28)).drew = _ := run_look key_cl (E := fun a : Int => Value.int .i64 a) (et := 3) Try.underlying54 zero3 h2.to c
  have HT2 := hide h2
  have HBc := hide bc
  simp only [Cl.val] at hl ⊢
  cases hq : atK KCl ps c with
  | none =>
    rw [hq] at hl
    simp only [Option.map_none, Option.getD_none, Option.isSome_none] at hl
    clear h h1 h2 hb hq bc
    go_enter Try.func28, Try.ntmps28
    go_wp2
    generalize w.alloc (.cells #[.string c.s, .int .i64 c.a, .int .i64 c.b] 28) = w1 at *
    go_region
    go_wp2
    go_ret
    exact ⟨ps, rfl, ⟨_, _, HT2.out⟩, HX.out, .inl ⟨by first | rfl | trivial, rfl⟩⟩
  | some b =>
    rw [hq] at hl
    simp only [Option.map_some, Option.getD_some, Option.isSome_some] at hl
    obtain ⟨i, hi⟩ := List.getElem?_of_mem (atK_some key_cl hq)
    have HI := hide hi
    have i1 : (ps.map Prod.fst).findIdx? (KCl.eqb c) = some i := idx_of key_cl _ i c h.nd1 (by simp [hi])
    have i2 : ((ps.map Prod.swap).map Prod.fst).findIdx? (KI64.eqb b) = some i := by rw [swap_keys]; exact idx_of key_int _ i b h.nd2 (by simp [hi])
    have HI1 := hide i1
    have HI2 := hide i2
    clear h h1 h2 hb hq bc hi i1 i2
    go_enter Try.func28, Try.ntmps28
    go_wp2
    generalize w.alloc (.cells #[.string c.s, .int .i64 c.a, .int .i64 c.b] 28) = w1 at *
    go_region
    have bc5 : w1.drew.heap[w.heap.size]? = some (.cells #[.string c.s, .int .i64 c.a, .int .i64 c.b] 28) := HBc.out
    clear c0 c1 q0 q1 q2 hl HBc
    generalize w1.drew = w5 at *
    have hTd : TieAt 60 KCl KI64 w5.drew F B r1 r2 ps := HT2.out.keep (Nat.le_refl _) (fun _ _ => rfl)
    obtain ⟨w6, hu1, m1, u1⟩ := erase' key_cl Try.underlying54 hTd.to c i HI1.out #[54, 28] rfl
    have hu1' : ∀ ty, (Builtin.delete_ #[54, 28] ty #[.map (some r1), .agg #[.string c.s, .int .i64 c.a, .int .i64 c.b]]).run Try.prog w5.drew = .ok (.tuple #[]) w6 := hu1
    have hBd : w6.heap[r2]? = w5.drew.heap[r2]? := u1.block _ (fun e => hTd.n3 e.symm)
    obtain ⟨w7, hu2, m2, u2⟩ := erase' (w := w6) key_int Try.underlying53 (hTd.back.keep hBd) b i HI2.out #[53, 3] rfl
    have hu2' : ∀ ty, (Builtin.delete_ #[53, 3] ty #[.map (some r2), .int .i64 b]).run Try.prog w6 = .ok (.tuple #[]) w7 := hu2
    obtain ⟨k3, k4, k5, _, _, _⟩ := blk3 bc5
    have d0 := HT2.out.cells.1
    have e1 : w6.cell? ⟨B, 1, none⟩ = some (.map (some r2)) := by rw [World.cell?_of_block (u1.block B (fun e => hTd.n1 e.symm))]; exact HT2.out.cells.2
    have HP := hide (hTd.erase u1 m1 u2 m2)
    clear hu1 hu2 m1 m2 u1 u2 hTd hBd bc5
    go_wp2_with fail
    go_region
    go_wp2
    go_ret
    exact ⟨_, rfl, ⟨_, _, HP.out.1⟩, Ext.trans (Ext.trans HX.out ⟨(Mod.refl F w5).drew, fun _ h => .inl h⟩) HP.out.2, .inr ⟨i, b, HI.out, rfl⟩⟩
set_option maxHeartbeats 1600000 in
theorem tieQ_any (w : World) (F : Nat → Prop) (B : Nat) (ps : List (Cl × Int)) (h : Tie 60 KCl KI64 w F B ps) (c : Cl) (b : Int) :
    Calls Try.prog 26 #[.pointer (some ⟨B, 0, none⟩), c.val, .int .i64 b] w fun x w' => ∃ (r : Bool) (ps' : List (Cl × Int)), x = .returned (.bool r) ∧ Tie 60 KCl KI64 w' F B ps' ∧ Ext F w F w' ∧
      ((∃ b', atK KCl ps c = some b' ∧ r = (b' == b) ∧ ps' = ps) ∨ (atK KCl ps c = none ∧ (∃ c', atK KI64 (ps.map Prod.swap) b = some c') ∧ r = false ∧ ps' = ps) ∨ (atK KCl ps c = none ∧ atK KI64 (ps.map Prod.swap) b = none ∧ r = true ∧ ps' = ps ++ [(c, b)])) := by
  obtain ⟨r1, r2, h⟩ := h
  have hb := (Below.refl w.heap.size w).alloc (Nat.le_refl _) (.cells #[.string c.s, .int .i64 c.a, .int .i64 c.b] 28)
  have h1 := h.keep (w' := w.alloc (.cells #[.string c.s, .int .i64 c.a, .int .i64 c.b] 28)) hb.size (fun b hf => hb.block b (h.lt b hf))
  have h2 : TieAt 60 KCl KI64 (w.alloc (.cells #[.string c.s, .int .i64 c.a, .int .i64 c.b] 28)).drew F B r1 r2 ps := h1.keep (Nat.le_refl _) (fun _ _ => rfl)
  have HX : Hid (Ext F w F (w.alloc (.cells #[.string c.s, .int .i64 c.a, .int .i64 c.b] 28)).drew) := hide ⟨Mod.of_below hb.drew, fun _ h => .inl h⟩
  obtain ⟨c0, c1⟩ := h1.cells
  have bc := heap_alloc_new w (.cells #[.string c.s, .int .i64 c.a, .int .i64 c.b] 28)
  obtain ⟨q0, q1, q2, _, _, _⟩ := blk3 bc
  have hbr : w.heap.size ≠ r1 := fun e => by have := h.lt _ h.f1; omega
  have hl : (Instr.lookup 54 (.map (some r1)) c.val true).run Try.prog (w.alloc (.cells #[.string c.s, .int .i64 c.a, .int .i64 c.b] 28)).drew = _ := run_look key_cl (E := fun a : Int => Value.int .i64 a) (et := 3) Try.underlying54 zero3 h2.to c
  have HT2 := hide h2
  have HBc := hide bc
  simp only [Cl.val] at hl ⊢
  cases hq : atK KCl ps c with
  | some b' =>
    rw [hq] at hl
    simp only [Option.map_some, Option.getD_some, Option.isSome_some] at hl
    have HQ := hide hq
    clear h h1 h2 hb hq bc
    go_enter Try.func26, Try.ntmps26
    go_wp2
    generalize w.alloc (.cells #[.string c.s, .int .i64 c.a, .int .i64 c.b] 28) = w1 at *
    go_region
    go_wp2
    go_ret
    exact ⟨_, ps, rfl, ⟨_, _, HT2.out⟩, HX.out, .inl ⟨b', by first | rfl | exact HQ.out, rfl, rfl⟩⟩
  | none =>
    rw [hq] at hl
    simp only [Option.map_none, Option.getD_none, Option.isSome_none] at hl
    have HQ := hide hq
    clear h h1 h2 hb hq bc
    go_enter Try.func26, Try.ntmps26
    go_wp2
    generalize w.alloc (.cells #[.string c.s, .int .i64 c.a, .int .i64 c.b] 28) = w1 at *
    go_region
    have bc5 : w1.drew.heap[w.heap.size]? = some (.cells #[.string c.s, .int .i64 c.a, .int .i64 c.b] 28) := HBc.out
    clear c0 c1 q0 q1 q2 hl HBc
    generalize w1.drew = w5 at *
    have d1 := HT2.out.cells.2
    have hl2 : (Instr.lookup 53 (.map (some r2)) (.int .i64 b) true).run Try.prog w5 = _ := run_look key_int (E := Cl.val) (K := KI64) Try.underlying53 zero28 HT2.out.back b
    cases hq2 : atK KI64 (ps.map Prod.swap) b with
    | some c' =>
      rw [hq2] at hl2
      simp only [Option.map_some, Option.getD_some, Option.isSome_some, Cl.val] at hl2
      have HQ2 := hide hq2
      have HB5 := hide ((Below.refl w5.heap.size w5).alloc (Nat.le_refl _) (.cells #[.string c'.s, .int .i64 c'.a, .int .i64 c'.b] 28))
      clear hq2 bc5
      go_wp2
      go_ret
      exact ⟨_, ps, rfl, Tie.below ⟨r1, r2, HT2.out⟩ HB5.out, HX.out.trans ⟨Mod.of_below HB5.out, fun _ h => .inl h⟩, .inr (.inl ⟨by first | rfl | exact HQ.out | trivial, ⟨c', by first | rfl | exact HQ2.out⟩, rfl, rfl⟩)⟩
    | none =>
      rw [hq2] at hl2
      simp only [Option.map_none, Option.getD_none, Option.isSome_none] at hl2
      have HQ2 := hide hq2
      have hB5 := (Below.refl w5.heap.size w5).alloc (Nat.le_refl _) (.cells #[.string ⟨#[]⟩, .int .i64 0, .int .i64 0] 28)
      have h6 := HT2.out.keep (w' := w5.alloc (.cells #[.string ⟨#[]⟩, .int .i64 0, .int .i64 0] 28)) hB5.size (fun b hf => hB5.block b (HT2.out.lt b hf))
      have HX6 := hide (HX.out.trans (F'' := F) (c := w5.alloc (.cells #[.string ⟨#[]⟩, .int .i64 0, .int .i64 0] 28)) ⟨Mod.of_below hB5, fun _ h => .inl h⟩)
      have bc6 := (hB5.block _ (Array.getElem?_eq_some_iff.1 bc5).1).trans bc5
      have HT6 := hide h6
      clear hq2 bc5 hB5 h6
      go_wp2_with fail
      clear hl2 d1
      generalize w5.alloc (.cells #[.string ⟨#[]⟩, .int .i64 0, .int .i64 0] 28) = w6 at *
      have hTd : TieAt 60 KCl KI64 w6.drew F B r1 r2 ps := HT6.out.keep (Nat.le_refl _) (fun _ _ => rfl)
      obtain ⟨w7, hu1, m1, u1⟩ := push' key_cl Try.underlying54 hTd.to c b HQ.out
      have hu1' : (Instr.mapUpdate 54 (.map (some r1)) (.agg #[.string c.s, .int .i64 c.a, .int .i64 c.b]) (.int .i64 b)).run Try.prog w6.drew = .ok () w7 := hu1
      have hBd : w7.drew.heap[r2]? = w6.drew.heap[r2]? := u1.block _ (fun e => hTd.n3 e.symm)
      obtain ⟨w8, hu2, m2, u2⟩ := push' (w := w7.drew) key_int Try.underlying53 (hTd.back.keep hBd) b c HQ2.out
      have hu2' : (Instr.mapUpdate 53 (.map (some r2)) (.int .i64 b) (.agg #[.string c.s, .int .i64 c.a, .int .i64 c.b])).run Try.prog w7.drew = .ok () w8 := hu2
      obtain ⟨k3, k4, k5, _, _, _⟩ := blk3 bc6
      have d0 := HT6.out.cells.1
      have e1 : w7.cell? ⟨B, 1, none⟩ = some (.map (some r2)) := by rw [World.cell?_of_block (u1.block B (fun e => hTd.n1 e.symm))]; exact HT6.out.cells.2
      obtain ⟨q3, q4, q5, _, _, _⟩ := blk3 ((u1.block _ hbr).trans bc6)
      have HP := hide (hTd.push key_cl key_int HQ.out HQ2.out (⟨u1.os, u1.tape, u1.output, u1.size, u1.block⟩ : Upd w6.drew w7.drew r1) (show MapIs w7.drew r1 KCl KI64.enc (ps ++ [(c, b)]) from m1.keep rfl) u2 m2)
      clear hu1 hu2 m1 m2 u1 u2 hTd hBd bc6
      go_region
      go_wp2_with fail
      go_region
      go_wp2
      go_ret
      refine ⟨_, _, rfl, ⟨r1, r2, HP.out.1⟩, ?_, .inr (.inr ⟨by first | rfl | exact HQ.out | trivial, by first | rfl | exact HQ2.out, rfl, rfl⟩)⟩
      exact Ext.trans (Ext.trans HX6.out ⟨(Mod.refl F w6).drew, fun _ h => .inl h⟩) HP.out.2
end Go.Proofs.Ytdeilmllgbajbaa
