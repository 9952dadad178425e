import Derived.Test.YtdeilmllgbajbaaBC
namespace Go.Proofs.Ytdeilmllgbajbaa
open Go.RowKit

/-- one tie of the call's own -/
def Sz (w W : World) (X : Nat) (L : List (Int × Int)) : Prop := ∃ F, TP W F X L ∧ Tight L ∧ (∀ b, F b → w.heap.size ≤ b) ∧ Below w.heap.size w W
section
variable {w W W' : World} {X : Nat} {L : List (Int × Int)}
theorem Sz.bel (h : Sz w W X L) : Below w.heap.size w W := by obtain ⟨F, _, _, _, h⟩ := h; exact h
theorem Sz.below (h : Sz w W X L) (hb : Below W.heap.size W W') : Sz w W' X L := by
  obtain ⟨F, h1, h2, h3, h4⟩ := h; exact ⟨F, h1.below hb, h2, h3, h4.trans (hb.mono h4.size)⟩
theorem Sz.new (hb : Below w.heap.size w W) : Calls Try.prog 6 #[] W fun x W' => ∃ X, x = .returned (.pointer (some ⟨X, 0, none⟩)) ∧ Sz w W' X [] := by
  refine (newP_any W).mono ?_
  rintro x W' ⟨rfl, hT, hx⟩
  exact ⟨_, rfl, _, hT, Tight.nil, fun b hb' => by have := hb.size; omega, hb.trans (hx.mono hb.size)⟩
theorem Sz.tie (h : Sz w W X L) (a b : Int) : Calls Try.prog 7 #[.pointer (some ⟨X, 0, none⟩), .int .i64 a, (cl b).val] W fun x W' => x = .returned (.bool (tieR L a b)) ∧ Sz w W' X (tieL L a b) := by
  obtain ⟨F, h1, h2, h3, h4⟩ := h
  refine (tieP_L h1 a b).mono ?_
  rintro x W' ⟨rfl, hT, hx⟩
  exact ⟨rfl, F, hT, h2.tie a b, h3, h4.trans (hx.mod.below h3 h4.size)⟩
theorem Sz.cut (h : Sz w W X L) (a : Int) : Calls Try.prog 9 #[.pointer (some ⟨X, 0, none⟩), .int .i64 a] W fun x W' => x = .returned (.bool (atI L a).isSome) ∧ Sz w W' X (cutL L a) := by
  obtain ⟨F, h1, h2, h3, h4⟩ := h
  refine (cutP_L h1 h2 a).mono ?_
  rintro x W' ⟨rfl, hT, hx⟩
  exact ⟨rfl, F, hT, h2.cut a, h3, h4.trans (hx.mod.below h3 h4.size)⟩
theorem Sz.to (h : Sz w W X L) (a : Int) : Calls Try.prog 14 #[.pointer (some ⟨X, 0, none⟩), .int .i64 a] W fun x W' => x = .returned (.tuple #[(((atI L a).map cl).getD Cl.zero).val, .bool (atI L a).isSome]) ∧ Sz w W' X L := by
  have h' := h
  obtain ⟨F, h1, h2, h3, h4⟩ := h
  refine (toP_L h1 a).mono ?_
  rintro x W' ⟨rfl, hx⟩
  exact ⟨rfl, h'.below hx⟩
theorem Sz.len (h : Sz w W X L) : Calls Try.prog 12 #[.pointer (some ⟨X, 0, none⟩)] W fun x W' => x = .returned (.int .i64 (L.length : Nat)) ∧ W' = W := by
  obtain ⟨F, h1, _⟩ := h; exact lenP_L h1
end
theorem cell_agg (w : World) (v : Int) : Calls Try.prog 8 #[.int .i64 v] w fun x w' => x = .returned (.agg #[.string (cl v).s, .int .i64 (cl v).a, .int .i64 (cl v).b]) ∧ Below w.heap.size w w' := cell_any w v
theorem t1 : tieL [] 1 2 = [(1, 2)] ∧ tieR [] 1 2 = true ∧ tieL [(1, 2)] 3 2 = [(1, 2)] ∧ tieR [(1, 2)] 3 2 = false ∧ atI [(1, 2)] 1 = some 2 := by decide
set_option maxRecDepth 8000 in
set_option maxHeartbeats 1600000 in
theorem tied_any (w : World) : Calls Try.prog 5 #[] w fun x w' => x = .returned (.bool true) ∧ Below w.heap.size w w' := by
  obtain ⟨e1, e2, e3, e4, e5⟩ := t1
  have HE := hide (And.intro e1 (And.intro e2 (And.intro e3 (And.intro e4 e5))))
  clear e1 e2 e3 e4 e5
  have h26 := eq26'
  go_enter Try.func5, Try.ntmps5
  go_wp2_with fail
  refine (Sz.new (Below.refl w.heap.size w)).mono ?_
  rintro e w1 ⟨X, rfl, hz⟩
  have HZ1 := hide hz
  clear hz
  go_wp2_with fail
  refine (cell_agg _ 2).mono ?_
  rintro e w2 ⟨rfl, hb2⟩
  have HZ2 := hide (HZ1.out.below hb2)
  clear hb2 HZ1
  go_wp2_with fail
  refine (HZ2.out.tie 1 2).mono ?_
  rintro e w3 ⟨rfl, hz⟩
  rw [HE.out.1] at hz
  rw [HE.out.2.1]
  have HZ3 := hide hz
  clear hz HZ2
  go_wp2_with fail
  refine (cell_agg _ 2).mono ?_
  rintro e w4 ⟨rfl, hb4⟩
  have HZ4 := hide (HZ3.out.below hb4)
  clear hb4 HZ3
  go_wp2_with fail
  refine (HZ4.out.tie 3 2).mono ?_
  rintro e w5 ⟨rfl, hz⟩
  rw [HE.out.2.2.1] at hz
  rw [HE.out.2.2.2.1]
  have HZ5 := hide hz
  clear hz HZ4
  go_wp2_with fail
  refine (HZ5.out.to 1).mono ?_
  rintro e w6 ⟨rfl, hz⟩
  rw [HE.out.2.2.2.2]
  simp only [Option.map_some, Option.getD_some, Option.isSome_some, Cl.val]
  have HZ6 := hide (hz.below ((Below.refl w6.heap.size w6).alloc (Nat.le_refl _) (.cells #[.string (cl 2).s, .int .i64 (cl 2).a, .int .i64 (cl 2).b] 28)))
  have b6 := heap_alloc_new w6 (.cells #[.string (cl 2).s, .int .i64 (cl 2).a, .int .i64 (cl 2).b] 28)
  have HC := hide (fun w => cell_agg w 2)
  clear hz HZ5 HE
  generalize cl 2 = c at *
  go_wp2_with fail
  generalize w6.alloc (.cells #[.string c.s, .int .i64 c.a, .int .i64 c.b] 28) = w7 at *
  obtain ⟨q0, q1, q2, _, _, _⟩ := blk3 b6
  have HKp : Hid (∀ W, Below w7.heap.size w7 W → W.cell? ⟨w6.heap.size, 0, none⟩ = some (.string c.s) ∧ W.cell? ⟨w6.heap.size, 1, none⟩ = some (.int .i64 c.a) ∧ W.cell? ⟨w6.heap.size, 2, none⟩ = some (.int .i64 c.b)) := hide (fun W hW => by
    obtain ⟨c0, c1, c2, _, _, _⟩ := blk3 ((hW.block _ (Array.getElem?_eq_some_iff.1 b6).1).trans b6)
    exact ⟨c0, c1, c2⟩)
  have HBd : Hid (Below w7.heap.size w7 w7.drew) := hide (Below.refl _ _).drew
  clear b6
  go_region_held (fun W => W.cell? ⟨w6.heap.size, 0, none⟩ = some (.string c.s) ∧ W.cell? ⟨w6.heap.size, 1, none⟩ = some (.int .i64 c.a) ∧ W.cell? ⟨w6.heap.size, 2, none⟩ = some (.int .i64 c.b))
    (first | assumption | exact q8 | exact And.intro q0 (And.intro q1 q2))
    (first
      | (go_at_call 8; refine (HC.out _).mono ?_; rintro e w8 ⟨rfl, hb8⟩
         have HB8 := hide (HBd.out.trans (hb8.mono HBd.out.size))
         have q8 := HKp.out _ HB8.out
         clear hb8)
      | (go_at_call 12; refine ((HZ6.out.below HB8.out).len).mono ?_; rintro e w9 ⟨rfl, rfl⟩))
  go_wp2
  go_ret
  exact ⟨rfl, (HZ6.out.below HB8.out).bel⟩
end Go.Proofs.Ytdeilmllgbajbaa
