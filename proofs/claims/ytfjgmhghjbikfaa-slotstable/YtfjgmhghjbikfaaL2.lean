import Derived.Test.YtfjgmhghjbikfaaL1
namespace Go.Proofs.Ytfjgmhghjbikfaa
open Go.RowKit

theorem results_row1 {P : Program} {fn : Func} {p : Tmp} {ty : TypeId} (h : fn.results = #[.cell p ty]) (tmps : Array Value) (w : World) (g : Nat) (t : TypeId) (cs : Array Value) (fr : Nat × Nat) (d : TypeDesc)
    (hp : tmps.getD p undef = .pointer (some ⟨g, 0, none⟩)) (hg : w.heap[g]? = some (.cells cs t fr))
    (hu : P.underlying ty = some d) (hd : (match d with | .struct _ | .array _ _ => true | _ => false) = true) (hi : (P.info? ty).map (·.size) = some cs.size) :
    (results fn tmps).run P w = .ok (.agg cs) w := by
  have hp' : tmps[p]?.getD undef = .pointer (some ⟨g, 0, none⟩) := by simpa using hp
  unfold results
  simp [h, hp', asAddr, run_loadVar_row w g t ty cs fr d hg hu hd hi]
def tv (A B R : Nat) : Value := .agg #[.pointer (some ⟨A, 0, none⟩), .pointer (some ⟨B, 0, none⟩), .pointer (some ⟨R, 0, none⟩)]
theorem below_set3 {w W : World} (h : Below w.heap.size w W) {b : Nat} (hb : w.heap.size ≤ b) (x y z : Value) : Below w.heap.size w (((W.setCell ⟨b, 0, none⟩ x).setCell ⟨b, 1, none⟩ y).setCell ⟨b, 2, none⟩ z) :=
  ((h.setCell (p := ⟨b, 0, none⟩) hb x).setCell (p := ⟨b, 1, none⟩) hb y).setCell (p := ⟨b, 2, none⟩) hb z
theorem T3.keep {w w' : World} {FA FB FR : Nat → Prop} {A B R : Nat} {a : List (Option Int)} {b : List (Option Cl)} {r : List (Option Int)} (h : T3 w FA FB FR A B R a b r) (hs : w.heap.size ≤ w'.heap.size) (hk : ∀ x, FA x ∨ FB x ∨ FR x → w'.heap[x]? = w.heap[x]?) : T3 w' FA FB FR A B R a b r :=
  ⟨h.hA.keep hs (fun x hx => hk x (.inl hx)), h.hB.keep hs (fun x hx => hk x (.inr (.inl hx))), h.hR.keep hs (fun x hx => hk x (.inr (.inr hx))), h.dAB, h.dAR, h.dBR⟩
theorem Tri.keep {w w' : World} {G : Nat → Prop} {A B R : Nat} {m : List (Option Int)} (h : Tri w G A B R m) (hs : w.heap.size ≤ w'.heap.size) (hk : ∀ x, G x → w'.heap[x]? = w.heap[x]?) : Tri w' G A B R m := by
  obtain ⟨FA, FB, FR, h, hG⟩ := h
  exact ⟨FA, FB, FR, h.keep hs (fun x hx => hk x ((hG x).2 hx)), hG⟩
theorem Tri.lt {w : World} {G : Nat → Prop} {A B R : Nat} {m : List (Option Int)} (h : Tri w G A B R m) : ∀ x, G x → x < w.heap.size := by
  obtain ⟨FA, FB, FR, h, hG⟩ := h
  intro x hx
  rcases (hG x).1 hx with h1 | h1 | h1
  · exact h.hA.lt x h1
  · exact h.hB.lt x h1
  · exact h.hR.lt x h1
set_option maxHeartbeats 800000 in
theorem made_any (w : World) (n : Int) : Calls Try.prog 5 #[.int .i64 n] w fun e w' => ∃ A B R G, e = .returned (tv A B R) ∧ Tri w' G A B R (List.replicate (clp n) none) ∧ (∀ b, G b → w.heap.size ≤ b) ∧ Below w.heap.size w w' := by
  have b0 := heap_alloc_new w (.cells #[.pointer none, .pointer none, .pointer none] 28)
  have HB0 := hide ((Below.refl w.heap.size w).alloc (Nat.le_refl _) (.cells #[.pointer none, .pointer none, .pointer none] 28))
  have hsz : (w.alloc (.cells #[.pointer none, .pointer none, .pointer none] 28)).heap.size = w.heap.size + 1 := by simp
  go_enter Try.func5, Try.ntmps5
  go_wp2_with fail
  refine (newI_any _ n).mono ?_
  rintro e w1 ⟨rfl, hA, hb1⟩
  have HA := hide hA
  have H1 := hide hb1
  clear hA hb1
  go_wp2_with fail
  refine (newC_any _ n).mono ?_
  rintro e w2 ⟨rfl, hB, hb2⟩
  have HC := hide hB
  have H2 := hide hb2
  clear hB hb2
  go_wp2_with fail
  refine (newR_any _ n).mono ?_
  rintro e w3 ⟨R, FR, rfl, hR, hlo, hb3⟩
  have HR := hide hR
  have HLo := hide hlo
  have H3 := hide hb3
  clear hR hlo hb3
  generalize w.alloc (.cells #[.pointer none, .pointer none, .pointer none] 28) = w0 at *
  have s1 := H1.out.size
  have s2 := H2.out.size
  have s3 := H3.out.size
  have b3 : w3.heap[w.heap.size]? = some (.cells #[.pointer none, .pointer none, .pointer none] 28 (0, 0)) := by
    rw [H3.out.block _ (by omega), H2.out.block _ (by omega), H1.out.block _ (by omega)]; exact b0
  obtain ⟨c0, c1, c2, f0, f1, f2⟩ := blk3 b3
  have HS := hide (fun a b c => set3 b3 a b c)
  have HT : Hid (T3 w3 (fun b => b = w0.heap.size ∨ b = w0.heap.size + 1) (fun b => b = w1.heap.size ∨ b = w1.heap.size + 1) FR (w0.heap.size + 1) (w1.heap.size + 1) R (List.replicate (clp n) none) (mc (List.replicate (clp n) none)) (List.replicate (clp n) none)) := hide (by
    have hl1 : ∀ b, b = w0.heap.size ∨ b = w0.heap.size + 1 → b < w1.heap.size := HA.out.lt
    have hl2 : ∀ b, b = w1.heap.size ∨ b = w1.heap.size + 1 → b < w2.heap.size := HC.out.lt
    refine ⟨(HA.out.below H2.out).below H3.out, ?_, HR.out, fun x h1 h2 => ?_, fun x h1 h2 => ?_, fun x h1 h2 => ?_⟩
    · rw [← mc_rep]; exact HC.out.below H3.out
    · have := hl1 x h1; omega
    · have := hl1 x h1; have := HLo.out x h2; omega
    · have := hl2 x h1; have := HLo.out x h2; omega)
  have HB3 : Hid (Below w.heap.size w w3) := hide (((HB0.out.trans (H1.out.mono (by omega))).trans (H2.out.mono (by omega))).trans (H3.out.mono (by omega)))
  have HF : Hid (∀ x : Nat, ((x = w0.heap.size ∨ x = w0.heap.size + 1) ∨ (x = w1.heap.size ∨ x = w1.heap.size + 1) ∨ FR x) → w.heap.size < x) := hide (fun x hx => by
    rcases hx with h | h | h
    · omega
    · omega
    · have := HLo.out x h; omega)
  rw [hsz] at HT HF
  clear b0 b3 HA HC HR HB0 H1 H2 H3
  go_wp2
  refine bodyPost_ret (results_row1 rfl _ _ w.heap.size 28 _ (0, 0) _ rfl (HS.out _ _ _) Try.underlying28 rfl (by kernel_rfl)) rfl ?_
  refine ⟨_, _, R, fun x => (x = w.heap.size + 1 ∨ x = w.heap.size + 1 + 1) ∨ (x = w1.heap.size ∨ x = w1.heap.size + 1) ∨ FR x, rfl, ⟨_, _, FR, HT.out.keep ?hsz (fun x hx => ?_), fun x => Iff.rfl⟩, fun x hx => Nat.le_of_lt (HF.out x hx), below_set3 HB3.out (Nat.le_refl _) _ _ _⟩
  case hsz => simp [World.setCell]
  have := HF.out x hx
  rw [heap_setCell_other _ _ _ _ (by show x ≠ w.heap.size; omega), heap_setCell_other _ _ _ _ (by show x ≠ w.heap.size; omega), heap_setCell_other _ _ _ _ (by show x ≠ w.heap.size; omega)]
set_option maxHeartbeats 800000 in
theorem whole_any (w : World) (G : Nat → Prop) (A B R : Nat) (m : List (Option Int)) (h : Tri w G A B R m) : Calls Try.prog 6 #[tv A B R] w fun e w' => e = .returned (.bool true) ∧ Below w.heap.size w w' := by
  have hx := (Below.refl w.heap.size w).alloc (Nat.le_refl _) (.cells #[.pointer (some ⟨A, 0, none⟩), .pointer (some ⟨B, 0, none⟩), .pointer (some ⟨R, 0, none⟩)] 28)
  have HB0 := hide hx
  have b0 := heap_alloc_new w (.cells #[.pointer (some ⟨A, 0, none⟩), .pointer (some ⟨B, 0, none⟩), .pointer (some ⟨R, 0, none⟩)] 28)
  obtain ⟨c0, c1, c2, _, _, _⟩ := blk3 b0
  obtain ⟨FA, FB, FR, h, hG⟩ := h
  have hA := h.hA.below hx
  have hB := h.hB.below hx
  have hR := h.hR.below hx
  have H1 := hide (lenR_any _ FR R m hR)
  have H2 := hide (boundI_any _ FA A m hA)
  have H3 := hide (boundC_any _ FB B _ hB)
  have H4 := hide (lenI_any _ FA A m hA)
  have H5 := hide (lenC_any _ FB B _ hB)
  rw [mc_len] at H3
  rw [mc_count] at H5
  obtain ⟨p, q, hR⟩ := hR
  obtain ⟨d0, _⟩ := hR.cells
  unfold tv
  clear h hx hA hB hR b0
  generalize m.countP Option.isSome = cnt at *
  generalize m.length = n at *
  go_enter Try.func6, Try.ntmps6
  go_wp2_with fail
  refine H1.out.mono ?_
  rintro e w1 ⟨rfl, rfl⟩
  go_wp2_with fail
  refine H2.out.mono ?_
  rintro e w2 ⟨rfl, rfl⟩
  go_wp2_with fail
  refine H3.out.mono ?_
  rintro e w3 ⟨rfl, rfl⟩
  go_wp2_with fail
  refine H4.out.mono ?_
  rintro e w4 ⟨rfl, rfl⟩
  go_wp2_with fail
  refine H5.out.mono ?_
  rintro e w5 ⟨rfl, rfl⟩
  go_wp2
  go_ret
  exact ⟨rfl, HB0.out⟩
end Go.Proofs.Ytfjgmhghjbikfaa
