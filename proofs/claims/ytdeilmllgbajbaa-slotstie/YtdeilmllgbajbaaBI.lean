import Derived.Test.YtdeilmllgbajbaaBH
namespace Go.Proofs.Ytdeilmllgbajbaa
open Go.RowKit

theorem results_row1 {P : Program} {fn : Func} {p : Tmp} {ty : TypeId} (h : fn.results = #[.cell p ty]) (tmps : Array Value) (w : World) (g : Nat) (t : TypeId) (cs : Array Value) (fr : Nat × Nat) (d : TypeDesc)
    (hp : tmps.getD p undef = .pointer (some ⟨g, 0, none⟩)) (hg : w.heap[g]? = some (.cells cs t fr))
    (hu : P.underlying ty = some d) (hd : (match d with | .struct _ | .array _ _ => true | _ => false) = true) (hi : (P.info? ty).map (·.size) = some cs.size) :
    (results fn tmps).run P w = .ok (.agg cs) w := by
  have hp' : tmps[p]?.getD undef = .pointer (some ⟨g, 0, none⟩) := by simpa using hp
  unfold results
  simp [h, hp', asAddr, run_loadVar_row w g t ty cs fr d hg hu hd hi]
theorem blk4 {w1 : World} {b : Nat} {x0 x1 x2 x3 : Value} {t : TypeId} (h : w1.heap[b]? = some (.cells #[x0, x1, x2, x3] t (0, 0))) :
    (w1.cell? ⟨b, 0, none⟩ = some x0 ∧ w1.cell? ⟨b, 1, none⟩ = some x1 ∧ w1.cell? ⟨b, 2, none⟩ = some x2 ∧ w1.cell? ⟨b, 3, none⟩ = some x3) ∧ ∀ j, w1.frozen? ⟨b, j, none⟩ = false :=
  ⟨row4 h, fun _ => frozen_of_row _ _ _ _ _ h⟩
theorem set4 {w : World} {b : Nat} {x0 x1 x2 x3 : Value} {t : TypeId} (h : w.heap[b]? = some (.cells #[x0, x1, x2, x3] t (0, 0))) (y0 y1 y2 y3 : Value) :
    ((((w.setCell ⟨b, 0, none⟩ y0).setCell ⟨b, 1, none⟩ y1).setCell ⟨b, 2, none⟩ y2).setCell ⟨b, 3, none⟩ y3).heap[b]? = some (.cells #[y0, y1, y2, y3] t (0, 0)) := by
  have h1 := heap_setCell_same _ b 0 _ _ y0 h
  have h2 := heap_setCell_same _ b 1 _ _ y1 h1
  have h3 := heap_setCell_same _ b 2 _ _ y2 h2
  exact heap_setCell_same _ b 3 _ _ y3 h3
theorem set4_other {w : World} {b x : Nat} (hne : x ≠ b) (y0 y1 y2 y3 : Value) :
    ((((w.setCell ⟨b, 0, none⟩ y0).setCell ⟨b, 1, none⟩ y1).setCell ⟨b, 2, none⟩ y2).setCell ⟨b, 3, none⟩ y3).heap[x]? = w.heap[x]? := by
  rw [heap_setCell_other _ _ _ _ hne, heap_setCell_other _ _ _ _ hne, heap_setCell_other _ _ _ _ hne, heap_setCell_other _ _ _ _ hne]
theorem Kt.keep {w w' : World} {G : Nat → Prop} {tn : Bool} {X R : Nat} {L : List (Int × Int)} (h : Kt w G tn X R L) (hs : w.heap.size ≤ w'.heap.size) (hk : ∀ x, G x → w'.heap[x]? = w.heap[x]?) : Kt w' G tn X R L := by
  obtain ⟨h0, FX, FR, h1, h2, h3, h4⟩ := h
  exact ⟨h0, FX, FR, h1.keep hs (fun x hx => hk x ((h4 x).2 (.inl hx))), h2.keep hs (fun x hx => hk x ((h4 x).2 (.inr hx))), h3, h4⟩
theorem Kt.lt {w : World} {G : Nat → Prop} {tn : Bool} {X R : Nat} {L : List (Int × Int)} (h : Kt w G tn X R L) : ∀ x, G x → x < w.heap.size := by
  obtain ⟨h0, FX, FR, h1, h2, h3, h4⟩ := h
  intro x hx
  rcases (h4 x).1 hx with h | h
  · exact h1.lt x h
  · exact h2.lt x h
set_option maxHeartbeats 3200000 in
theorem turn_f (w : World) (G : Nat → Prop) (X R : Nat) (L : List (Int × Int)) (h : Kt w G false X R L) (hL : L.length < 4398046511104) : Calls Try.prog 22 #[.agg #[.bool false, .pointer (some ⟨X, 0, none⟩), .pointer none, .pointer (some ⟨R, 0, none⟩)]] w fun e w' => ∃ C U G', e = .returned (.agg #[.bool true, .pointer none, .pointer (some ⟨C, 0, none⟩), .pointer (some ⟨U, 0, none⟩)]) ∧ Kt w' G' true C U (sw L) ∧ (∀ x, G' x → w.heap.size ≤ x) ∧ Below w.heap.size w w' := by
  have HTi := hide h.1
  obtain ⟨_, FX, FR, h1, h2, _, _⟩ := h
  have hb := (((Below.refl w.heap.size w).alloc (Nat.le_refl _) (.cells #[.bool false, .pointer (some ⟨X, 0, none⟩), .pointer none, .pointer (some ⟨R, 0, none⟩)] 47)).alloc (by simp) (.cells #[.bool false, .pointer none, .pointer none, .pointer none] 47))
  have b0 : ((w.alloc (.cells #[.bool false, .pointer (some ⟨X, 0, none⟩), .pointer none, .pointer (some ⟨R, 0, none⟩)] 47)).alloc (.cells #[.bool false, .pointer none, .pointer none, .pointer none] 47)).heap[w.heap.size]? = some (.cells #[.bool false, .pointer (some ⟨X, 0, none⟩), .pointer none, .pointer (some ⟨R, 0, none⟩)] 47) := by rw [Below.heap_alloc _ _ _ (by simp)]; exact heap_alloc_new _ _
  have b1 : ((w.alloc (.cells #[.bool false, .pointer (some ⟨X, 0, none⟩), .pointer none, .pointer (some ⟨R, 0, none⟩)] 47)).alloc (.cells #[.bool false, .pointer none, .pointer none, .pointer none] 47)).heap[w.heap.size + 1]? = some (.cells #[.bool false, .pointer none, .pointer none, .pointer none] 47) := by
    have := heap_alloc_new (w.alloc (.cells #[.bool false, .pointer (some ⟨X, 0, none⟩), .pointer none, .pointer (some ⟨R, 0, none⟩)] 47)) (.cells #[.bool false, .pointer none, .pointer none, .pointer none] 47)
    simpa using this
  have HX := hide (h1.below hb)
  have HR := hide (h2.below hb)
  have HB := hide hb
  have hs4 : w.heap.size + 1 < ((w.alloc (.cells #[.bool false, .pointer (some ⟨X, 0, none⟩), .pointer none, .pointer (some ⟨R, 0, none⟩)] 47)).alloc (.cells #[.bool false, .pointer none, .pointer none, .pointer none] 47)).heap.size := by simp
  obtain ⟨⟨s0, s1, s2, s3⟩, _⟩ := blk4 b0
  have Hb0 := hide b0
  have Hb1 := hide b1
  clear h1 h2 hb b0 b1
  go_enter Try.func22, Try.ntmps22
  go_wp2
  generalize (w.alloc (.cells #[.bool false, .pointer (some ⟨X, 0, none⟩), .pointer none, .pointer (some ⟨R, 0, none⟩)] 47)).alloc (.cells #[.bool false, .pointer none, .pointer none, .pointer none] 47) = w4 at *
  have HBd : Hid (Below w4.heap.size w4 w4.drew) := hide (Below.refl _ _).drew
  have HKc : Hid (∀ W, Below w4.heap.size w4 W → W.cell? ⟨w.heap.size, 1, none⟩ = some (.pointer (some ⟨X, 0, none⟩)) ∧ W.cell? ⟨w.heap.size, 3, none⟩ = some (.pointer (some ⟨R, 0, none⟩))) := hide (fun W hW => by
    obtain ⟨⟨_, t1, t2, t3⟩, _⟩ := blk4 ((hW.block _ (by omega)).trans Hb0.out)
    exact ⟨t1, t3⟩)
  go_region_held (fun W => W.cell? ⟨w.heap.size, 1, none⟩ = some (.pointer (some ⟨X, 0, none⟩)) ∧ W.cell? ⟨w.heap.size, 3, none⟩ = some (.pointer (some ⟨R, 0, none⟩)))
    (first | assumption | exact qS _ _ _ _ | exact q9 | exact q8 | exact And.intro s1 s3)
    (first
      | (go_at_call 10; refine (turnP_L (HX.out.below HBd.out)).mono ?_; rintro e w8 ⟨C, FC, rfl, hTC, hloC, hb8⟩
         have HB8 := hide (HBd.out.trans (hb8.mono HBd.out.size))
         have HC8 := hide (And.intro hTC hloC)
         have q8 := HKc.out _ HB8.out
         clear hTC hloC hb8)
      | (go_at_call 34; refine (turnRb_any _ FR R L (HR.out.below HB8.out) (Nat.le_of_lt hL)).mono ?_; rintro e w9 ⟨U, FU, rfl, hTU, hloU, hb9⟩
         have HB9 := hide (HB8.out.trans (hb9.mono HB8.out.size))
         have hC9 := (show PT w8 FC true C (sw L) from HC8.out.1).below hb9
         have HK9 : Hid (Kt w9 (fun x => FC x ∨ FU x) true C U (sw L)) := hide ⟨HTi.out.sw, FC, FU, hC9, hTU, fun x h1 h2 => by have := (show PT w8 FC true C (sw L) from HC8.out.1).lt x h1; have := hloU x h2; omega, fun x => Iff.rfl⟩
         have HLo9 : Hid (∀ x, (FC x ∨ FU x) → w4.heap.size ≤ x) := hide (fun x hx => by
           rcases hx with hx | hx
           · have := HC8.out.2 x hx; have := HBd.out.size; omega
           · have := hloU x hx; have := HB8.out.size; omega)
         have b9 := (HB9.out.block _ hs4).trans Hb1.out
         obtain ⟨⟨r0, r1, r2, r3⟩, rf⟩ := blk4 b9
         have rf0 := rf 0
         have rf1 := rf 1
         have rf2 := rf 2
         have rf3 := rf 3
         have q9 := HKc.out _ HB9.out
         have Hb9 := hide b9
         have qS : ∀ y0 y1 y2 y3 : Value, ((((w9.setCell ⟨w.heap.size + 1, 0, none⟩ y0).setCell ⟨w.heap.size + 1, 1, none⟩ y1).setCell ⟨w.heap.size + 1, 2, none⟩ y2).setCell ⟨w.heap.size + 1, 3, none⟩ y3).cell? ⟨w.heap.size, 1, none⟩ = some (.pointer (some ⟨X, 0, none⟩)) ∧ ((((w9.setCell ⟨w.heap.size + 1, 0, none⟩ y0).setCell ⟨w.heap.size + 1, 1, none⟩ y1).setCell ⟨w.heap.size + 1, 2, none⟩ y2).setCell ⟨w.heap.size + 1, 3, none⟩ y3).cell? ⟨w.heap.size, 3, none⟩ = some (.pointer (some ⟨R, 0, none⟩)) := fun y0 y1 y2 y3 => by
           rw [World.cell?_of_block (a := ⟨w.heap.size, 1, none⟩) (set4_other (by show w.heap.size ≠ w.heap.size + 1; omega) y0 y1 y2 y3), World.cell?_of_block (a := ⟨w.heap.size, 3, none⟩) (set4_other (by show w.heap.size ≠ w.heap.size + 1; omega) y0 y1 y2 y3)]
           exact q9
         clear hTU hloU hb9 hC9 b9 rf))
  have HF : Hid ((∃ G', Kt ((((w9.setCell ⟨w.heap.size + 1, 0, none⟩ (.bool true)).setCell ⟨w.heap.size + 1, 1, none⟩ (.pointer none)).setCell ⟨w.heap.size + 1, 2, none⟩ (.pointer (some ⟨C, 0, none⟩))).setCell ⟨w.heap.size + 1, 3, none⟩ (.pointer (some ⟨U, 0, none⟩))) G' true C U (sw L) ∧ ∀ x, G' x → w.heap.size ≤ x) ∧ Below w.heap.size w ((((w9.setCell ⟨w.heap.size + 1, 0, none⟩ (.bool true)).setCell ⟨w.heap.size + 1, 1, none⟩ (.pointer none)).setCell ⟨w.heap.size + 1, 2, none⟩ (.pointer (some ⟨C, 0, none⟩))).setCell ⟨w.heap.size + 1, 3, none⟩ (.pointer (some ⟨U, 0, none⟩))) ∧ ((((w9.setCell ⟨w.heap.size + 1, 0, none⟩ (.bool true)).setCell ⟨w.heap.size + 1, 1, none⟩ (.pointer none)).setCell ⟨w.heap.size + 1, 2, none⟩ (.pointer (some ⟨C, 0, none⟩))).setCell ⟨w.heap.size + 1, 3, none⟩ (.pointer (some ⟨U, 0, none⟩))).heap[w.heap.size + 1]? = some (.cells #[.bool true, .pointer none, .pointer (some ⟨C, 0, none⟩), .pointer (some ⟨U, 0, none⟩)] 47 (0, 0))) := hide (by
    have s4 := HB.out.size
    refine ⟨⟨_, HK9.out.keep (by simp [World.setCell]) (fun x hx => set4_other (by have := HLo9.out x hx; omega) _ _ _ _), fun x hx => by have := HLo9.out x hx; omega⟩, ?_, set4 Hb9.out _ _ _ _⟩
    exact ((((HB.out.trans (HB9.out.mono s4)).setCell (p := ⟨w.heap.size + 1, 0, none⟩) (by simp) _).setCell (p := ⟨w.heap.size + 1, 1, none⟩) (by simp) _).setCell (p := ⟨w.heap.size + 1, 2, none⟩) (by simp) _).setCell (p := ⟨w.heap.size + 1, 3, none⟩) (by simp) _)
  clear q8 q9 qS r0 r1 r2 r3 rf0 rf1 rf2 rf3 HB9 HK9 HLo9 Hb9 s0 s1 s2 s3
  generalize ((((w9.setCell ⟨w.heap.size + 1, 0, none⟩ (.bool true)).setCell ⟨w.heap.size + 1, 1, none⟩ (.pointer none)).setCell ⟨w.heap.size + 1, 2, none⟩ (.pointer (some ⟨C, 0, none⟩))).setCell ⟨w.heap.size + 1, 3, none⟩ (.pointer (some ⟨U, 0, none⟩))) = wz at *
  go_wp2
  refine bodyPost_ret (results_row1 rfl _ _ (w.heap.size + 1) 47 _ (0, 0) _ rfl HF.out.2.2 Try.underlying47 rfl (by kernel_rfl)) rfl ?_
  obtain ⟨G', g1, g2⟩ := HF.out.1
  exact ⟨C, U, G', rfl, g1, g2, HF.out.2.1⟩
set_option maxHeartbeats 3200000 in
theorem turn_t (w : World) (G : Nat → Prop) (X R : Nat) (L : List (Int × Int)) (h : Kt w G true X R L) (hL : L.length < 4398046511104) : Calls Try.prog 22 #[.agg #[.bool true, .pointer none, .pointer (some ⟨X, 0, none⟩), .pointer (some ⟨R, 0, none⟩)]] w fun e w' => ∃ C U G', e = .returned (.agg #[.bool false, .pointer (some ⟨C, 0, none⟩), .pointer none, .pointer (some ⟨U, 0, none⟩)]) ∧ Kt w' G' false C U (sw L) ∧ (∀ x, G' x → w.heap.size ≤ x) ∧ Below w.heap.size w w' := by
  have HTi := hide h.1
  obtain ⟨_, FX, FR, h1, h2, _, _⟩ := h
  have hb := (((Below.refl w.heap.size w).alloc (Nat.le_refl _) (.cells #[.bool true, .pointer none, .pointer (some ⟨X, 0, none⟩), .pointer (some ⟨R, 0, none⟩)] 47)).alloc (by simp) (.cells #[.bool false, .pointer none, .pointer none, .pointer none] 47))
  have b0 : ((w.alloc (.cells #[.bool true, .pointer none, .pointer (some ⟨X, 0, none⟩), .pointer (some ⟨R, 0, none⟩)] 47)).alloc (.cells #[.bool false, .pointer none, .pointer none, .pointer none] 47)).heap[w.heap.size]? = some (.cells #[.bool true, .pointer none, .pointer (some ⟨X, 0, none⟩), .pointer (some ⟨R, 0, none⟩)] 47) := by rw [Below.heap_alloc _ _ _ (by simp)]; exact heap_alloc_new _ _
  have b1 : ((w.alloc (.cells #[.bool true, .pointer none, .pointer (some ⟨X, 0, none⟩), .pointer (some ⟨R, 0, none⟩)] 47)).alloc (.cells #[.bool false, .pointer none, .pointer none, .pointer none] 47)).heap[w.heap.size + 1]? = some (.cells #[.bool false, .pointer none, .pointer none, .pointer none] 47) := by
    have := heap_alloc_new (w.alloc (.cells #[.bool true, .pointer none, .pointer (some ⟨X, 0, none⟩), .pointer (some ⟨R, 0, none⟩)] 47)) (.cells #[.bool false, .pointer none, .pointer none, .pointer none] 47)
    simpa using this
  have HX := hide (h1.below hb)
  have HR := hide (h2.below hb)
  have HB := hide hb
  have hs4 : w.heap.size + 1 < ((w.alloc (.cells #[.bool true, .pointer none, .pointer (some ⟨X, 0, none⟩), .pointer (some ⟨R, 0, none⟩)] 47)).alloc (.cells #[.bool false, .pointer none, .pointer none, .pointer none] 47)).heap.size := by simp
  obtain ⟨⟨s0, s1, s2, s3⟩, _⟩ := blk4 b0
  have Hb0 := hide b0
  have Hb1 := hide b1
  clear h1 h2 hb b0 b1
  go_enter Try.func22, Try.ntmps22
  go_wp2
  generalize (w.alloc (.cells #[.bool true, .pointer none, .pointer (some ⟨X, 0, none⟩), .pointer (some ⟨R, 0, none⟩)] 47)).alloc (.cells #[.bool false, .pointer none, .pointer none, .pointer none] 47) = w4 at *
  have HBd : Hid (Below w4.heap.size w4 w4.drew) := hide (Below.refl _ _).drew
  have HKc : Hid (∀ W, Below w4.heap.size w4 W → W.cell? ⟨w.heap.size, 2, none⟩ = some (.pointer (some ⟨X, 0, none⟩)) ∧ W.cell? ⟨w.heap.size, 3, none⟩ = some (.pointer (some ⟨R, 0, none⟩))) := hide (fun W hW => by
    obtain ⟨⟨_, t1, t2, t3⟩, _⟩ := blk4 ((hW.block _ (by omega)).trans Hb0.out)
    exact ⟨t2, t3⟩)
  go_region_held (fun W => W.cell? ⟨w.heap.size, 2, none⟩ = some (.pointer (some ⟨X, 0, none⟩)) ∧ W.cell? ⟨w.heap.size, 3, none⟩ = some (.pointer (some ⟨R, 0, none⟩)))
    (first | assumption | exact qS _ _ _ _ | exact q9 | exact q8 | exact And.intro s2 s3)
    (first
      | (go_at_call 13; refine (turnQ_L (HX.out.below HBd.out)).mono ?_; rintro e w8 ⟨C, FC, rfl, hTC, hloC, hb8⟩
         have HB8 := hide (HBd.out.trans (hb8.mono HBd.out.size))
         have HC8 := hide (And.intro hTC hloC)
         have q8 := HKc.out _ HB8.out
         clear hTC hloC hb8)
      | (go_at_call 34; refine (turnRb_any _ FR R L (HR.out.below HB8.out) (Nat.le_of_lt hL)).mono ?_; rintro e w9 ⟨U, FU, rfl, hTU, hloU, hb9⟩
         have HB9 := hide (HB8.out.trans (hb9.mono HB8.out.size))
         have hC9 := (show PT w8 FC false C (sw L) from HC8.out.1).below hb9
         have HK9 : Hid (Kt w9 (fun x => FC x ∨ FU x) false C U (sw L)) := hide ⟨HTi.out.sw, FC, FU, hC9, hTU, fun x h1 h2 => by have := (show PT w8 FC false C (sw L) from HC8.out.1).lt x h1; have := hloU x h2; omega, fun x => Iff.rfl⟩
         have HLo9 : Hid (∀ x, (FC x ∨ FU x) → w4.heap.size ≤ x) := hide (fun x hx => by
           rcases hx with hx | hx
           · have := HC8.out.2 x hx; have := HBd.out.size; omega
           · have := hloU x hx; have := HB8.out.size; omega)
         have b9 := (HB9.out.block _ hs4).trans Hb1.out
         obtain ⟨⟨r0, r1, r2, r3⟩, rf⟩ := blk4 b9
         have rf0 := rf 0
         have rf1 := rf 1
         have rf2 := rf 2
         have rf3 := rf 3
         have q9 := HKc.out _ HB9.out
         have Hb9 := hide b9
         have qS : ∀ y0 y1 y2 y3 : Value, ((((w9.setCell ⟨w.heap.size + 1, 0, none⟩ y0).setCell ⟨w.heap.size + 1, 1, none⟩ y1).setCell ⟨w.heap.size + 1, 2, none⟩ y2).setCell ⟨w.heap.size + 1, 3, none⟩ y3).cell? ⟨w.heap.size, 2, none⟩ = some (.pointer (some ⟨X, 0, none⟩)) ∧ ((((w9.setCell ⟨w.heap.size + 1, 0, none⟩ y0).setCell ⟨w.heap.size + 1, 1, none⟩ y1).setCell ⟨w.heap.size + 1, 2, none⟩ y2).setCell ⟨w.heap.size + 1, 3, none⟩ y3).cell? ⟨w.heap.size, 3, none⟩ = some (.pointer (some ⟨R, 0, none⟩)) := fun y0 y1 y2 y3 => by
           rw [World.cell?_of_block (a := ⟨w.heap.size, 2, none⟩) (set4_other (by show w.heap.size ≠ w.heap.size + 1; omega) y0 y1 y2 y3), World.cell?_of_block (a := ⟨w.heap.size, 3, none⟩) (set4_other (by show w.heap.size ≠ w.heap.size + 1; omega) y0 y1 y2 y3)]
           exact q9
         clear hTU hloU hb9 hC9 b9 rf))
  have HF : Hid ((∃ G', Kt ((((w9.setCell ⟨w.heap.size + 1, 0, none⟩ (.bool false)).setCell ⟨w.heap.size + 1, 1, none⟩ (.pointer (some ⟨C, 0, none⟩))).setCell ⟨w.heap.size + 1, 2, none⟩ (.pointer none)).setCell ⟨w.heap.size + 1, 3, none⟩ (.pointer (some ⟨U, 0, none⟩))) G' false C U (sw L) ∧ ∀ x, G' x → w.heap.size ≤ x) ∧ Below w.heap.size w ((((w9.setCell ⟨w.heap.size + 1, 0, none⟩ (.bool false)).setCell ⟨w.heap.size + 1, 1, none⟩ (.pointer (some ⟨C, 0, none⟩))).setCell ⟨w.heap.size + 1, 2, none⟩ (.pointer none)).setCell ⟨w.heap.size + 1, 3, none⟩ (.pointer (some ⟨U, 0, none⟩))) ∧ ((((w9.setCell ⟨w.heap.size + 1, 0, none⟩ (.bool false)).setCell ⟨w.heap.size + 1, 1, none⟩ (.pointer (some ⟨C, 0, none⟩))).setCell ⟨w.heap.size + 1, 2, none⟩ (.pointer none)).setCell ⟨w.heap.size + 1, 3, none⟩ (.pointer (some ⟨U, 0, none⟩))).heap[w.heap.size + 1]? = some (.cells #[.bool false, .pointer (some ⟨C, 0, none⟩), .pointer none, .pointer (some ⟨U, 0, none⟩)] 47 (0, 0))) := hide (by
    have s4 := HB.out.size
    refine ⟨⟨_, HK9.out.keep (by simp [World.setCell]) (fun x hx => set4_other (by have := HLo9.out x hx; omega) _ _ _ _), fun x hx => by have := HLo9.out x hx; omega⟩, ?_, set4 Hb9.out _ _ _ _⟩
    exact ((((HB.out.trans (HB9.out.mono s4)).setCell (p := ⟨w.heap.size + 1, 0, none⟩) (by simp) _).setCell (p := ⟨w.heap.size + 1, 1, none⟩) (by simp) _).setCell (p := ⟨w.heap.size + 1, 2, none⟩) (by simp) _).setCell (p := ⟨w.heap.size + 1, 3, none⟩) (by simp) _)
  clear q8 q9 qS r0 r1 r2 r3 rf0 rf1 rf2 rf3 HB9 HK9 HLo9 Hb9 s0 s1 s2 s3
  generalize ((((w9.setCell ⟨w.heap.size + 1, 0, none⟩ (.bool false)).setCell ⟨w.heap.size + 1, 1, none⟩ (.pointer (some ⟨C, 0, none⟩))).setCell ⟨w.heap.size + 1, 2, none⟩ (.pointer none)).setCell ⟨w.heap.size + 1, 3, none⟩ (.pointer (some ⟨U, 0, none⟩))) = wz at *
  go_wp2
  refine bodyPost_ret (results_row1 rfl _ _ (w.heap.size + 1) 47 _ (0, 0) _ rfl HF.out.2.2 Try.underlying47 rfl (by kernel_rfl)) rfl ?_
  obtain ⟨G', g1, g2⟩ := HF.out.1
  exact ⟨C, U, G', rfl, g1, g2, HF.out.2.1⟩
end Go.Proofs.Ytdeilmllgbajbaa
