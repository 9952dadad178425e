import Derived.Test.YtnpklhjndominaaK1
namespace Go.Proofs.Ytnpklhjndominaa
open Go.RowKit

theorem flush_wait (M : Nat → List Nat) (c : List (Nat × List Nat)) (A : Nat) : (wait M c A).acted.settled yes = wait (play M c) [] (A + 1) := by
  unfold Dsk.settled
  have e : keptTo yes (wait M c A).acted.c (wait M c A).acted.c.length = c := by
    rw [keptTo_all (p := yes) _ (fun _ => rfl) _ (Nat.le_refl _)]
    exact List.take_length
  rw [e]; rfl
theorem crash_wait (M : Nat → List Nat) (c : List (Nat × List Nat)) (A : Nat) (p : Nat → Bool) : (wait M c A).up.settled p = wait (play M (keptTo p c c.length)) [] A := rfl
/-- a row of flags of the law's own -/
def FlagsA (G : Nat) (T : List Bool) : Asn := fun W H => W.heap[G]? = some (.cells (T.map Value.bool).toArray 4 (0, 0)) ∧ ∀ b, H b ↔ b = G
theorem good_flags (G : Nat) (T : List Bool) : Good (FlagsA G T) := by
  refine ⟨?_, ?_⟩
  · rintro W H ⟨h, he⟩ b hb
    rw [(he b).1 hb]; exact (Array.getElem?_eq_some_iff.1 h).1
  · rintro W W' H ⟨h, he⟩ _ hk
    exact ⟨by rw [hk G ((he G).2 rfl)]; exact h, he⟩
theorem FlagsA.cell {G : Nat} {T : List Bool} {W : World} {H : Nat → Prop} (h : FlagsA G T W H) {s : Nat} {b : Bool} (hs : T[s]? = some b) : W.cell? ⟨G, s, none⟩ = some (.bool b) ∧ W.frozen? ⟨G, s, none⟩ = false :=
  ⟨by rw [cell_of_row _ _ _ _ _ _ h.1]; simp [hs], frozen_of_row W G s _ _ h.1⟩
theorem FlagsA.set {G : Nat} {T : List Bool} {W : World} (h : W.heap[G]? = some (.cells (T.map Value.bool).toArray 4 (0, 0))) (s : Nat) (b : Bool) : (W.setCell ⟨G, s, none⟩ (.bool b)).heap[G]? = some (.cells ((T.set s b).map Value.bool).toArray 4 (0, 0)) := by
  rw [heap_setCell_same W G s _ _ _ h]; simp [List.map_set]
/-- parts of a system of three -/
theorem Sys.three {w wr : World} {X Y Z : Asn} (h : Sys w wr (star X (star Y Z))) : ∃ H1 H2 H3 : Nat → Prop, X wr H1 ∧ Y wr H2 ∧ Z wr H3 := by
  obtain ⟨H, ⟨H1, H23, hX, ⟨H2, H3, hY, hZ, _, _⟩, _, _⟩, _, _⟩ := h
  exact ⟨H1, H2, H3, hX, hY, hZ⟩
theorem Sys.two {w wr : World} {X Y : Asn} (h : Sys w wr (star X Y)) : ∃ H1 H2 : Nat → Prop, X wr H1 ∧ Y wr H2 := by
  obtain ⟨H, ⟨H1, H2, hX, hY, _, _⟩, _, _⟩ := h
  exact ⟨H1, H2, hX, hY⟩
theorem star_comm {A B : Asn} {W : World} {H : Nat → Prop} (h : star A B W H) : star B A W H := by
  obtain ⟨H1, H2, h1, h2, h3, h4⟩ := h
  exact ⟨H2, H1, h2, h1, fun b => by rw [h3 b]; exact Or.comm, fun b hb hb1 => h4 b hb1 hb⟩
theorem play_kept {M : Nat → List Nat} {c : List (Nat × List Nat)} {p : Nat → Bool} {s n : Nat} (h : ∀ x ∈ c, x.1 ≠ s) : play M (keptTo p c n) s = M s := play_none _ _ _ (fun x hx => h x (keptTo_mem hx))
theorem own_farS {B : Nat} {D : Dsk} {w w3 : World} {F : Nat → Prop} {r : Value} {zs : List Bool} (h : OwB w3 w.heap.size r zs) (hF : DkA B D w F) : ∀ b, r.ownBlock = some b → ¬ F b := fun b hb hf => by
  have h1 := (World.ownsRow.lt h b hb).1
  have h2 := (good_dk B D).lt hF b hf
  omega
/-- one more row behind a list of rows -/
theorem rows_next {v : Value} {L : List (List Nat)} {zs : List Nat} {ws w1 w2 : World} {H : Nat → Prop} {ar : Option Addr} {cr k : Nat} {rs : List Value} {v' : Value} {w3 : World} (hk : L.length = k) (hR : RowsAt v L rs w1 H) (hH : ∀ b, H b → ws.heap.size ≤ b) (hbel : Below ws.heap.size ws w1)
    (hr : Ow w2 w1.heap.size (.slice ar 128 cr) zs) (hb2 : Below w1.heap.size w1 w2) (ho : w3.ownsRow 0 27 1 v' (k + 1) (rs ++ [.slice ar 128 cr])) (hg : (w2.alloc (Obj.cells #[.slice ar 128 cr] 27)).grownBy w3 v.ownBlock)
    (hl : v'.ownBlock = v.ownBlock ∨ v'.ownBlock = some (w2.heap.size + 1)) : ∃ H', RowsA v' (L ++ [zs]) w3 H' ∧ (∀ b, H' b → ws.heap.size ≤ b) ∧ Below ws.heap.size ws w3 := by
  have hb23 : Below w1.heap.size w1 (w2.alloc (Obj.cells #[.slice ar 128 cr] 27)) := hb2.trans ((Below.refl _ _).alloc hb2.size _)
  refine ⟨_, rows_app hR hb23 ((hr.mono (Nat.zero_le _)).below ((Below.refl _ _).alloc (Nat.le_refl _) _) (Nat.le_refl _)) ho hk.symm hg, ?_, ?_⟩
  · have hsz := hbel.size
    rintro b (h | h | h)
    · exact hH b h
    · have := (World.ownsRow.lt hr b h).1; omega
    · rcases hl with e | e
      · exact hH b (hR.2.2.2.1 b (by rw [← e, h]))
      · rw [h] at e; simp at e; have := hb2.size; omega
  · exact (hbel.trans (hb23.mono hbel.size)).grown hg (Nat.le_trans hbel.size hb23.size) (fun b hb' => hH b (hR.2.2.2.1 b hb'))
theorem star_last {X A B : Asn} {W : World} {H : Nat → Prop} (h : star X (star A B) W H) : star A (star B X) W H := star_mono (fun _ _ h => star_comm h) (star_swap h)
theorem u8_wrap_nat (n : Nat) : IntKind.u8.wrap (n : Int) = ((n % 256 : Nat) : Int) := by
  have e1 : IntKind.u8.wrap (n : Int) = (n : Int) % 256 := by simp [IntKind.wrap, IntKind.signed, IntKind.bits]
  rw [e1]; omega
theorem World.ownsRow.shape {w : World} {base e size n : Nat} {v : Value} {xs : List Value} (h : w.ownsRow base e size v n xs) : ∃ ao cap, v = .slice ao n cap ∧ n ≤ cap := by
  obtain ⟨_, ⟨h1, h2⟩ | ⟨g, cap, cur, hv, _, _, hn, _⟩⟩ := h
  · exact ⟨none, 0, by rw [h1, h2], by omega⟩
  · exact ⟨_, _, hv, hn⟩
theorem OwI.nil {w : World} {base : Nat} {v : Value} (h : OwI w base v []) : ∃ ao cap, v = .slice ao 0 cap := by
  obtain ⟨ao, cap, h1, _⟩ := World.ownsRow.shape h
  exact ⟨ao, cap, h1⟩
end Go.Proofs.Ytnpklhjndominaa
