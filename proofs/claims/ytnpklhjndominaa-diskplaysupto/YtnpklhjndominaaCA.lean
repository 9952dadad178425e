import Derived.Test.YtnpklhjndominaaC9
namespace Go.Proofs.Ytnpklhjndominaa
open Go.RowKit

/-- a disk at B whatever it holds, with at most n acts and at most n writes in its cache -/
def AnyD (B n : Nat) : Asn := fun w F => ∃ D : Dsk, DkA B D w F ∧ D.acts ≤ n ∧ D.c.length ≤ n
theorem good_any (B n : Nat) : Good (AnyD B n) := by
  refine ⟨?_, ?_⟩
  · rintro W H ⟨D, h, _⟩; exact (good_dk B D).lt h
  · rintro W W' H ⟨D, h, h2⟩ hs hk; exact ⟨D, (good_dk B D).keep h hs hk, h2⟩
theorem write_some {B n : Nat} {w : World} {F : Nat → Prop} (hd : AnyD B n w F) (hn : n < 100000000) (z : Int) (v : Value) (zs : List Nat) (hv : Rd w v zs) (hz : ∀ x ∈ zs, x < 256) (hnF : ∀ b, v.ownBlock = some b → ¬ F b) :
    Calls Try.prog 14 #[dp B, .int .i64 z, v] w fun e w' => ∃ k : Int, e = .returned (.int .i64 k) ∧ ∃ F', AnyD B (n + 1) w' F' ∧ Ext F w F' w' := by
  obtain ⟨D, hd, h1, h2⟩ := hd
  by_cases hr : z < 0 ∨ 1024 ≤ z
  · refine (write_out B z v w hr).mono ?_
    rintro e w' ⟨rfl, rfl⟩
    exact ⟨40, rfl, F, ⟨D, hd, by omega, by omega⟩, Ext.refl _ _⟩
  · obtain ⟨s, rfl⟩ : ∃ s : Nat, z = (s : Int) := ⟨z.toNat, by omega⟩
    have hs : s < 1024 := by omega
    obtain ⟨ao, cap, hvv⟩ := hv.len
    by_cases hl : zs.length = 128
    · by_cases hno : D.down = true ∨ (D.armed = true ∧ D.left = 0)
      · rw [hvv, hl]
        refine (write_no hd s cap ao hs hno).mono ?_
        rintro e w' ⟨rfl, h3, h4⟩
        exact ⟨42, rfl, F, ⟨D.off, h3, by show D.acts ≤ _; omega, by show D.c.length ≤ _; omega⟩, h4⟩
      · refine (write_ok hd s v zs hs hv ⟨hl, hz⟩ hnF (by cases h : D.down; rfl; exact absurd (.inl h) hno) (fun h h' => hno (.inr ⟨h, h'⟩)) (by omega) (by omega)).mono ?_
        rintro e w' ⟨rfl, F', h3, h4⟩
        exact ⟨0, rfl, F', ⟨_, h3, by show D.acts + 1 ≤ _; omega, by show (D.c ++ [_]).length ≤ _; simp; omega⟩, h4⟩
    · rw [hvv]
      refine (write_size B s zs.length cap ao w hs hl).mono ?_
      rintro e w' ⟨rfl, rfl⟩
      exact ⟨41, rfl, F, ⟨D, hd, by omega, by omega⟩, Ext.refl _ _⟩
theorem flush_some {B n : Nat} {w : World} {F : Nat → Prop} (hd : AnyD B n w F) (hn : n < 100000000) : Calls Try.prog 17 #[dp B] w fun e w' => ∃ k : Int, e = .returned (.int .i64 k) ∧ ∃ F', AnyD B (n + 1) w' F' ∧ Ext F w F' w' := by
  obtain ⟨D, hd, h1, h2⟩ := hd
  by_cases hno : D.down = true ∨ (D.armed = true ∧ D.left = 0)
  · refine (flush_no hd hno).mono ?_
    rintro e w' ⟨rfl, h3, h4⟩
    exact ⟨42, rfl, F, ⟨D.off, h3, by show D.acts ≤ _; omega, by show D.c.length ≤ _; omega⟩, h4⟩
  · refine (flush_ok hd (by cases h : D.down; rfl; exact absurd (.inl h) hno) (fun h h' => hno (.inr ⟨h, h'⟩)) (by omega)).mono ?_
    rintro e w' ⟨rfl, F', h3, h4⟩
    exact ⟨0, rfl, F', ⟨_, h3, by show D.acts + 1 ≤ _; omega, by show ([] : List (Nat × List Nat)).length ≤ _; simp⟩, h4⟩
theorem arm_some {B n : Nat} {w : World} {F : Nat → Prop} (hd : AnyD B n w F) (z : Int) (hz : z ≤ 9223372036854775807) : Calls Try.prog 19 #[dp B, .int .i64 z] w fun e w' => ∃ k : Int, e = .returned (.int .i64 k) ∧ ∃ F', AnyD B (n + 1) w' F' ∧ Ext F w F' w' := by
  obtain ⟨D, hd, h1, h2⟩ := hd
  by_cases h0 : z < 0
  · refine (arm_neg z h0).mono ?_
    rintro e w' ⟨rfl, rfl⟩
    exact ⟨1, rfl, F, ⟨D, hd, by omega, by omega⟩, Ext.refl _ _⟩
  · obtain ⟨s, rfl⟩ : ∃ s : Nat, z = (s : Int) := ⟨z.toNat, by omega⟩
    cases hw : D.down
    · refine (arm_ok hd s (by omega) hw).mono ?_
      rintro e w' ⟨rfl, h3, h4⟩
      exact ⟨0, rfl, F, ⟨_, h3, by show D.acts ≤ _; omega, by show D.c.length ≤ _; omega⟩, h4⟩
    · refine (arm_down hd s hw).mono ?_
      rintro e w' ⟨rfl, rfl⟩
      exact ⟨42, rfl, F, ⟨D, hd, by omega, by omega⟩, Ext.refl _ _⟩
theorem crash_some {B n : Nat} {w : World} {F : Nat → Prop} (hd : AnyD B n w F) (v : Value) (ks : List Bool) (hr : RdB w v ks) (hnF : ∀ b, v.ownBlock = some b → ¬ F b) : Calls Try.prog 22 #[dp B, v] w fun e w' => ∃ k : Int, e = .returned (.int .i64 k) ∧ ∃ F', AnyD B (n + 1) w' F' ∧ Ext F w F' w' := by
  obtain ⟨D, hd, h1, h2⟩ := hd
  refine (crash_any hd v ks hr hnF).mono ?_
  rintro e w' ⟨rfl, F', h3, h4⟩
  exact ⟨_, rfl, F', ⟨_, h3, by show D.acts ≤ _; omega, by show ([] : List (Nat × List Nat)).length ≤ _; simp⟩, h4⟩
theorem edit_some {B n : Nat} {w : World} {F : Nat → Prop} (hd : AnyD B n w F) (z a : Int) (v : Value) (zs : List Nat) (hv : Rd w v zs) (hz : ∀ x ∈ zs, x < 256) (hl : zs.length ≤ 1048576) : Calls Try.prog 25 #[dp B, .int .i64 z, .int .i64 a, v] w fun e w' => ∃ k : Int, e = .returned (.int .i64 k) ∧ ∃ F', AnyD B (n + 1) w' F' ∧ Ext F w F' w' := by
  obtain ⟨D, hd, h1, h2⟩ := hd
  by_cases hr : z < 0 ∨ 1024 ≤ z
  · refine (edit_out B z a v w hr).mono ?_
    rintro e w' ⟨rfl, rfl⟩
    exact ⟨40, rfl, F, ⟨D, hd, by omega, by omega⟩, Ext.refl _ _⟩
  · obtain ⟨s, rfl⟩ : ∃ s : Nat, z = (s : Int) := ⟨z.toNat, by omega⟩
    have hs : s < 1024 := by omega
    by_cases ha : a < 0 ∨ 128 < a + (zs.length : Int)
    · obtain ⟨ao, cap, hvv⟩ := hv.len
      rw [hvv]
      refine (edit_arg B s a zs.length cap ao w hs hl ha).mono ?_
      rintro e w' ⟨rfl, rfl⟩
      exact ⟨1, rfl, F, ⟨D, hd, by omega, by omega⟩, Ext.refl _ _⟩
    · obtain ⟨t, rfl⟩ : ∃ t : Nat, a = (t : Int) := ⟨a.toNat, by omega⟩
      refine (edit_ok hd s t v zs hs hv hz (by omega)).mono ?_
      rintro e w' ⟨rfl, h3, h4⟩
      exact ⟨0, rfl, F, ⟨_, h3, by show D.acts ≤ _; omega, by show D.c.length ≤ _; omega⟩, h4⟩
theorem add_pos' (x : Addr) (i : Nat) (hi : i ≠ 0) : x.add i = ⟨x.block, x.off + i, none⟩ := by
  unfold Addr.add; split <;> simp_all
theorem far_cell {w : World} {x : Addr} {n i : Nat} {v : Value} (hi : i ≠ 0) (h : w.cell? (x.add (n + i)) = some v) : w.cell? ⟨(x.add n).block, (x.add n).off + i, none⟩ = some v := by
  have e : (x.add n).add i = x.add (n + i) := Deep.add_add x n i
  rw [← add_pos' _ i hi, e]; exact h
theorem Sys.call1 {w wr : World} {X : Asn} (h : Sys w wr X) :
    ∃ F : Nat → Prop, X wr F ∧ (∀ b, F b → w.heap.size ≤ b) ∧ ∀ (w' : World) (F' : Nat → Prop) (X' : Asn), X' w' F' → Ext F wr F' w' → Sys w w' X' := by
  obtain ⟨H, h1, hl, hb⟩ := h
  refine ⟨H, h1, hl, fun w' F' X' hT hE => ⟨F', hT, ?_, hb.trans (hE.mod.below hl hb.size)⟩⟩
  intro b hb'
  rcases hE.new b hb' with h5 | h5
  · exact hl b h5
  · have := hb.size; omega
/-- the seven cells of a call's record at block G -/
def Rec (W : World) (G : Nat) (v0 v1 v2 v3 v4 v5 v6 : Value) : Prop := W.heap[G]? = some (.cells #[v0, v1, v2, v3, v4, v5, v6] 30 (0, 0))
theorem Rec.cells {W : World} {G : Nat} {v0 v1 v2 v3 v4 v5 v6 : Value} (h : Rec W G v0 v1 v2 v3 v4 v5 v6) :
    W.cell? ⟨G, 0, none⟩ = some v0 ∧ W.cell? ⟨G, 1, none⟩ = some v1 ∧ W.cell? ⟨G, 2, none⟩ = some v2 ∧ W.cell? ⟨G, 3, none⟩ = some v3 ∧ W.cell? ⟨G, 4, none⟩ = some v4 ∧ W.cell? ⟨G, 5, none⟩ = some v5 ∧ W.cell? ⟨G, 6, none⟩ = some v6 := by
  have e := fun i => cell_of_row W G i _ _ _ h
  exact ⟨by rw [e]; rfl, by rw [e]; rfl, by rw [e]; rfl, by rw [e]; rfl, by rw [e]; rfl, by rw [e]; rfl, by rw [e]; rfl⟩
theorem rec_new (w : World) (v0 v1 v2 v3 v4 v5 v6 : Value) : Rec (w.alloc (Obj.cells #[v0, v1, v2, v3, v4, v5, v6] 30)) w.heap.size v0 v1 v2 v3 v4 v5 v6 := heap_alloc_last _ _
theorem Rec.below {W W' : World} {G : Nat} {v0 v1 v2 v3 v4 v5 v6 : Value} (h : Rec W G v0 v1 v2 v3 v4 v5 v6) (hb : Below W.heap.size W W') : Rec W' G v0 v1 v2 v3 v4 v5 v6 := by
  unfold Rec; rw [hb.block G (Array.getElem?_eq_some_iff.1 h).1]; exact h
theorem Good.below {A : Asn} (h : Good A) {W W' : World} {H : Nat → Prop} (hA : A W H) (hb : Below W.heap.size W W') : A W' H := h.keep hA hb.size (fun b hb' => hb.block b (h.lt hA b hb'))
theorem own_far {B k : Nat} {w w3 : World} {F : Nat → Prop} {r : Value} {zs : List Nat} (h : Ow w3 w.heap.size r zs) (hF : AnyD B k w F) : ∀ b, r.ownBlock = some b → ¬ F b := fun b hb hf => by
  have h1 := (World.ownsRow.lt h b hb).1
  have h2 := (good_any B k).lt hF b hf
  omega
theorem own_farB {B k : Nat} {w w3 : World} {F : Nat → Prop} {r : Value} {zs : List Bool} (h : OwB w3 w.heap.size r zs) (hF : AnyD B k w F) : ∀ b, r.ownBlock = some b → ¬ F b := fun b hb hf => by
  have h1 := (World.ownsRow.lt h b hb).1
  have h2 := (good_any B k).lt hF b hf
  omega
theorem any_mono {B k : Nat} {w : World} {F : Nat → Prop} (h : AnyD B k w F) : AnyD B (k + 1) w F := by
  obtain ⟨D, h1, h2, h3⟩ := h; exact ⟨D, h1, by omega, by omega⟩
theorem Rec.three {W : World} {G : Nat} {v0 v1 v2 v3 v4 v5 v6 : Value} (h : Rec W G v0 v1 v2 v3 v4 v5 v6) : W.cell? ⟨G, 2, none⟩ = some v2 ∧ W.cell? ⟨G, 3, none⟩ = some v3 ∧ W.cell? ⟨G, 4, none⟩ = some v4 := by
  obtain ⟨_, _, h2, h3, h4, _, _⟩ := h.cells; exact ⟨h2, h3, h4⟩
theorem far_not {w : World} {F : Nat → Prop} (h : ∀ b, F b → b < w.heap.size) : ¬ F w.heap.size := fun hf => by have := h _ hf; omega
theorem Rec.mod {W W' : World} {G : Nat} {F : Nat → Prop} {v0 v1 v2 v3 v4 v5 v6 : Value} (h : Rec W G v0 v1 v2 v3 v4 v5 v6) (hb : Mod F W W') (hf : ¬ F G) : Rec W' G v0 v1 v2 v3 v4 v5 v6 := by
  unfold Rec; rw [hb.block G (Array.getElem?_eq_some_iff.1 h).1 hf]; exact h
end Go.Proofs.Ytnpklhjndominaa
