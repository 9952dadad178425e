import Derived.Test.YtogcgccfalfbaaaCB
namespace Go.Proofs.Ytogcgccfalfbaaa
open Go.RowKit

/-- the writes that l asks for -/
def puts (Z : Nat → Int × Nat) (n : Nat) : List (Nat × List Nat) := (List.range n).map (fun k => (pl (Z k).1, List.replicate 128 (Z k).2))
theorem puts_succ (Z : Nat → Int × Nat) (n : Nat) : puts Z (n + 1) = puts Z n ++ [(pl (Z n).1, List.replicate 128 (Z n).2)] := by
  simp [puts, List.range_succ]
theorem puts_len (Z : Nat → Int × Nat) (n : Nat) : (puts Z n).length = n := by simp [puts]
theorem IsPuts.at {w : World} {a : Option Addr} {len : Nat} {Z : Nat → Int × Nat} (h : IsPuts w a len Z) {k : Nat} (hk : k < len) : ∃ x, a = some x ∧ (Z k).2 < 256 ∧
    ∀ W, Below w.heap.size w W → W.cell? (x.add (k * 2)) = some (.int .i64 (Z k).1) ∧ W.cell? ⟨(x.add (k * 2)).block, (x.add (k * 2)).off + 1, none⟩ = some (.int .u8 ((Z k).2 : Int)) := by
  obtain ⟨x, hx, h0, h1, h2, _⟩ := h k hk
  refine ⟨x, hx, h2, fun W hb => ?_⟩
  have e : ∀ {p : Addr} {v : Value}, w.cell? p = some v → W.cell? p = some v := fun {p v} h1 => by
    have h2 := World.block_lt_of_cell? w _ h1
    rw [hb.cell h2]; exact h1
  exact ⟨e h0, far_cell (by decide) (e h1)⟩
theorem DkA.drew {B : Nat} {D : Dsk} {w : World} {F : Nat → Prop} (h : DkA B D w F) : DkA B D w.drew F := by
  obtain ⟨cs, cv, h, he⟩ := h; exact ⟨cs, cv, h.drew, he⟩
theorem Below.of_drew {n : Nat} {w w' : World} (h : Below n w.drew w') : Below n w w' := ⟨h.os, h.tape, h.output, h.size, h.block⟩
set_option maxRecDepth 100000 in
set_option maxHeartbeats 1000000 in
theorem laid_any {B : Nat} {M : Nat → List Nat} {c : List (Nat × List Nat)} {A : Nat} {w ws : World} {F : Nat → Prop} (hd : DkA B (wait M c A) ws F) (hb : Below w.heap.size w ws) (hF : ∀ b, F b → w.heap.size ≤ b)
    (a : Option Addr) (len cap : Nat) (Z : Nat → Int × Nat) (hl : len ≤ 1048576) (hZ : IsPuts w a len Z) (hA : A ≤ 100000000) (hc : c.length ≤ 100000000) :
    Calls Try.prog 6 #[dp B, .slice a len cap] ws fun e w' => e = .returned (.bool true) ∧ ∃ F', DkA B (wait M (c ++ puts Z len) (A + len)) w' F' ∧ Ext F ws F' w' := by
  have HZ := hide hZ
  have H0 := hide (And.intro hb hF)
  have HD := hide hd
  clear hZ hb hF hd
  go_enter Try.func6, Try.ntmps6
  go_wp2
  go_loopw [5] (fun i wr => ∃ k : Nat, k ≤ len ∧ i = .int .i64 (k : Int) ∧ ∃ F1, DkA B (wait M (c ++ puts Z k) (A + k)) wr F1 ∧ Ext F ws F1 wr) (fun i _ => len - (intOf i).toNat)
  case atStart => exact ⟨0, Nat.zero_le _, rfl, F, by simpa [puts] using HD.out, Ext.refl _ _⟩
  case round =>
    obtain ⟨k, hk, rfl, F1, hD1, hX1⟩ := hrel
    by_cases hlt : k < len
    · have hd1 : decide (k < len) = true := by simp; omega
      have hb1 : Below w.heap.size w wr := H0.out.1.trans (hX1.mod.below H0.out.2 H0.out.1.size)
      have hF1 := hX1.low H0.out.2 H0.out.1.size
      obtain ⟨x, hx, hb8, hp⟩ := HZ.out.at hlt
      subst hx
      have HD1 := hide hD1
      have HX1 := hide hX1
      have HB1 := hide hb1
      have HF1 := hide hF1
      obtain ⟨z, hz⟩ : ∃ z, Z k = z := ⟨_, rfl⟩
      rw [hz] at hp hb8
      have HZk := hide hz
      have HP := hide hp
      obtain ⟨c0, c1⟩ := hp _ hb1
      clear hp hz hb1 hF1 hD1 hX1
      go_wp2
      have HDd : Hid (DkA B (wait M (c ++ puts Z k) (A + k)) wr.drew F1) := HD1.out.drew
      have HBd : Hid (Below w.heap.size w wr.drew) := HB1.out.drew
      have HW15 : Hid (∀ w3 r, Below wr.drew.heap.size wr.drew w3 → Ow w3 wr.drew.heap.size r (List.replicate 128 z.2) → Calls Try.prog 18 #[dp B, .int .i64 (pl z.1 : Nat), r] w3 fun e w4 => e = .returned (.int .i64 0) ∧ ∃ F', DkA B (wait M (c ++ puts Z (k + 1)) (A + (k + 1))) w4 F' ∧ Ext F1 w3 F' w4) := by
        intro w3 r h3 hr
        have := write_ok ((good_dk _ _).below HDd.out h3) (pl z.1) r _ (pl_lt _) hr.rd (sec_rep _ hb8) (own_farD hr HDd.out) rfl (fun h => by cases h) (by show A + k < _; omega) (by show (c ++ puts Z k).length < _; rw [List.length_append, puts_len]; omega)
        rw [puts_succ, HZk.out, ← List.append_assoc, ← Nat.add_assoc]
        exact this
      go_region_held (fun W => W.cell? (x.add (k * 2)) = some (.int .i64 z.1) ∧ W.cell? ⟨(x.add (k * 2)).block, (x.add (k * 2)).off + 1, none⟩ = some (.int .u8 (z.2 : Int)))
        (first | assumption | exact q4 | exact q3 | exact And.intro c0 c1)
        (first
          | (go_at_call 15; refine (place_any z.1 _).mono ?_; rintro e w' ⟨rfl, rfl⟩)
          | (go_at_call 19; refine (full_any z.2 _).mono ?_; rintro e w3 ⟨r, rfl, hr, hb⟩
             have Q3 := hide (And.intro hr hb)
             have q3 := HP.out _ (HBd.out.trans (hb.mono HBd.out.size))
             clear hr hb)
          | (go_at_call 18; refine (HW15.out _ _ Q3.out.2 Q3.out.1).mono ?_
             rintro e w4 ⟨rfl, F', hd4, hx4⟩
             have q4 := HP.out _ ((HBd.out.trans (Q3.out.2.mono HBd.out.size)).trans (hx4.mod.below HF1.out (Nat.le_trans HBd.out.size Q3.out.2.size)))
             have Q4 := hide (And.intro hd4 ((HX1.out.trans (Ext.of_below (Below.of_drew Q3.out.2))).trans hx4))
             clear hd4 hx4))
      clear q3 q4 c0 c1
      go_wp2
      go_roundw
      case rel => exact ⟨k + 1, by omega, by go_num, _, Q4.out.1, Q4.out.2⟩
      case measure => simp [intOf]; omega
    · obtain rfl : k = len := by omega
      go_wp2
      go_ret
      exact ⟨rfl, F1, hD1, hX1⟩
end Go.Proofs.Ytogcgccfalfbaaa
