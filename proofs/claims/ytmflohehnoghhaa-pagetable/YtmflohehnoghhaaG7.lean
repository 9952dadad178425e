import Derived.Test.YtmflohehnoghhaaG6
import Derived.Laws.StructEq
namespace Go.Proofs.Ytmflohehnoghhaa
open Go.RowKit
/-- are two tables the same? -/
def same (m m' : Nat → E) : Bool := (List.range 16).all fun v => decide (m v = m' v)
theorem same_iff {m m' : Nat → E} : same m m' = true ↔ ∀ v, v < 16 → m v = m' v := by simp [same]
theorem same_comm (m m' : Nat → E) : same m m' = same m' m := by
  have : same m m' = true ↔ same m' m = true := by rw [same_iff, same_iff]; exact ⟨fun h v hv => (h v hv).symm, fun h v hv => (h v hv).symm⟩
  cases h1 : same m m' <;> cases h2 : same m' m <;> simp_all
theorem enc_ne {a b : E} (h : a ≠ b) : ((may a : Nat) : Int) ≠ (may b : Nat) ∨ ((sl a : Nat) : Int) ≠ (sl b : Nat) := by
  by_cases h1 : ((may a : Nat) : Int) = (may b : Nat)
  · right; intro h2
    exact h (enc_inj (by unfold enc; rw [h1, h2]))
  · exact .inl h1
section
variable (w : World) (B C : Nat) (m m' : Nat → E)
set_option maxHeartbeats 400000 in
theorem equal_nil : Calls Try.prog 10 #[.pointer (some ⟨B, 0, none⟩), .pointer none] w fun e w' => e = .returned (.bool false) ∧ w' = w := by
  go_enter Try.func10, Try.ntmps10
  go_wp2
  go_ret
  simp
set_option maxRecDepth 100000 in
set_option maxHeartbeats 1600000 in
theorem equal_any (h : Tb w B m) (h' : Tb w C m') :
    Calls Try.prog 10 #[.pointer (some ⟨B, 0, none⟩), .pointer (some ⟨C, 0, none⟩)] w fun e w' => e = .returned (.bool (same m m')) ∧ Below w.heap.size w w' := by
  have H := hide h
  have H' := hide h'
  have hi58 : (Try.prog.info? 49).map (·.size) = some (tc m).toArray.size := by simp only [List.size_toArray, tc_len]; exact info58
  clear h h'
  obtain ⟨b, hb⟩ : ∃ b, same m m' = b := ⟨_, rfl⟩
  rw [hb]
  have HB := hide hb
  clear hb
  go_enter Try.func10, Try.ntmps10
  go_upto_region 4 with (refine wpList_load_row rfl 49 _ rfl B rfl 51 (tc m).toArray (0, 0) _ H.out.out Try.underlying49 rfl hi58 ?_)
  clear H
  go_loopw [13] (fun i wr => ∃ k : Nat, k ≤ 16 ∧ i = .int .i64 (k : Int) ∧ (∀ v, v < k → m v = m' v) ∧ Below w.heap.size w wr) (fun i _ => 16 - (intOf i).toNat)
  case atStart => exact ⟨0, by omega, rfl, fun v hv => by omega, Below.refl _ _⟩
  case round =>
    obtain ⟨k, hk, rfl, hE, hM⟩ := hrel
    by_cases hlt : k < 16
    · have hd : decide ((k : Int) < 16) = true := by simp; omega
      go_upto_region 6 with (refine index58 ?hw0 _ _ rfl m k hlt rfl rfl ?_)
      have h1 := (H'.out.below hM).alloc (.cells #[.int .i64 (may (m k) : Nat), .int .i64 (sl (m k) : Nat)] 48)
      have hM1 := hM.alloc hM.size (.cells #[.int .i64 (may (m k) : Nat), .int .i64 (sl (m k) : Nat)] 48)
      have hz := heap_alloc_last wr (.cells #[.int .i64 (may (m k) : Nat), .int .i64 (sl (m k) : Nat)] 48)
      have d0 : (wr.alloc (.cells #[.int .i64 (may (m k) : Nat), .int .i64 (sl (m k) : Nat)] 48)).cell? ⟨wr.heap.size, 0, none⟩ = some (.int .i64 (may (m k) : Nat)) := by rw [cell_of_row _ _ 0 _ _ _ hz]; rfl
      have d1 : (wr.alloc (.cells #[.int .i64 (may (m k) : Nat), .int .i64 (sl (m k) : Nat)] 48)).cell? ⟨wr.heap.size, 1, none⟩ = some (.int .i64 (sl (m k) : Nat)) := by rw [cell_of_row _ _ 1 _ _ _ hz]; rfl
      obtain ⟨c0, c1⟩ := h1.c hlt
      have HX := hide (And.intro hE hM1)
      clear h1 hM1 hz hE hM
      generalize wr.alloc (.cells #[.int .i64 (may (m k) : Nat), .int .i64 (sl (m k) : Nat)] 48) = w1 at *
      generalize wr.heap.size = M at *
      by_cases he : m k = m' k
      · rw [← he] at c0 c1
        generalize ((may (m k) : Nat) : Int) = z0 at *
        generalize ((sl (m k) : Nat) : Int) = z1 at *
        go_region_held (fun W => W.cell? ⟨M, 0, none⟩ = some (.int .i64 z0) ∧ W.cell? ⟨M, 1, none⟩ = some (.int .i64 z1) ∧ W.cell? ⟨C, k * 2, none⟩ = some (.int .i64 z0) ∧ W.cell? ⟨C, k * 2 + 1, none⟩ = some (.int .i64 z1)) (go_keep) (fail)
        have HY : Hid ((∀ v, v < k + 1 → m v = m' v) ∧ Below w.heap.size w w1.drew) := hide ⟨fun v hv => by
          by_cases e : v = k
          · subst e; exact he
          · exact HX.out.1 v (by omega), HX.out.2.drew⟩
        rename_i hHeld
        clear hHeld c0 c1 d0 d1
        go_wp2
        go_roundw
        case rel => exact ⟨k + 1, by omega, by go_num, HY.out⟩
        case measure => simp [intOf]; omega
      · obtain rfl : b = false := by
          cases b
          · rfl
          · exact absurd (same_iff.1 HB.out k hlt) he
        have hne := enc_ne he
        have HY := hide HX.out.2.drew
        clear HX
        generalize ((may (m k) : Nat) : Int) = z0 at *
        generalize ((sl (m k) : Nat) : Int) = z1 at *
        generalize ((may (m' k) : Nat) : Int) = y0 at *
        generalize ((sl (m' k) : Nat) : Int) = y1 at *
        rcases hne with hne | hne
        · have e1 : (z0 == y0) = false := by simpa using hne
          go_region_held (fun W => W.cell? ⟨M, 0, none⟩ = some (.int .i64 z0) ∧ W.cell? ⟨M, 1, none⟩ = some (.int .i64 z1) ∧ W.cell? ⟨C, k * 2, none⟩ = some (.int .i64 y0) ∧ W.cell? ⟨C, k * 2 + 1, none⟩ = some (.int .i64 y1)) (go_keep) (fail)
          go_wp2
          go_ret
          exact ⟨rfl, HY.out⟩
        · have e1 : (z1 == y1) = false := by simpa using hne
          go_region_held (fun W => W.cell? ⟨M, 0, none⟩ = some (.int .i64 z0) ∧ W.cell? ⟨M, 1, none⟩ = some (.int .i64 z1) ∧ W.cell? ⟨C, k * 2, none⟩ = some (.int .i64 y0) ∧ W.cell? ⟨C, k * 2 + 1, none⟩ = some (.int .i64 y1)) (go_keep) (fail)
          go_wp2
          go_ret
          exact ⟨rfl, HY.out⟩
    · obtain rfl : k = 16 := by omega
      have hd : decide (((16 : Nat) : Int) < 16) = false := by simp
      obtain rfl : b = true := by rw [← HB.out, same_iff]; exact hE
      have HX := hide hM
      clear hE hM
      go_wp2
      go_ret
      exact ⟨rfl, HX.out⟩
end
end Go.Proofs.Ytmflohehnoghhaa
