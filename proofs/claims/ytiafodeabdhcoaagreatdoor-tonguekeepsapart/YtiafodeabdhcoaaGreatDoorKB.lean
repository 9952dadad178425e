import Derived.Test.YtiafodeabdhcoaaGreatDoorKA
namespace Go.Proofs.YtiafodeabdhcoaaGreatDoor
open Go.RowKit
/-- a slice that reads -/
def Rda (w : World) (v : Value) (n : Nat) (xs : List Value) : Prop := (v = .slice none 0 0 ∧ n = 0) ∨ ∃ ad cap, v = .slice (some ad) n cap ∧ n ≤ cap ∧ ∀ (j : Nat) (u : Value), xs[j]? = some u → w.cell? (ad.add j) = some u
theorem Rda.up {w w' : World} {v : Value} {n : Nat} {xs : List Value} (h : Rda w v n xs) (hb : Below w.heap.size w w') : Rda w' v n xs := by
  rcases h with h | ⟨ad, cap, h1, h2, h3⟩
  · exact .inl h
  · exact .inr ⟨ad, cap, h1, h2, fun j u hu => (hb.cell (cell_blk (h3 j u hu))).trans (h3 j u hu)⟩
theorem Rda.len {w : World} {v : Value} {n : Nat} {xs : List Value} (h : Rda w v n xs) : ∃ a c, v = .slice a n c ∧ n ≤ c := by
  rcases h with ⟨h1, h2⟩ | ⟨ad, cap, h1, h2, _⟩
  · exact ⟨none, 0, by rw [h1, h2], by omega⟩
  · exact ⟨_, _, h1, h2⟩
theorem Rda.get {w : World} {a : Option Addr} {n c : Nat} {xs : List Value} (h : Rda w (.slice a n c) n xs) {j : Nat} {u : Value} (hj : j < n) (hu : xs[j]? = some u) : ∃ ad, a = some ad ∧ w.cell? (ad.add j) = some u := by
  rcases h with ⟨_, h2⟩ | ⟨ad, cap, h1, h2, h3⟩
  · omega
  · cases h1; exact ⟨ad, rfl, h3 j u hu⟩
theorem own_rda {w : World} {base k n : Nat} {e : TypeId} {v : Value} {xs : List Value} (h : w.ownsRow base e k v n xs) : Rda w v n xs := by
  have hl := h.1
  rcases h.2 with ⟨h1, h2⟩ | ⟨g, cap, cur, h1, h2, h3, h4, h5, h6, h7⟩
  · exact .inl ⟨h1, h2⟩
  · refine .inr ⟨_, cap, h1, h4, fun j u hu => ?_⟩
    rw [add0, cell_of_row _ _ _ _ _ _ h3]
    rw [← h7, List.getElem?_take] at hu
    split at hu
    · rw [← Array.getElem?_toList]; exact hu
    · simp at hu
set_option maxRecDepth 100000 in
set_option maxHeartbeats 2000000 in
theorem sameW_eq (w : World) (v v' : Value) (L : List Nat) (n : Nat) (hn : L.length = n) (h9 : n ≤ 4000000000000000000) (h : Rda w v n (L.map fun z => Value.int .u32 (z : Nat))) (h' : Rda w v' n (L.map fun z => Value.int .u32 (z : Nat))) :
    Calls Tryz.prog 15 #[v, v'] w fun e w' => e = .returned (.bool true) ∧ Below w.heap.size w w' := by
  obtain ⟨a, c, rfl, hc⟩ := h.len
  obtain ⟨a', c', rfl, hc'⟩ := h'.len
  have H := hide h
  have H' := hide h'
  have H0 : Hid (Below w.heap.size w w) := hide (Below.refl _ _)
  clear h h'
  go_enter Tryz.func15, Tryz.ntmps15
  go_wp2
  go_loopw [5] (fun i wr => ∃ k : Nat, k ≤ n ∧ i = .int .i64 (k : Int) ∧ Hid (Below w.heap.size w wr)) (fun i _ => n - (intOf i).toNat)
  case atStart => exact ⟨0, by omega, rfl, H0⟩
  case round =>
    obtain ⟨k, hk, rfl, HB⟩ := hrel
    by_cases hlt : k < n
    · have hd : decide ((k : Int) < (n : Int)) = true := by simp; omega
      have hki : (k : Int) < (n : Int) := by omega
      obtain ⟨z, hz⟩ : ∃ z, L[k]? = some z := ⟨L[k], by simp⟩
      obtain ⟨ad, rfl, hcl⟩ := H.out.get hlt (u := Value.int .u32 (z : Nat)) (by simp [hz])
      obtain ⟨ad', rfl, hcl'⟩ := H'.out.get hlt (u := Value.int .u32 (z : Nat)) (by simp [hz])
      have hcl := (HB.out.cell (cell_blk hcl)).trans hcl
      have hcl' := (HB.out.cell (cell_blk hcl')).trans hcl'
      clear hz
      go_upto_region 6 with fail
      obtain ⟨w0, hwD⟩ : ∃ wD, wD = wr.drew := ⟨_, rfl⟩
      have HBD : Hid (Below w.heap.size w w0) := by rw [hwD]; exact hide (HB.out.drew)
      have HS0 : Hid ((fun W : World => W.cell? (ad.add k) = some (Value.int .u32 (z : Nat)) ∧ W.cell? (ad'.add k) = some (Value.int .u32 (z : Nat))) w0) := by rw [hwD]; exact hide (⟨hcl, hcl'⟩)
      refine wp_region_held_drew (S := fun W : World => W.cell? (ad.add k) = some (Value.int .u32 (z : Nat)) ∧ W.cell? (ad'.add k) = some (Value.int .u32 (z : Nat))) (by kernel_rfl) (by rw [← hwD]; exact HS0.out) (fun hHeld => ?_)
      rw [← hwD]
      clear hwD hHeld HB hcl hcl'
      refine hd_take 0 (o := ⟨some 17, _, _, _, _, _⟩) (.slice (some ad) n c) (by kernel_rfl) (by kernel_rfl) (by kernel_rfl) rfl (by rfl) (fun W hSw => by go_simp) (fun _ _ _ h => h) HS0.out ?_
      simp only [Act.put, List.setIfInBounds_toArray, List.set_cons_zero, List.set_cons_succ]
      refine hd_take 1 (o := ⟨some 18, _, _, _, _, _⟩) (.int .i64 (k : Int)) (by kernel_rfl) (by kernel_rfl) (by kernel_rfl) rfl (by rfl) (fun W hSw => by go_simp) (fun _ _ _ h => h) HS0.out ?_
      simp only [Act.put, List.setIfInBounds_toArray, List.set_cons_zero, List.set_cons_succ]
      refine hd_take 2 (o := ⟨some 19, _, _, _, _, _⟩) (.pointer (some (ad.add k))) (by kernel_rfl) (by kernel_rfl) (by kernel_rfl) rfl (by rfl) (fun W hSw => by go_simp; try omega) (fun _ _ _ h => h) HS0.out ?_
      simp only [Act.put, List.setIfInBounds_toArray, List.set_cons_zero, List.set_cons_succ]
      refine hd_take 3 (o := ⟨some 20, _, _, _, _, _⟩) (Value.int .u32 (z : Nat)) (by kernel_rfl) (by kernel_rfl) (by kernel_rfl) rfl (by rfl) (fun W hSw => by have h9 := hSw.1; go_simp) (fun _ _ _ h => h) HS0.out ?_
      simp only [Act.put, List.setIfInBounds_toArray, List.set_cons_zero, List.set_cons_succ]
      refine hd_take 4 (o := ⟨some 21, _, _, _, _, _⟩) (.slice (some ad') n c') (by kernel_rfl) (by kernel_rfl) (by kernel_rfl) rfl (by rfl) (fun W hSw => by go_simp) (fun _ _ _ h => h) HS0.out ?_
      simp only [Act.put, List.setIfInBounds_toArray, List.set_cons_zero, List.set_cons_succ]
      refine hd_take 5 (o := ⟨some 22, _, _, _, _, _⟩) (.int .i64 (k : Int)) (by kernel_rfl) (by kernel_rfl) (by kernel_rfl) rfl (by rfl) (fun W hSw => by go_simp) (fun _ _ _ h => h) HS0.out ?_
      simp only [Act.put, List.setIfInBounds_toArray, List.set_cons_zero, List.set_cons_succ]
      refine hd_take 6 (o := ⟨some 23, _, _, _, _, _⟩) (.pointer (some (ad'.add k))) (by kernel_rfl) (by kernel_rfl) (by kernel_rfl) rfl (by rfl) (fun W hSw => by go_simp; try omega) (fun _ _ _ h => h) HS0.out ?_
      simp only [Act.put, List.setIfInBounds_toArray, List.set_cons_zero, List.set_cons_succ]
      refine hd_take 7 (o := ⟨some 24, _, _, _, _, _⟩) (Value.int .u32 (z : Nat)) (by kernel_rfl) (by kernel_rfl) (by kernel_rfl) rfl (by rfl) (fun W hSw => by have h9 := hSw.2; go_simp) (fun _ _ _ h => h) HS0.out ?_
      simp only [Act.put, List.setIfInBounds_toArray, List.set_cons_zero, List.set_cons_succ]
      refine hd_take 8 (o := ⟨some 25, _, _, _, _, _⟩) (.bool false) (by kernel_rfl) (by kernel_rfl) (by kernel_rfl) rfl (by rfl) (fun W hSw => by go_simp) (fun _ _ _ h => h) HS0.out ?_
      simp only [Act.put, List.setIfInBounds_toArray, List.set_cons_zero, List.set_cons_succ]
      refine wpAnyH_done (by kernel_rfl) ?_ _
      try go_wp2
      go_roundw
      case rel => exact ⟨k + 1, by omega, by go_num, HBD⟩
      case measure => simp [intOf]; omega
    · have hd : decide ((k : Int) < (n : Int)) = false := by simp; omega
      clear H0
      go_wp2
      go_ret
      exact ⟨rfl, HB.out⟩
set_option maxRecDepth 100000 in
set_option maxHeartbeats 2000000 in
theorem sameT_eq (w : World) (v v' : Value) (L : List Tx) (n : Nat) (hn : L.length = n) (h9 : n ≤ 4000000000000000000) (h : Rda w v n (L.map fun z => Value.string ⟨z.toArray⟩)) (h' : Rda w v' n (L.map fun z => Value.string ⟨z.toArray⟩)) :
    Calls Tryz.prog 18 #[v, v'] w fun e w' => e = .returned (.bool true) ∧ Below w.heap.size w w' := by
  obtain ⟨a, c, rfl, hc⟩ := h.len
  obtain ⟨a', c', rfl, hc'⟩ := h'.len
  have H := hide h
  have H' := hide h'
  have H0 : Hid (Below w.heap.size w w) := hide (Below.refl _ _)
  clear h h'
  go_enter Tryz.func18, Tryz.ntmps18
  go_wp2
  go_loopw [5] (fun i wr => ∃ k : Nat, k ≤ n ∧ i = .int .i64 (k : Int) ∧ Hid (Below w.heap.size w wr)) (fun i _ => n - (intOf i).toNat)
  case atStart => exact ⟨0, by omega, rfl, H0⟩
  case round =>
    obtain ⟨k, hk, rfl, HB⟩ := hrel
    by_cases hlt : k < n
    · have hd : decide ((k : Int) < (n : Int)) = true := by simp; omega
      have hki : (k : Int) < (n : Int) := by omega
      obtain ⟨z, hz⟩ : ∃ z, L[k]? = some z := ⟨L[k], by simp⟩
      obtain ⟨ad, rfl, hcl⟩ := H.out.get hlt (u := Value.string ⟨z.toArray⟩) (by simp [hz])
      obtain ⟨ad', rfl, hcl'⟩ := H'.out.get hlt (u := Value.string ⟨z.toArray⟩) (by simp [hz])
      have hcl := (HB.out.cell (cell_blk hcl)).trans hcl
      have hcl' := (HB.out.cell (cell_blk hcl')).trans hcl'
      clear hz
      go_upto_region 6 with fail
      obtain ⟨w0, hwD⟩ : ∃ wD, wD = wr.drew := ⟨_, rfl⟩
      have HBD : Hid (Below w.heap.size w w0) := by rw [hwD]; exact hide (HB.out.drew)
      have HS0 : Hid ((fun W : World => W.cell? (ad.add k) = some (Value.string ⟨z.toArray⟩) ∧ W.cell? (ad'.add k) = some (Value.string ⟨z.toArray⟩)) w0) := by rw [hwD]; exact hide (⟨hcl, hcl'⟩)
      refine wp_region_held_drew (S := fun W : World => W.cell? (ad.add k) = some (Value.string ⟨z.toArray⟩) ∧ W.cell? (ad'.add k) = some (Value.string ⟨z.toArray⟩)) (by kernel_rfl) (by rw [← hwD]; exact HS0.out) (fun hHeld => ?_)
      rw [← hwD]
      clear hwD hHeld HB hcl hcl'
      refine hd_take 0 (o := ⟨some 17, _, _, _, _, _⟩) (.slice (some ad) n c) (by kernel_rfl) (by kernel_rfl) (by kernel_rfl) rfl (by rfl) (fun W hSw => by go_simp) (fun _ _ _ h => h) HS0.out ?_
      simp only [Act.put, List.setIfInBounds_toArray, List.set_cons_zero, List.set_cons_succ]
      refine hd_take 1 (o := ⟨some 18, _, _, _, _, _⟩) (.int .i64 (k : Int)) (by kernel_rfl) (by kernel_rfl) (by kernel_rfl) rfl (by rfl) (fun W hSw => by go_simp) (fun _ _ _ h => h) HS0.out ?_
      simp only [Act.put, List.setIfInBounds_toArray, List.set_cons_zero, List.set_cons_succ]
      refine hd_take 2 (o := ⟨some 19, _, _, _, _, _⟩) (.pointer (some (ad.add k))) (by kernel_rfl) (by kernel_rfl) (by kernel_rfl) rfl (by rfl) (fun W hSw => by go_simp; try omega) (fun _ _ _ h => h) HS0.out ?_
      simp only [Act.put, List.setIfInBounds_toArray, List.set_cons_zero, List.set_cons_succ]
      refine hd_take 3 (o := ⟨some 20, _, _, _, _, _⟩) (Value.string ⟨z.toArray⟩) (by kernel_rfl) (by kernel_rfl) (by kernel_rfl) rfl (by rfl) (fun W hSw => by have h9 := hSw.1; go_simp) (fun _ _ _ h => h) HS0.out ?_
      simp only [Act.put, List.setIfInBounds_toArray, List.set_cons_zero, List.set_cons_succ]
      refine hd_take 4 (o := ⟨some 21, _, _, _, _, _⟩) (.slice (some ad') n c') (by kernel_rfl) (by kernel_rfl) (by kernel_rfl) rfl (by rfl) (fun W hSw => by go_simp) (fun _ _ _ h => h) HS0.out ?_
      simp only [Act.put, List.setIfInBounds_toArray, List.set_cons_zero, List.set_cons_succ]
      refine hd_take 5 (o := ⟨some 22, _, _, _, _, _⟩) (.int .i64 (k : Int)) (by kernel_rfl) (by kernel_rfl) (by kernel_rfl) rfl (by rfl) (fun W hSw => by go_simp) (fun _ _ _ h => h) HS0.out ?_
      simp only [Act.put, List.setIfInBounds_toArray, List.set_cons_zero, List.set_cons_succ]
      refine hd_take 6 (o := ⟨some 23, _, _, _, _, _⟩) (.pointer (some (ad'.add k))) (by kernel_rfl) (by kernel_rfl) (by kernel_rfl) rfl (by rfl) (fun W hSw => by go_simp; try omega) (fun _ _ _ h => h) HS0.out ?_
      simp only [Act.put, List.setIfInBounds_toArray, List.set_cons_zero, List.set_cons_succ]
      refine hd_take 7 (o := ⟨some 24, _, _, _, _, _⟩) (Value.string ⟨z.toArray⟩) (by kernel_rfl) (by kernel_rfl) (by kernel_rfl) rfl (by rfl) (fun W hSw => by have h9 := hSw.2; go_simp) (fun _ _ _ h => h) HS0.out ?_
      simp only [Act.put, List.setIfInBounds_toArray, List.set_cons_zero, List.set_cons_succ]
      refine hd_take 8 (o := ⟨some 25, _, _, _, _, _⟩) (.bool false) (by kernel_rfl) (by kernel_rfl) (by kernel_rfl) rfl (by rfl) (fun W hSw => by go_simp) (fun _ _ _ h => h) HS0.out ?_
      simp only [Act.put, List.setIfInBounds_toArray, List.set_cons_zero, List.set_cons_succ]
      refine wpAnyH_done (by kernel_rfl) ?_ _
      try go_wp2
      go_roundw
      case rel => exact ⟨k + 1, by omega, by go_num, HBD⟩
      case measure => simp [intOf]; omega
    · have hd : decide ((k : Int) < (n : Int)) = false := by simp; omega
      clear H0
      go_wp2
      go_ret
      exact ⟨rfl, HB.out⟩
set_option maxRecDepth 100000 in
set_option maxHeartbeats 2000000 in
theorem sameI_eq (w : World) (v v' : Value) (L : List Int) (n : Nat) (hn : L.length = n) (h9 : n ≤ 4000000000000000000) (h : Rda w v n (L.map fun z => Value.int .i64 z)) (h' : Rda w v' n (L.map fun z => Value.int .i64 z)) :
    Calls Tryz.prog 19 #[v, v'] w fun e w' => e = .returned (.bool true) ∧ Below w.heap.size w w' := by
  obtain ⟨a, c, rfl, hc⟩ := h.len
  obtain ⟨a', c', rfl, hc'⟩ := h'.len
  have H := hide h
  have H' := hide h'
  have H0 : Hid (Below w.heap.size w w) := hide (Below.refl _ _)
  clear h h'
  go_enter Tryz.func19, Tryz.ntmps19
  go_wp2
  go_loopw [5] (fun i wr => ∃ k : Nat, k ≤ n ∧ i = .int .i64 (k : Int) ∧ Hid (Below w.heap.size w wr)) (fun i _ => n - (intOf i).toNat)
  case atStart => exact ⟨0, by omega, rfl, H0⟩
  case round =>
    obtain ⟨k, hk, rfl, HB⟩ := hrel
    by_cases hlt : k < n
    · have hd : decide ((k : Int) < (n : Int)) = true := by simp; omega
      have hki : (k : Int) < (n : Int) := by omega
      obtain ⟨z, hz⟩ : ∃ z, L[k]? = some z := ⟨L[k], by simp⟩
      obtain ⟨ad, rfl, hcl⟩ := H.out.get hlt (u := Value.int .i64 z) (by simp [hz])
      obtain ⟨ad', rfl, hcl'⟩ := H'.out.get hlt (u := Value.int .i64 z) (by simp [hz])
      have hcl := (HB.out.cell (cell_blk hcl)).trans hcl
      have hcl' := (HB.out.cell (cell_blk hcl')).trans hcl'
      clear hz
      go_upto_region 6 with fail
      obtain ⟨w0, hwD⟩ : ∃ wD, wD = wr.drew := ⟨_, rfl⟩
      have HBD : Hid (Below w.heap.size w w0) := by rw [hwD]; exact hide (HB.out.drew)
      have HS0 : Hid ((fun W : World => W.cell? (ad.add k) = some (Value.int .i64 z) ∧ W.cell? (ad'.add k) = some (Value.int .i64 z)) w0) := by rw [hwD]; exact hide (⟨hcl, hcl'⟩)
      refine wp_region_held_drew (S := fun W : World => W.cell? (ad.add k) = some (Value.int .i64 z) ∧ W.cell? (ad'.add k) = some (Value.int .i64 z)) (by kernel_rfl) (by rw [← hwD]; exact HS0.out) (fun hHeld => ?_)
      rw [← hwD]
      clear hwD hHeld HB hcl hcl'
      refine hd_take 0 (o := ⟨some 17, _, _, _, _, _⟩) (.slice (some ad) n c) (by kernel_rfl) (by kernel_rfl) (by kernel_rfl) rfl (by rfl) (fun W hSw => by go_simp) (fun _ _ _ h => h) HS0.out ?_
      simp only [Act.put, List.setIfInBounds_toArray, List.set_cons_zero, List.set_cons_succ]
      refine hd_take 1 (o := ⟨some 18, _, _, _, _, _⟩) (.int .i64 (k : Int)) (by kernel_rfl) (by kernel_rfl) (by kernel_rfl) rfl (by rfl) (fun W hSw => by go_simp) (fun _ _ _ h => h) HS0.out ?_
      simp only [Act.put, List.setIfInBounds_toArray, List.set_cons_zero, List.set_cons_succ]
      refine hd_take 2 (o := ⟨some 19, _, _, _, _, _⟩) (.pointer (some (ad.add k))) (by kernel_rfl) (by kernel_rfl) (by kernel_rfl) rfl (by rfl) (fun W hSw => by go_simp; try omega) (fun _ _ _ h => h) HS0.out ?_
      simp only [Act.put, List.setIfInBounds_toArray, List.set_cons_zero, List.set_cons_succ]
      refine hd_take 3 (o := ⟨some 20, _, _, _, _, _⟩) (Value.int .i64 z) (by kernel_rfl) (by kernel_rfl) (by kernel_rfl) rfl (by rfl) (fun W hSw => by have h9 := hSw.1; go_simp) (fun _ _ _ h => h) HS0.out ?_
      simp only [Act.put, List.setIfInBounds_toArray, List.set_cons_zero, List.set_cons_succ]
      refine hd_take 4 (o := ⟨some 21, _, _, _, _, _⟩) (.slice (some ad') n c') (by kernel_rfl) (by kernel_rfl) (by kernel_rfl) rfl (by rfl) (fun W hSw => by go_simp) (fun _ _ _ h => h) HS0.out ?_
      simp only [Act.put, List.setIfInBounds_toArray, List.set_cons_zero, List.set_cons_succ]
      refine hd_take 5 (o := ⟨some 22, _, _, _, _, _⟩) (.int .i64 (k : Int)) (by kernel_rfl) (by kernel_rfl) (by kernel_rfl) rfl (by rfl) (fun W hSw => by go_simp) (fun _ _ _ h => h) HS0.out ?_
      simp only [Act.put, List.setIfInBounds_toArray, List.set_cons_zero, List.set_cons_succ]
      refine hd_take 6 (o := ⟨some 23, _, _, _, _, _⟩) (.pointer (some (ad'.add k))) (by kernel_rfl) (by kernel_rfl) (by kernel_rfl) rfl (by rfl) (fun W hSw => by go_simp; try omega) (fun _ _ _ h => h) HS0.out ?_
      simp only [Act.put, List.setIfInBounds_toArray, List.set_cons_zero, List.set_cons_succ]
      refine hd_take 7 (o := ⟨some 24, _, _, _, _, _⟩) (Value.int .i64 z) (by kernel_rfl) (by kernel_rfl) (by kernel_rfl) rfl (by rfl) (fun W hSw => by have h9 := hSw.2; go_simp) (fun _ _ _ h => h) HS0.out ?_
      simp only [Act.put, List.setIfInBounds_toArray, List.set_cons_zero, List.set_cons_succ]
      refine hd_take 8 (o := ⟨some 25, _, _, _, _, _⟩) (.bool false) (by kernel_rfl) (by kernel_rfl) (by kernel_rfl) rfl (by rfl) (fun W hSw => by go_simp) (fun _ _ _ h => h) HS0.out ?_
      simp only [Act.put, List.setIfInBounds_toArray, List.set_cons_zero, List.set_cons_succ]
      refine wpAnyH_done (by kernel_rfl) ?_ _
      try go_wp2
      go_roundw
      case rel => exact ⟨k + 1, by omega, by go_num, HBD⟩
      case measure => simp [intOf]; omega
    · have hd : decide ((k : Int) < (n : Int)) = false := by simp; omega
      clear H0
      go_wp2
      go_ret
      exact ⟨rfl, HB.out⟩
end Go.Proofs.YtiafodeabdhcoaaGreatDoor
