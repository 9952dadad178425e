import Derived.Test.YtmdcmpkjhflgpaaH5
import Derived.Laws.MakeOwn
namespace Go.Proofs.Ytmdcmpkjhflgpaa
open Go.RowKit

theorem info63' : ∃ i, Try.prog.info? 60 = some i ∧ i.zero = some (.agg Fr.nil.cells.toArray) ∧ i.size = 36 ∧ i.bytes = 160 := info_parts (by kernel_rfl)
/-- what make lays -/
def mk0 (n : Nat) : Array Value := madeCells Fr.nil.cells.toArray (n * 36)
theorem make59 (n : Nat) (hn : n ≤ 64) (w : World) : (Instr.makeSlice 35 (.int .i64 (n : Int)) (.int .i64 (n : Int))).run Try.prog w = .ok (.slice (some ⟨w.heap.size, 0, none⟩) n n) (w.alloc (.cells (mk0 n) 60)) := by
  obtain ⟨i, hi, hz, hs, hb⟩ := info63'
  have := run_make (P := Try.prog) w 35 60 i _ Try.underlying35 hi hz .i64 .i64 n n (by omega) (Int.le_refl _) (by rw [hb]; omega) (by omega)
  simpa [hs, mk0, Value.cells] using this
theorem mk0_size (n : Nat) : (mk0 n).size = n * 36 := by simp [mk0, madeCells]
theorem mk0_get {n f j : Nat} (hf : f < n) {v : Value} (hv : Fr.nil.cells[j]? = some v) : (mk0 n)[f * 36 + j]? = some v := by
  have hj : j < 36 := by have := (List.getElem?_eq_some_iff.1 hv).1; rwa [cells_len] at this
  have hl : Fr.nil.cells.toArray.size = 36 := rfl
  have hlt : f * 36 + j < n * 36 := by omega
  have hm : (f * 36 + j) % 36 = j := by omega
  unfold mk0 madeCells
  rw [Array.getElem?_map, Array.getElem?_range, if_pos hlt]
  simp only [Option.map_some, hl, hm]
  obtain ⟨h1, h2⟩ := List.getElem?_eq_some_iff.1 hv
  congr 1
  rw [getElem!_pos _ _ (by rw [hl]; exact hj)]
  simpa using h2
theorem new_mem (w : World) (n : Nat) : MemAt ((w.alloc (.cells (mk0 n) 60)).alloc (.cells #[.slice (some ⟨w.heap.size, 0, none⟩) n n] 37)) (w.heap.size + 1) w.heap.size n (fun _ => Fr.nil) :=
  ⟨heap_alloc2_new _ _ _, ⟨mk0 n, heap_alloc2_old _ _ _, mk0_size n, fun _ hf _ _ hv => mk0_get hf hv⟩, by omega⟩
set_option maxHeartbeats 400000 in
theorem new_any (w : World) (f : Int) (n : Nat) (hf : (n : Int) = min (max f 0) 64) :
    Calls Try.prog 4 #[.int .i64 f] w fun e w' => e = .returned (.pointer (some ⟨w.heap.size + 1, 0, none⟩)) ∧ MemAt w' (w.heap.size + 1) w.heap.size n (fun _ => Fr.nil) ∧ Below w.heap.size w w' := by
  have HM := hide (new_mem w n)
  by_cases h0 : f < 0
  · obtain rfl : n = 0 := by omega
    have hm : ∀ w, (Instr.makeSlice 35 (.int .i64 0) (.int .i64 0)).run Try.prog w = .ok (.slice (some ⟨w.heap.size, 0, none⟩) 0 0) (w.alloc (.cells (mk0 0) 60)) := make59 0 (by omega)
    clear hf
    go_enter Try.func4, Try.ntmps4
    go_wp2
    go_ret
    exact ⟨rfl, HM.out, ((Below.refl _ _).alloc (Nat.le_refl _) _).alloc (by simp) _⟩
  · by_cases h1 : f ≤ 64
    · obtain ⟨k, rfl⟩ := Int.eq_ofNat_of_zero_le (show 0 ≤ f by omega)
      obtain rfl : k = n := by omega
      have hm := make59 k (by omega)
      have hd : decide ((64 : Int) < (k : Int)) = false := by simp; omega
      clear hf
      go_enter Try.func4, Try.ntmps4
      go_wp2
      go_ret
      exact ⟨rfl, HM.out, ((Below.refl _ _).alloc (Nat.le_refl _) _).alloc (by simp) _⟩
    · obtain rfl : n = 64 := by omega
      have hm : ∀ w, (Instr.makeSlice 35 (.int .i64 64) (.int .i64 64)).run Try.prog w = .ok (.slice (some ⟨w.heap.size, 0, none⟩) 64 64) (w.alloc (.cells (mk0 64) 60)) := make59 64 (by omega)
      clear hf
      go_enter Try.func4, Try.ntmps4
      go_wp2
      go_ret
      exact ⟨rfl, HM.out, ((Below.refl _ _).alloc (Nat.le_refl _) _).alloc (by simp) _⟩

theorem new_cells (s : Int) : (Fr.new s).cells.toArray.all (·.oneCell') = true := all_oneCell_toArray (cells_one _)
section
variable (w : World) (B G n : Nat) (m : Nat → Fr)
set_option maxHeartbeats 400000 in
theorem alloc_arg (s : Int) (h : s < 1 ∨ 4611686018427387903 < s) :
    Calls Try.prog 25 #[.pointer (some ⟨B, 0, none⟩), .int .i64 s] w fun e w' => e = .returned (.tuple #[.int .i64 (-1), .int .i64 1]) ∧ w' = w := by
  go_enter Try.func25, Try.ntmps25
  go_wp2_with fail
  refine (noSerial_yes _ s h).mono ?_
  rintro e w1 ⟨rfl, rfl⟩
  go_wp2
  go_ret2
  simp
set_option maxHeartbeats 800000 in
theorem alloc_any (s : Int) (h : MemAt w B G n m) (hn : n ≤ 64) (h1 : 1 ≤ s) (h2 : s ≤ 4611686018427387903) (q : Nat) (hq : ∀ j, j < q → (m j).h ≠ 0) (hqn : q = n ∨ q < n ∧ (m q).h = 0) :
    Calls Try.prog 25 #[.pointer (some ⟨B, 0, none⟩), .int .i64 s] w fun e w' => (q = n ∧ e = .returned (.tuple #[.int .i64 (-1), .int .i64 2]) ∧ w' = w) ∨ (q < n ∧ e = .returned (.tuple #[.int .i64 (q : Int), .int .i64 0]) ∧ MGo w w' B G n (upd m q (Fr.new s))) := by
  have hqle : q ≤ n := by omega
  go_enter Try.func25, Try.ntmps25
  go_wp2_with fail
  refine (noSerial_no _ s h1 h2).mono ?_
  rintro e w1 ⟨rfl, rfl⟩
  have c0 := h.hd
  have HH := hide h
  have HQ := hide hq
  have HQN := hide hqn
  clear h hq hqn
  go_wp2
  go_loop [14, 6] (fun i _ => ∃ k : Nat, k ≤ q ∧ i = .int .i64 (k : Int)) (fun i _ => 64 - (intOf i).toNat)
  case atStart => exact ⟨0, by omega, rfl⟩
  case round =>
    obtain ⟨k, hk, rfl⟩ := hrel
    by_cases hlt : k < n
    · obtain ⟨_, c1, _, _⟩ := HH.out.c hlt
      have hd : decide (k < n) = true := by simp; omega
      by_cases hkq : k < q
      · have hne := HQ.out k hkq
        have hd2 : decide (((m k).h : Int) = 0) = false := by simp; omega
        go_wp2
        go_round
        case rel => exact ⟨k + 1, by omega, by go_num⟩
        case measure => simp [intOf]; omega
      · obtain rfl : k = q := by omega
        have hz : (m k).h = 0 := by rcases HQN.out with e | e; omega; exact e.2
        rw [hz] at c1
        have ht := HH.out.there (o := 0) (l := 36) hlt (by omega)
        have HR := hide (And.intro (HH.out.putAll hlt (Fr.new s)) ((Mod.refl (fun b => b = G) w1).setCells (b := G) (.inl rfl) (k * 36) (Fr.new s).cells))
        go_wp2_with (refine wpList_store_mid rfl 60 _ _ rfl G (k * 36) (Fr.new s).cells.toArray rfl rfl ht info63 (new_cells s) ?_)
        go_ret2
        exact .inr ⟨rfl, HR.out⟩
    · obtain rfl : q = n := by omega
      obtain rfl : k = q := by omega
      have hd : decide (k < k) = false := by simp
      go_wp2
      go_ret2
      exact ⟨rfl, rfl⟩
theorem alloc_full (s : Int) (h : MemAt w B G n m) (hn : n ≤ 64) (h1 : 1 ≤ s) (h2 : s ≤ 4611686018427387903) (hq : ∀ j, j < n → (m j).h ≠ 0) :
    Calls Try.prog 25 #[.pointer (some ⟨B, 0, none⟩), .int .i64 s] w fun e w' => e = .returned (.tuple #[.int .i64 (-1), .int .i64 2]) ∧ w' = w :=
  (alloc_any w B G n m s h hn h1 h2 n hq (.inl rfl)).mono (by
    rintro e w' (h3 | h3)
    · exact h3.2
    · have := h3.1; omega)
theorem alloc_ok (s : Int) (h : MemAt w B G n m) (hn : n ≤ 64) (h1 : 1 ≤ s) (h2 : s ≤ 4611686018427387903) (q : Nat) (hq : ∀ j, j < q → (m j).h ≠ 0) (hqn : q < n) (hz : (m q).h = 0) :
    Calls Try.prog 25 #[.pointer (some ⟨B, 0, none⟩), .int .i64 s] w fun e w' => e = .returned (.tuple #[.int .i64 (q : Int), .int .i64 0]) ∧ MGo w w' B G n (upd m q (Fr.new s)) :=
  (alloc_any w B G n m s h hn h1 h2 q hq (.inr ⟨hqn, hz⟩)).mono (by
    rintro e w' (h3 | h3)
    · have := h3.1; omega
    · exact h3.2)
end
end Go.Proofs.Ytmdcmpkjhflgpaa
