import Derived.Test.YtclbgmkodjiapaaT5
namespace Go.Proofs.Ytclbgmkodjiapaa
open Go.RowKit

theorem info92 : ∃ i, Try.prog.info? 58 = some i ∧ i.zero = some (.pointer none) ∧ i.size = 1 ∧ i.bytes = 8 := info_parts (by kernel_rfl)
theorem make92 (w : World) (n : Nat) (h : n ≤ 4096) : (Instr.makeSlice 59 (.int .i64 (n : Int)) (.int .i64 (n : Int))).run Try.prog w = .ok (.slice (some ⟨w.heap.size, 0, none⟩) n n) (w.alloc (.cells (madeCells #[.pointer none] n) 58)) := by
  obtain ⟨i, hi, hz, hs, hb⟩ := info92
  simpa [hs, Value.cells] using run_make (P := Try.prog) w 59 58 i (.pointer none) Try.underlying59 hi hz .i64 .i64 n n (by omega) (Int.le_refl _) (by rw [hb]; omega) (by omega)
set_option maxHeartbeats 400000 in
theorem newI_any (w : World) (n : Int) :
    Calls Try.prog 12 #[.int .i64 n] w fun x w' => x = .returned (.pointer (some ⟨w.heap.size + 1, 0, none⟩)) ∧ Tab KI w' (fun b => b = w.heap.size ∨ b = w.heap.size + 1) (w.heap.size + 1) (List.replicate (clp n) none) ∧ Below w.heap.size w w' := by
  have H := hide (fun N (h : N ≤ 4096) => (⟨_, _, TabAt.fresh KI w N h⟩ : Tab KI _ _ _ _))
  have hbel : ∀ a b, Below w.heap.size w ((w.alloc a).alloc b) := fun a b => ((Below.refl _ _).alloc (Nat.le_refl _) _).alloc (by simp) _
  rcases clp_cases n with ⟨h, e⟩ | ⟨N, h1, rfl, e⟩ | ⟨h, e⟩ <;> (have HE := hide e; clear e)
  · have hm : (Instr.makeSlice 59 (.int .i64 0) (.int .i64 0)).run Try.prog w = _ := make92 w 0 (by omega)
    go_enter Try.func12, Try.ntmps12
    go_wp2
    go_ret
    exact ⟨rfl, by rw [HE.out]; exact H.out 0 (by omega), hbel _ _⟩
  · have hm := make92 w N (by omega)
    have h3 : (N : Int) < 4096 := by omega
    go_enter Try.func12, Try.ntmps12
    go_wp2
    go_ret
    exact ⟨rfl, by rw [HE.out]; exact H.out N (by omega), hbel _ _⟩
  · have hm : (Instr.makeSlice 59 (.int .i64 4096) (.int .i64 4096)).run Try.prog w = .ok (.slice (some ⟨w.heap.size, 0, none⟩) 4096 4096) (w.alloc (.cells (madeCells #[.pointer none] 4096) 58)) := make92 w 4096 (by omega)
    rcases Int.lt_or_eq_of_le h with h' | rfl
    · have h3 : ¬ n < 4096 := by omega
      have h4 : 0 ≤ n := by omega
      clear h
      go_enter Try.func12, Try.ntmps12
      go_wp2
      go_ret
      exact ⟨rfl, by rw [HE.out]; exact H.out 4096 (by omega), hbel _ _⟩
    · go_enter Try.func12, Try.ntmps12
      go_wp2
      go_ret
      exact ⟨rfl, by rw [HE.out]; exact H.out 4096 (by omega), hbel _ _⟩
set_option maxHeartbeats 400000 in
theorem lenI_any (w : World) (F : Nat → Prop) (B : Nat) (m : List (Option Int)) (h : Tab KI w F B m) :
    Calls Try.prog 16 #[.pointer (some ⟨B, 0, none⟩)] w fun x w' => x = .returned (.int .i64 ((m.countP Option.isSome : Nat) : Int)) ∧ w' = w := by
  obtain ⟨p, ps, h⟩ := h
  obtain ⟨c0, c1, f0, f1⟩ := h.cells
  clear h
  generalize m.countP Option.isSome = c at *
  go_enter Try.func16, Try.ntmps16
  go_wp2
  go_ret
  exact ⟨rfl, rfl⟩
set_option maxHeartbeats 400000 in
theorem boundI_any (w : World) (F : Nat → Prop) (B : Nat) (m : List (Option Int)) (h : Tab KI w F B m) :
    Calls Try.prog 15 #[.pointer (some ⟨B, 0, none⟩)] w fun x w' => x = .returned (.int .i64 (m.length : Nat)) ∧ w' = w := by
  obtain ⟨p, ps, h⟩ := h
  obtain ⟨c0, c1, f0, f1⟩ := h.cells
  clear h
  generalize m.length = c at *
  go_enter Try.func15, Try.ntmps15
  go_wp2
  go_ret
  exact ⟨rfl, rfl⟩
set_option maxHeartbeats 400000 in
theorem outsideI_any (w : World) (F : Nat → Prop) (B : Nat) (m : List (Option Int)) (h : Tab KI w F B m) (i : Int) :
    Calls Try.prog 35 #[.pointer (some ⟨B, 0, none⟩), .int .i64 i] w fun x w' => x = .returned (.bool (decide (i < 0 ∨ (m.length : Int) ≤ i))) ∧ w' = w := by
  obtain ⟨p, ps, h⟩ := h
  obtain ⟨c0, c1, f0, f1⟩ := h.cells
  clear h
  generalize m.length = c at *
  by_cases h0 : i < 0
  · have e : decide (i < 0 ∨ (c : Int) ≤ i) = true := by simp [h0]
    rw [e]
    go_enter Try.func35, Try.ntmps35
    go_wp2
    go_ret
    exact ⟨rfl, rfl⟩
  · have e : decide (i < 0 ∨ (c : Int) ≤ i) = decide ((c : Int) ≤ i) := by simp [h0]
    rw [e]
    go_enter Try.func35, Try.ntmps35
    go_wp2
    go_ret
    exact ⟨rfl, rfl⟩
set_option maxHeartbeats 400000 in
theorem holdsI_any (w : World) (F : Nat → Prop) (B : Nat) (m : List (Option Int)) (h : Tab KI w F B m) (i : Int) :
    Calls Try.prog 33 #[.pointer (some ⟨B, 0, none⟩), .int .i64 i] w fun x w' => x = .returned (.bool (look m i).isSome) ∧ w' = w := by
  have HO := hide (outsideI_any w F B m h i)
  obtain ⟨p, ps, h⟩ := h
  obtain ⟨c0, c1, f0, f1⟩ := h.cells
  rcases look_cases m i with ⟨h1, e⟩ | ⟨k, rfl, hk, hm, e⟩ | ⟨k, x, rfl, hk, hm, e⟩ <;> rw [e] <;> clear e
  · have hd : decide (i < 0 ∨ (m.length : Int) ≤ i) = true := by simpa using h1
    clear h h1
    rw [hd] at HO
    generalize m.length = n at *
    go_enter Try.func33, Try.ntmps33
    go_wp2_with fail
    refine HO.out.mono ?_
    rintro e w1 ⟨rfl, rfl⟩
    go_wp2
    go_ret
    exact ⟨rfl, rfl⟩
  · rw [in_false hk] at HO
    have c2 := h.nil hm
    clear h hm
    generalize m.length = n at *
    go_enter Try.func33, Try.ntmps33
    go_wp2_with fail
    refine HO.out.mono ?_
    rintro e w1 ⟨rfl, rfl⟩
    go_wp2
    go_ret
    exact ⟨rfl, rfl⟩
  · rw [in_false hk] at HO
    obtain ⟨q, hq1, c2, hq3, hq4⟩ := h.ptr hm
    clear h hm hq1 hq3 hq4
    generalize m.length = n at *
    go_enter Try.func33, Try.ntmps33
    go_wp2_with fail
    refine HO.out.mono ?_
    rintro e w1 ⟨rfl, rfl⟩
    go_wp2
    go_ret
    exact ⟨rfl, rfl⟩

set_option maxHeartbeats 400000 in
theorem layI_any (w : World) (F : Nat → Prop) (B : Nat) (m : List (Option Int)) (h : Tab KI w F B m) (k : Nat) (hk : m[k]? = some none) (c : Int) :
    Calls Try.prog 32 #[.pointer (some ⟨B, 0, none⟩), .int .i64 k, .int .i64 c] w fun x w' => x = .returned (.tuple #[]) ∧ ∃ F', Tab KI w' F' B (m.set k (some c)) ∧ Ext F w F' w' := by
  obtain ⟨p, ps, h⟩ := h
  have HL := hide (fun t => h.lay hk c (c := t))
  have hks : k < m.length := (List.getElem?_eq_some_iff.1 hk).1
  have hcnt : m.countP Option.isSome ≤ 4096 := Nat.le_trans count_le h.cap
  have HM := hide (fun a b c => (((Mod.refl F w).alloc a).setCell (p := ⟨p, k, none⟩) (.inl h.fp) b).setCell (p := ⟨B, 1, none⟩) (.inl h.fB) c)
  have h' := fun o => h.keep (w' := w.alloc o) (by simp) (fun b hb => Below.heap_alloc _ _ _ (h.lt b hb))
  have c0 := fun o => (h' o).cells.1
  have c1 := fun o => (h' o).cells.2.1
  have f1 := fun o => (h' o).cells.2.2.2
  have f2 := fun o => (h' o).frz k
  have c2 := fun o => (h' o).nil hk
  have hne := h.ne
  clear h h' hk
  generalize m.countP Option.isSome = cnt at *
  generalize m.length = n at *
  go_enter Try.func32, Try.ntmps32
  go_wp2
  go_end0
  exact ⟨rfl, _, ⟨_, _, HL.out _ rfl⟩, HM.out _ _ _, fun b hb => hb.imp id (fun e => by omega)⟩

set_option maxHeartbeats 400000 in
theorem nextI_nat (w : World) (F : Nat → Prop) (B : Nat) (m : List (Option Int)) (h : Tab KI w F B m) (i : Int) (s : Nat) (hs : (if i < 0 then 0 else i) = (s : Int)) :
    Calls Try.prog 24 #[.pointer (some ⟨B, 0, none⟩), .int .i64 i] w fun x w' => w' = w ∧ ((∃ k : Nat, x = .returned (.int .i64 k) ∧ IsNext m s k) ∨ (x = .returned (.int .i64 (-1)) ∧ NoNext m s)) := by
  have hcap := h.cap
  obtain ⟨p, ps, h⟩ := h
  obtain ⟨c0, c1, f0, f1⟩ := h.cells
  have HN := hide (fun (k : Nat) hk => h.nil (i := k) hk)
  have HP := hide (fun (k : Nat) (x : Int) hk => (let ⟨q, _, hq, _⟩ := h.ptr (i := k) (x := x) hk; ⟨q, hq⟩ : ∃ q, w.cell? ⟨p, k, none⟩ = some (.pointer (some ⟨q, 0, none⟩))))
  have HQ := hide (fun k : Nat => look_cases m k)
  have HI := hide (fun k (e : IsNext m s k) => e)
  have HO := hide (fun (k : Nat) (e : m.length ≤ k) => look_out m (k : Int) (.inr (by omega)))
  clear h
  generalize hn : m.length = n at *
  clear hn
  go_enter Try.func24, Try.ntmps24
  go_wp2
  go_loopw [5] (fun i wr => ∃ k : Nat, s ≤ k ∧ i = .int .i64 k ∧ wr = w ∧ Hid (∀ j : Nat, s ≤ j → j < k → look m (j : Int) = none)) (fun i _ => n - (intOf i).toNat)
  case atStart => exact ⟨s, by omega, rfl, rfl, fun j h1 h2 => by omega⟩
  case round =>
    obtain ⟨k, hk, rfl, rfl, hH⟩ := hrel
    by_cases hlt : k < n
    · rcases HQ.out k with ⟨h1, e⟩ | ⟨k', h0, _, hm, e⟩ | ⟨k', x, h0, _, hm, e⟩
      · omega
      · obtain rfl : k = k' := by omega
        have c2 := HN.out k hm
        have HE := hide e
        clear hm e h0
        go_wp2
        go_roundw
        case rel => exact ⟨k + 1, by omega, by go_num, by first | rfl | trivial, fun j h1 h2 => by
            rcases Nat.lt_or_ge j k with h3 | h3
            · exact hH j h1 h3
            · obtain rfl : j = k := by omega
              exact HE.out⟩
        case measure => simp [intOf]; omega
      · obtain rfl : k = k' := by omega
        obtain ⟨q, c2⟩ := HP.out k x hm
        have HE := hide hm
        clear hm e h0
        go_wp2
        go_ret
        exact ⟨rfl, .inl ⟨k, rfl, hk, ⟨x, HE.out⟩, hH⟩⟩
    · go_wp2
      go_ret
      exact ⟨rfl, .inr ⟨rfl, fun j h1 => by
        rcases Nat.lt_or_ge j k with h3 | h3
        · exact hH j h1 h3
        · exact HO.out j (by omega)⟩⟩
theorem nextI_any (w : World) (F : Nat → Prop) (B : Nat) (m : List (Option Int)) (h : Tab KI w F B m) (i : Int) :
    Calls Try.prog 24 #[.pointer (some ⟨B, 0, none⟩), .int .i64 i] w fun x w' => w' = w ∧ ((∃ k : Nat, x = .returned (.int .i64 k) ∧ IsNext m i.toNat k) ∨ (x = .returned (.int .i64 (-1)) ∧ NoNext m i.toNat)) :=
  nextI_nat w F B m h i i.toNat (by split <;> omega)
set_option maxHeartbeats 400000 in
theorem putI_any (w : World) (F : Nat → Prop) (B : Nat) (m : List (Option Int)) (h : Tab KI w F B m) (c : Int) :
    Calls Try.prog 13 #[.pointer (some ⟨B, 0, none⟩), .int .i64 c] w fun x w' => (ff m < m.length → x = .returned (.tuple #[.int .i64 (ff m : Nat), .int .i64 0]) ∧ ∃ F', Tab KI w' F' B (m.set (ff m) (some c)) ∧ Ext F w F' w') ∧
      (ff m = m.length → x = .returned (.tuple #[.int .i64 (-1), .int .i64 2]) ∧ Tab KI w' F B m ∧ Ext F w F w') := by
  have hf := ff_le m
  have hcap := h.cap
  have HT := hide h
  obtain ⟨p, ps, h⟩ := h
  have c0 := h.cells.1
  have HH := hide (fun (k : Nat) (hk : k < ff m) => by obtain ⟨x, hx⟩ := ff_held hk; exact (let ⟨q, _, hq, _⟩ := h.ptr hx; ⟨q, hq⟩ : ∃ q, w.cell? ⟨p, k, none⟩ = some (.pointer (some ⟨q, 0, none⟩))))
  have HN := hide (fun (hk : ff m < m.length) => h.nil (ff_free hk))
  have HL := hide (fun (hk : ff m < m.length) => layI_any _ F B m HT.out (ff m) (ff_free hk) c)
  clear h
  generalize ff m = f at *
  have hn : m.length = m.length := rfl
  generalize m.length = n at *
  go_enter Try.func13, Try.ntmps13
  go_wp2
  go_loopw [13] (fun i wr => ∃ k : Nat, k ≤ f ∧ i = .int .i64 k ∧ wr = w) (fun i _ => n - (intOf i).toNat)
  case atStart => exact ⟨0, by omega, rfl, rfl⟩
  case round =>
    obtain ⟨k, hk, rfl, rfl⟩ := hrel
    by_cases hlt : k < f
    · obtain ⟨q, hq⟩ := HH.out k hlt
      have hkn : k < n := by omega
      go_wp2
      go_roundw
      case rel => exact ⟨k + 1, by omega, by go_num, by first | rfl | trivial⟩
      case measure => simp [intOf]; omega
    · obtain rfl : k = f := by omega
      by_cases hkn : k < n
      · have hq := HN.out hkn
        go_wp2_with fail
        refine (HL.out hkn).mono ?_
        rintro e w1 ⟨rfl, F', hT, hE⟩
        have HT1 := hide hT
        have HE1 := hide hE
        clear hT hE
        go_wp2
        go_ret2
        exact ⟨fun _ => ⟨rfl, F', HT1.out, HE1.out⟩, fun e => by omega⟩
      · go_wp2
        go_ret2
        exact ⟨fun e => by omega, fun _ => ⟨rfl, HT.out, Ext.refl _ _⟩⟩
end Go.Proofs.Ytclbgmkodjiapaa
