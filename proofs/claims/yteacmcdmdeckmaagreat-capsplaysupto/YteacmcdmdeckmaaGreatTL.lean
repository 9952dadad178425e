import Derived.Test.YteacmcdmdeckmaaGreatT2
import Derived.Laws.MakeOwn
import Derived.Laws.ResultCell
namespace Go.Proofs.YteacmcdmdeckmaaGreat
open Go.RowKit

theorem infoL : ∃ i, Tryz.prog.info? 102 = some i ∧ i.zero = some (.pointer none) ∧ i.size = 1 ∧ i.bytes = 8 := info_parts (by kernel_rfl)
theorem makeL (w : World) (n : Nat) (h : n ≤ 4096) : (Instr.makeSlice 61 (.int .i64 (n : Int)) (.int .i64 (n : Int))).run Tryz.prog w = .ok (.slice (some ⟨w.heap.size, 0, none⟩) n n) (w.alloc (.cells (madeCells #[.pointer none] n) 102)) := by
  obtain ⟨i, hi, hz, hs, hb⟩ := infoL
  simpa [hs, Value.cells] using run_make (P := Tryz.prog) w 61 102 i (.pointer none) Tryz.underlying61 hi hz .i64 .i64 n n (by omega) (Int.le_refl _) (by rw [hb]; omega) (by omega)
set_option maxHeartbeats 400000 in
theorem newL_any (w : World) :
    Calls Tryz.prog 8 #[.int .i64 16] w fun x w' => x = .returned (.pointer (some ⟨w.heap.size + 1, 0, none⟩)) ∧ Tab KL w' (fun b => b = w.heap.size ∨ b = w.heap.size + 1) (w.heap.size + 1) (List.replicate 16 none) ∧ Below w.heap.size w w' := by
  have H := hide (⟨_, _, TabAt.fresh KL w 16 (by omega)⟩ : Tab KL _ _ _ _)
  have hbel : ∀ a b, Below w.heap.size w ((w.alloc a).alloc b) := fun a b => ((Below.refl _ _).alloc (Nat.le_refl _) _).alloc (by simp) _
  have hm : (Instr.makeSlice 61 (.int .i64 16) (.int .i64 16)).run Tryz.prog w = _ := makeL w 16 (by omega)
  go_enter Tryz.func8, Tryz.ntmps8
  go_wp2
  go_ret
  exact ⟨rfl, H.out, hbel _ _⟩
set_option maxHeartbeats 400000 in
theorem outsideL_any (w : World) (F : Nat → Prop) (B : Nat) (m : List (Option Nat)) (h : Tab KL w F B m) (i : Int) :
    Calls Tryz.prog 89 #[.pointer (some ⟨B, 0, none⟩), .int .i64 i] w fun x w' => x = .returned (.bool (decide (i < 0 ∨ (m.length : Int) ≤ i))) ∧ w' = w := by
  obtain ⟨p, ps, h⟩ := h
  obtain ⟨c0, c1, f0, f1⟩ := h.cells
  clear h
  generalize m.length = c at *
  by_cases h0 : i < 0
  · have e : decide (i < 0 ∨ (c : Nat) ≤ i) = true := by simp [h0]
    rw [e]
    go_enter Tryz.func89, Tryz.ntmps89
    go_wp2
    go_ret
    exact ⟨rfl, rfl⟩
  · have e : decide (i < 0 ∨ (c : Nat) ≤ i) = decide ((c : Nat) ≤ i) := by simp [h0]
    rw [e]
    go_enter Tryz.func89, Tryz.ntmps89
    go_wp2
    go_ret
    exact ⟨rfl, rfl⟩
set_option maxHeartbeats 400000 in
theorem holdsL_any (w : World) (F : Nat → Prop) (B : Nat) (m : List (Option Nat)) (h : Tab KL w F B m) (i : Int) :
    Calls Tryz.prog 64 #[.pointer (some ⟨B, 0, none⟩), .int .i64 i] w fun x w' => x = .returned (.bool (look m i).isSome) ∧ w' = w := by
  have HO := hide (outsideL_any w F B m h i)
  obtain ⟨p, ps, h⟩ := h
  obtain ⟨c0, c1, f0, f1⟩ := h.cells
  rcases look_cases m i with ⟨h1, e⟩ | ⟨k, rfl, hk, hm, e⟩ | ⟨k, x, rfl, hk, hm, e⟩ <;> rw [e] <;> clear e
  · have hd : decide (i < 0 ∨ (m.length : Int) ≤ i) = true := by simpa using h1
    clear h h1
    rw [hd] at HO
    generalize m.length = n at *
    go_enter Tryz.func64, Tryz.ntmps64
    go_wp2_with fail
    refine HO.out.mono ?_
    rintro e w1 ⟨rfl, rfl⟩
    go_wp2
    go_ret
    exact ⟨rfl, rfl⟩
  · rw [in_false hk] at HO
    have c2 := h.nil hm
    clear h hm
    generalize m.length = n at *
    go_enter Tryz.func64, Tryz.ntmps64
    go_wp2_with fail
    refine HO.out.mono ?_
    rintro e w1 ⟨rfl, rfl⟩
    go_wp2
    go_ret
    exact ⟨rfl, rfl⟩
  · rw [in_false hk] at HO
    obtain ⟨q, hq1, c2, hq3, hq4⟩ := h.ptr hm
    clear h hm hq1 hq3 hq4
    generalize m.length = n at *
    go_enter Tryz.func64, Tryz.ntmps64
    go_wp2_with fail
    refine HO.out.mono ?_
    rintro e w1 ⟨rfl, rfl⟩
    go_wp2
    go_ret
    exact ⟨rfl, rfl⟩
set_option maxHeartbeats 400000 in
theorem layL_any (w : World) (F : Nat → Prop) (B : Nat) (m : List (Option Nat)) (h : Tab KL w F B m) (k : Nat) (hk : m[k]? = some none) (c : Nat) :
    Calls Tryz.prog 92 #[.pointer (some ⟨B, 0, none⟩), .int .i64 k, .pointer (some ⟨c, 0, none⟩)] w fun x w' => x = .returned (.tuple #[]) ∧ ∃ F', Tab KL w' F' B (m.set k (some c)) ∧ Ext F w F' w' := by
  obtain ⟨p, ps, h⟩ := h
  have HL := hide (fun t => h.lay hk c (c := t))
  have hks : k < m.length := (List.getElem?_eq_some_iff.1 hk).1
  have hcnt : m.countP Option.isSome ≤ 4096 := Nat.le_trans count_le h.cap
  have HM := hide (fun a b c => (((Mod.refl F w).alloc a).setCell (p := ⟨p, k, none⟩) (.inl h.fp) b).setCell (p := ⟨B, 1, none⟩) (.inl h.fB) c)
  have h' := fun o => h.keep (w' := w.alloc o) (by simp) (fun b hb => Below.heap_alloc _ _ _ (h.lt b hb))
  have c0 := fun o => (h' o).cells.1
  have c1 := fun o => (h' o).cells.2.1
  have f1 := fun o => (h' o).cells.2.2.2
  have f2 := fun o => (h' o).frz k
  have c2 := fun o => (h' o).nil hk
  have hne := h.ne
  clear h h' hk
  generalize m.countP Option.isSome = cnt at *
  generalize m.length = n at *
  go_enter Tryz.func92, Tryz.ntmps92
  go_wp2
  go_end0
  exact ⟨rfl, _, ⟨_, _, HL.out _ rfl⟩, HM.out _ _ _, fun b hb => hb.imp id (fun e => by omega)⟩
set_option maxHeartbeats 400000 in
theorem nextL_nat (w : World) (F : Nat → Prop) (B : Nat) (m : List (Option Nat)) (h : Tab KL w F B m) (i : Int) (s : Nat) (hs : (if i < 0 then 0 else i) = (s : Int)) :
    Calls Tryz.prog 91 #[.pointer (some ⟨B, 0, none⟩), .int .i64 i] w fun x w' => w' = w ∧ ((∃ k : Nat, x = .returned (.int .i64 k) ∧ IsNext m s k) ∨ (x = .returned (.int .i64 (-1)) ∧ NoNext m s)) := by
  have hcap := h.cap
  obtain ⟨p, ps, h⟩ := h
  obtain ⟨c0, c1, f0, f1⟩ := h.cells
  have HN := hide (fun (k : Nat) hk => h.nil (i := k) hk)
  have HP := hide (fun (k : Nat) (x : Nat) hk => (let ⟨q, _, hq, _⟩ := h.ptr (i := k) (x := x) hk; ⟨q, hq⟩ : ∃ q, w.cell? ⟨p, k, none⟩ = some (.pointer (some ⟨q, 0, none⟩))))
  have HQ := hide (fun k : Nat => look_cases m k)
  have HI := hide (fun k (e : IsNext m s k) => e)
  have HO := hide (fun (k : Nat) (e : m.length ≤ k) => look_out m (k : Int) (.inr (by omega)))
  clear h
  generalize hn : m.length = n at *
  clear hn
  go_enter Tryz.func91, Tryz.ntmps91
  go_wp2
  go_loopw [5] (fun i wr => ∃ k : Nat, s ≤ k ∧ i = .int .i64 k ∧ wr = w ∧ Hid (∀ j : Nat, s ≤ j → j < k → look m (j : Int) = none)) (fun i _ => n - (intOf i).toNat)
  case atStart => exact ⟨s, by omega, rfl, rfl, fun j h1 h2 => by omega⟩
  case round =>
    obtain ⟨k, hk, rfl, rfl, hH⟩ := hrel
    by_cases hlt : k < n
    · rcases HQ.out k with ⟨h1, e⟩ | ⟨k', h0, _, hm, e⟩ | ⟨k', x, h0, _, hm, e⟩
      · omega
      · obtain rfl : k = k' := by omega
        have c2 := HN.out k hm
        have HE := hide e
        clear hm e h0
        go_wp2
        go_roundw
        case rel => exact ⟨k + 1, by omega, by go_num, by first | rfl | trivial, fun j h1 h2 => by
            rcases Nat.lt_or_ge j k with h3 | h3
            · exact hH j h1 h3
            · obtain rfl : j = k := by omega
              exact HE.out⟩
        case measure => simp [intOf]; omega
      · obtain rfl : k = k' := by omega
        obtain ⟨q, c2⟩ := HP.out k x hm
        have HE := hide hm
        clear hm e h0
        go_wp2
        go_ret
        exact ⟨rfl, .inl ⟨k, rfl, hk, ⟨x, HE.out⟩, hH⟩⟩
    · go_wp2
      go_ret
      exact ⟨rfl, .inr ⟨rfl, fun j h1 => by
        rcases Nat.lt_or_ge j k with h3 | h3
        · exact hH j h1 h3
        · exact HO.out j (by omega)⟩⟩
theorem nextL_any (w : World) (F : Nat → Prop) (B : Nat) (m : List (Option Nat)) (h : Tab KL w F B m) (i : Int) :
    Calls Tryz.prog 91 #[.pointer (some ⟨B, 0, none⟩), .int .i64 i] w fun x w' => w' = w ∧ ((∃ k : Nat, x = .returned (.int .i64 k) ∧ IsNext m i.toNat k) ∨ (x = .returned (.int .i64 (-1)) ∧ NoNext m i.toNat)) :=
  nextL_nat w F B m h i i.toNat (by split <;> omega)
set_option maxHeartbeats 400000 in
theorem getL_any (w : World) (F : Nat → Prop) (B : Nat) (m : List (Option Nat)) (h : Tab KL w F B m) (i : Int) :
    Calls Tryz.prog 33 #[.pointer (some ⟨B, 0, none⟩), .int .i64 i] w fun x w' => x = .returned (.tuple #[ptr (look m i), .bool (look m i).isSome]) ∧ w' = w := by
  have HO := hide (holdsL_any _ F B m h i)
  obtain ⟨p, ps, h⟩ := h
  rcases look_cases m i with ⟨h1, e⟩ | ⟨k, rfl, hk, hm, e⟩ | ⟨k, x, rfl, hk, hm, e⟩ <;> rw [e] at HO ⊢ <;> clear e
  · clear h h1
    go_enter Tryz.func33, Tryz.ntmps33
    go_wp2_with fail
    refine HO.out.mono ?_
    rintro e w1 ⟨rfl, rfl⟩
    go_wp2
    go_returns
    exact ⟨rfl, rfl⟩
  · clear h hm
    go_enter Tryz.func33, Tryz.ntmps33
    go_wp2_with fail
    refine HO.out.mono ?_
    rintro e w1 ⟨rfl, rfl⟩
    go_wp2
    go_returns
    exact ⟨rfl, rfl⟩
  · have c0 := h.cells.1
    obtain ⟨q, hq1, c2, hq3, hq4⟩ := h.ptr hm
    have c3 := (cell_of_row _ q 0 _ _ _ hq3)
    simp [KL] at c3
    simp only [ptr, Option.isSome_some]
    clear h hm hq1 hq3 hq4
    generalize m.length = n at *
    go_enter Tryz.func33, Tryz.ntmps33
    go_wp2_with fail
    refine HO.out.mono ?_
    rintro e w1 ⟨rfl, rfl⟩
    go_wp2
    go_returns
    exact ⟨rfl, rfl⟩
end Go.Proofs.YteacmcdmdeckmaaGreat
