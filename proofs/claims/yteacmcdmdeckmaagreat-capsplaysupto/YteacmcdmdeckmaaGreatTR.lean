import Derived.Test.YteacmcdmdeckmaaGreatT2
import Derived.Laws.MakeOwn
import Derived.Laws.ResultCell
namespace Go.Proofs.YteacmcdmdeckmaaGreat
open Go.RowKit

theorem infoR : ∃ i, Tryz.prog.info? 104 = some i ∧ i.zero = some (.pointer none) ∧ i.size = 1 ∧ i.bytes = 8 := info_parts (by kernel_rfl)
theorem makeR (w : World) (n : Nat) (h : n ≤ 4096) : (Instr.makeSlice 105 (.int .i64 (n : Int)) (.int .i64 (n : Int))).run Tryz.prog w = .ok (.slice (some ⟨w.heap.size, 0, none⟩) n n) (w.alloc (.cells (madeCells #[.pointer none] n) 104)) := by
  obtain ⟨i, hi, hz, hs, hb⟩ := infoR
  simpa [hs, Value.cells] using run_make (P := Tryz.prog) w 105 104 i (.pointer none) Tryz.underlying105 hi hz .i64 .i64 n n (by omega) (Int.le_refl _) (by rw [hb]; omega) (by omega)
set_option maxHeartbeats 400000 in
theorem newR_any (w : World) :
    Calls Tryz.prog 71 #[.int .i64 48] w fun x w' => x = .returned (.pointer (some ⟨w.heap.size + 1, 0, none⟩)) ∧ Tab KR w' (fun b => b = w.heap.size ∨ b = w.heap.size + 1) (w.heap.size + 1) (List.replicate 48 none) ∧ Below w.heap.size w w' := by
  have H := hide (⟨_, _, TabAt.fresh KR w 48 (by omega)⟩ : Tab KR _ _ _ _)
  have hbel : ∀ a b, Below w.heap.size w ((w.alloc a).alloc b) := fun a b => ((Below.refl _ _).alloc (Nat.le_refl _) _).alloc (by simp) _
  have hm : (Instr.makeSlice 105 (.int .i64 48) (.int .i64 48)).run Tryz.prog w = _ := makeR w 48 (by omega)
  go_enter Tryz.func71, Tryz.ntmps71
  go_wp2
  go_ret
  exact ⟨rfl, H.out, hbel _ _⟩
set_option maxHeartbeats 400000 in
theorem boundR_any (w : World) (F : Nat → Prop) (B : Nat) (m : List (Option Rc)) (h : Tab KR w F B m) :
    Calls Tryz.prog 43 #[.pointer (some ⟨B, 0, none⟩)] w fun x w' => x = .returned (.int .i64 (m.length : Nat)) ∧ w' = w := by
  obtain ⟨p, ps, h⟩ := h
  obtain ⟨c0, c1, f0, f1⟩ := h.cells
  clear h
  generalize m.length = c at *
  go_enter Tryz.func43, Tryz.ntmps43
  go_wp2
  go_ret
  exact ⟨rfl, rfl⟩
set_option maxHeartbeats 400000 in
theorem outsideR_any (w : World) (F : Nat → Prop) (B : Nat) (m : List (Option Rc)) (h : Tab KR w F B m) (i : Int) :
    Calls Tryz.prog 103 #[.pointer (some ⟨B, 0, none⟩), .int .i64 i] w fun x w' => x = .returned (.bool (decide (i < 0 ∨ (m.length : Int) ≤ i))) ∧ w' = w := by
  obtain ⟨p, ps, h⟩ := h
  obtain ⟨c0, c1, f0, f1⟩ := h.cells
  clear h
  generalize m.length = c at *
  by_cases h0 : i < 0
  · have e : decide (i < 0 ∨ (c : Int) ≤ i) = true := by simp [h0]
    rw [e]
    go_enter Tryz.func103, Tryz.ntmps103
    go_wp2
    go_ret
    exact ⟨rfl, rfl⟩
  · have e : decide (i < 0 ∨ (c : Int) ≤ i) = decide ((c : Int) ≤ i) := by simp [h0]
    rw [e]
    go_enter Tryz.func103, Tryz.ntmps103
    go_wp2
    go_ret
    exact ⟨rfl, rfl⟩
set_option maxHeartbeats 400000 in
theorem lenR_any (w : World) (F : Nat → Prop) (B : Nat) (m : List (Option Rc)) (h : Tab KR w F B m) :
    Calls Tryz.prog 44 #[.pointer (some ⟨B, 0, none⟩)] w fun x w' => x = .returned (.int .i64 ((m.countP Option.isSome : Nat) : Int)) ∧ w' = w := by
  obtain ⟨p, ps, h⟩ := h
  obtain ⟨c0, c1, f0, f1⟩ := h.cells
  clear h
  generalize m.countP Option.isSome = c at *
  go_enter Tryz.func44, Tryz.ntmps44
  go_wp2
  go_ret
  exact ⟨rfl, rfl⟩
set_option maxHeartbeats 400000 in
theorem holdsR_any (w : World) (F : Nat → Prop) (B : Nat) (m : List (Option Rc)) (h : Tab KR w F B m) (i : Int) :
    Calls Tryz.prog 88 #[.pointer (some ⟨B, 0, none⟩), .int .i64 i] w fun x w' => x = .returned (.bool (look m i).isSome) ∧ w' = w := by
  have HO := hide (outsideR_any w F B m h i)
  obtain ⟨p, ps, h⟩ := h
  obtain ⟨c0, c1, f0, f1⟩ := h.cells
  rcases look_cases m i with ⟨h1, e⟩ | ⟨k, rfl, hk, hm, e⟩ | ⟨k, x, rfl, hk, hm, e⟩ <;> rw [e] <;> clear e
  · have hd : decide (i < 0 ∨ (m.length : Int) ≤ i) = true := by simpa using h1
    clear h h1
    rw [hd] at HO
    generalize m.length = n at *
    go_enter Tryz.func88, Tryz.ntmps88
    go_wp2_with fail
    refine HO.out.mono ?_
    rintro e w1 ⟨rfl, rfl⟩
    go_wp2
    go_ret
    exact ⟨rfl, rfl⟩
  · rw [in_false hk] at HO
    have c2 := h.nil hm
    clear h hm
    generalize m.length = n at *
    go_enter Tryz.func88, Tryz.ntmps88
    go_wp2_with fail
    refine HO.out.mono ?_
    rintro e w1 ⟨rfl, rfl⟩
    go_wp2
    go_ret
    exact ⟨rfl, rfl⟩
  · rw [in_false hk] at HO
    obtain ⟨q, hq1, c2, hq3, hq4⟩ := h.ptr hm
    clear h hm hq1 hq3 hq4
    generalize m.length = n at *
    go_enter Tryz.func88, Tryz.ntmps88
    go_wp2_with fail
    refine HO.out.mono ?_
    rintro e w1 ⟨rfl, rfl⟩
    go_wp2
    go_ret
    exact ⟨rfl, rfl⟩
def Rc.zero : Rc := ⟨0, 0, 0, 0, 0, 0⟩
set_option maxHeartbeats 400000 in
theorem getR_any (w : World) (F : Nat → Prop) (B : Nat) (m : List (Option Rc)) (h : Tab KR w F B m) (i : Int) :
    Calls Tryz.prog 63 #[.pointer (some ⟨B, 0, none⟩), .int .i64 i] w fun x w' => x = .returned (.tuple #[((look m i).getD Rc.zero).val, .bool (look m i).isSome]) ∧ Below w.heap.size w w' := by
  have HO := hide (fun o => holdsR_any _ F B m (h.below ((Below.refl _ _).alloc (Nat.le_refl _) o)) i)
  obtain ⟨p, ps, h⟩ := h
  have hold : ∀ b, F b → b < w.heap.size := h.lt
  have hbel1 : ∀ a, Below w.heap.size w (w.alloc a) := fun a => (Below.refl _ _).alloc (Nat.le_refl _) _
  have hbel2 : ∀ a b, Below w.heap.size w ((w.alloc a).alloc b) := fun a b => ((Below.refl _ _).alloc (Nat.le_refl _) _).alloc (by simp) _
  rcases look_cases m i with ⟨h1, e⟩ | ⟨k, rfl, hk, hm, e⟩ | ⟨k, x, rfl, hk, hm, e⟩ <;> rw [e] at HO ⊢ <;> clear e
  · clear h h1 hold
    go_enter Tryz.func63, Tryz.ntmps63
    go_wp2_with fail
    refine (HO.out _).mono ?_
    rintro e w1 ⟨rfl, rfl⟩
    go_wp2
    go_returns
    exact ⟨rfl, hbel2 _ _⟩
  · clear h hm hold
    go_enter Tryz.func63, Tryz.ntmps63
    go_wp2_with fail
    refine (HO.out _).mono ?_
    rintro e w1 ⟨rfl, rfl⟩
    go_wp2
    go_returns
    exact ⟨rfl, hbel2 _ _⟩
  · have h' := fun o => h.keep (w' := w.alloc o) (by simp) (fun b hb => Below.heap_alloc _ _ _ (h.lt b hb))
    have c0 := fun o => (h' o).cells.1
    obtain ⟨q, hq1, c2, hq3, hq4⟩ := h.ptr hm
    have c1 := fun o => ((h' o).place hq1).1
    have hq := fun o => (Below.heap_alloc w o _ (h.lt q hq4)).trans hq3
    have c3 := fun o => (cell_of_row _ q 0 _ _ _ (hq o))
    have c4 := fun o => (cell_of_row _ q 1 _ _ _ (hq o))
    have c5 := fun o => (cell_of_row _ q 2 _ _ _ (hq o))
    have c6 := fun o => (cell_of_row _ q 3 _ _ _ (hq o))
    have c7 := fun o => (cell_of_row _ q 4 _ _ _ (hq o))
    have c8 := fun o => (cell_of_row _ q 5 _ _ _ (hq o))
    simp [KR] at c3 c4 c5 c6 c7 c8
    simp only [ptr] at c1
    have hlt := h.lt q hq4
    clear h hm hold hq hq1 hq3 hq4 h' c2
    generalize m.length = n at *
    go_enter Tryz.func63, Tryz.ntmps63
    go_wp2_with fail
    refine (HO.out _).mono ?_
    rintro e w1 ⟨rfl, rfl⟩
    go_wp2
    go_returns
    exact ⟨rfl, hbel1 _⟩
set_option maxHeartbeats 400000 in
theorem layR_any (w : World) (F : Nat → Prop) (B : Nat) (m : List (Option Rc)) (h : Tab KR w F B m) (k : Nat) (hk : m[k]? = some none) (c : Rc) :
    Calls Tryz.prog 106 #[.pointer (some ⟨B, 0, none⟩), .int .i64 k, c.val] w fun x w' => x = .returned (.tuple #[]) ∧ ∃ F', Tab KR w' F' B (m.set k (some c)) ∧ Ext F w F' w' := by
  obtain ⟨p, ps, h⟩ := h
  have HL := hide (fun t => h.lay hk c (c := t))
  have hks : k < m.length := (List.getElem?_eq_some_iff.1 hk).1
  have hcnt : m.countP Option.isSome ≤ 4096 := Nat.le_trans count_le h.cap
  have HM := hide (fun a b c => (((Mod.refl F w).alloc a).setCell (p := ⟨p, k, none⟩) (.inl h.fp) b).setCell (p := ⟨B, 1, none⟩) (.inl h.fB) c)
  have h' := fun o => h.keep (w' := w.alloc o) (by simp) (fun b hb => Below.heap_alloc _ _ _ (h.lt b hb))
  have c0 := fun o => (h' o).cells.1
  have c1 := fun o => (h' o).cells.2.1
  have f1 := fun o => (h' o).cells.2.2.2
  have f2 := fun o => (h' o).frz k
  have c2 := fun o => (h' o).nil hk
  have hne := h.ne
  clear h h' hk
  generalize m.countP Option.isSome = cnt at *
  generalize m.length = n at *
  simp only [Rc.val]
  go_enter Tryz.func106, Tryz.ntmps106
  go_wp2
  go_end0
  exact ⟨rfl, _, ⟨_, _, HL.out _ rfl⟩, HM.out _ _ _, fun b hb => hb.imp id (fun e => by omega)⟩
set_option maxHeartbeats 400000 in
theorem putR_any (w : World) (F : Nat → Prop) (B : Nat) (m : List (Option Rc)) (h : Tab KR w F B m) (c : Rc) :
    Calls Tryz.prog 96 #[.pointer (some ⟨B, 0, none⟩), c.val] w fun x w' => (ff m < m.length → x = .returned (.tuple #[.int .i64 (ff m : Nat), .int .i64 0]) ∧ ∃ F', Tab KR w' F' B (m.set (ff m) (some c)) ∧ Ext F w F' w') ∧
      (ff m = m.length → x = .returned (.tuple #[.int .i64 (-1), .int .i64 2]) ∧ Tab KR w' F B m ∧ Ext F w F w') := by
  have hf := ff_le m
  have hcap := h.cap
  have HT := hide (fun o => h.below ((Below.refl w.heap.size w).alloc (Nat.le_refl _) o))
  have HB := hide (fun o => (⟨(Mod.refl F w).alloc o, fun _ h => .inl h⟩ : Ext F w F (w.alloc o)))
  obtain ⟨p, ps, h⟩ := h
  have h' := fun o => h.keep (w' := w.alloc o) (by simp) (fun b hb => Below.heap_alloc _ _ _ (h.lt b hb))
  have c0 := fun o => (h' o).cells.1
  have HH := hide (fun (k : Nat) (hk : k < ff m) o => by obtain ⟨x, hx⟩ := ff_held hk; exact (let ⟨q, _, hq, _⟩ := (h' o).ptr hx; ⟨q, hq⟩ : ∃ q, (w.alloc o).cell? ⟨p, k, none⟩ = some (.pointer (some ⟨q, 0, none⟩))))
  have HN := hide (fun (hk : ff m < m.length) o => (h' o).nil (ff_free hk))
  have HL := hide (fun o (hk : ff m < m.length) => layR_any _ F B m (HT.out o) (ff m) (ff_free hk) c)
  clear h h'
  generalize ff m = f at *
  have hn : m.length = m.length := rfl
  generalize m.length = n at *
  simp only [Rc.val] at *
  go_enter Tryz.func96, Tryz.ntmps96
  go_wp2
  go_loopw [13] (fun i wr => ∃ k : Nat, k ≤ f ∧ i = .int .i64 k ∧ wr = w.alloc (.cells #[.int .i64 c.k, .int .i64 c.o, .int .i64 c.s, .int .i64 c.r, .int .i64 c.e, .int .i64 c.t] 65)) (fun i _ => n - (intOf i).toNat)
  case atStart => exact ⟨0, by omega, rfl, rfl⟩
  case round =>
    obtain ⟨k, hk, rfl, rfl⟩ := hrel
    by_cases hlt : k < f
    · obtain ⟨q, hq⟩ := HH.out k hlt (.cells #[.int .i64 c.k, .int .i64 c.o, .int .i64 c.s, .int .i64 c.r, .int .i64 c.e, .int .i64 c.t] 65)
      have hkn : k < n := by omega
      go_wp2
      go_roundw
      case rel => exact ⟨k + 1, by omega, by go_num, by first | rfl | trivial⟩
      case measure => simp [intOf]; omega
    · obtain rfl : k = f := by omega
      by_cases hkn : k < n
      · have hq := HN.out hkn (.cells #[.int .i64 c.k, .int .i64 c.o, .int .i64 c.s, .int .i64 c.r, .int .i64 c.e, .int .i64 c.t] 65)
        go_wp2_with fail
        refine (HL.out _ hkn).mono ?_
        rintro e w1 ⟨rfl, F', hT, hE⟩
        have HT1 := hide hT
        have HE1 := hide hE
        clear hT hE
        go_wp2
        go_ret2
        exact ⟨fun _ => ⟨rfl, F', HT1.out, (HB.out _).trans HE1.out⟩, fun e => by omega⟩
      · go_wp2
        go_ret2
        exact ⟨fun e => by omega, fun _ => ⟨rfl, HT.out _, HB.out _⟩⟩
set_option maxHeartbeats 400000 in
theorem nextR_nat (w : World) (F : Nat → Prop) (B : Nat) (m : List (Option Rc)) (h : Tab KR w F B m) (i : Int) (s : Nat) (hs : (if i < 0 then 0 else i) = (s : Int)) :
    Calls Tryz.prog 66 #[.pointer (some ⟨B, 0, none⟩), .int .i64 i] w fun x w' => w' = w ∧ ((∃ k : Nat, x = .returned (.int .i64 k) ∧ IsNext m s k) ∨ (x = .returned (.int .i64 (-1)) ∧ NoNext m s)) := by
  have hcap := h.cap
  obtain ⟨p, ps, h⟩ := h
  obtain ⟨c0, c1, f0, f1⟩ := h.cells
  have HN := hide (fun (k : Nat) hk => h.nil (i := k) hk)
  have HP := hide (fun (k : Nat) (x : Rc) hk => (let ⟨q, _, hq, _⟩ := h.ptr (i := k) (x := x) hk; ⟨q, hq⟩ : ∃ q, w.cell? ⟨p, k, none⟩ = some (.pointer (some ⟨q, 0, none⟩))))
  have HQ := hide (fun k : Nat => look_cases m k)
  have HI := hide (fun k (e : IsNext m s k) => e)
  have HO := hide (fun (k : Nat) (e : m.length ≤ k) => look_out m (k : Int) (.inr (by omega)))
  clear h
  generalize hn : m.length = n at *
  clear hn
  go_enter Tryz.func66, Tryz.ntmps66
  go_wp2
  go_loopw [5] (fun i wr => ∃ k : Nat, s ≤ k ∧ i = .int .i64 k ∧ wr = w ∧ Hid (∀ j : Nat, s ≤ j → j < k → look m (j : Int) = none)) (fun i _ => n - (intOf i).toNat)
  case atStart => exact ⟨s, by omega, rfl, rfl, fun j h1 h2 => by omega⟩
  case round =>
    obtain ⟨k, hk, rfl, rfl, hH⟩ := hrel
    by_cases hlt : k < n
    · rcases HQ.out k with ⟨h1, e⟩ | ⟨k', h0, _, hm, e⟩ | ⟨k', x, h0, _, hm, e⟩
      · omega
      · obtain rfl : k = k' := by omega
        have c2 := HN.out k hm
        have HE := hide e
        clear hm e h0
        go_wp2
        go_roundw
        case rel => exact ⟨k + 1, by omega, by go_num, by first | rfl | trivial, fun j h1 h2 => by
            rcases Nat.lt_or_ge j k with h3 | h3
            · exact hH j h1 h3
            · obtain rfl : j = k := by omega
              exact HE.out⟩
        case measure => simp [intOf]; omega
      · obtain rfl : k = k' := by omega
        obtain ⟨q, c2⟩ := HP.out k x hm
        have HE := hide hm
        clear hm e h0
        go_wp2
        go_ret
        exact ⟨rfl, .inl ⟨k, rfl, hk, ⟨x, HE.out⟩, hH⟩⟩
    · go_wp2
      go_ret
      exact ⟨rfl, .inr ⟨rfl, fun j h1 => by
        rcases Nat.lt_or_ge j k with h3 | h3
        · exact hH j h1 h3
        · exact HO.out j (by omega)⟩⟩
theorem nextR_any (w : World) (F : Nat → Prop) (B : Nat) (m : List (Option Rc)) (h : Tab KR w F B m) (i : Int) :
    Calls Tryz.prog 66 #[.pointer (some ⟨B, 0, none⟩), .int .i64 i] w fun x w' => w' = w ∧ ((∃ k : Nat, x = .returned (.int .i64 k) ∧ IsNext m i.toNat k) ∨ (x = .returned (.int .i64 (-1)) ∧ NoNext m i.toNat)) :=
  nextR_nat w F B m h i i.toNat (by split <;> omega)
end Go.Proofs.YteacmcdmdeckmaaGreat
