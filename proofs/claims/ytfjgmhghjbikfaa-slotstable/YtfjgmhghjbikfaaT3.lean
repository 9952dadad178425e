import Derived.Test.YtfjgmhghjbikfaaT2
namespace Go.Proofs.Ytfjgmhghjbikfaa
open Go.RowKit

/-- what lies at i -/
def look {α : Type} (m : List (Option α)) (i : Int) : Option α := if i < 0 then none else (m[i.toNat]?).join
theorem look_nat {α : Type} (m : List (Option α)) (k : Nat) : look m (k : Int) = (m[k]?).join := by
  unfold look; rw [if_neg (by omega)]; simp
theorem look_out {α : Type} (m : List (Option α)) (i : Int) (h : i < 0 ∨ (m.length : Int) ≤ i) : look m i = none := by
  unfold look; split
  · rfl
  · rw [List.getElem?_eq_none (by omega)]; rfl
theorem look_cases {α : Type} (m : List (Option α)) (i : Int) : ((i < 0 ∨ (m.length : Int) ≤ i) ∧ look m i = none) ∨ (∃ k : Nat, i = k ∧ k < m.length ∧ m[k]? = some none ∧ look m i = none) ∨ ∃ (k : Nat) (x : α), i = k ∧ k < m.length ∧ m[k]? = some (some x) ∧ look m i = some x := by
  by_cases h : i < 0 ∨ (m.length : Int) ≤ i
  · exact .inl ⟨h, look_out m i h⟩
  · obtain ⟨k, rfl⟩ : ∃ k : Nat, i = k := ⟨i.toNat, by omega⟩
    have hk : k < m.length := by omega
    rcases hm : m[k] with _ | x
    · exact .inr (.inl ⟨k, rfl, hk, by rw [List.getElem?_eq_getElem hk, hm], by rw [look_nat, List.getElem?_eq_getElem hk, hm]; rfl⟩)
    · exact .inr (.inr ⟨k, x, rfl, hk, by rw [List.getElem?_eq_getElem hk, hm], by rw [look_nat, List.getElem?_eq_getElem hk, hm]; rfl⟩)
theorem in_false {n k : Nat} (h : k < n) : decide ((k : Int) < 0 ∨ (n : Int) ≤ (k : Int)) = false := by simp; omega

set_option maxHeartbeats 400000 in
theorem holdsC_any (w : World) (F : Nat → Prop) (B : Nat) (m : List (Option Cl)) (h : Tab KC w F B m) (i : Int) :
    Calls Try.prog 55 #[.pointer (some ⟨B, 0, none⟩), .int .i64 i] w fun x w' => x = .returned (.bool (look m i).isSome) ∧ w' = w := by
  have HO := hide (outsideC_any w F B m h i)
  obtain ⟨p, ps, h⟩ := h
  obtain ⟨c0, c1, f0, f1⟩ := h.cells
  rcases look_cases m i with ⟨h1, e⟩ | ⟨k, rfl, hk, hm, e⟩ | ⟨k, x, rfl, hk, hm, e⟩ <;> rw [e] <;> clear e
  · have hd : decide (i < 0 ∨ (m.length : Int) ≤ i) = true := by simpa using h1
    clear h h1
    rw [hd] at HO
    generalize m.length = n at *
    go_enter Try.func55, Try.ntmps55
    go_wp2_with fail
    refine HO.out.mono ?_
    rintro e w1 ⟨rfl, rfl⟩
    go_wp2
    go_ret
    exact ⟨rfl, rfl⟩
  · rw [in_false hk] at HO
    have c2 := h.nil hm
    clear h hm
    generalize m.length = n at *
    go_enter Try.func55, Try.ntmps55
    go_wp2_with fail
    refine HO.out.mono ?_
    rintro e w1 ⟨rfl, rfl⟩
    go_wp2
    go_ret
    exact ⟨rfl, rfl⟩
  · rw [in_false hk] at HO
    obtain ⟨q, hq1, c2, hq3, hq4⟩ := h.ptr hm
    clear h hm hq1 hq3 hq4
    generalize m.length = n at *
    go_enter Try.func55, Try.ntmps55
    go_wp2_with fail
    refine HO.out.mono ?_
    rintro e w1 ⟨rfl, rfl⟩
    go_wp2
    go_ret
    exact ⟨rfl, rfl⟩

def Cl.zero : Cl := ⟨ByteArray.empty, 0, 0⟩
set_option maxHeartbeats 400000 in
theorem getC_any (w : World) (F : Nat → Prop) (B : Nat) (m : List (Option Cl)) (h : Tab KC w F B m) (i : Int) :
    Calls Try.prog 32 #[.pointer (some ⟨B, 0, none⟩), .int .i64 i] w fun x w' => x = .returned (.tuple #[((look m i).getD Cl.zero).val, .bool (look m i).isSome]) ∧ Below w.heap.size w w' := by
  have HO := hide (fun o => holdsC_any _ F B m (h.below ((Below.refl _ _).alloc (Nat.le_refl _) o)) i)
  obtain ⟨p, ps, h⟩ := h
  have hold : ∀ b, F b → b < w.heap.size := h.lt
  have hbel1 : ∀ a, Below w.heap.size w (w.alloc a) := fun a => (Below.refl _ _).alloc (Nat.le_refl _) _
  have hbel2 : ∀ a b, Below w.heap.size w ((w.alloc a).alloc b) := fun a b => ((Below.refl _ _).alloc (Nat.le_refl _) _).alloc (by simp) _
  rcases look_cases m i with ⟨h1, e⟩ | ⟨k, rfl, hk, hm, e⟩ | ⟨k, x, rfl, hk, hm, e⟩ <;> rw [e] at HO ⊢ <;> clear e
  · clear h h1 hold
    go_enter Try.func32, Try.ntmps32
    go_wp2_with fail
    refine (HO.out _).mono ?_
    rintro e w1 ⟨rfl, rfl⟩
    go_wp2
    go_returns
    exact ⟨rfl, hbel2 _ _⟩
  · clear h hm hold
    go_enter Try.func32, Try.ntmps32
    go_wp2_with fail
    refine (HO.out _).mono ?_
    rintro e w1 ⟨rfl, rfl⟩
    go_wp2
    go_returns
    exact ⟨rfl, hbel2 _ _⟩
  · have h' := fun o => h.keep (w' := w.alloc o) (by simp) (fun b hb => Below.heap_alloc _ _ _ (h.lt b hb))
    have c0 := fun o => (h' o).cells.1
    obtain ⟨q, hq1, c2, hq3, hq4⟩ := h.ptr hm
    have c1 := fun o => ((h' o).place hq1).1
    have hq := fun o => (Below.heap_alloc w o _ (h.lt q hq4)).trans hq3
    have c3 := fun o => (cell_of_row _ q 0 _ _ _ (hq o))
    have c4 := fun o => (cell_of_row _ q 1 _ _ _ (hq o))
    have c5 := fun o => (cell_of_row _ q 2 _ _ _ (hq o))
    simp [KC] at c3 c4 c5
    simp only [ptr] at c1
    have hlt := h.lt q hq4
    clear h hm hold hq hq1 hq3 hq4 h' c2
    generalize m.length = n at *
    go_enter Try.func32, Try.ntmps32
    go_wp2_with fail
    refine (HO.out _).mono ?_
    rintro e w1 ⟨rfl, rfl⟩
    go_wp2
    go_returns
    exact ⟨rfl, hbel1 _⟩

set_option maxHeartbeats 400000 in
theorem layC_any (w : World) (F : Nat → Prop) (B : Nat) (m : List (Option Cl)) (h : Tab KC w F B m) (k : Nat) (hk : m[k]? = some none) (c : Cl) :
    Calls Try.prog 50 #[.pointer (some ⟨B, 0, none⟩), .int .i64 k, c.val] w fun x w' => x = .returned (.tuple #[]) ∧ ∃ F', Tab KC w' F' B (m.set k (some c)) ∧ Ext F w F' w' := by
  obtain ⟨p, ps, h⟩ := h
  have HL := hide (fun t => h.lay hk c (c := t))
  have hks : k < m.length := (List.getElem?_eq_some_iff.1 hk).1
  have hcnt : m.countP Option.isSome ≤ 4096 := Nat.le_trans count_le h.cap
  have HM := hide (fun a b c => (((Mod.refl F w).alloc a).setCell (p := ⟨p, k, none⟩) (.inl h.fp) b).setCell (p := ⟨B, 1, none⟩) (.inl h.fB) c)
  have h' := fun o => h.keep (w' := w.alloc o) (by simp) (fun b hb => Below.heap_alloc _ _ _ (h.lt b hb))
  have c0 := fun o => (h' o).cells.1
  have c1 := fun o => (h' o).cells.2.1
  have f1 := fun o => (h' o).cells.2.2.2
  have f2 := fun o => (h' o).frz k
  have c2 := fun o => (h' o).nil hk
  have hne := h.ne
  clear h h' hk
  generalize m.countP Option.isSome = cnt at *
  generalize m.length = n at *
  simp only [Cl.val]
  go_enter Try.func50, Try.ntmps50
  go_wp2
  go_end0
  exact ⟨rfl, _, ⟨_, _, HL.out _ rfl⟩, HM.out _ _ _, fun b hb => hb.imp id (fun e => by omega)⟩

/-- the lowest free place (the length, if there is none) -/
def ff {α : Type} (m : List (Option α)) : Nat := m.findIdx Option.isNone
theorem ff_le {α : Type} (m : List (Option α)) : ff m ≤ m.length := List.findIdx_le_length
theorem ff_free {α : Type} {m : List (Option α)} (h : ff m < m.length) : m[ff m]? = some none := by
  have := List.findIdx_getElem (w := h)
  rw [List.getElem?_eq_getElem h]
  refine congrArg some ?_
  unfold ff
  simpa using this
theorem ff_held {α : Type} {m : List (Option α)} {j : Nat} (h : j < ff m) : ∃ x, m[j]? = some (some x) := by
  have h1 := List.not_of_lt_findIdx h
  have h2 : j < m.length := Nat.lt_of_lt_of_le h (ff_le m)
  rw [List.getElem?_eq_getElem h2]
  cases hm : m[j] with
  | none => rw [hm] at h1; simp at h1
  | some x => exact ⟨x, rfl⟩

set_option maxHeartbeats 400000 in
theorem putC_any (w : World) (F : Nat → Prop) (B : Nat) (m : List (Option Cl)) (h : Tab KC w F B m) (c : Cl) :
    Calls Try.prog 24 #[.pointer (some ⟨B, 0, none⟩), c.val] w fun x w' => (ff m < m.length → x = .returned (.tuple #[.int .i64 (ff m : Nat), .int .i64 0]) ∧ ∃ F', Tab KC w' F' B (m.set (ff m) (some c)) ∧ Ext F w F' w') ∧
      (ff m = m.length → x = .returned (.tuple #[.int .i64 (-1), .int .i64 2]) ∧ Tab KC w' F B m ∧ Ext F w F w') := by
  have hf := ff_le m
  have hcap := h.cap
  have HT := hide (fun o => h.below ((Below.refl w.heap.size w).alloc (Nat.le_refl _) o))
  have HB := hide (fun o => (⟨(Mod.refl F w).alloc o, fun _ h => .inl h⟩ : Ext F w F (w.alloc o)))
  obtain ⟨p, ps, h⟩ := h
  have h' := fun o => h.keep (w' := w.alloc o) (by simp) (fun b hb => Below.heap_alloc _ _ _ (h.lt b hb))
  have c0 := fun o => (h' o).cells.1
  have HH := hide (fun (k : Nat) (hk : k < ff m) o => by obtain ⟨x, hx⟩ := ff_held hk; exact (let ⟨q, _, hq, _⟩ := (h' o).ptr hx; ⟨q, hq⟩ : ∃ q, (w.alloc o).cell? ⟨p, k, none⟩ = some (.pointer (some ⟨q, 0, none⟩))))
  have HN := hide (fun (hk : ff m < m.length) o => (h' o).nil (ff_free hk))
  have HL := hide (fun o (hk : ff m < m.length) => layC_any _ F B m (HT.out o) (ff m) (ff_free hk) c)
  clear h h'
  generalize ff m = f at *
  have hn : m.length = m.length := rfl
  generalize m.length = n at *
  simp only [Cl.val] at *
  go_enter Try.func24, Try.ntmps24
  go_wp2
  go_loopw [13] (fun i wr => ∃ k : Nat, k ≤ f ∧ i = .int .i64 k ∧ wr = w.alloc (.cells #[.string c.s, .int .i64 c.a, .int .i64 c.b] 39)) (fun i _ => n - (intOf i).toNat)
  case atStart => exact ⟨0, by omega, rfl, rfl⟩
  case round =>
    obtain ⟨k, hk, rfl, rfl⟩ := hrel
    by_cases hlt : k < f
    · obtain ⟨q, hq⟩ := HH.out k hlt (.cells #[.string c.s, .int .i64 c.a, .int .i64 c.b] 39)
      have hkn : k < n := by omega
      go_wp2
      go_roundw
      case rel => exact ⟨k + 1, by omega, by go_num, by first | rfl | trivial⟩
      case measure => simp [intOf]; omega
    · obtain rfl : k = f := by omega
      by_cases hkn : k < n
      · have hq := HN.out hkn (.cells #[.string c.s, .int .i64 c.a, .int .i64 c.b] 39)
        go_wp2_with fail
        refine (HL.out _ hkn).mono ?_
        rintro e w1 ⟨rfl, F', hT, hE⟩
        have HT1 := hide hT
        have HE1 := hide hE
        clear hT hE
        go_wp2
        go_ret2
        exact ⟨fun _ => ⟨rfl, F', HT1.out, (HB.out _).trans HE1.out⟩, fun e => by omega⟩
      · go_wp2
        go_ret2
        exact ⟨fun e => by omega, fun _ => ⟨rfl, HT.out _, HB.out _⟩⟩
end Go.Proofs.Ytfjgmhghjbikfaa
