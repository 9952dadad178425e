import Derived.Test.YtclbgmkodjiapaaR2
namespace Go.Proofs.Ytclbgmkodjiapaa
open Go.RowKit

set_option maxHeartbeats 800000 in
theorem lenR_any (w : World) (F : Nat → Prop) (R : Nat) (m : List (Option Int)) (h : Ref w F R m) :
    Calls Try.prog 31 #[.pointer (some ⟨R, 0, none⟩)] w fun x w' => x = .returned (.int .i64 ((m.countP Option.isSome : Nat) : Int)) ∧ w' = w := by
  have hcap := h.cap
  obtain ⟨p, q, h⟩ := h
  obtain ⟨c0, c1⟩ := h.cells
  have HA := hide (fun (k : Nat) (o : Option Int) (hk : m[k]? = some o) => (h.at hk).1)
  have HL : Hid (∀ k, k < m.length → ∃ o, m[k]? = some o) := hide (fun k hk => ⟨_, List.getElem?_eq_getElem hk⟩)
  have HT : Hid (∀ k, m.length ≤ k → m.take k = m) := hide (fun k hk => List.take_of_length_le hk)
  clear h
  generalize m.length = n at *
  go_enter Try.func31, Try.ntmps31
  go_wp2
  go_loopw [3, 4] (fun c i wr => ∃ k : Nat, k ≤ n ∧ i = .int .i64 k ∧ (∃ C : Nat, C ≤ k ∧ c = .int .i64 C ∧ Hid ((m.take k).countP Option.isSome = C)) ∧ wr = w) (fun _ i _ => n - (intOf i).toNat)
  case atStart => exact ⟨0, by omega, rfl, ⟨0, by omega, rfl, by simp [Hid]⟩, rfl⟩
  case round =>
    obtain ⟨k, hk, rfl, ⟨C, hC, rfl, HC⟩, rfl⟩ := hrel
    by_cases hlt : k < n
    · obtain ⟨o, ho⟩ := HL.out k hlt
      have c2 := HA.out k o ho
      have HS : Hid ((m.take (k + 1)).countP Option.isSome = C + (if o.isSome then 1 else 0)) := hide (by
        rw [List.take_add_one, ho, List.countP_append, HC.out]; cases o <;> simp)
      clear ho
      cases o with
      | none =>
        simp only [Option.isSome_none] at c2
        go_wp2
        go_roundw
        case rel => exact ⟨k + 1, by omega, by go_num, ⟨C, by omega, rfl, HS⟩, by first | rfl | trivial⟩
        case measure => simp [intOf]; omega
      | some x =>
        simp only [Option.isSome_some] at c2
        go_wp2
        go_roundw
        case rel => exact ⟨k + 1, by omega, by go_num, ⟨C + 1, by omega, by go_num, HS⟩, by first | rfl | trivial⟩
        case measure => simp [intOf]; omega
    · have HE : Hid (m.countP Option.isSome = C) := hide (by rw [← HC.out, HT.out k (by omega)])
      go_wp2
      go_ret
      exact ⟨by rw [HE.out]; rfl, rfl⟩
set_option maxHeartbeats 800000 in
theorem nextR_any (w : World) (F : Nat → Prop) (R : Nat) (m : List (Option Int)) (h : Ref w F R m) (i : Int) :
    Calls Try.prog 25 #[.pointer (some ⟨R, 0, none⟩), .int .i64 i] w fun x w' => w' = w ∧ ((∃ k : Nat, x = .returned (.int .i64 k) ∧ IsNext m i.toNat k) ∨ (x = .returned (.int .i64 (-1)) ∧ NoNext m i.toNat)) := by
  have hcap := h.cap
  obtain ⟨p, q, h⟩ := h
  obtain ⟨c0, c1⟩ := h.cells
  have HA := hide (fun (k : Nat) (o : Option Int) (hk : m[k]? = some o) => (h.at hk).1)
  have HL : Hid (∀ k, k < m.length → ∃ o, m[k]? = some o) := hide (fun k hk => ⟨_, List.getElem?_eq_getElem hk⟩)
  have HO := hide (fun (k : Nat) (e : m.length ≤ k) => look_out m (k : Int) (.inr (by omega)))
  have HK : Hid (∀ k : Nat, m[k]? = some none → look m (k : Int) = none) := hide (fun k hk => by rw [look_nat, hk]; rfl)
  clear h
  generalize m.length = n at *
  rcases Int.lt_or_le i 0 with hi | hi
  · have hd : decide (i < 0) = true := by simp; omega
    rw [show i.toNat = 0 by omega]
    clear hi
    go_enter Try.func25, Try.ntmps25
    go_wp2
    go_loopw [1] (fun i wr => ∃ k : Nat, 0 ≤ k ∧ i = .int .i64 k ∧ wr = w ∧ Hid (∀ j : Nat, 0 ≤ j → j < k → look m (j : Int) = none)) (fun i _ => n - (intOf i).toNat)
    case atStart => exact ⟨0, Nat.le_refl _, rfl, rfl, fun j h1 h2 => by omega⟩
    case round =>
      obtain ⟨k, hk, rfl, rfl, hH⟩ := hrel
      by_cases hlt : k < n
      · obtain ⟨o, ho⟩ := HL.out k hlt
        have c2 := HA.out k o ho
        cases o with
        | none =>
          have HE := hide (HK.out k ho)
          simp only [Option.isSome_none] at c2
          clear ho
          go_wp2
          go_roundw
          case rel => exact ⟨k + 1, by omega, by go_num, by first | rfl | trivial, fun j h1 h2 => by
              rcases Nat.lt_or_ge j k with h3 | h3
              · exact hH j h1 h3
              · obtain rfl : j = k := by omega
                exact HE.out⟩
          case measure => simp [intOf]; omega
        | some x =>
          have HE := hide ho
          simp only [Option.isSome_some] at c2
          clear ho
          go_wp2
          go_ret
          exact ⟨rfl, .inl ⟨k, rfl, hk, ⟨x, HE.out⟩, hH⟩⟩
      · go_wp2
        go_ret
        exact ⟨rfl, .inr ⟨rfl, fun j h1 => by
          rcases Nat.lt_or_ge j k with h3 | h3
          · exact hH j h1 h3
          · exact HO.out j (by omega)⟩⟩
  · obtain ⟨s, rfl⟩ : ∃ s : Nat, i = (s : Int) := ⟨i.toNat, by omega⟩
    have hd : decide ((s : Int) < 0) = false := by simp
    rw [show (s : Int).toNat = s by omega]
    clear hi
    go_enter Try.func25, Try.ntmps25
    go_wp2
    go_loopw [1] (fun i wr => ∃ k : Nat, s ≤ k ∧ i = .int .i64 k ∧ wr = w ∧ Hid (∀ j : Nat, s ≤ j → j < k → look m (j : Int) = none)) (fun i _ => n - (intOf i).toNat)
    case atStart => exact ⟨s, Nat.le_refl _, rfl, rfl, fun j h1 h2 => by omega⟩
    case round =>
      obtain ⟨k, hk, rfl, rfl, hH⟩ := hrel
      by_cases hlt : k < n
      · obtain ⟨o, ho⟩ := HL.out k hlt
        have c2 := HA.out k o ho
        cases o with
        | none =>
          have HE := hide (HK.out k ho)
          simp only [Option.isSome_none] at c2
          clear ho
          go_wp2
          go_roundw
          case rel => exact ⟨k + 1, by omega, by go_num, by first | rfl | trivial, fun j h1 h2 => by
              rcases Nat.lt_or_ge j k with h3 | h3
              · exact hH j h1 h3
              · obtain rfl : j = k := by omega
                exact HE.out⟩
          case measure => simp [intOf]; omega
        | some x =>
          have HE := hide ho
          simp only [Option.isSome_some] at c2
          clear ho
          go_wp2
          go_ret
          exact ⟨rfl, .inl ⟨k, rfl, hk, ⟨x, HE.out⟩, hH⟩⟩
      · go_wp2
        go_ret
        exact ⟨rfl, .inr ⟨rfl, fun j h1 => by
          rcases Nat.lt_or_ge j k with h3 | h3
          · exact hH j h1 h3
          · exact HO.out j (by omega)⟩⟩
set_option maxHeartbeats 800000 in
theorem putR_any (w : World) (F : Nat → Prop) (R : Nat) (m : List (Option Int)) (h : Ref w F R m) (c : Int) :
    Calls Try.prog 18 #[.pointer (some ⟨R, 0, none⟩), .int .i64 c] w fun x w' => (ff m < m.length → x = .returned (.tuple #[.int .i64 (ff m : Nat), .int .i64 0]) ∧ Ref w' F R (m.set (ff m) (some c)) ∧ Ext F w F w') ∧
      (ff m = m.length → x = .returned (.tuple #[.int .i64 (-1), .int .i64 2]) ∧ Ref w' F R m ∧ Ext F w F w') := by
  have hf := ff_le m
  have hcap := h.cap
  have HT := hide h
  obtain ⟨p, q, h⟩ := h
  obtain ⟨c0, c1⟩ := h.cells
  have HH : Hid (∀ k : Nat, k < ff m → w.cell? ⟨p, k, none⟩ = some (.bool true)) := hide (fun k hk => by obtain ⟨x, hx⟩ := ff_held hk; exact (h.at hx).1)
  have HN := hide (fun (hk : ff m < m.length) => h.at (ff_free hk))
  have HD := hide (fun (k : Nat) => h.set k (some c))
  have HM := hide (fun (k : Nat) => h.mod (Mod.refl F w) k (.bool true) (.int .i64 c))
  have hnp := h.npq
  have hn1 := h.npR
  have hn2 := h.nqR
  simp only [Option.getD_none, Option.isSome_none] at HN
  simp only [Option.getD_some, Option.isSome_some] at HD
  clear h
  generalize ff m = f at *
  generalize m.length = n at *
  go_enter Try.func18, Try.ntmps18
  go_wp2
  go_loopw [6] (fun i wr => ∃ k : Nat, k ≤ f ∧ i = .int .i64 k ∧ wr = w) (fun i _ => n - (intOf i).toNat)
  case atStart => exact ⟨0, by omega, rfl, rfl⟩
  case round =>
    obtain ⟨k, hk, rfl, rfl⟩ := hrel
    by_cases hlt : k < f
    · have hq := HH.out k hlt
      have hkn : k < n := by omega
      go_wp2
      go_roundw
      case rel => exact ⟨k + 1, by omega, by go_num, by first | rfl | trivial⟩
      case measure => simp [intOf]; omega
    · obtain rfl : k = f := by omega
      by_cases hkn : k < n
      · obtain ⟨a0, a1, f0, f1⟩ := HN.out hkn
        go_wp2
        go_ret2
        exact ⟨fun _ => ⟨rfl, ⟨_, _, HD.out k⟩, ⟨HM.out k, fun _ h => .inl h⟩⟩, fun e => by omega⟩
      · go_wp2
        go_ret2
        exact ⟨fun e => by omega, fun _ => ⟨rfl, HT.out, Ext.refl _ _⟩⟩
end Go.Proofs.Ytclbgmkodjiapaa
