import Derived.Test.YtfjgmhghjbikfaaT3
namespace Go.Proofs.Ytfjgmhghjbikfaa
open Go.RowKit

/-- k is the lowest taken place from s on -/
def IsNext {α : Type} (m : List (Option α)) (s k : Nat) : Prop := s ≤ k ∧ (∃ c, m[k]? = some (some c)) ∧ ∀ j : Nat, s ≤ j → j < k → look m (j : Int) = none
/-- there is none from s on -/
def NoNext {α : Type} (m : List (Option α)) (s : Nat) : Prop := ∀ j : Nat, s ≤ j → look m (j : Int) = none

set_option maxHeartbeats 400000 in
theorem nextC_nat (w : World) (F : Nat → Prop) (B : Nat) (m : List (Option Cl)) (h : Tab KC w F B m) (i : Int) (s : Nat) (hs : (if i < 0 then 0 else i) = (s : Int)) :
    Calls Try.prog 40 #[.pointer (some ⟨B, 0, none⟩), .int .i64 i] w fun x w' => w' = w ∧ ((∃ k : Nat, x = .returned (.int .i64 k) ∧ IsNext m s k) ∨ (x = .returned (.int .i64 (-1)) ∧ NoNext m s)) := by
  have hcap := h.cap
  obtain ⟨p, ps, h⟩ := h
  obtain ⟨c0, c1, f0, f1⟩ := h.cells
  have HN := hide (fun (k : Nat) hk => h.nil (i := k) hk)
  have HP := hide (fun (k : Nat) (x : Cl) hk => (let ⟨q, _, hq, _⟩ := h.ptr (i := k) (x := x) hk; ⟨q, hq⟩ : ∃ q, w.cell? ⟨p, k, none⟩ = some (.pointer (some ⟨q, 0, none⟩))))
  have HQ := hide (fun k : Nat => look_cases m k)
  have HI := hide (fun k (e : IsNext m s k) => e)
  have HO := hide (fun (k : Nat) (e : m.length ≤ k) => look_out m (k : Int) (.inr (by omega)))
  clear h
  generalize hn : m.length = n at *
  clear hn
  go_enter Try.func40, Try.ntmps40
  go_wp2
  go_loopw [5] (fun i wr => ∃ k : Nat, s ≤ k ∧ i = .int .i64 k ∧ wr = w ∧ Hid (∀ j : Nat, s ≤ j → j < k → look m (j : Int) = none)) (fun i _ => n - (intOf i).toNat)
  case atStart => exact ⟨s, by omega, rfl, rfl, fun j h1 h2 => by omega⟩
  case round =>
    obtain ⟨k, hk, rfl, rfl, hH⟩ := hrel
    by_cases hlt : k < n
    · rcases HQ.out k with ⟨h1, e⟩ | ⟨k', h0, _, hm, e⟩ | ⟨k', x, h0, _, hm, e⟩
      · omega
      · obtain rfl : k = k' := by omega
        have c2 := HN.out k hm
        have HE := hide e
        clear hm e h0
        go_wp2
        go_roundw
        case rel => exact ⟨k + 1, by omega, by go_num, by first | rfl | trivial, fun j h1 h2 => by
            rcases Nat.lt_or_ge j k with h3 | h3
            · exact hH j h1 h3
            · obtain rfl : j = k := by omega
              exact HE.out⟩
        case measure => simp [intOf]; omega
      · obtain rfl : k = k' := by omega
        obtain ⟨q, c2⟩ := HP.out k x hm
        have HE := hide hm
        clear hm e h0
        go_wp2
        go_ret
        exact ⟨rfl, .inl ⟨k, rfl, hk, ⟨x, HE.out⟩, hH⟩⟩
    · go_wp2
      go_ret
      exact ⟨rfl, .inr ⟨rfl, fun j h1 => by
        rcases Nat.lt_or_ge j k with h3 | h3
        · exact hH j h1 h3
        · exact HO.out j (by omega)⟩⟩
theorem nextC_any (w : World) (F : Nat → Prop) (B : Nat) (m : List (Option Cl)) (h : Tab KC w F B m) (i : Int) :
    Calls Try.prog 40 #[.pointer (some ⟨B, 0, none⟩), .int .i64 i] w fun x w' => w' = w ∧ ((∃ k : Nat, x = .returned (.int .i64 k) ∧ IsNext m i.toNat k) ∨ (x = .returned (.int .i64 (-1)) ∧ NoNext m i.toNat)) :=
  nextC_nat w F B m h i i.toNat (by split <;> omega)
end Go.Proofs.Ytfjgmhghjbikfaa
