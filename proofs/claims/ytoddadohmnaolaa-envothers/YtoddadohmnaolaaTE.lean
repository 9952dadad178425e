import Derived.Test.YtoddadohmnaolaaTL
namespace Go.Proofs.Ytoddadohmnaolaa
open Go.RowKit

set_option maxHeartbeats 800000 in
theorem putL_any (w : World) (F : Nat → Prop) (B : Nat) (m : List (Option Nat)) (h : Tab KL w F B m) (c : Nat) :
    Calls Try.prog 45 #[.pointer (some ⟨B, 0, none⟩), .pointer (some ⟨c, 0, none⟩)] w fun x w' => (ff m < m.length → x = .returned (.tuple #[.int .i64 (ff m : Nat), .int .i64 0]) ∧ ∃ F', Tab KL w' F' B (m.set (ff m) (some c)) ∧ Ext F w F' w') ∧
      (ff m = m.length → x = .returned (.tuple #[.int .i64 (-1), .int .i64 2]) ∧ w' = w) := by
  have hf := ff_le m
  have hcap := h.cap
  have HL := hide (fun (hk : ff m < m.length) => layL_any _ F B m h (ff m) (ff_free hk) c)
  obtain ⟨p, ps, h⟩ := h
  have c0 := h.cells.1
  have HH := hide (fun (k : Nat) (hk : k < ff m) => by obtain ⟨x, hx⟩ := ff_held hk; exact (let ⟨q, _, hq, _⟩ := h.ptr hx; ⟨q, hq⟩ : ∃ q, w.cell? ⟨p, k, none⟩ = some (.pointer (some ⟨q, 0, none⟩))))
  have HN := hide (fun (hk : ff m < m.length) => h.nil (ff_free hk))
  clear h
  generalize ff m = f at *
  generalize m.length = n at *
  go_enter Try.func45, Try.ntmps45
  go_wp2
  go_loopw [13] (fun i wr => ∃ k : Nat, k ≤ f ∧ i = .int .i64 k ∧ wr = w) (fun i _ => n - (intOf i).toNat)
  case atStart => exact ⟨0, by omega, rfl, rfl⟩
  case round =>
    obtain ⟨k, hk, rfl, rfl⟩ := hrel
    by_cases hlt : k < f
    · obtain ⟨q, hq⟩ := HH.out k hlt
      have hkn : k < n := by omega
      go_wp2
      go_roundw
      case rel => exact ⟨k + 1, by omega, by go_num, by first | rfl | trivial⟩
      case measure => simp [intOf]; omega
    · obtain rfl : k = f := by omega
      by_cases hkn : k < n
      · have hq := HN.out hkn
        go_wp2_with fail
        refine (HL.out hkn).mono ?_
        rintro e w1 ⟨rfl, F', hT, hE⟩
        have HT1 := hide hT
        have HE1 := hide hE
        clear hT hE
        go_wp2
        go_ret2
        exact ⟨fun _ => ⟨rfl, F', HT1.out, HE1.out⟩, fun e => by omega⟩
      · go_wp2
        go_ret2
        exact ⟨fun e => by omega, fun _ => ⟨rfl, rfl⟩⟩
set_option maxHeartbeats 800000 in
theorem dropL_some (w : World) (F : Nat → Prop) (B : Nat) (m : List (Option Nat)) (h : Tab KL w F B m) (k x : Nat) (hm : m[k]? = some (some x)) :
    Calls Try.prog 50 #[.pointer (some ⟨B, 0, none⟩), .int .i64 k] w fun e w' => e = .returned (.tuple #[.pointer (some ⟨x, 0, none⟩), .bool true]) ∧ Tab KL w' F B (m.set k none) ∧ Ext F w F w' := by
  have HG := hide (getL_any _ F B m h k)
  have hi : look m (k : Int) = some x := by rw [look_nat, hm]; rfl
  rw [hi] at HG
  have hcnt : m.countP Option.isSome ≤ 4096 := Nat.le_trans count_le h.cap
  have hk : k < m.length := (List.getElem?_eq_some_iff.1 hm).1
  obtain ⟨p, ps, h1⟩ := h
  obtain ⟨d0, d1, g0, g1⟩ := h1.cells
  have g2 := h1.frz k
  obtain ⟨q, hq1, d2, hq3, hq4⟩ := h1.ptr hm
  have hne := h1.ne
  have HD := hide (fun t => h1.drop hm (c := t))
  have HM := hide (fun a b => ((Mod.refl F w).setCell (p := ⟨p, k, none⟩) (.inl h1.fp) a).setCell (p := ⟨B, 1, none⟩) (.inl h1.fB) b)
  have hpos : 0 < m.countP Option.isSome := List.countP_pos_iff.2 ⟨_, List.mem_of_getElem? hm, rfl⟩
  clear h1 hq1 hq3 hq4 hm hi
  generalize m.countP Option.isSome = cnt at *
  generalize m.length = n at *
  simp only [ptr, Option.isSome_some] at *
  go_enter Try.func50, Try.ntmps50
  go_wp2_with fail
  refine HG.out.mono ?_
  rintro e w1 ⟨rfl, rfl⟩
  go_wp2
  go_ret2
  exact ⟨rfl, ⟨_, _, HD.out _ rfl⟩, HM.out _ _, fun b hb => .inl hb⟩
end Go.Proofs.Ytoddadohmnaolaa
