import Derived.Test.YtogpgchfaalikaaX6
namespace Go.Proofs.Ytogpgchfaalikaa
open Go.RowKit

theorem rep_snoc (n b : Nat) : List.replicate (n + 1) b = List.replicate n b ++ [b] := List.replicate_succ'
set_option maxHeartbeats 1600000 in
theorem run_any (w : World) (b n : Nat) (hn : n ≤ 1048576) : Calls Try.prog 14 #[.int .u8 (b : Int), .int .i64 (n : Int)] w fun e w' => ∃ v, e = .returned v ∧ Ow w' w.heap.size v (List.replicate n b) ∧ Below w.heap.size w w' := by
  obtain ⟨i5, hi, hz, hs, hb⟩ := info5'
  go_enter Try.func14, Try.ntmps14
  go_wp2
  go_loopw [5, 6] (fun u x wr => ∃ k : Nat, k ≤ n ∧ x = .int .i64 (k : Int) ∧ Hid (Ow wr w.heap.size u (List.replicate k b)) ∧ Hid (Below w.heap.size w wr)) (fun _ x _ => n - (intOf x).toNat)
  case atStart => exact ⟨0, by omega, rfl, ⟨rfl, .inl ⟨rfl, rfl⟩⟩, Below.refl _ _⟩
  case round =>
  obtain ⟨k, hk, rfl, KO, KB⟩ := hrel
  by_cases hlt : k < n
  · have hd : decide ((k : Int) < (n : Int)) = true := by simp; omega
    have HO : Hid (wr.ownsRow w.heap.size 5 1 u5 k ((List.replicate k b).map By)) := hide (by have := KO.out; unfold Ow at this; simpa using this)
    obtain ⟨au, cu, rfl⟩ := own_shape HO.out
    have hkz := KB.out.size
    clear KO
    go_upto_region 4 with (at_builtin; refine wpList_append_own_at _ rfl _ _ 41 rfl w.heap.size 5 i5 (.int .u8 0) 1 1 Try.underlying41 hi hz hs hb rfl (by decide) (.slice au k cu) k ((List.replicate k b).map By) rfl (HO.out.alloc _) ⟨wr.heap.size, 0, none⟩ 1 1 [.int .u8 (b : Int)] rfl rfl (cell_one_new _ _ _) (by simp [Value.oneCell']) (by unfold maxLen; omega) (by omega) (by simp; omega) ?_; intro v2 w2 ho2 hg2 _ _)
    have HO2 : Hid (Ow w2 w.heap.size v2 (List.replicate (k + 1) b)) := by
      refine hide ?_
      have h9 := ho2
      unfold Ow
      rw [rep_snoc, List.map_append, List.length_append, List.length_replicate]
      exact h9
    have HB2 : Hid (Below w.heap.size w w2) := hide ((KB.out.alloc hkz _).grown hg2 (by simp; omega) (fun j hj => (HO.out.lt j hj).1))
    clear ho2 hg2
    go_wp2
    go_roundw
    case rel =>
      first
        | exact ⟨k + 1, by omega, by go_num, HO2, HB2⟩
        | ((repeat apply Exists.intro); refine ⟨?_, rfl⟩; exact ⟨k + 1, by omega, by go_num, HO2, HB2⟩)
    case measure => simp [intOf]; omega
  · obtain rfl : k = n := by omega
    have hd : decide ((k : Int) < (k : Int)) = false := by simp
    go_wp2
    go_ret
    exact ⟨_, rfl, KO.out, KB.out⟩
end Go.Proofs.Ytogpgchfaalikaa
