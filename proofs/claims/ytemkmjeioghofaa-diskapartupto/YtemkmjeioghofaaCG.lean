import Derived.Test.YtemkmjeioghofaaCF
namespace Go.Proofs.Ytemkmjeioghofaa
open Go.RowKit

theorem below_app {w w1 w2 : World} {v : Value} {n : Nat} {xs : List Value} {o : Obj} (hb : Below w.heap.size w w1) (ho : w1.ownsRow w.heap.size 5 1 v n xs) (hg : (w1.alloc o).grownBy w2 v.ownBlock) : Below w.heap.size w w2 :=
  (hb.alloc hb.size o).grown hg (by have := hb.size; simp; omega) (fun k e => (World.ownsRow.lt ho k e).1)
set_option maxRecDepth 100000 in
set_option maxHeartbeats 1000000 in
theorem refused_any (B n s : Nat) (w : World) (hn : n < 11) (hs : s < 1024) : Calls Try.prog 30 #[dp B, .int .i64 (n : Int), .int .i64 (s : Int)] w fun e w' => ∃ c : Int, e = .returned (.tuple #[.int .i64 c, .int .i64 c]) ∧ Below w.heap.size w w' := by
  obtain ⟨i5, hi, hz, hs5, hb5⟩ := info5'
  have h : n = 0 ∨ n = 1 ∨ n = 2 ∨ n = 3 ∨ n = 4 ∨ n = 5 ∨ n = 6 ∨ n = 7 ∨ n = 8 ∨ n = 9 ∨ n = 10 := by omega
  rcases h with rfl | rfl | rfl | rfl | rfl | rfl | rfl | rfl | rfl | rfl | rfl
  · go_enter Try.func30, Try.ntmps30
    go_wp2_with fail
    refine (full_any 1 _).mono ?_
    rintro e w1 ⟨r, rfl, hr, hb1⟩
    have Q := hide hb1
    clear hr hb1
    go_wp2_with fail
    refine (write_out B 1024 r _ (.inr (by omega))).mono ?_
    rintro e w9 ⟨rfl, rfl⟩
    go_wp2
    go_ret2
    exact ⟨40, rfl, Q.out⟩
  · go_enter Try.func30, Try.ntmps30
    go_wp2_with fail
    refine (write_out B (-1) (.slice none 0 0) _ (.inl (by omega))).mono ?_
    rintro e w9 ⟨rfl, rfl⟩
    go_wp2
    go_ret2
    exact ⟨40, rfl, Below.refl _ _⟩
  · go_enter Try.func30, Try.ntmps30
    go_wp2_with fail
    refine (full_any 1 _).mono ?_
    rintro e w1 ⟨r, rfl, hr, hb1⟩
    obtain ⟨g, cp, hv, _, hcp, _⟩ := hr.some_of (by simp)
    rw [List.length_replicate] at hv hcp
    subst hv
    have hcp2 : (127 : Nat) ≤ cp := by omega
    have Q := hide hb1
    clear hr hb1
    go_wp2_with fail
    refine (write_size B s 127 cp _ _ hs (by omega)).mono ?_
    rintro e w9 ⟨rfl, rfl⟩
    go_wp2
    go_ret2
    exact ⟨41, rfl, Q.out⟩
  · go_enter Try.func30, Try.ntmps30
    go_wp2_with fail
    refine (full_any 1 _).mono ?_
    rintro e w1 ⟨r, rfl, hr, hb1⟩
    obtain ⟨ao, cp, hv⟩ := hr.len
    rw [List.length_replicate] at hv
    subst hv
    have hr' : w1.ownsRow w.heap.size 5 1 (.slice ao 128 cp) 128 ((List.replicate 128 1).map By) := by have h1 : w1.ownsRow w.heap.size 5 1 (.slice ao 128 cp) (List.replicate 128 1).length ((List.replicate 128 1).map By) := hr; rw [List.length_replicate] at h1; exact h1
    obtain ⟨xs, hxs⟩ : ∃ xs, (List.replicate 128 1).map By = xs := ⟨_, rfl⟩
    rw [hxs] at hr'
    have HO := hide hr'
    have HB := hide hb1
    clear hr hr' hb1 hxs
    go_wp2_with (at_builtin; refine wpList_append_own _ rfl _ _ 29 rfl w.heap.size 5 i5 (.int .u8 0) 1 1 Try.underlying29 hi hz hs5 hb5 rfl (by decide) _ 128 xs rfl (HO.out.alloc _) ⟨w1.heap.size, 0, none⟩ 1 1 [By 1] rfl rfl ?c1 ?c2 ?c3 ?c4 ?c5 ?_)
    case c1 => exact cell_one_new _ _ _
    case c2 => simp [By, Value.oneCell']
    case c3 => unfold maxLen; omega
    case c4 => omega
    case c5 => have := HB.out.size; simp; omega
    intro v' w2 ho hg _
    have Q := hide (below_app HB.out HO.out hg)
    obtain ⟨_, ⟨_, h0⟩ | ⟨g', c3, cur, hv', _⟩⟩ := ho
    · omega
    obtain ⟨a3, ha3⟩ : ∃ a3, (some (⟨g', 0, none⟩ : Addr)) = a3 := ⟨_, rfl⟩
    rw [ha3] at hv'
    subst hv'
    clear hg HO HB ha3
    go_wp2_with fail
    refine (write_size B s 129 c3 a3 _ hs (by omega)).mono ?_
    rintro e w9 ⟨rfl, rfl⟩
    go_wp2
    go_ret2
    exact ⟨41, rfl, Q.out⟩
  · go_enter Try.func30, Try.ntmps30
    go_wp2_with fail
    refine (edit_arg B s 127 2 2 _ _ hs (by omega) (.inr (by omega))).mono ?_
    rintro e w9 ⟨rfl, rfl⟩
    go_wp2
    go_ret2
    exact ⟨1, rfl, (Below.refl _ _).alloc (Nat.le_refl _) _⟩
  · go_enter Try.func30, Try.ntmps30
    go_wp2_with fail
    refine (edit_arg B s (-1) 1 1 _ _ hs (by omega) (.inl (by omega))).mono ?_
    rintro e w9 ⟨rfl, rfl⟩
    go_wp2
    go_ret2
    exact ⟨1, rfl, (Below.refl _ _).alloc (Nat.le_refl _) _⟩
  · go_enter Try.func30, Try.ntmps30
    go_wp2_with fail
    refine (edit_out B 1024 (-1) _ _ (.inr (by omega))).mono ?_
    rintro e w9 ⟨rfl, rfl⟩
    go_wp2
    go_ret2
    exact ⟨40, rfl, Below.refl _ _⟩
  · go_enter Try.func30, Try.ntmps30
    go_wp2_with fail
    refine (arm_neg (-1) (by omega)).mono ?_
    rintro e w9 ⟨rfl, rfl⟩
    go_wp2
    go_ret2
    exact ⟨1, rfl, Below.refl _ _⟩
  · go_enter Try.func30, Try.ntmps30
    go_wp2_with fail
    refine (read_out B 1024 _ (.inr (by omega))).mono ?_
    rintro e w9 ⟨rfl, rfl⟩
    go_wp2
    go_ret2
    exact ⟨40, rfl, Below.refl _ _⟩
  · go_enter Try.func30, Try.ntmps30
    go_wp2_with fail
    refine (raw_out B (-1) _ (.inl (by omega))).mono ?_
    rintro e w9 ⟨rfl, rfl⟩
    go_wp2
    go_ret2
    exact ⟨40, rfl, Below.refl _ _⟩
  · go_enter Try.func30, Try.ntmps30
    go_wp2_with fail
    refine (edit_arg B s 129 0 0 none _ hs (by omega) (.inr (by omega))).mono ?_
    rintro e w9 ⟨rfl, rfl⟩
    go_wp2
    go_ret2
    exact ⟨1, rfl, Below.refl _ _⟩
end Go.Proofs.Ytemkmjeioghofaa
