import Derived.Test.YtmdcmpkjhflgpaaRA
import Derived.Test.YtmdcmpkjhflgpaaH6
namespace Go.Proofs.Ytmdcmpkjhflgpaa
open Go.RowKit

theorem infoC : (Try.prog.info? 42).map (·.size) = some 36 := by kernel_rfl
section
variable (w : World) (B G n c : Nat) (a : Option Addr) (m : Nat → Fr)
set_option maxHeartbeats 400000 in
theorem rclean_off (f mk : Int) (h : RfAt w B G n c a m) (hu : Off m n f) :
    Calls Try.prog 38 #[.pointer (some ⟨B, 0, none⟩), .int .i64 f, .int .i64 mk] w fun e w' => e = .returned (.tuple #[.bool false, .int .i64 50]) ∧ w' = w := by
  go_enter Try.func38, Try.ntmps38
  go_wp2_with fail
  refine (used_no w B G n c a m f h hu).mono ?_
  rintro e w1 ⟨rfl, rfl⟩
  go_wp2
  go_ret2
  simp
set_option maxHeartbeats 400000 in
theorem rclean_arg (k : Nat) (mk : Int) (h : RfAt w B G n c a m) (hu : On m n k) (hm : mk < 1 ∨ 4611686018427387903 < mk) :
    Calls Try.prog 38 #[.pointer (some ⟨B, 0, none⟩), .int .i64 (k : Int), .int .i64 mk] w fun e w' => e = .returned (.tuple #[.bool false, .int .i64 1]) ∧ w' = w := by
  go_enter Try.func38, Try.ntmps38
  go_wp2_with fail
  refine (used_yes w B G n c a m k h hu).mono ?_
  rintro e w1 ⟨rfl, rfl⟩
  by_cases h0 : mk < 1
  · go_wp2
    go_ret2
    simp
  · have h1 : 4611686018427387903 < mk := by omega
    go_wp2
    go_ret2
    simp
set_option maxHeartbeats 400000 in
theorem rclean_not (k : Nat) (mk : Int) (h : RfAt w B G n c a m) (hu : On m n k) (h1 : 1 ≤ mk) (h2 : mk ≤ 4611686018427387903) (hd : (m k).d = false) :
    Calls Try.prog 38 #[.pointer (some ⟨B, 0, none⟩), .int .i64 (k : Int), .int .i64 mk] w fun e w' => e = .returned (.tuple #[.bool false, .int .i64 0]) ∧ w' = w := by
  go_enter Try.func38, Try.ntmps38
  go_wp2_with fail
  refine (used_yes w B G n c a m k h hu).mono ?_
  rintro e w1 ⟨rfl, rfl⟩
  have hk := hu.1
  have c0 := h.hds hk
  obtain ⟨_, _, _, c3⟩ := h.cc hk
  rw [hd] at c3
  have d1 : decide (mk < 1) = false := by simp; omega
  have d2 : decide (4611686018427387903 < mk) = false := by simp; omega
  clear h hu
  go_wp2
  go_ret2
  simp
set_option maxHeartbeats 400000 in
theorem rclean_yes (k : Nat) (mk : Int) (h : RfAt w B G n c a m) (hu : On m n k) (h1 : 1 ≤ mk) (h2 : mk ≤ 4611686018427387903) (hd : (m k).d = true) :
    Calls Try.prog 38 #[.pointer (some ⟨B, 0, none⟩), .int .i64 (k : Int), .int .i64 mk] w fun e w' => e = .returned (.tuple #[.bool true, .int .i64 0]) ∧ RGo w w' B G n c a (upd m k { m k with d := false, k := mk }) := by
  go_enter Try.func38, Try.ntmps38
  go_wp2_with fail
  refine (used_yes w B G n c a m k h hu).mono ?_
  rintro e w1 ⟨rfl, rfl⟩
  have hk := hu.1
  have c0 := h.hds hk
  obtain ⟨_, _, c4, c3⟩ := h.cc hk
  rw [hd] at c3
  have d1 : decide (mk < 1) = false := by simp; omega
  have d2 : decide (4611686018427387903 < mk) = false := by simp; omega
  have f3 := h.frz hk (k * 36 + 3)
  have f4 := h.frz hk (k * 36 + 2)
  have hgb : ¬ G = B := fun e => h.ne (by omega) e.symm
  have HR : Hid (RGo w1 ((w1.setCell ⟨G, k * 36 + 3, none⟩ (.bool false)).setCell ⟨G, k * 36 + 2, none⟩ (.int .i64 mk)) B G n c a (upd m k { m k with d := false, k := mk })) := by
    refine hide (And.intro ?_ (((Mod.refl (fun b => b = G) w1).setCell (.inl rfl) _).setCell (.inl rfl) _))
    have e1 := h.put1 (o := 3) (v := .bool false) hk (by omega) (f := { m k with d := false }) rfl
    have e2 := e1.put1 (o := 2) (v := .int .i64 mk) hk (by omega) (f := { m k with d := false, k := mk }) (by rw [upd_same]; rfl)
    exact e2.congr (fun j _ => by simp only [upd]; split <;> rfl)
  clear h hu
  go_wp2
  go_ret2
  exact ⟨rfl, HR.out⟩
set_option maxHeartbeats 400000 in
theorem rstore_off (f i : Int) (v : Nat) (h : RfAt w B G n c a m) (hu : Off m n f) :
    Calls Try.prog 32 #[.pointer (some ⟨B, 0, none⟩), .int .i64 f, .int .i64 i, .int .u32 (v : Int)] w fun e w' => e = .returned (.int .i64 50) ∧ w' = w := by
  go_enter Try.func32, Try.ntmps32
  go_wp2_with fail
  refine (used_no w B G n c a m f h hu).mono ?_
  rintro e w1 ⟨rfl, rfl⟩
  go_wp2
  go_ret
  simp
set_option maxHeartbeats 400000 in
theorem rstore_bad (k : Nat) (i : Int) (v : Nat) (h : RfAt w B G n c a m) (hu : On m n k) (hi : i < 0 ∨ 32 ≤ i) :
    Calls Try.prog 32 #[.pointer (some ⟨B, 0, none⟩), .int .i64 (k : Int), .int .i64 i, .int .u32 (v : Int)] w fun e w' => e = .returned (.int .i64 51) ∧ w' = w := by
  go_enter Try.func32, Try.ntmps32
  go_wp2_with fail
  refine (used_yes w B G n c a m k h hu).mono ?_
  rintro e w1 ⟨rfl, rfl⟩
  by_cases h0 : i < 0
  · go_wp2
    go_ret
    simp
  · have h1 : 32 ≤ i := by omega
    go_wp2
    go_ret
    simp
set_option maxHeartbeats 400000 in
theorem rstore_ok (k i v : Nat) (h : RfAt w B G n c a m) (hu : On m n k) (hi : i < 32) :
    Calls Try.prog 32 #[.pointer (some ⟨B, 0, none⟩), .int .i64 (k : Int), .int .i64 (i : Int), .int .u32 (v : Int)] w fun e w' => e = .returned (.int .i64 0) ∧ RGo w w' B G n c a (upd m k { m k with d := true, w := setW (m k).w i v }) := by
  go_enter Try.func32, Try.ntmps32
  go_wp2_with fail
  refine (used_yes w B G n c a m k h hu).mono ?_
  rintro e w1 ⟨rfl, rfl⟩
  have hk := hu.1
  have c0 := h.hds hk
  have c1 := h.word hk hi
  obtain ⟨_, _, _, c3⟩ := h.cc hk
  have f3 := h.frz hk (k * 36 + 3)
  have f4 := h.frz hk (k * 36 + 4 + i)
  have hne : ¬ k * 36 + 4 + i = k * 36 + 3 := by omega
  have hgb : ¬ G = B := fun e => h.ne (by omega) e.symm
  have h0 : decide ((i : Int) < 0) = false := by simp
  have h1 : decide (32 ≤ (i : Int)) = false := by simp; omega
  have HR : Hid (RGo w1 ((w1.setCell ⟨G, k * 36 + 4 + i, none⟩ (.int .u32 (v : Int))).setCell ⟨G, k * 36 + 3, none⟩ (.bool true)) B G n c a (upd m k { m k with d := true, w := setW (m k).w i v })) := by
    refine hide (And.intro ?_ (((Mod.refl (fun b => b = G) w1).setCell (.inl rfl) _).setCell (.inl rfl) _))
    have e1 := h.put1 (o := 4 + i) (v := .int .u32 (v : Int)) hk (by omega) (f := { m k with w := setW (m k).w i v }) (rc_setW _ hi _)
    rw [← Nat.add_assoc] at e1
    have e2 := e1.put1 (o := 3) (v := .bool true) hk (by omega) (f := { m k with d := true, w := setW (m k).w i v }) (by rw [upd_same]; rfl)
    exact e2.congr (fun j _ => by simp only [upd]; split <;> rfl)
  clear h hu
  go_wp2
  go_ret
  exact ⟨rfl, HR.out⟩
set_option maxHeartbeats 400000 in
theorem ralloc_arg (s : Int) (h : s < 1 ∨ 4611686018427387903 < s) :
    Calls Try.prog 26 #[.pointer (some ⟨B, 0, none⟩), .int .i64 s] w fun e w' => e = .returned (.tuple #[.int .i64 (-1), .int .i64 1]) ∧ w' = w := by
  go_enter Try.func26, Try.ntmps26
  by_cases h0 : s < 1
  · go_wp2
    go_ret2
    simp
  · have h1 : 4611686018427387903 < s := by omega
    go_wp2
    go_ret2
    simp
theorem rnew_cells (s : Int) : (Fr.new s).rc.toArray.all (·.oneCell') = true := all_oneCell_toArray (rc_one _)
set_option maxHeartbeats 800000 in
theorem ralloc_any (s : Int) (h : RfAt w B G n c a m) (hn : n ≤ 64) (h1 : 1 ≤ s) (h2 : s ≤ 4611686018427387903) (q : Nat) (hq : ∀ j, j < q → (m j).h ≠ 0) (hqn : q = n ∨ q < n ∧ (m q).h = 0) :
    Calls Try.prog 26 #[.pointer (some ⟨B, 0, none⟩), .int .i64 s] w fun e w' => (q = n ∧ e = .returned (.tuple #[.int .i64 (-1), .int .i64 2]) ∧ w' = w) ∨ (q < n ∧ e = .returned (.tuple #[.int .i64 (q : Int), .int .i64 0]) ∧ RGo w w' B G n c a (upd m q (Fr.new s))) := by
  have hqle : q ≤ n := by omega
  have d1 : decide (s < 1) = false := by simp; omega
  have d2 : decide (4611686018427387903 < s) = false := by simp; omega
  go_enter Try.func26, Try.ntmps26
  have c0 := h.hd
  have HH := hide h
  have HQ := hide hq
  have HQN := hide hqn
  clear h hq hqn
  go_wp2
  go_loop [6] (fun i => ∃ k : Nat, k ≤ q ∧ i = .int .i64 (k : Int)) (fun i => 64 - (intOf i).toNat)
  case atStart => exact ⟨0, by omega, rfl⟩
  case round =>
    obtain ⟨k, hk, rfl⟩ := hrel
    by_cases hlt : k < n
    · obtain ⟨c1, _, _, _⟩ := HH.out.cc hlt
      have c00 := HH.out.hds hlt
      have ha := HH.out.at' (by omega)
      subst ha
      have hd : decide (k < n) = true := by simp; omega
      by_cases hkq : k < q
      · have hne := HQ.out k hkq
        have hd2 : decide (((m k).h : Int) = 0) = false := by simp; omega
        go_wp2
        go_round
        case rel => exact ⟨k + 1, by omega, by go_num⟩
        case measure => simp [intOf]; omega
      · obtain rfl : k = q := by omega
        have hz : (m k).h = 0 := by rcases HQN.out with e | e; omega; exact e.2
        rw [hz] at c1
        have ht := HH.out.there (o := 0) (l := 36) hlt (by omega)
        have HR := hide (And.intro (HH.out.putAll hlt (Fr.new s)) ((Mod.refl (fun b => b = G) w).setCells (b := G) (.inl rfl) (k * 36) (Fr.new s).rc))
        go_wp2_with (refine wpList_store_mid rfl 42 _ _ rfl G (k * 36) (Fr.new s).rc.toArray rfl rfl ht infoC (rnew_cells s) ?_)
        go_ret2
        exact .inr ⟨rfl, HR.out⟩
    · obtain rfl : q = n := by omega
      obtain rfl : k = q := by omega
      have hd : decide (k < k) = false := by simp
      go_wp2
      go_ret2
      exact ⟨rfl, rfl⟩
end
end Go.Proofs.Ytmdcmpkjhflgpaa
