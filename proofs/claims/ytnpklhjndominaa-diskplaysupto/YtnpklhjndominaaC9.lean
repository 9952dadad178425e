import Derived.Test.YtnpklhjndominaaC8
namespace Go.Proofs.Ytnpklhjndominaa
open Go.RowKit

theorem write_out (B : Nat) (z : Int) (v : Value) (w : World) (hz : z < 0 ∨ 1024 ≤ z) : Calls Try.prog 14 #[dp B, .int .i64 z, v] w fun e w' => e = .returned (.int .i64 40) ∧ w' = w := by
  go_enter Try.func14, Try.ntmps14
  go_wp2_with fail
  refine (outside_out z _ hz).mono ?_
  rintro e w1 ⟨rfl, rfl⟩
  go_wp2
  go_ret
  exact ⟨rfl, rfl⟩
theorem write_size (B s n cap : Nat) (ao : Option Addr) (w : World) (hs : s < 1024) (hn : n ≠ 128) : Calls Try.prog 14 #[dp B, .int .i64 (s : Int), .slice ao n cap] w fun e w' => e = .returned (.int .i64 41) ∧ w' = w := by
  have hd : decide (n = 128) = false := by simp; omega
  have hd2 : decide ((n : Int) = 128) = false := by simp; omega
  go_enter Try.func14, Try.ntmps14
  go_wp2_with fail
  refine (outside_in s _ hs).mono ?_
  rintro e w1 ⟨rfl, rfl⟩
  go_wp2
  go_ret
  exact ⟨rfl, rfl⟩
theorem write_no {B : Nat} {D : Dsk} {w : World} {F : Nat → Prop} (hd : DkA B D w F) (s cap : Nat) (ao : Option Addr) (hs : s < 1024) (hn : D.down = true ∨ (D.armed = true ∧ D.left = 0)) :
    Calls Try.prog 14 #[dp B, .int .i64 (s : Int), .slice ao 128 cap] w fun e w' => e = .returned (.int .i64 42) ∧ DkA B D.off w' F ∧ Ext F w F w' := by
  have HD := hide hd
  go_enter Try.func14, Try.ntmps14
  go_wp2_with fail
  refine (outside_in s _ hs).mono ?_
  rintro e w0 ⟨rfl, rfl⟩
  go_wp2_with fail
  refine (act_no HD.out hn).mono ?_
  rintro e w1 ⟨rfl, hd1, hx1⟩
  go_wp2
  go_ret
  exact ⟨rfl, hd1, hx1⟩
theorem splice_get {α : Type} (L X : List α) (off j : Nat) (h : off + X.length ≤ L.length) : (L.take off ++ (X ++ L.drop (off + X.length)))[j]? = if off ≤ j ∧ j < off + X.length then X[j - off]? else L[j]? := by
  split
  · rename_i hj
    rw [List.getElem?_append_right (by simp; omega), List.getElem?_append_left (by simp; omega)]
    congr 1; simp; omega
  · rename_i hj
    by_cases h1 : j < off
    · rw [List.getElem?_append_left (by simp; omega), List.getElem?_take_of_lt h1]
    · rw [List.getElem?_append_right (by simp; omega), List.getElem?_append_right (by simp; omega), List.getElem?_drop]
      congr 1; simp; omega
theorem upd_self (M : Nat → List Nat) (s : Nat) : upd M s (M s) = M := by
  funext k; unfold upd; split
  · rename_i h; rw [h]
  · rfl
theorem splice_nil (L : List Nat) (a : Nat) : splice L a [] = L := by simp [splice]
theorem splice_sec {b zs : List Nat} {a : Nat} (hb : Sec b) (hz : ∀ z ∈ zs, z < 256) (ha : a + zs.length ≤ 128) : Sec (splice b a zs) := by
  refine ⟨by rw [length_splice _ _ _ (by rw [hb.1]; exact ha)]; exact hb.1, fun x hx => ?_⟩
  unfold splice at hx
  rcases List.mem_append.1 hx with h | h
  · exact hb.2 x (List.mem_of_mem_take h)
  · rcases List.mem_append.1 h with h | h
    · exact hz x h
    · exact hb.2 x (List.mem_of_mem_drop h)
theorem edit_out (B : Nat) (z a : Int) (v : Value) (w : World) (hz : z < 0 ∨ 1024 ≤ z) : Calls Try.prog 25 #[dp B, .int .i64 z, .int .i64 a, v] w fun e w' => e = .returned (.int .i64 40) ∧ w' = w := by
  go_enter Try.func25, Try.ntmps25
  go_wp2_with fail
  refine (outside_out z _ hz).mono ?_
  rintro e w1 ⟨rfl, rfl⟩
  go_wp2
  go_ret
  exact ⟨rfl, rfl⟩
theorem edit_arg (B s : Nat) (a : Int) (n cap : Nat) (ao : Option Addr) (w : World) (hs : s < 1024) (hn : n ≤ 1048576) (ha : a < 0 ∨ 128 < a + n) : Calls Try.prog 25 #[dp B, .int .i64 (s : Int), .int .i64 a, .slice ao n cap] w fun e w' => e = .returned (.int .i64 1) ∧ w' = w := by
  by_cases h0 : a < 0
  · have hd : decide (a < 0) = true := by simp; omega
    go_enter Try.func25, Try.ntmps25
    go_wp2_with fail
    refine (outside_in s _ hs).mono ?_
    rintro e w1 ⟨rfl, rfl⟩
    go_wp2
    go_ret
    exact ⟨rfl, rfl⟩
  · have hd : decide (a < 0) = false := by simp; omega
    have hd2 : decide ((128 : Int) - (n : Int) < a) = true := by simp; omega
    go_enter Try.func25, Try.ntmps25
    go_wp2_with fail
    refine (outside_in s _ hs).mono ?_
    rintro e w1 ⟨rfl, rfl⟩
    go_wp2
    go_ret
    exact ⟨rfl, rfl⟩
theorem slice68 (B o a : Nat) (W : World) (h : a < 128) : (Instr.sliceAt 41 (.pointer (some ⟨B, o, none⟩)) (some (.int .i64 (a : Int))) none none).run Try.prog W = .ok (.slice (some ⟨B, o + a, none⟩) (128 - a) (128 - a)) W := by
  have e1 : Try.prog.arrayLen 41 = 128 := by kernel_rfl
  have e2 : Try.prog.elem 41 = 5 := by kernel_rfl
  rw [run_sliceAt_array_l W 41 ⟨B, o, none⟩ (by rw [e1, e2]; exact Try.underlying41) .i64 a (by omega) (by rw [e1]; omega)]
  rw [e1, e2, Try.sizeOf5]
  unfold slicedAt
  simp only [Result.andThen_ok, Int.toNat_natCast]
  rw [if_neg (by omega), Nat.mul_one, Addr.add_mid]
set_option maxRecDepth 100000 in
set_option maxHeartbeats 400000 in
theorem edit_ok {B : Nat} {D : Dsk} {w : World} {F : Nat → Prop} (hd : DkA B D w F) (s a : Nat) (v : Value) (zs : List Nat) (hs : s < 1024) (hv : Rd w v zs) (hz : ∀ z ∈ zs, z < 256) (ha : a + zs.length ≤ 128) :
    Calls Try.prog 25 #[dp B, .int .i64 (s : Int), .int .i64 (a : Int), v] w fun e w' => e = .returned (.int .i64 0) ∧ DkA B (D.edit s (splice (D.M s) a zs)) w' F ∧ Ext F w F w' := by
  obtain ⟨ao, cap, rfl⟩ := hv.len
  have hd1 : decide ((a : Int) < 0) = false := by simp
  obtain ⟨n, hn⟩ : ∃ n, zs.length = n := ⟨_, rfl⟩
  have HN := hide hn
  rw [hn] at hv ha ⊢
  have hd2 : decide ((128 : Int) - (n : Int) < (a : Int)) = false := by simp; omega
  by_cases h0 : n = 0
  · subst h0
    have hz0 : zs = [] := List.eq_nil_of_length_eq_zero hn
    have HR : Hid (DkA B (D.edit s (splice (D.M s) a zs)) w F) := by
      have e : D.edit s (splice (D.M s) a zs) = D := by rw [hz0, splice_nil]; unfold Dsk.edit; rw [upd_self]
      rw [e]; exact hd
    clear hz0 hn hv
    go_enter Try.func25, Try.ntmps25
    go_wp2_with fail
    refine (outside_in s _ hs).mono ?_
    rintro e w1 ⟨rfl, rfl⟩
    go_wp2_with (refine wpList_copy_nothing rfl _ _ 27 27 rfl 5 Try.underlying27 size5 _ _ _ _ _ _ rfl rfl (by simp) ?_)
    all_goals go_ret
    all_goals exact ⟨rfl, HR.out, Ext.refl _ _⟩
  · obtain ⟨cs, cv, h, he⟩ := hd
    have hB := (he B).2 (.inl rfl)
    obtain ⟨x, hx, HC⟩ : ∃ x, ao = some x ∧ Hid (∀ j u, (zs.map By)[j]? = some u → w.cell? (x.add j) = some u) := by
      rcases hv with ⟨h1, _⟩ | ⟨x, cp, h1, h2⟩
      · simp at h1; omega
      · simp at h1; exact ⟨x, h1.1, h2⟩
    subst hx
    have HH := hide h
    have HE := hide he
    have ha1 : a ≤ 128 := by omega
    have hsl := fun W => slice68 B (s * 128) a W (by omega)
    clear hn hv h he
    go_enter Try.func25, Try.ntmps25
    go_wp2_with fail
    refine (outside_in s _ hs).mono ?_
    rintro e w1 ⟨rfl, rfl⟩
    go_wp2_with (refine wpList_copy_own rfl _ _ 27 27 rfl 5 Try.underlying27 size5 B (s * 128 + a) (128 - a) (128 - a) x n cap rfl rfl cs 45 HH.out.top (zs.map By) ?c1 HC.out ?c3 (By_one zs) ?_)
    case c1 => rw [List.length_map, HN.out]; exact (Nat.min_eq_left (by omega)).symm
    case c3 => rw [List.length_map, HN.out, HH.out.inn.size]; omega
    go_ret
    have hsz := HH.out.inn.size
    have hfit : s * 128 + a + (zs.map By).length ≤ cs.toList.length := by rw [List.length_map, HN.out, Array.length_toList, hsz]; omega
    have hc := HH.out.inn.setMed HH.out.ok (cs' := (cs.toList.take (s * 128 + a) ++ (zs.map By ++ cs.toList.drop (s * 128 + a + zs.length))).toArray) (s := s) (a := a) (zs := zs) hs (by rw [HN.out]; omega) rfl
      (by have := length_splice cs.toList (s * 128 + a) (zs.map By) hfit; unfold splice at this; rw [List.length_map] at this; rw [List.size_toArray, this]; simp)
      (fun j _ => by rw [List.getElem?_toArray]; have := splice_get cs.toList (zs.map By) (s * 128 + a) j hfit; rw [List.length_map] at this; rw [this]; simp)
    exact ⟨rfl, ⟨_, cv, HH.out.turn (D' := D.edit s (splice (D.M s) a zs)) (setRow_heap _ _ _ _ _ _ HH.out.top) hc rfl (HH.out.ok.edit (splice_sec (HH.out.ok.m s hs) hz (by rw [HN.out]; omega))) (fun b hb => setRow_other _ _ _ _ hb), HE.out⟩, (Mod.refl _ _).setRow (.inl hB) _, fun _ h => .inl h⟩
end Go.Proofs.Ytnpklhjndominaa
