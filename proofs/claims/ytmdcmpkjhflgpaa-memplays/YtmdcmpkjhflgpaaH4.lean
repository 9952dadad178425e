import Derived.Test.YtmdcmpkjhflgpaaH3
namespace Go.Proofs.Ytmdcmpkjhflgpaa
open Go.RowKit

/-- what a call on the memory with its frames at G leaves -/
def MGo (w w' : World) (B G n : Nat) (m' : Nat → Fr) : Prop := MemAt w' B G n m' ∧ Mod (fun b => b = G) w w'
section
variable (w : World) (B G n : Nat) (m : Nat → Fr)

set_option maxHeartbeats 400000 in
theorem hold_off (f : Int) (h : MemAt w B G n m) (hu : Off m n f) :
    Calls Try.prog 27 #[.pointer (some ⟨B, 0, none⟩), .int .i64 f] w fun e w' => e = .returned (.int .i64 50) ∧ w' = w := by
  go_enter Try.func27, Try.ntmps27
  go_wp2_with fail
  refine (inUse_no _ B G n m f h hu).mono ?_
  rintro e w1 ⟨rfl, rfl⟩
  go_wp2
  go_ret
  simp
set_option maxHeartbeats 400000 in
theorem hold_on (k : Nat) (h : MemAt w B G n m) (hu : On m n k) (hb : (m k).h < 4611686018427387904) :
    Calls Try.prog 27 #[.pointer (some ⟨B, 0, none⟩), .int .i64 (k : Int)] w fun e w' => e = .returned (.int .i64 0) ∧ MGo w w' B G n (upd m k { m k with h := (m k).h + 1 }) := by
  go_enter Try.func27, Try.ntmps27
  go_wp2_with fail
  refine (inUse_yes _ B G n m k h hu.1 hu.2).mono ?_
  rintro e w1 ⟨rfl, rfl⟩
  have c0 := h.hd
  obtain ⟨_, c2, _, _⟩ := h.c hu.1
  have fz := h.frz (k * 36 + 1)
  have hk := hu.1
  have HR : Hid (∀ z : Int, z = (((m k).h + 1 : Nat) : Int) → MGo w1 (w1.setCell ⟨G, k * 36 + 1, none⟩ (.int .i64 z)) B G n (upd m k { m k with h := (m k).h + 1 })) :=
    hide (fun z hz => by subst hz; exact And.intro (h.put1 (o := 1) hk (by omega) rfl) ((Mod.refl (fun b => b = G) w1).setCell (.inl rfl) _))
  clear h hu
  obtain ⟨q, hq⟩ : ∃ q, (m k).h = q := ⟨_, rfl⟩
  rw [hq] at c2 hb
  have HQ := hide hq
  clear hq
  go_wp2
  go_ret
  exact ⟨rfl, HR.out _ (by rw [HQ.out]; omega)⟩
set_option maxHeartbeats 400000 in
theorem drop_off (f : Int) (h : MemAt w B G n m) (hu : Off m n f) :
    Calls Try.prog 29 #[.pointer (some ⟨B, 0, none⟩), .int .i64 f] w fun e w' => e = .returned (.tuple #[.bool false, .int .i64 50]) ∧ w' = w := by
  go_enter Try.func29, Try.ntmps29
  go_wp2_with fail
  refine (inUse_no _ B G n m f h hu).mono ?_
  rintro e w1 ⟨rfl, rfl⟩
  go_wp2
  go_ret2
  simp
set_option maxHeartbeats 400000 in
theorem drop_more (k : Nat) (h : MemAt w B G n m) (hu : On m n k) (h1 : 1 < (m k).h) (hb : (m k).h < 4611686018427387904) :
    Calls Try.prog 29 #[.pointer (some ⟨B, 0, none⟩), .int .i64 (k : Int)] w fun e w' => e = .returned (.tuple #[.bool false, .int .i64 0]) ∧ MGo w w' B G n (upd m k { m k with h := (m k).h - 1 }) := by
  go_enter Try.func29, Try.ntmps29
  go_wp2_with fail
  refine (inUse_yes _ B G n m k h hu.1 hu.2).mono ?_
  rintro e w1 ⟨rfl, rfl⟩
  have c0 := h.hd
  obtain ⟨_, c2, _, _⟩ := h.c hu.1
  have fz := h.frz (k * 36 + 1)
  have hk := hu.1
  have HR : Hid (∀ z : Int, z = (((m k).h - 1 : Nat) : Int) → MGo w1 (w1.setCell ⟨G, k * 36 + 1, none⟩ (.int .i64 z)) B G n (upd m k { m k with h := (m k).h - 1 })) :=
    hide (fun z hz => by subst hz; exact And.intro (h.put1 (o := 1) hk (by omega) rfl) ((Mod.refl (fun b => b = G) w1).setCell (.inl rfl) _))
  clear h hu
  obtain ⟨q, hq⟩ : ∃ q, (m k).h = q := ⟨_, rfl⟩
  rw [hq] at c2 hb
  have HQ := hide hq
  clear hq
  have h1' : 1 < q := by rw [← HQ.out]; exact h1
  clear h1
  have hd : decide (1 < (q : Int)) = true := by simp; omega
  go_wp2
  go_ret2
  exact ⟨rfl, HR.out _ (by rw [HQ.out]; omega)⟩
theorem nil_cells : Fr.nil.cells.toArray.all (·.oneCell') = true := all_oneCell_toArray (cells_one _)
set_option maxHeartbeats 400000 in
theorem drop_last (k : Nat) (h : MemAt w B G n m) (hu : On m n k) (h1 : (m k).h = 1) :
    Calls Try.prog 29 #[.pointer (some ⟨B, 0, none⟩), .int .i64 (k : Int)] w fun e w' => e = .returned (.tuple #[.bool true, .int .i64 0]) ∧ MGo w w' B G n (upd m k Fr.nil) := by
  go_enter Try.func29, Try.ntmps29
  go_wp2_with fail
  refine (inUse_yes _ B G n m k h hu.1 hu.2).mono ?_
  rintro e w1 ⟨rfl, rfl⟩
  have c0 := h.hd
  obtain ⟨_, c2, _, _⟩ := h.c hu.1
  have hk := hu.1
  have ht := h.there (o := 0) (l := 36) hk (by omega)
  have HR := hide (And.intro (h.putAll hk Fr.nil) ((Mod.refl (fun b => b = G) w1).setCells (b := G) (.inl rfl) (k * 36) Fr.nil.cells))
  rw [h1] at c2
  clear h hu
  go_wp2_with (refine wpList_store_mid rfl 60 _ _ rfl G (k * 36) Fr.nil.cells.toArray rfl rfl ht info63 nil_cells ?_)
  go_ret2
  exact ⟨rfl, HR.out⟩
set_option maxHeartbeats 400000 in
theorem clean_off (f mk : Int) (h : MemAt w B G n m) (hu : Off m n f) :
    Calls Try.prog 37 #[.pointer (some ⟨B, 0, none⟩), .int .i64 f, .int .i64 mk] w fun e w' => e = .returned (.tuple #[.bool false, .int .i64 50]) ∧ w' = w := by
  go_enter Try.func37, Try.ntmps37
  go_wp2_with fail
  refine (inUse_no _ B G n m f h hu).mono ?_
  rintro e w1 ⟨rfl, rfl⟩
  go_wp2
  go_ret2
  simp
set_option maxHeartbeats 400000 in
theorem clean_arg (k : Nat) (mk : Int) (h : MemAt w B G n m) (hu : On m n k) (hm : mk < 1 ∨ 4611686018427387903 < mk) :
    Calls Try.prog 37 #[.pointer (some ⟨B, 0, none⟩), .int .i64 (k : Int), .int .i64 mk] w fun e w' => e = .returned (.tuple #[.bool false, .int .i64 1]) ∧ w' = w := by
  go_enter Try.func37, Try.ntmps37
  go_wp2_with fail
  refine (inUse_yes _ B G n m k h hu.1 hu.2).mono ?_
  rintro e w1 ⟨rfl, rfl⟩
  go_wp2_with fail
  refine (noSerial_yes _ mk hm).mono ?_
  rintro e w1 ⟨rfl, rfl⟩
  go_wp2
  go_ret2
  simp
set_option maxHeartbeats 400000 in
theorem clean_not (k : Nat) (mk : Int) (h : MemAt w B G n m) (hu : On m n k) (h1 : 1 ≤ mk) (h2 : mk ≤ 4611686018427387903) (hd : (m k).d = false) :
    Calls Try.prog 37 #[.pointer (some ⟨B, 0, none⟩), .int .i64 (k : Int), .int .i64 mk] w fun e w' => e = .returned (.tuple #[.bool false, .int .i64 0]) ∧ w' = w := by
  go_enter Try.func37, Try.ntmps37
  go_wp2_with fail
  refine (inUse_yes _ B G n m k h hu.1 hu.2).mono ?_
  rintro e w1 ⟨rfl, rfl⟩
  go_wp2_with fail
  refine (noSerial_no _ mk h1 h2).mono ?_
  rintro e w1 ⟨rfl, rfl⟩
  have c0 := h.hd
  obtain ⟨_, _, c3, _⟩ := h.c hu.1
  rw [hd] at c3
  have hk := hu.1
  clear h hu
  go_wp2
  go_ret2
  simp
set_option maxHeartbeats 400000 in
theorem clean_yes (k : Nat) (mk : Int) (h : MemAt w B G n m) (hu : On m n k) (h1 : 1 ≤ mk) (h2 : mk ≤ 4611686018427387903) (hd : (m k).d = true) :
    Calls Try.prog 37 #[.pointer (some ⟨B, 0, none⟩), .int .i64 (k : Int), .int .i64 mk] w fun e w' => e = .returned (.tuple #[.bool true, .int .i64 0]) ∧ MGo w w' B G n (upd m k { m k with d := false, k := mk }) := by
  go_enter Try.func37, Try.ntmps37
  go_wp2_with fail
  refine (inUse_yes _ B G n m k h hu.1 hu.2).mono ?_
  rintro e w1 ⟨rfl, rfl⟩
  go_wp2_with fail
  refine (noSerial_no _ mk h1 h2).mono ?_
  rintro e w1 ⟨rfl, rfl⟩
  have c0 := h.hd
  obtain ⟨_, _, c3, c4⟩ := h.c hu.1
  rw [hd] at c3
  have hk := hu.1
  have f3 := h.frz (k * 36 + 2)
  have f4 := h.frz (k * 36 + 3)
  have HR : Hid (MGo w1 ((w1.setCell ⟨G, k * 36 + 2, none⟩ (.bool false)).setCell ⟨G, k * 36 + 3, none⟩ (.int .i64 mk)) B G n (upd m k { m k with d := false, k := mk })) := by
    refine hide (And.intro ?_ (((Mod.refl (fun b => b = G) w1).setCell (.inl rfl) _).setCell (.inl rfl) _))
    have e1 := h.put1 (o := 2) (v := .bool false) hk (by omega) (f := { m k with d := false }) rfl
    have e2 := e1.put1 (o := 3) (v := .int .i64 mk) hk (by omega) (f := { m k with d := false, k := mk }) (by rw [upd_same]; rfl)
    exact e2.congr (fun j _ => by simp only [upd]; split <;> rfl)
  clear h hu
  go_wp2
  go_ret2
  exact ⟨rfl, HR.out⟩
set_option maxHeartbeats 400000 in
theorem store_off (f i : Int) (v : Nat) (h : MemAt w B G n m) (hu : Off m n f) :
    Calls Try.prog 31 #[.pointer (some ⟨B, 0, none⟩), .int .i64 f, .int .i64 i, .int .u32 (v : Int)] w fun e w' => e = .returned (.int .i64 50) ∧ w' = w := by
  go_enter Try.func31, Try.ntmps31
  go_wp2_with fail
  refine (noWord_off _ B G n m f i h hu).mono ?_
  rintro e w1 ⟨rfl, rfl⟩
  go_wp2
  go_ret
  simp
set_option maxHeartbeats 400000 in
theorem store_bad (k : Nat) (i : Int) (v : Nat) (h : MemAt w B G n m) (hu : On m n k) (hi : i < 0 ∨ 32 ≤ i) :
    Calls Try.prog 31 #[.pointer (some ⟨B, 0, none⟩), .int .i64 (k : Int), .int .i64 i, .int .u32 (v : Int)] w fun e w' => e = .returned (.int .i64 51) ∧ w' = w := by
  go_enter Try.func31, Try.ntmps31
  go_wp2_with fail
  refine (noWord_bad _ B G n m k i h hu hi).mono ?_
  rintro e w1 ⟨rfl, rfl⟩
  go_wp2
  go_ret
  simp
/-- word i set to v -/
def setW (p : Nat → Nat) (i v : Nat) : Nat → Nat := fun j => if j = i then v else p j
theorem page_set (p : Nat → Nat) {i : Nat} (hi : i < 32) (v : Nat) : page (setW p i v) = (page p).set i (.int .u32 (v : Nat)) := by
  apply List.ext_getElem?
  intro j
  by_cases hj : j < 32
  · by_cases e : i = j
    · subst e; rw [List.getElem?_set_self (by rw [page_len]; exact hi), page_get _ hi]; simp [setW]
    · rw [List.getElem?_set_ne e, page_get _ hj, page_get _ hj]; simp [setW, Ne.symm e]
  · rw [List.getElem?_eq_none (by rw [page_len]; omega), List.getElem?_eq_none (by rw [List.length_set, page_len]; omega)]
theorem cells_setW (f : Fr) {i : Nat} (hi : i < 32) (v : Nat) : ({ f with w := setW f.w i v } : Fr).cells = f.cells.set (4 + i) (.int .u32 (v : Nat)) := by
  unfold Fr.cells
  rw [List.set_append_right _ _ (by simp [head_len]), head_len, Nat.add_sub_cancel_left, page_set _ hi]; rfl
set_option maxHeartbeats 400000 in
theorem store_ok (k i v : Nat) (h : MemAt w B G n m) (hu : On m n k) (hi : i < 32) :
    Calls Try.prog 31 #[.pointer (some ⟨B, 0, none⟩), .int .i64 (k : Int), .int .i64 (i : Int), .int .u32 (v : Int)] w fun e w' => e = .returned (.int .i64 0) ∧ MGo w w' B G n (upd m k { m k with d := true, w := setW (m k).w i v }) := by
  go_enter Try.func31, Try.ntmps31
  go_wp2_with fail
  refine (noWord_ok _ B G n m k i h hu hi).mono ?_
  rintro e w1 ⟨rfl, rfl⟩
  have c0 := h.hd
  have hk := hu.1
  have c1 := h.word hk hi
  obtain ⟨_, _, c3, c4⟩ := h.c hk
  have f3 := h.frz (k * 36 + 2)
  have f4 := h.frz (k * 36 + 4 + i)
  have hne : ¬ k * 36 + 4 + i = k * 36 + 2 := by omega
  have hgb : ¬ G = B := fun e => h.ne e.symm
  have HR : Hid (MGo w1 ((w1.setCell ⟨G, k * 36 + 4 + i, none⟩ (.int .u32 (v : Int))).setCell ⟨G, k * 36 + 2, none⟩ (.bool true)) B G n (upd m k { m k with d := true, w := setW (m k).w i v })) := by
    refine hide (And.intro ?_ (((Mod.refl (fun b => b = G) w1).setCell (.inl rfl) _).setCell (.inl rfl) _))
    have e1 := h.put1 (o := 4 + i) (v := .int .u32 (v : Int)) hk (by omega) (f := { m k with w := setW (m k).w i v }) (cells_setW _ hi _)
    rw [← Nat.add_assoc] at e1
    have e2 := e1.put1 (o := 2) (v := .bool true) hk (by omega) (f := { m k with d := true, w := setW (m k).w i v }) (by rw [upd_same]; rfl)
    exact e2.congr (fun j _ => by simp only [upd]; split <;> rfl)
  clear h hu
  go_wp2
  go_ret
  exact ⟨rfl, HR.out⟩
end
end Go.Proofs.Ytmdcmpkjhflgpaa
