import Derived.Test.YtmdcmpkjhflgpaaH4
namespace Go.Proofs.Ytmdcmpkjhflgpaa
open Go.RowKit

/-- a frame's cells as the document lays them -/
def Fr.rh (f : Fr) : List Value := [.int .i64 (f.h : Nat), .int .i64 f.s, .int .i64 f.k, .bool f.d]
def Fr.rc (f : Fr) : List Value := f.rh ++ page f.w
theorem rh_len (f : Fr) : f.rh.length = 4 := rfl
theorem rc_len (f : Fr) : f.rc.length = 36 := by simp [Fr.rc, rh_len, page_len]
theorem rc_one (f : Fr) : ∀ u ∈ f.rc, u.oneCell' = true := by
  intro u hu
  rcases List.mem_append.1 hu with h | h
  · simp [Fr.rh] at h; rcases h with rfl | rfl | rfl | rfl <;> rfl
  · exact page_one _ u h
theorem rc_word (f : Fr) {i : Nat} (h : i < 32) : f.rc[4 + i]? = some (.int .u32 (f.w i : Nat)) := by
  unfold Fr.rc
  rw [List.getElem?_append_right (by simp [rh_len]), rh_len, Nat.add_sub_cancel_left, page_get _ h]
theorem rc_setW (f : Fr) {i : Nat} (hi : i < 32) (v : Nat) : ({ f with w := setW f.w i v } : Fr).rc = f.rc.set (4 + i) (.int .u32 (v : Nat)) := by
  unfold Fr.rc
  rw [List.set_append_right _ _ (by simp [rh_len]), rh_len, Nat.add_sub_cancel_left, page_set _ hi]; rfl
/-- the document's memory at block B: n cells m at block G -/
structure RfAt (w : World) (B G n c : Nat) (a : Option Addr) (m : Nat → Fr) : Prop where
  top : w.heap[B]? = some (.cells #[.slice a n c] 40 (0, 0))
  at' : 0 < n → a = some ⟨G, 0, none⟩
  row : 0 < n → ∃ cs, w.heap[G]? = some (.cells cs 42 (0, 0)) ∧ n * 36 ≤ cs.size ∧ ∀ f, f < n → ∀ (j : Nat) (v : Value), (m f).rc[j]? = some v → cs[f * 36 + j]? = some v
  ne : 0 < n → B ≠ G
  glt : G < w.heap.size
section
variable {w w' : World} {B G n c : Nat} {a : Option Addr} {m : Nat → Fr}
theorem RfAt.fr (h : RfAt w B G n c a m) {k : Nat} (hk : k < n) : w.rangeAt G (k * 36) (m k).rc := by
  obtain ⟨cs, h1, h2, h3⟩ := h.row (by omega)
  intro j v hv
  rw [cell_of_row _ _ _ _ _ _ h1]; exact h3 k hk j v hv
theorem RfAt.lt (h : RfAt w B G n c a m) : B < w.heap.size := (Array.getElem?_eq_some_iff.1 h.top).1
theorem RfAt.hd (h : RfAt w B G n c a m) : w.cell? ⟨B, 0, none⟩ = some (.slice a n c) := by
  rw [cell_of_row _ _ _ _ _ _ h.top]; rfl
theorem RfAt.hds (h : RfAt w B G n c a m) {k : Nat} (hk : k < n) : w.cell? ⟨B, 0, none⟩ = some (.slice (some ⟨G, 0, none⟩) n c) := by
  rw [h.hd, h.at' (by omega)]
theorem RfAt.frz (h : RfAt w B G n c a m) {k : Nat} (hk : k < n) (o : Nat) : w.frozen? ⟨G, o, none⟩ = false := by obtain ⟨cs, h1, _⟩ := h.row (by omega); exact frozen_of_row w G o _ _ h1
theorem RfAt.cc (h : RfAt w B G n c a m) {k : Nat} (hk : k < n) : w.cell? ⟨G, k * 36, none⟩ = some (.int .i64 ((m k).h : Nat)) ∧ w.cell? ⟨G, k * 36 + 1, none⟩ = some (.int .i64 (m k).s) ∧
    w.cell? ⟨G, k * 36 + 2, none⟩ = some (.int .i64 (m k).k) ∧ w.cell? ⟨G, k * 36 + 3, none⟩ = some (.bool (m k).d) :=
  ⟨h.fr hk 0 _ rfl, h.fr hk 1 _ rfl, h.fr hk 2 _ rfl, h.fr hk 3 _ rfl⟩
theorem RfAt.word (h : RfAt w B G n c a m) {k i : Nat} (hk : k < n) (hi : i < 32) : w.cell? ⟨G, k * 36 + 4 + i, none⟩ = some (.int .u32 ((m k).w i : Nat)) := by
  rw [Nat.add_assoc]; exact h.fr hk (4 + i) _ (rc_word _ hi)
theorem RfAt.there (h : RfAt w B G n c a m) {k o l : Nat} (hk : k < n) (ho : o + l ≤ 36) : w.there G (k * 36 + o) l := by
  intro j hj
  refine ⟨?_, h.frz hk _⟩
  have := (h.fr hk).isSome (o + j) (by rw [rc_len]; omega)
  rwa [← Nat.add_assoc] at this
theorem RfAt.put (h : RfAt w B G n c a m) {k o : Nat} (hk : k < n) {vs : List Value} (ho : o + vs.length ≤ 36) {f : Fr}
    (hf : ∀ (j : Nat) (v : Value), f.rc[j]? = some v → (if o ≤ j ∧ j < o + vs.length then vs[j - o]? else (m k).rc[j]?) = some v) : RfAt (w.setCells G (k * 36 + o) vs) B G n c a (upd m k f) := by
  obtain ⟨cs, h1, h2, h3⟩ := h.row (by omega)
  obtain ⟨cs', g1, g2, g3⟩ := heap_setCells G 42 vs (k * 36 + o) w cs h1
  refine ⟨by rw [heap_setCells_other G B (h.ne (by omega))]; exact h.top, h.at', fun _ => ⟨cs', g1, by omega, fun p hp j v hv => ?_⟩, h.ne, by rw [(setCells_rest G vs (k * 36 + o) w).2.2.2]; exact h.glt⟩
  have hj : j < 36 := by have := (List.getElem?_eq_some_iff.1 hv).1; rwa [rc_len] at this
  rw [g3 _ (by omega)]
  by_cases e : p = k
  · subst e
    rw [upd_same] at hv
    have := hf j v hv
    by_cases hr : o ≤ j ∧ j < o + vs.length
    · rw [if_pos hr] at this
      rw [if_pos (by omega), ← this]; congr 1; omega
    · rw [if_neg hr] at this
      rw [if_neg (by omega)]; exact h3 p hp j v this
  · rw [upd_other _ _ e] at hv
    rw [if_neg (by omega)]
    exact h3 p hp j v hv
theorem RfAt.put1 (h : RfAt w B G n c a m) {k o : Nat} (hk : k < n) {v : Value} (ho : o < 36) {f : Fr} (hf : f.rc = (m k).rc.set o v) : RfAt (w.setCell ⟨G, k * 36 + o, none⟩ v) B G n c a (upd m k f) := by
  refine h.put (vs := [v]) hk (by simp; omega) (fun j u hu => ?_)
  rw [hf] at hu
  by_cases e : o = j
  · subst e
    rw [List.getElem?_set_self (by rw [rc_len]; omega)] at hu
    rw [if_pos (by simp)]; simpa using hu
  · rw [List.getElem?_set_ne e] at hu
    rw [if_neg (by simp; omega)]; exact hu
theorem RfAt.putAll (h : RfAt w B G n c a m) {k : Nat} (hk : k < n) (f : Fr) : RfAt (w.setCells G (k * 36) f.rc) B G n c a (upd m k f) :=
  h.put (o := 0) (vs := f.rc) hk (by rw [rc_len]; omega) (f := f) (fun j v hv => by
    have hj : j < 36 := by have := (List.getElem?_eq_some_iff.1 hv).1; rwa [rc_len] at this
    rw [if_pos (by rw [rc_len]; omega)]; exact hv)
theorem RfAt.keep (h : RfAt w B G n c a m) (hs : w.heap.size ≤ w'.heap.size) (hB : w'.heap[B]? = w.heap[B]?) (hG : w'.heap[G]? = w.heap[G]?) : RfAt w' B G n c a m :=
  ⟨by rw [hB]; exact h.top, h.at', fun hn => by obtain ⟨cs, h1, h2⟩ := h.row hn; exact ⟨cs, by rw [hG]; exact h1, h2⟩, h.ne, Nat.lt_of_lt_of_le h.glt hs⟩
theorem RfAt.drew (h : RfAt w B G n c a m) : RfAt w.drew B G n c a m := h.keep (Nat.le_refl _) rfl rfl
theorem RfAt.below (h : RfAt w B G n c a m) (hb : Below w.heap.size w w') : RfAt w' B G n c a m := h.keep hb.size (hb.block B h.lt) (hb.block G h.glt)
theorem RfAt.mod (h : RfAt w B G n c a m) {F : Nat → Prop} (hb : Mod F w w') (hB : ¬ F B) (hG : ¬ F G) : RfAt w' B G n c a m := h.keep hb.size (hb.block B h.lt hB) (hb.block G h.glt hG)
theorem RfAt.alloc (h : RfAt w B G n c a m) (o : Obj) : RfAt (w.alloc o) B G n c a m := h.below ((Below.refl _ _).alloc (Nat.le_refl _) o)
theorem RfAt.congr (h : RfAt w B G n c a m) {m' : Nat → Fr} (e : ∀ f, f < n → m f = m' f) : RfAt w B G n c a m' :=
  ⟨h.top, h.at', fun hn => by obtain ⟨cs, h1, h2, h3⟩ := h.row hn; exact ⟨cs, h1, h2, fun f hf j v hv => h3 f hf j v (by rw [e f hf]; exact hv)⟩, h.ne, h.glt⟩
end
/-- what a call on the document's memory leaves -/
def RGo (w w' : World) (B G n c : Nat) (a : Option Addr) (m' : Nat → Fr) : Prop := RfAt w' B G n c a m' ∧ Mod (fun b => b = G) w w'
section
variable (w : World) (B G n c : Nat) (a : Option Addr) (m : Nat → Fr)
set_option maxHeartbeats 400000 in
theorem used_yes (k : Nat) (h : RfAt w B G n c a m) (hu : On m n k) :
    Calls Try.prog 23 #[.pointer (some ⟨B, 0, none⟩), .int .i64 (k : Int)] w fun e w' => e = .returned (.bool true) ∧ w' = w := by
  obtain ⟨hk, hu⟩ := hu
  have c0 := h.hds hk
  obtain ⟨c1, _, _, _⟩ := h.cc hk
  clear h
  go_enter Try.func23, Try.ntmps23
  go_wp2
  go_ret
  simp
set_option maxHeartbeats 400000 in
theorem used_no (f : Int) (h : RfAt w B G n c a m) (hu : Off m n f) :
    Calls Try.prog 23 #[.pointer (some ⟨B, 0, none⟩), .int .i64 f] w fun e w' => e = .returned (.bool false) ∧ w' = w := by
  by_cases h0 : 0 ≤ f
  · obtain ⟨k, rfl⟩ := Int.eq_ofNat_of_zero_le h0
    by_cases hk : k < n
    · have c0 := h.hds hk
      obtain ⟨c1, _, _, _⟩ := h.cc hk
      rw [hu k rfl hk] at c1
      clear h hu
      go_enter Try.func23, Try.ntmps23
      go_wp2
      go_ret
      simp
    · have c0 := h.hd
      clear h hu
      have hd : decide ((k : Int) < (n : Int)) = false := by simp; omega
      go_enter Try.func23, Try.ntmps23
      go_wp2
      go_ret
      simp
  · clear h hu
    go_enter Try.func23, Try.ntmps23
    go_wp2
    go_ret
    simp
set_option maxHeartbeats 400000 in
theorem rload_off (f i : Int) (h : RfAt w B G n c a m) (hu : Off m n f) :
    Calls Try.prog 9 #[.pointer (some ⟨B, 0, none⟩), .int .i64 f, .int .i64 i] w fun e w' => e = .returned (.tuple #[.int .u32 0, .int .i64 50]) ∧ w' = w := by
  go_enter Try.func9, Try.ntmps9
  go_wp2_with fail
  refine (used_no w B G n c a m f h hu).mono ?_
  rintro e w1 ⟨rfl, rfl⟩
  go_wp2
  go_ret2
  simp
set_option maxHeartbeats 400000 in
theorem rload_bad (k : Nat) (i : Int) (h : RfAt w B G n c a m) (hu : On m n k) (hi : i < 0 ∨ 32 ≤ i) :
    Calls Try.prog 9 #[.pointer (some ⟨B, 0, none⟩), .int .i64 (k : Int), .int .i64 i] w fun e w' => e = .returned (.tuple #[.int .u32 0, .int .i64 51]) ∧ w' = w := by
  go_enter Try.func9, Try.ntmps9
  go_wp2_with fail
  refine (used_yes w B G n c a m k h hu).mono ?_
  rintro e w1 ⟨rfl, rfl⟩
  by_cases h0 : i < 0
  · go_wp2
    go_ret2
    simp
  · have h1 : 32 ≤ i := by omega
    go_wp2
    go_ret2
    simp
set_option maxHeartbeats 400000 in
theorem rload_ok (k i : Nat) (h : RfAt w B G n c a m) (hu : On m n k) (hi : i < 32) :
    Calls Try.prog 9 #[.pointer (some ⟨B, 0, none⟩), .int .i64 (k : Int), .int .i64 (i : Int)] w fun e w' => e = .returned (.tuple #[.int .u32 ((m k).w i : Nat), .int .i64 0]) ∧ w' = w := by
  go_enter Try.func9, Try.ntmps9
  go_wp2_with fail
  refine (used_yes w B G n c a m k h hu).mono ?_
  rintro e w1 ⟨rfl, rfl⟩
  have c0 := h.hds hu.1
  have c1 := h.word hu.1 hi
  have hk := hu.1
  have h0 : decide ((i : Int) < 0) = false := by simp
  have h1 : decide (32 ≤ (i : Int)) = false := by simp; omega
  clear h hu
  go_wp2
  go_ret2
  simp
set_option maxHeartbeats 400000 in
theorem rhold_off (f : Int) (h : RfAt w B G n c a m) (hu : Off m n f) :
    Calls Try.prog 28 #[.pointer (some ⟨B, 0, none⟩), .int .i64 f] w fun e w' => e = .returned (.int .i64 50) ∧ w' = w := by
  go_enter Try.func28, Try.ntmps28
  go_wp2_with fail
  refine (used_no w B G n c a m f h hu).mono ?_
  rintro e w1 ⟨rfl, rfl⟩
  go_wp2
  go_ret
  simp
set_option maxHeartbeats 400000 in
theorem rhold_on (k : Nat) (h : RfAt w B G n c a m) (hu : On m n k) (hb : (m k).h < 4611686018427387904) :
    Calls Try.prog 28 #[.pointer (some ⟨B, 0, none⟩), .int .i64 (k : Int)] w fun e w' => e = .returned (.int .i64 0) ∧ RGo w w' B G n c a (upd m k { m k with h := (m k).h + 1 }) := by
  go_enter Try.func28, Try.ntmps28
  go_wp2_with fail
  refine (used_yes w B G n c a m k h hu).mono ?_
  rintro e w1 ⟨rfl, rfl⟩
  have hk := hu.1
  have c0 := h.hds hk
  obtain ⟨c2, _, _, _⟩ := h.cc hk
  have fz := h.frz hk (k * 36)
  have HR : Hid (∀ z : Int, z = (((m k).h + 1 : Nat) : Int) → RGo w1 (w1.setCell ⟨G, k * 36, none⟩ (.int .i64 z)) B G n c a (upd m k { m k with h := (m k).h + 1 })) :=
    hide (fun z hz => by subst hz; exact And.intro (h.put1 (o := 0) hk (by omega) rfl) ((Mod.refl (fun b => b = G) w1).setCell (.inl rfl) _))
  clear h hu
  obtain ⟨q, hq⟩ : ∃ q, (m k).h = q := ⟨_, rfl⟩
  rw [hq] at c2 hb
  have HQ := hide hq
  clear hq
  go_wp2
  go_ret
  exact ⟨rfl, HR.out _ (by rw [HQ.out]; omega)⟩
set_option maxHeartbeats 400000 in
theorem rdrop_off (f : Int) (h : RfAt w B G n c a m) (hu : Off m n f) :
    Calls Try.prog 30 #[.pointer (some ⟨B, 0, none⟩), .int .i64 f] w fun e w' => e = .returned (.tuple #[.bool false, .int .i64 50]) ∧ w' = w := by
  go_enter Try.func30, Try.ntmps30
  go_wp2_with fail
  refine (used_no w B G n c a m f h hu).mono ?_
  rintro e w1 ⟨rfl, rfl⟩
  go_wp2
  go_ret2
  simp
set_option maxHeartbeats 400000 in
theorem rdrop_on (k : Nat) (h : RfAt w B G n c a m) (hu : On m n k) (hb : (m k).h < 4611686018427387904) :
    Calls Try.prog 30 #[.pointer (some ⟨B, 0, none⟩), .int .i64 (k : Int)] w fun e w' => e = .returned (.tuple #[.bool (decide ((m k).h = 1)), .int .i64 0]) ∧ RGo w w' B G n c a (upd m k { m k with h := (m k).h - 1 }) := by
  go_enter Try.func30, Try.ntmps30
  go_wp2_with fail
  refine (used_yes w B G n c a m k h hu).mono ?_
  rintro e w1 ⟨rfl, rfl⟩
  have hk := hu.1
  have c0 := h.hds hk
  obtain ⟨c2, _, _, _⟩ := h.cc hk
  have fz := h.frz hk (k * 36)
  have hgb : ¬ G = B := fun e => h.ne (by omega) e.symm
  have HR : Hid (∀ z : Int, z = (((m k).h - 1 : Nat) : Int) → RGo w1 (w1.setCell ⟨G, k * 36, none⟩ (.int .i64 z)) B G n c a (upd m k { m k with h := (m k).h - 1 })) :=
    hide (fun z hz => by subst hz; exact And.intro (h.put1 (o := 0) hk (by omega) rfl) ((Mod.refl (fun b => b = G) w1).setCell (.inl rfl) _))
  have hu2 := hu.2
  clear h hu
  obtain ⟨q, hq⟩ : ∃ q, (m k).h = q := ⟨_, rfl⟩
  rw [hq] at c2 hb hu2
  have HQ := hide hq
  clear hq
  go_wp2
  go_ret2
  refine ⟨?_, HR.out _ (by rw [HQ.out]; omega)⟩
  rw [HQ.out]
  simp
  rw [Bool.eq_iff_iff]
  simp
  omega
end
end Go.Proofs.Ytmdcmpkjhflgpaa
