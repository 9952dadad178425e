import Derived.Test.YtnpklhjndominaaQC
namespace Go.Proofs.Ytnpklhjndominaa
open Go.RowKit

/-- what Write answers, and the disk behind it -/
def Dsk.wrt (D : Dsk) (z : Int) (zs : List Nat) : Int × Dsk :=
  if z < 0 ∨ 1024 ≤ z then (40, D) else if zs.length ≠ 128 then (41, D) else if D.down = true ∨ (D.armed = true ∧ D.left = 0) then (42, D.off) else (0, D.acted.put z.toNat zs)
def Dsk.fls (D : Dsk) : Int × Dsk := if D.down = true ∨ (D.armed = true ∧ D.left = 0) then (42, D.off) else (0, D.acted.settled yes)
def Dsk.amd (D : Dsk) (z : Int) : Int × Dsk := if z < 0 then (1, D) else if D.down = true then (42, D) else (0, D.arm z.toNat)
def Dsk.edt (D : Dsk) (z a : Int) (zs : List Nat) : Int × Dsk :=
  if z < 0 ∨ 1024 ≤ z then (40, D) else if a < 0 ∨ 128 < a + (zs.length : Int) then (1, D) else (0, D.edit z.toNat (splice (D.M z.toNat) a.toNat zs))
def Dsk.rdd (D : Dsk) (z : Int) : Int × List Nat := if z < 0 ∨ 1024 ≤ z then (40, []) else if D.down = true then (42, []) else (0, D.seen z.toNat)
def Dsk.rww (D : Dsk) (z : Int) : Int × List Nat := if z < 0 ∨ 1024 ≤ z then (40, []) else (0, D.M z.toNat)
def Dsk.crs (D : Dsk) (ks : List Bool) : Int × Dsk := (((keptTo (kp ks) D.c D.c.length).length : Nat), D.up.settled (kp ks))
/-- no more than one act, one write more -/
def Dsk.near (D D' : Dsk) : Prop := D'.acts ≤ D.acts + 1 ∧ D'.c.length ≤ D.c.length + 1
theorem Dsk.near_wrt (D : Dsk) (z : Int) (zs : List Nat) : D.near (D.wrt z zs).2 := by
  unfold Dsk.wrt; split
  · exact ⟨Nat.le_succ _, Nat.le_succ _⟩
  · split
    · exact ⟨Nat.le_succ _, Nat.le_succ _⟩
    · split
      · exact ⟨Nat.le_succ _, Nat.le_succ _⟩
      · exact ⟨Nat.le_refl _, by show (D.c ++ [_]).length ≤ _; simp⟩
theorem Dsk.near_fls (D : Dsk) : D.near D.fls.2 := by
  unfold Dsk.fls; split
  · exact ⟨Nat.le_succ _, Nat.le_succ _⟩
  · exact ⟨Nat.le_refl _, Nat.zero_le _⟩
theorem Dsk.near_amd (D : Dsk) (z : Int) : D.near (D.amd z).2 := by
  unfold Dsk.amd; split
  · exact ⟨Nat.le_succ _, Nat.le_succ _⟩
  · split
    · exact ⟨Nat.le_succ _, Nat.le_succ _⟩
    · exact ⟨Nat.le_succ _, Nat.le_succ _⟩
theorem Dsk.near_edt (D : Dsk) (z a : Int) (zs : List Nat) : D.near (D.edt z a zs).2 := by
  unfold Dsk.edt; split
  · exact ⟨Nat.le_succ _, Nat.le_succ _⟩
  · split
    · exact ⟨Nat.le_succ _, Nat.le_succ _⟩
    · exact ⟨Nat.le_succ _, Nat.le_succ _⟩
theorem Dsk.near_crs (D : Dsk) (ks : List Bool) : D.near (D.crs ks).2 := ⟨Nat.le_succ _, Nat.zero_le _⟩
section
variable {w : World} {B : Nat} {D : Dsk} {F : Nat → Prop}
theorem wrtP (hd : DkA B D w F) (ha : D.acts < 100000000) (hc : D.c.length < 100000000) (z : Int) (v : Value) (zs : List Nat) (hv : Rd w v zs) (hz : ∀ x ∈ zs, x < 256) (hnF : ∀ b, v.ownBlock = some b → ¬ F b) :
    Calls Try.prog 14 #[dp B, .int .i64 z, v] w fun e w' => e = .returned (.int .i64 (D.wrt z zs).1) ∧ ∃ F', DkA B (D.wrt z zs).2 w' F' ∧ Ext F w F' w' := by
  unfold Dsk.wrt
  by_cases hr : z < 0 ∨ 1024 ≤ z
  · rw [if_pos hr]
    refine (write_out B z v w hr).mono ?_
    rintro e w' ⟨rfl, rfl⟩
    exact ⟨rfl, F, hd, Ext.refl _ _⟩
  · rw [if_neg hr]
    obtain ⟨s, rfl⟩ : ∃ s : Nat, z = (s : Int) := ⟨z.toNat, by omega⟩
    have hs : s < 1024 := by omega
    obtain ⟨ao, cap, hvv⟩ := hv.len
    by_cases hl : zs.length = 128
    · rw [if_neg (by omega)]
      by_cases hno : D.down = true ∨ (D.armed = true ∧ D.left = 0)
      · rw [if_pos hno, hvv, hl]
        refine (write_no hd s cap ao hs hno).mono ?_
        rintro e w' ⟨rfl, h3, h4⟩
        exact ⟨rfl, F, h3, h4⟩
      · rw [if_neg hno]
        refine (write_ok hd s v zs hs hv ⟨hl, hz⟩ hnF (by cases h : D.down; rfl; exact absurd (.inl h) hno) (fun h h' => hno (.inr ⟨h, h'⟩)) (by omega) (by omega)).mono ?_
        rintro e w' ⟨rfl, F', h3, h4⟩
        exact ⟨rfl, F', h3, h4⟩
    · rw [if_pos hl, hvv]
      refine (write_size B s zs.length cap ao w hs hl).mono ?_
      rintro e w' ⟨rfl, rfl⟩
      exact ⟨rfl, F, hd, Ext.refl _ _⟩
theorem flsP (hd : DkA B D w F) (ha : D.acts < 100000000) :
    Calls Try.prog 17 #[dp B] w fun e w' => e = .returned (.int .i64 D.fls.1) ∧ ∃ F', DkA B D.fls.2 w' F' ∧ Ext F w F' w' := by
  unfold Dsk.fls
  by_cases hno : D.down = true ∨ (D.armed = true ∧ D.left = 0)
  · rw [if_pos hno]
    refine (flush_no hd hno).mono ?_
    rintro e w' ⟨rfl, h3, h4⟩
    exact ⟨rfl, F, h3, h4⟩
  · rw [if_neg hno]
    refine (flush_ok hd (by cases h : D.down; rfl; exact absurd (.inl h) hno) (fun h h' => hno (.inr ⟨h, h'⟩)) (by omega)).mono ?_
    rintro e w' ⟨rfl, F', h3, h4⟩
    exact ⟨rfl, F', h3, h4⟩
theorem amdP (hd : DkA B D w F) (z : Int) (hz : z ≤ 9223372036854775807) :
    Calls Try.prog 19 #[dp B, .int .i64 z] w fun e w' => e = .returned (.int .i64 (D.amd z).1) ∧ ∃ F', DkA B (D.amd z).2 w' F' ∧ Ext F w F' w' := by
  unfold Dsk.amd
  by_cases h0 : z < 0
  · rw [if_pos h0]
    refine (arm_neg z h0).mono ?_
    rintro e w' ⟨rfl, rfl⟩
    exact ⟨rfl, F, hd, Ext.refl _ _⟩
  · rw [if_neg h0]
    obtain ⟨s, rfl⟩ : ∃ s : Nat, z = (s : Int) := ⟨z.toNat, by omega⟩
    by_cases hw : D.down = true
    · rw [if_pos hw]
      refine (arm_down hd s hw).mono ?_
      rintro e w' ⟨rfl, rfl⟩
      exact ⟨rfl, F, hd, Ext.refl _ _⟩
    · rw [if_neg hw]
      refine (arm_ok hd s (by omega) (by simpa using hw)).mono ?_
      rintro e w' ⟨rfl, h3, h4⟩
      exact ⟨rfl, F, h3, h4⟩
theorem edtP (hd : DkA B D w F) (z a : Int) (v : Value) (zs : List Nat) (hv : Rd w v zs) (hz : ∀ x ∈ zs, x < 256) (hl : zs.length ≤ 1048576) :
    Calls Try.prog 25 #[dp B, .int .i64 z, .int .i64 a, v] w fun e w' => e = .returned (.int .i64 (D.edt z a zs).1) ∧ ∃ F', DkA B (D.edt z a zs).2 w' F' ∧ Ext F w F' w' := by
  unfold Dsk.edt
  by_cases hr : z < 0 ∨ 1024 ≤ z
  · rw [if_pos hr]
    refine (edit_out B z a v w hr).mono ?_
    rintro e w' ⟨rfl, rfl⟩
    exact ⟨rfl, F, hd, Ext.refl _ _⟩
  · rw [if_neg hr]
    obtain ⟨s, rfl⟩ : ∃ s : Nat, z = (s : Int) := ⟨z.toNat, by omega⟩
    have hs : s < 1024 := by omega
    by_cases ha : a < 0 ∨ 128 < a + (zs.length : Int)
    · rw [if_pos ha]
      obtain ⟨ao, cap, hvv⟩ := hv.len
      rw [hvv]
      refine (edit_arg B s a zs.length cap ao w hs hl ha).mono ?_
      rintro e w' ⟨rfl, rfl⟩
      exact ⟨rfl, F, hd, Ext.refl _ _⟩
    · rw [if_neg ha]
      obtain ⟨t, rfl⟩ : ∃ t : Nat, a = (t : Int) := ⟨a.toNat, by omega⟩
      refine (edit_ok hd s t v zs hs hv hz (by omega)).mono ?_
      rintro e w' ⟨rfl, h3, h4⟩
      exact ⟨rfl, F, h3, h4⟩
theorem crsP (hd : DkA B D w F) (v : Value) (ks : List Bool) (hr : RdB w v ks) (hnF : ∀ b, v.ownBlock = some b → ¬ F b) :
    Calls Try.prog 22 #[dp B, v] w fun e w' => e = .returned (.int .i64 (D.crs ks).1) ∧ ∃ F', DkA B (D.crs ks).2 w' F' ∧ Ext F w F' w' := crash_any hd v ks hr hnF
theorem rddP (hd : DkA B D w F) (z : Int) :
    Calls Try.prog 36 #[dp B, .int .i64 z] w fun e w' => ∃ r, e = .returned (.tuple #[r, .int .i64 (D.rdd z).1]) ∧ Ow w' w.heap.size r (D.rdd z).2 ∧ Below w.heap.size w w' := by
  unfold Dsk.rdd
  by_cases hr : z < 0 ∨ 1024 ≤ z
  · rw [if_pos hr]
    refine (read_out B z w hr).mono ?_
    rintro e w' ⟨rfl, rfl⟩
    exact ⟨_, rfl, World.ownsRow_nil _ _ _ _, Below.refl _ _⟩
  · rw [if_neg hr]
    obtain ⟨s, rfl⟩ : ∃ s : Nat, z = (s : Int) := ⟨z.toNat, by omega⟩
    have hs : s < 1024 := by omega
    by_cases hw : D.down = true
    · rw [if_pos hw]
      refine (read_down hd s hs hw).mono ?_
      rintro e w' ⟨rfl, rfl⟩
      exact ⟨_, rfl, World.ownsRow_nil _ _ _ _, Below.refl _ _⟩
    · rw [if_neg hw]
      exact read_ok hd s hs (by simpa using hw)
theorem rwwP (hd : DkA B D w F) (z : Int) :
    Calls Try.prog 38 #[dp B, .int .i64 z] w fun e w' => ∃ r, e = .returned (.tuple #[r, .int .i64 (D.rww z).1]) ∧ Ow w' w.heap.size r (D.rww z).2 ∧ Below w.heap.size w w' := by
  unfold Dsk.rww
  by_cases hr : z < 0 ∨ 1024 ≤ z
  · rw [if_pos hr]
    refine (raw_out B z w hr).mono ?_
    rintro e w' ⟨rfl, rfl⟩
    exact ⟨_, rfl, World.ownsRow_nil _ _ _ _, Below.refl _ _⟩
  · rw [if_neg hr]
    obtain ⟨s, rfl⟩ : ∃ s : Nat, z = (s : Int) := ⟨z.toNat, by omega⟩
    exact raw_ok hd s (by omega)
end
section
variable {w : World} {R N : Nat} {D : Dsk} {F : Nat → Prop}
theorem wrtR (h : RkA R D N w F) (ha : D.acts < 100000000) (hc : D.c.length ≤ 2000000) (z : Int) (v : Value) (zs : List Nat) (hv : Rd w v zs) (hz : ∀ x ∈ zs, x < 256) (hnF : ∀ b, v.ownBlock = some b → ¬ F b) :
    Calls Try.prog 16 #[tp R, .int .i64 z, v] w fun e w' => e = .returned (.int .i64 (D.wrt z zs).1) ∧ ∃ F' N', RkA R (D.wrt z zs).2 N' w' F' ∧ Ext F w F' w' ∧ N' + (D.wrt z zs).2.c.length ≤ N + D.c.length + 1 := by
  unfold Dsk.wrt
  by_cases hr : z < 0 ∨ 1024 ≤ z
  · rw [if_pos hr]
    refine (writeR_out z v hr).mono ?_
    rintro e w' ⟨rfl, rfl⟩
    exact ⟨rfl, F, N, h, Ext.refl _ _, Nat.le_succ _⟩
  · rw [if_neg hr]
    obtain ⟨s, rfl⟩ : ∃ s : Nat, z = (s : Int) := ⟨z.toNat, by omega⟩
    have hs : s < 1024 := by omega
    obtain ⟨ao, cap, hvv⟩ := hv.len
    by_cases hl : zs.length = 128
    · rw [if_neg (by omega)]
      by_cases hno : D.down = true ∨ (D.armed = true ∧ D.left = 0)
      · rw [if_pos hno, hvv, hl]
        refine (writeR_no h s cap ao hs hno).mono ?_
        rintro e w' ⟨rfl, h3, h4⟩
        exact ⟨rfl, F, N, h3, h4, Nat.le_succ _⟩
      · rw [if_neg hno]
        refine (writeR_ok h s v zs hs hv ⟨hl, hz⟩ hnF (by cases h : D.down; rfl; exact absurd (.inl h) hno) (fun h h' => hno (.inr ⟨h, h'⟩)) (by omega) hc).mono ?_
        rintro e w' ⟨rfl, F', h3, h4⟩
        exact ⟨rfl, F', N, h3, h4, by show N + (D.c ++ [_]).length ≤ _; simp; omega⟩
    · rw [if_pos hl, hvv]
      refine (writeR_size s zs.length cap ao hs hl).mono ?_
      rintro e w' ⟨rfl, rfl⟩
      exact ⟨rfl, F, N, h, Ext.refl _ _, Nat.le_succ _⟩
theorem flsR (h : RkA R D N w F) (hD : D.Ok) (ha : D.acts < 100000000) (hN : N ≤ 2000000) (hc : D.c.length ≤ 2000000) :
    Calls Try.prog 18 #[tp R] w fun e w' => e = .returned (.int .i64 D.fls.1) ∧ ∃ F' N', RkA R D.fls.2 N' w' F' ∧ Ext F w F' w' ∧ N' + D.fls.2.c.length ≤ N + D.c.length + 1 := by
  unfold Dsk.fls
  by_cases hno : D.down = true ∨ (D.armed = true ∧ D.left = 0)
  · rw [if_pos hno]
    refine (flushR_no h hno).mono ?_
    rintro e w' ⟨rfl, h3, h4⟩
    exact ⟨rfl, F, N, h3, h4, Nat.le_succ _⟩
  · rw [if_neg hno]
    refine (flushR_ok h hD hN hc (by cases h : D.down; rfl; exact absurd (.inl h) hno) (fun h h' => hno (.inr ⟨h, h'⟩)) (by omega)).mono ?_
    rintro e w' ⟨rfl, F', h3, h4⟩
    exact ⟨rfl, F', _, h3, h4, by show N + D.c.length + 0 ≤ _; omega⟩
theorem amdR (h : RkA R D N w F) (z : Int) (hz : z ≤ 9223372036854775807) :
    Calls Try.prog 20 #[tp R, .int .i64 z] w fun e w' => e = .returned (.int .i64 (D.amd z).1) ∧ ∃ F' N', RkA R (D.amd z).2 N' w' F' ∧ Ext F w F' w' ∧ N' + (D.amd z).2.c.length ≤ N + D.c.length + 1 := by
  refine (armR_any h z (by omega)).mono ?_
  rintro e w' (⟨h0, rfl, rfl⟩ | ⟨h0, hw, rfl, rfl⟩ | ⟨h0, hw, rfl, h3, h4⟩)
  · unfold Dsk.amd; rw [if_pos h0]; exact ⟨rfl, F, N, h, Ext.refl _ _, Nat.le_succ _⟩
  · unfold Dsk.amd; rw [if_neg (by omega), if_pos hw]; exact ⟨rfl, F, N, h, Ext.refl _ _, Nat.le_succ _⟩
  · unfold Dsk.amd; rw [if_neg (by omega), if_neg (by simp [hw])]; exact ⟨rfl, F, N, h3, h4, Nat.le_succ _⟩
theorem edtR (h : RkA R D N w F) (hN : N ≤ 2000000) (z a : Int) (ha2 : -9223372036854775808 ≤ a ∧ a ≤ 9223372036854775807) (v : Value) (zs : List Nat) (hv : Rd w v zs) (hz : ∀ x ∈ zs, x < 256) :
    Calls Try.prog 26 #[tp R, .int .i64 z, .int .i64 a, v] w fun e w' => e = .returned (.int .i64 (D.edt z a zs).1) ∧ ∃ F' N', RkA R (D.edt z a zs).2 N' w' F' ∧ Ext F w F' w' ∧ N' + (D.edt z a zs).2.c.length ≤ N + D.c.length + 1 := by
  unfold Dsk.edt
  by_cases hr : z < 0 ∨ 1024 ≤ z
  · rw [if_pos hr]
    refine (editR_out z a v hr).mono ?_
    rintro e w' ⟨rfl, rfl⟩
    exact ⟨rfl, F, N, h, Ext.refl _ _, Nat.le_succ _⟩
  · rw [if_neg hr]
    obtain ⟨s, rfl⟩ : ∃ s : Nat, z = (s : Int) := ⟨z.toNat, by omega⟩
    have hs : s < 1024 := by omega
    by_cases ha : a < 0 ∨ 128 < a + (zs.length : Int)
    · rw [if_pos ha]
      obtain ⟨ao, cap, hvv⟩ := hv.len
      rw [hvv]
      refine (editR_arg s zs.length cap a ao hs ha ha2).mono ?_
      rintro e w' ⟨rfl, rfl⟩
      exact ⟨rfl, F, N, h, Ext.refl _ _, Nat.le_succ _⟩
    · rw [if_neg ha]
      obtain ⟨t, rfl⟩ : ∃ t : Nat, a = (t : Int) := ⟨a.toNat, by omega⟩
      refine (editR_ok h s t v zs hs hv hz (by omega) hN).mono ?_
      rintro e w' ⟨rfl, F', h3, h4⟩
      exact ⟨rfl, F', N + 1, h3, h4, by show N + 1 + D.c.length ≤ _; omega⟩
theorem crsR (h : RkA R D N w F) (hD : D.Ok) (hN : N ≤ 2000000) (hc : D.c.length ≤ 2000000) (v : Value) (ks : List Bool) (hr : RdB w v ks) (hnF : ks ≠ [] → ∀ b, v.ownBlock = some b → ¬ F b) :
    Calls Try.prog 23 #[tp R, v] w fun e w' => e = .returned (.int .i64 (D.crs ks).1) ∧ ∃ F' N', RkA R (D.crs ks).2 N' w' F' ∧ Ext F w F' w' ∧ N' + (D.crs ks).2.c.length ≤ N + D.c.length + 1 := by
  refine (crashR_any h hD hN hc v ks hr hnF).mono ?_
  rintro e w' ⟨rfl, F', h3, h4⟩
  exact ⟨rfl, F', _, h3, h4, by show N + D.c.length + 0 ≤ _; omega⟩
theorem rddR (h : RkA R D N w F) (hD : D.Ok) (hN : N ≤ 4000000) (hc : D.c.length ≤ 4000000) (z : Int) :
    Calls Try.prog 37 #[tp R, .int .i64 z] w fun e w' => ∃ r, e = .returned (.tuple #[r, .int .i64 (D.rdd z).1]) ∧ Ow w' w.heap.size r (D.rdd z).2 ∧ Below w.heap.size w w' := by
  unfold Dsk.rdd
  by_cases hr : z < 0 ∨ 1024 ≤ z
  · rw [if_pos hr]
    refine (readR_out z hr).mono ?_
    rintro e w' ⟨rfl, rfl⟩
    exact ⟨_, rfl, World.ownsRow_nil _ _ _ _, Below.refl _ _⟩
  · rw [if_neg hr]
    obtain ⟨s, rfl⟩ : ∃ s : Nat, z = (s : Int) := ⟨z.toNat, by omega⟩
    have hs : s < 1024 := by omega
    by_cases hw : D.down = true
    · rw [if_pos hw]
      refine (readR_down h s hs hw).mono ?_
      rintro e w' ⟨rfl, rfl⟩
      exact ⟨_, rfl, World.ownsRow_nil _ _ _ _, Below.refl _ _⟩
    · rw [if_neg hw]
      exact readR_ok h hD hN hc s hs (by simpa using hw)
theorem rwwR (h : RkA R D N w F) (hN : N ≤ 4000000) (z : Int) :
    Calls Try.prog 39 #[tp R, .int .i64 z] w fun e w' => ∃ r, e = .returned (.tuple #[r, .int .i64 (D.rww z).1]) ∧ Ow w' w.heap.size r (D.rww z).2 ∧ Below w.heap.size w w' := by
  unfold Dsk.rww
  by_cases hr : z < 0 ∨ 1024 ≤ z
  · rw [if_pos hr]
    refine (rawR_out z hr).mono ?_
    rintro e w' ⟨rfl, rfl⟩
    exact ⟨_, rfl, World.ownsRow_nil _ _ _ _, Below.refl _ _⟩
  · rw [if_neg hr]
    obtain ⟨s, rfl⟩ : ∃ s : Nat, z = (s : Int) := ⟨z.toNat, by omega⟩
    exact rawR_ok h hN s (by omega)
end
/-- both disks, the program's and the document's, in one state -/
def PrA (B R n : Nat) : Asn := fun w F => ∃ D N, star (DkA B D) (RkA R D N) w F ∧ N + D.c.length ≤ n + 1024 ∧ D.acts ≤ n
theorem good_pr (B R n : Nat) : Good (PrA B R n) := by
  refine ⟨?_, ?_⟩
  · rintro W H ⟨D, N, h, _, _⟩ b hb
    exact (Good.star (good_dk B D) (good_rk R D N)).lt h b hb
  · rintro W W' H ⟨D, N, h, h1, h2⟩ hs hk
    exact ⟨D, N, (Good.star (good_dk B D) (good_rk R D N)).keep h hs hk, h1, h2⟩
theorem DkA.ok {B : Nat} {D : Dsk} {w : World} {F : Nat → Prop} (h : DkA B D w F) : D.Ok := by obtain ⟨cs, cv, h, _⟩ := h; exact h.ok
section
variable {w wr : World} {X Y R : Asn}
theorem star_assoc {A B C : Asn} {W : World} {H : Nat → Prop} (h : star (star A B) C W H) : star A (star B C) W H := by
  obtain ⟨H1, H2, ⟨H3, H4, a1, a2, a3, a4⟩, c1, c2, c3⟩ := h
  refine ⟨H3, fun b => H4 b ∨ H2 b, a1, ⟨H4, H2, a2, c1, fun b => Iff.rfl, fun b hb => c3 b ((a3 b).2 (.inr hb))⟩, fun b => ?_, fun b hb hc => ?_⟩
  · rw [c2, a3]; exact or_assoc
  · rcases hc with hc | hc
    · exact a4 b hb hc
    · exact c3 b ((a3 b).2 (.inl hb)) hc
theorem star_assoc2 {A B C : Asn} {W : World} {H : Nat → Prop} (h : star A (star B C) W H) : star (star A B) C W H := by
  obtain ⟨H1, H2, a1, ⟨H3, H4, b1, b2, b3, b4⟩, c2, c3⟩ := h
  refine ⟨fun b => H1 b ∨ H3 b, H4, ⟨H1, H3, a1, b1, fun b => Iff.rfl, fun b hb hc => c3 b hb ((b3 b).2 (.inl hc))⟩, b2, fun b => ?_, fun b hb hc => ?_⟩
  · rw [c2, b3]; exact or_assoc.symm
  · rcases hb with hb | hb
    · exact c3 b hb ((b3 b).2 (.inr hc))
    · exact b4 b hb hc
/-- the pair opened -/
theorem Sys.open {B Q n : Nat} (h : Sys w wr (star (PrA B Q n) R)) : ∃ D N, Sys w wr (star (DkA B D) (star (RkA Q D N) R)) ∧ N + D.c.length ≤ n + 1024 ∧ D.acts ≤ n := by
  obtain ⟨H, ⟨H1, H2, ⟨D, N, a1, a2, a3⟩, b1, b2, b3⟩, h2, h3⟩ := h
  exact ⟨D, N, ⟨H, star_assoc ⟨H1, H2, a1, b1, b2, b3⟩, h2, h3⟩, a2, a3⟩
theorem Sys.shut {B Q n N : Nat} {D : Dsk} (h : Sys w wr (star (DkA B D) (star (RkA Q D N) R))) (h1 : N + D.c.length ≤ n + 1024) (h2 : D.acts ≤ n) : Sys w wr (star (PrA B Q n) R) := by
  refine h.mono (fun W H hh => ?_)
  obtain ⟨H1, H2, a1, a2, a3, a4⟩ := star_assoc2 hh
  exact ⟨H1, H2, ⟨D, N, a1, h1, h2⟩, a2, a3, a4⟩
/-- a row that lies beside what is called -/
theorem Sys.callRow {v : Value} {zs : List Nat} (h : Sys w wr (star X (star (OwA v zs) R))) (hR : Good R) :
    ∃ F : Nat → Prop, X wr F ∧ (∀ b, F b → w.heap.size ≤ b) ∧ Ow wr 0 v zs ∧ (∀ b, v.ownBlock = some b → ¬ F b) ∧ ∀ (w' : World) (F' : Nat → Prop) (X' : Asn), X' w' F' → Ext F wr F' w' → Sys w w' (star X' (star (OwA v zs) R)) := by
  obtain ⟨H, ⟨H1, H2, a1, ⟨H3, H4, b1, b2, b3, b4⟩, a3, a4⟩, h2, h3⟩ := h
  have hall : Sys w wr (star X (star (OwA v zs) R)) := ⟨H, ⟨H1, H2, a1, ⟨H3, H4, b1, b2, b3, b4⟩, a3, a4⟩, h2, h3⟩
  have hgood : Good (star (OwA v zs) R) := (good_ow v zs).star hR
  refine ⟨H1, a1, fun b hb => h2 b ((a3 b).2 (.inl hb)), b1.1, fun b hb hf => a4 b hf ((b3 b).2 (.inl ((b1.2 b).2 hb))), fun w' F' X' hX hE => ?_⟩
  refine ⟨fun b => F' b ∨ H2 b, ⟨F', H2, hX, ?_, fun b => Iff.rfl, fun b hb hc => ?_⟩, fun b hb => ?_, ?_⟩
  · exact hgood.keep ⟨H3, H4, b1, b2, b3, b4⟩ hE.mod.size (fun b hb => hE.mod.block b (hgood.lt ⟨H3, H4, b1, b2, b3, b4⟩ b hb) (fun hf => a4 b hf hb))
  · rcases hE.new b hb with h | h
    · exact a4 b h hc
    · have := hgood.lt ⟨H3, H4, b1, b2, b3, b4⟩ b hc; omega
  · rcases hb with hb | hb
    · rcases hE.new b hb with h | h
      · exact h2 b ((a3 b).2 (.inl h))
      · have := h3.size; omega
    · exact h2 b ((a3 b).2 (.inr hb))
  · refine h3.trans ?_
    refine ⟨hE.mod.os, hE.mod.tape, hE.mod.output, hE.mod.size, fun b hb => hE.mod.block b (Nat.lt_of_lt_of_le hb h3.size) (fun hf => ?_)⟩
    have := h2 b ((a3 b).2 (.inl hf)); omega
end
end Go.Proofs.Ytnpklhjndominaa
