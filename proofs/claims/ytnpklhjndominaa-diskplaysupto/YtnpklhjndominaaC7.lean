import Derived.Test.YtnpklhjndominaaC6
namespace Go.Proofs.Ytnpklhjndominaa
open Go.RowKit

theorem flush1_any (i : Nat) (w : World) : Calls Try.prog 34 #[.int .i64 (i : Int)] w fun e w' => e = .returned (.bool true) ∧ w' = w := by
  go_enter Try.func34, Try.ntmps34
  go_wp2
  go_ret
  exact ⟨rfl, rfl⟩
/-- is write i kept? -/
def kp (ks : List Bool) (i : Nat) : Bool := ks.getD i false
theorem crash1_any (i X : Nat) (kv : Value) (ks : List Bool) (w : World) (hc : w.cell? ⟨X, 0, none⟩ = some kv) (hr : RdB w kv ks) :
    Calls Try.prog 35 #[.int .i64 (i : Int), dp X] w fun e w' => e = .returned (.bool (kp ks i)) ∧ w' = w := by
  by_cases hi : i < ks.length
  · rcases hr with ⟨rfl, rfl⟩ | ⟨x, cap, rfl, hx⟩
    · simp at hi
    have hk := hx i (.bool (kp ks i)) (by simp [kp, List.getD, List.getElem?_eq_getElem hi])
    clear hx
    have hd : decide (i < ks.length) = true := by simp; omega
    generalize ks.length = n at *
    generalize kp ks i = b at *
    go_enter Try.func35, Try.ntmps35
    go_wp2
    go_ret
    exact ⟨rfl, rfl⟩
  · obtain ⟨ao, cap, rfl⟩ := hr.len
    have hd : decide (i < ks.length) = false := by simp; omega
    have hk : kp ks i = false := by unfold kp; rw [List.getD, List.getElem?_eq_none (by omega)]; rfl
    rw [hk]
    clear hr hk
    generalize ks.length = n at *
    go_enter Try.func35, Try.ntmps35
    go_wp2
    go_ret
    exact ⟨rfl, rfl⟩
theorem RdB.mod {F : Nat → Prop} {w w' : World} {v : Value} {zs : List Bool} (h : RdB w v zs) (hm : Mod F w w') (hn : ∀ b, v.ownBlock = some b → ¬ F b) : RdB w' v zs := by
  rcases h with ⟨rfl, rfl⟩ | ⟨x, cap, rfl, hc⟩
  · exact .inl ⟨rfl, rfl⟩
  · refine .inr ⟨x, cap, rfl, fun i u hu => ?_⟩
    have h1 := hc i u hu
    have h2 := World.block_lt_of_cell? w _ h1
    have hb : (x.add i).block = x.block := by unfold Addr.add; split <;> simp_all
    rw [World.cell?_of_block (w := w) (hm.block _ h2 (by rw [hb]; exact hn _ rfl))]; exact h1
theorem Rd.mod {F : Nat → Prop} {w w' : World} {v : Value} {zs : List Nat} (h : Rd w v zs) (hm : Mod F w w') (hn : ∀ b, v.ownBlock = some b → ¬ F b) : Rd w' v zs := by
  rcases h with ⟨rfl, rfl⟩ | ⟨x, cap, rfl, hc⟩
  · exact .inl ⟨rfl, rfl⟩
  · refine .inr ⟨x, cap, rfl, fun i u hu => ?_⟩
    have h1 := hc i u hu
    have h2 := World.block_lt_of_cell? w _ h1
    have hb : (x.add i).block = x.block := by unfold Addr.add; split <;> simp_all
    rw [World.cell?_of_block (w := w) (hm.block _ h2 (by rw [hb]; exact hn _ rfl))]; exact h1
def yes : Nat → Bool := fun _ => true
theorem flush_ok {B : Nat} {D : Dsk} {w : World} {F : Nat → Prop} (hd : DkA B D w F) (hw : D.down = false) (hl : D.armed = true → D.left ≠ 0) (ha : D.acts < 1152921504606846976) :
    Calls Try.prog 17 #[dp B] w fun e w' => e = .returned (.int .i64 0) ∧ ∃ F', DkA B (D.acted.settled yes) w' F' ∧ Ext F w F' w' := by
  have HD := hide hd
  go_enter Try.func17, Try.ntmps17
  go_wp2_with fail
  refine (act_ok HD.out hw hl ha).mono ?_
  rintro e w1 ⟨rfl, hd1, hx1⟩
  have H1 := hide hd1
  go_wp2_with fail
  refine (settle_flush H1.out yes (fun w' _ i => flush1_any i w')).mono ?_
  rintro e w2 ⟨rfl, F', hd2, hx2⟩
  go_wp2
  go_ret
  exact ⟨rfl, F', hd2, hx1.trans hx2⟩
theorem flush_no {B : Nat} {D : Dsk} {w : World} {F : Nat → Prop} (hd : DkA B D w F) (hn : D.down = true ∨ (D.armed = true ∧ D.left = 0)) :
    Calls Try.prog 17 #[dp B] w fun e w' => e = .returned (.int .i64 42) ∧ DkA B D.off w' F ∧ Ext F w F w' := by
  have HD := hide hd
  go_enter Try.func17, Try.ntmps17
  go_wp2_with fail
  refine (act_no HD.out hn).mono ?_
  rintro e w1 ⟨rfl, hd1, hx1⟩
  go_wp2
  go_ret
  exact ⟨rfl, hd1, hx1⟩
set_option maxHeartbeats 400000 in
theorem crash_any {B : Nat} {D : Dsk} {w : World} {F : Nat → Prop} (hd : DkA B D w F) (kv : Value) (ks : List Bool) (hr : RdB w kv ks) (hn : ∀ b, kv.ownBlock = some b → ¬ F b) :
    Calls Try.prog 22 #[dp B, kv] w fun e w' => e = .returned (.int .i64 ((keptTo (kp ks) D.c D.c.length).length : Nat)) ∧ ∃ F', DkA B (D.up.settled (kp ks)) w' F' ∧ Ext F w F' w' := by
  have hltF := (good_dk B D).lt hd
  obtain ⟨cs, cv, h, he⟩ := hd
  have hB := (he B).2 (.inl rfl)
  obtain ⟨ao, cap, rfl⟩ := hr.len
  obtain ⟨o, ho⟩ : ∃ o, Obj.cells #[.slice ao ks.length cap] 28 = o := ⟨_, rfl⟩
  have hA := h.below ((Below.refl _ _).alloc (Nat.le_refl _) o)
  have h1 := hA.arm
  have h2 := hA.lft
  have h3 := hA.dwn
  have f1 := hA.frz 131074
  have f2 := hA.frz 131075
  have f3 := hA.frz 131076
  have hc1 := hA.inn.setArm hA.ok false
  have hk1 : ({ D with armed := false } : Dsk).Ok := ⟨hA.ok.m, hA.ok.c, hA.ok.l⟩
  have hd1 := hA.cell1 131074 _ hc1 rfl hk1
  have hc2 := hc1.setLft hk1 0
  have hk2 : ({ D with armed := false, left := 0 } : Dsk).Ok := ⟨hA.ok.m, hA.ok.c, by simp⟩
  have hd2 := hd1.cell1 131075 _ hc2 rfl hk2
  have hc3 := hc2.setDwn hk2 false
  have hd3 := hd2.cell1 (D' := D.up) 131076 _ hc3 rfl hA.ok.up
  have HD := hide hd3
  subst ho
  have HR := hide hr
  have HS := hide hltF
  have HE := hide he
  clear hc1 hk1 hd1 hc2 hk2 hd2 hc3 hd3 hA h hr hltF
  obtain ⟨n, hnl⟩ : ∃ n, ks.length = n := ⟨_, rfl⟩
  rw [hnl] at h1 h2 h3 f1 f2 f3 HD HR hn ⊢
  go_enter Try.func22, Try.ntmps22
  go_wp2_with fail
  have HM : Hid (Mod F w ((((w.alloc (Obj.cells #[Value.slice ao n cap] 28)).setCell ⟨B, 131074, none⟩ (Value.bool false)).setCell ⟨B, 131075, none⟩ (Value.int .i64 0)).setCell ⟨B, 131076, none⟩ (Value.bool false))) :=
    ((((Mod.refl _ _).alloc _).setCell (.inl hB) _).setCell (.inl hB) _).setCell (.inl hB) _
  have HX : Hid (((((w.alloc (Obj.cells #[Value.slice ao n cap] 28)).setCell ⟨B, 131074, none⟩ (Value.bool false)).setCell ⟨B, 131075, none⟩ (Value.int .i64 0)).setCell ⟨B, 131076, none⟩ (Value.bool false)).heap[w.heap.size]? = some (.cells #[Value.slice ao n cap] 28 (0, 0))) := by
    have hne : w.heap.size ≠ B := by have := HS.out B hB; omega
    show _ = _
    rw [heap_setCell_other _ _ _ _ hne, heap_setCell_other _ _ _ _ hne, heap_setCell_other _ _ _ _ hne]
    exact heap_alloc_last _ _
  have HD' : Hid (DkA B D.up ((((w.alloc (Obj.cells #[Value.slice ao n cap] 28)).setCell ⟨B, 131074, none⟩ (Value.bool false)).setCell ⟨B, 131075, none⟩ (Value.int .i64 0)).setCell ⟨B, 131076, none⟩ (Value.bool false)) F) := ⟨_, cv, HD.out, he⟩
  clear HD h1 h2 h3 f1 f2 f3
  generalize ((((w.alloc (Obj.cells #[Value.slice ao n cap] 28)).setCell ⟨B, 131074, none⟩ (Value.bool false)).setCell ⟨B, 131075, none⟩ (Value.int .i64 0)).setCell ⟨B, 131076, none⟩ (Value.bool false)) = wX at *
  refine (settle_crash HD'.out (kp ks) w.heap.size (fun w' hm i => crash1_any i w.heap.size (.slice ao n cap) ks w' ?_ (HR.out.mod (HM.out.trans hm) hn))).mono ?_
  · have hlt : w.heap.size < wX.heap.size := (Array.getElem?_eq_some_iff.1 HX.out).1
    have hb := hm.block w.heap.size hlt (fun hf => by have := HS.out _ hf; omega)
    rw [HX.out] at hb
    rw [cell_of_row _ _ _ _ _ _ hb]; rfl
  · rintro e w2 ⟨rfl, F', hd2, hx2⟩
    go_wp2
    go_ret
    exact ⟨rfl, F', hd2, (Ext.mk HM.out (fun _ h => .inl h)).trans hx2⟩
end Go.Proofs.Ytnpklhjndominaa
