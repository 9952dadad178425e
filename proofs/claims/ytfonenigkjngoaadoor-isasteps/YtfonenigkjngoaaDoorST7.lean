import Derived.Test.YtfonenigkjngoaaDoorST5
namespace Go.Proofs.YtfonenigkjngoaaDoor
open Go.RowKit
set_option linter.unusedVariables false
section
variable (w : World)
set_option maxRecDepth 100000 in
set_option maxHeartbeats 4000000 in
theorem steps_jmp (R : Nat → Nat) (pc : Nat) (hR : RgOk R pc) (n : Nat) (i : I) (R' : Nat → Nat) (pc' : Nat) (X : List Value) (no na nb : Nat) (z : Int) (hi : i = ⟨(no : Int), na, nb, z⟩) (hna : na < 8) (hnb : nb < 8) (hno : no = 21) (hs : R' = R) (hX : X = e5 0 0 0 0 0) (hk : ∀ k, k < 8 → k ≠ na → R' k = R k) (hO : Ops w)
    (hdec : ∀ w, Ops w → Calls Tryd.prog 11 #[.int .u32 (n : Nat)] w fun e w' => e = .returned (.tuple #[.agg #[.int .i64 i.op, .int .i64 i.a, .int .i64 i.b, .int .i64 i.imm], .int .i64 0]) ∧ Below w.heap.size w w')
    (hex : ∀ w, Ops w → Calls Tryd.prog 12 #[.agg (rg R pc).toArray, .int .u32 (n : Nat)] w fun e w' => e = .returned (.tuple #[.agg (rg R' pc').toArray, .agg X.toArray]) ∧ Below w.heap.size w w') :
    Calls Tryd.prog 5 #[.agg (rg R pc).toArray, .int .u32 (n : Nat)] w fun e w' => e = .returned (.bool true) ∧ Below w.heap.size w w' := by
  have HI := hide hi
  have HK := hide hk
  have HP := hide (And.intro hno hs)
  clear hi hk hno hs
  have hex' := hex
  have HO := hide (hO.below (bel1 w (.cells (rg R pc).toArray 35)))
  have HR0 := hide (Rb.new w R pc)
  have HX := hide hX
  have lX : X.length = 5 := by rw [hX]; rfl
  have hiX : (Tryd.prog.info? 37).map (·.size) = some X.toArray.size := by simp only [List.size_toArray, lX]; exact info_eff
  have oX : X.toArray.all (·.oneCell') = true := all_oneCell_toArray (by rw [hX]; exact e5_ones _ _ _ _ _)
  have LX2 : Hid ((5 : Nat) = X.toArray.size) := by apply hide; simp [lX]
  have HIX := hide hiX
  have OX := hide oX
  clear hO hX hex hiX oX lX
  go_enter Tryd.func5, Tryd.ntmps5
  go_wp2_with fail
  refine (known_any _ HO.out).mono ?_
  rintro e w1 ⟨rfl, hb⟩
  have HB1 := hide ((bel1 w _).trans (hb.mono (by simp)))
  have HO1 := hide (HO.out.below hb)
  have HR1 := hide (HR0.out.below hb)
  clear hb HO HR0
  obtain ⟨N, hN⟩ : ∃ N, w.heap.size = N := ⟨_, rfl⟩
  have hN1 : N ≤ w1.heap.size := by rw [← hN]; exact HB1.out.size
  have hNlt : N < w1.heap.size := by rw [← hN]; exact HR1.out.lt
  rw [hN] at HB1 HR1 ⊢
  go_wp2_with fail
  refine (hdec _ HO1.out).mono ?_
  rintro e w2 ⟨rfl, hb⟩
  have HB2 := hide (HB1.out.trans (hb.mono hN1))
  have HO2 := hide ((HO1.out.below hb).below (bel1 w2 (.cells #[.int .i64 i.op, .int .i64 i.a, .int .i64 i.b, .int .i64 i.imm] 23)))
  have HR2 := hide (HR1.out.below hb)
  have HRb := hide ((HR1.out.below hb).below (bel1 w2 (.cells #[.int .i64 i.op, .int .i64 i.a, .int .i64 i.b, .int .i64 i.imm] 23)))
  have hN2 := Nat.le_trans hN1 hb.size
  clear hb HO1 HB1 HR1 hdec hN1 hNlt
  go_upto_region 5 with (first
    | refine wpList_load_row rfl 35 _ rfl N rfl 35 (rg R pc).toArray (0, 0) _ HRb.out.out Tryd.underlying35 rfl (info_rg _ _) ?_
    | (go_at_call 12; refine (hex' _ HO2.out).mono ?_; rintro e w3 ⟨rfl, hb⟩; have HW := hide (Lw.new (R' := R') (pc' := pc') (X := X) HR2.out HB2.out hN2 hb); clear hb)
    | refine wpList_store_row rfl 35 _ _ rfl w3.heap.size (rg R' pc').toArray rfl rfl 35 #[.int .u32 0, .int .u32 0, .int .u32 0, .int .u32 0, .int .u32 0, .int .u32 0, .int .u32 0, .int .u32 0, .int .u32 0] (by rw [(bel1 _ _).block _ (by simp)]; exact heap_alloc_last w3 _) (info_rg _ _) (by rw [rg_size]; rfl) (rg_one _ _) ?_
    | refine wpList_store_row rfl 37 _ _ rfl (w3.heap.size + 1) X.toArray rfl rfl 37 #[.int .i64 0, .int .u32 0, .int .i64 0, .int .u32 0, .int .i64 0] (by rw [setRow_other _ _ _ _ (by omega)]; exact heap_alloc_at1 w3 _ _) HIX.out LX2.out OX.out ?_)
  clear hex' HO2 HR2 HRb HB2 hN2
  simp only [Act.put]
  generalize ((((w3.alloc (Obj.cells #[Value.int .u32 0, .int .u32 0, .int .u32 0, .int .u32 0, .int .u32 0, .int .u32 0, .int .u32 0, .int .u32 0, .int .u32 0] 35)).alloc (Obj.cells #[Value.int .i64 0, .int .u32 0, .int .i64 0, .int .u32 0, .int .i64 0] 37)).setRow w3.heap.size (rg R' pc').toArray).setRow (w3.heap.size + 1) X.toArray) = W at *
  generalize w3.heap.size = A at *
  generalize w2.heap.size = J at *
  have i0 : W.cell? ⟨J, 0, none⟩ = some (.int .i64 (no : Int)) := by rw [cell_of_row _ _ _ _ _ _ HW.out.i, HI.out]; rfl
  have i1 : W.cell? ⟨J, 1, none⟩ = some (.int .i64 (na : Int)) := by rw [cell_of_row _ _ _ _ _ _ HW.out.i, HI.out]; rfl
  have i2 : W.cell? ⟨J, 2, none⟩ = some (.int .i64 (nb : Int)) := by rw [cell_of_row _ _ _ _ _ _ HW.out.i, HI.out]; rfl
  have i3 : W.cell? ⟨J, 3, none⟩ = some (.int .i64 z) := by rw [cell_of_row _ _ _ _ _ _ HW.out.i, HI.out]; rfl
  have f0 : W.cell? ⟨A + 1, 0, none⟩ = some (.int .i64 0) := by rw [cell_of_row _ _ _ _ _ _ HW.out.f, HX.out]; rfl
  have f1 : W.cell? ⟨A + 1, 1, none⟩ = some (.int .u32 0) := by rw [cell_of_row _ _ _ _ _ _ HW.out.f, HX.out]; rfl
  have f2 : W.cell? ⟨A + 1, 2, none⟩ = some (.int .i64 0) := by rw [cell_of_row _ _ _ _ _ _ HW.out.f, HX.out]; rfl
  have f3 : W.cell? ⟨A + 1, 3, none⟩ = some (.int .u32 0) := by rw [cell_of_row _ _ _ _ _ _ HW.out.f, HX.out]; rfl
  have f4 : W.cell? ⟨A + 1, 4, none⟩ = some (.int .i64 0) := by rw [cell_of_row _ _ _ _ _ _ HW.out.f, HX.out]; rfl
  go_wp2
  have HA : Hid (∀ wr, Lw w wr N J A R pc i R' pc' X → ∀ k, k < 8 → wr.cell? ⟨A, k, none⟩ = some (.int .u32 (R' k : Nat)) ∧ wr.cell? ⟨N, k, none⟩ = some (.int .u32 (R k : Nat)) ∧ wr.cell? ⟨J, 1, none⟩ = some (.int .i64 (na : Int))) := hide fun wr h k hk => ⟨h.s.r hk, h.r.r hk, by rw [cell_of_row _ _ _ _ _ _ h.i, HI.out]; rfl⟩
  clear i0 i1 i2 i3 f0 f1 f2 f3 f4
  go_loopw [10] (fun v wr => ∃ k : Nat, k ≤ 8 ∧ v = .int .i64 (k : Int) ∧ Lw w wr N J A R pc i R' pc' X) (fun v _ => 8 - (intOf v).toNat)
  case atStart => exact ⟨0, by omega, rfl, HW.out⟩
  case round =>
    clear HW
    obtain ⟨k, hk8, rfl, hL⟩ := hrel
    by_cases hlt : k < 8
    · have hd : decide ((k : Int) < 8) = true := by simp; omega
      have k0 : (0 : Int) ≤ (k : Int) := by omega
      have k8 : (k : Int) < 8 := by omega
      obtain ⟨ca, cn, ci⟩ := HA.out wr hL k hlt
      by_cases hka : k = na
      · subst hka
        have HL := hide hL
        clear hL
        go_wp2
        go_quiet (fail)
        have HL2 := hide (HL.out.drewN nq)
        clear HL ca cn ci
        generalize wr.drewN nq = wr2 at *
        go_wp2
        go_roundw
        case rel => exact ⟨k + 1, by omega, by go_num, HL2.out⟩
        case measure => simp [intOf]; omega
      · rw [HK.out k hlt hka] at ca
        have hne : ¬ (k : Int) = (na : Int) := by omega
        have HL := hide hL
        clear hL
        go_wp2
        go_quiet (fail)
        have HL2 := hide (HL.out.drewN nq)
        clear HL ca cn ci
        generalize wr.drewN nq = wr2 at *
        go_wp2
        go_roundw
        case rel => exact ⟨k + 1, by omega, by go_num, HL2.out⟩
        case measure => simp [intOf]; omega
    · obtain rfl : k = 8 := by omega
      have HW := hide hL
      clear hL HA
      have i0 : wr.cell? ⟨J, 0, none⟩ = some (.int .i64 (no : Int)) := by rw [cell_of_row _ _ _ _ _ _ HW.out.i, HI.out]; rfl
      have i1 : wr.cell? ⟨J, 1, none⟩ = some (.int .i64 (na : Int)) := by rw [cell_of_row _ _ _ _ _ _ HW.out.i, HI.out]; rfl
      have i2 : wr.cell? ⟨J, 2, none⟩ = some (.int .i64 (nb : Int)) := by rw [cell_of_row _ _ _ _ _ _ HW.out.i, HI.out]; rfl
      have i3 : wr.cell? ⟨J, 3, none⟩ = some (.int .i64 z) := by rw [cell_of_row _ _ _ _ _ _ HW.out.i, HI.out]; rfl
      have f0 : wr.cell? ⟨A + 1, 0, none⟩ = some (.int .i64 0) := by rw [cell_of_row _ _ _ _ _ _ HW.out.f, HX.out]; rfl
      have f1 : wr.cell? ⟨A + 1, 1, none⟩ = some (.int .u32 0) := by rw [cell_of_row _ _ _ _ _ _ HW.out.f, HX.out]; rfl
      have f2 : wr.cell? ⟨A + 1, 2, none⟩ = some (.int .i64 0) := by rw [cell_of_row _ _ _ _ _ _ HW.out.f, HX.out]; rfl
      have f3 : wr.cell? ⟨A + 1, 3, none⟩ = some (.int .u32 0) := by rw [cell_of_row _ _ _ _ _ _ HW.out.f, HX.out]; rfl
      have f4 : wr.cell? ⟨A + 1, 4, none⟩ = some (.int .i64 0) := by rw [cell_of_row _ _ _ _ _ _ HW.out.f, HX.out]; rfl
      have p1 := HW.out.s.p
      have p2 := HW.out.r.p
      have q9 := fun W => eq_rgR R 9998 W
      have hop : (no : Int) = 21 := by have := HP.out.1; omega
      have hs := HP.out.2
      have q8 : ∀ W, (Op.equalIn 10000 33 (.agg (rgR R').toArray) (.agg (rgR R).toArray)).run Tryd.prog W = .ok true W := by rw [hs]; exact q9
      clear hs
      go_wp2_with (first
        | refine load_st 33 _ Tryd.underlying33 rfl (rgR R') (info_arr _) rfl _ rfl ⟨A, 0, none⟩ rfl HW.out.s.arr ?_
        | refine load_st 33 _ Tryd.underlying33 rfl (rgR R) (info_arr _) rfl _ rfl ⟨N, 0, none⟩ rfl HW.out.r.arr ?_)
      go_ret
      subst hN
      exact ⟨rfl, HW.out.b⟩
end
end Go.Proofs.YtfonenigkjngoaaDoor
