import Derived.Test.YtncbbllmhohnkaaDoorUT
namespace Go.Proofs.YtncbbllmhohnkaaDoor
open Go.RowKit
theorem info_w : ∃ i, Tryd.prog.info? 29 = some i ∧ i.zero = some (.int .u32 0) ∧ i.size = 1 ∧ i.bytes = 4 := info_parts (by kernel_rfl)
def wds (ns : List Nat) : List Value := ns.map fun n => .int .u32 (n : Nat)
theorem u32c (z : Int) : IntKind.u32.wrap z = (((z % 4294967296).toNat : Nat) : Int) := by rw [IntKind.wrap_u32]; omega
theorem enc_all (w : World) (i : I) (hO : Ops w) : Calls Tryd.prog 30 #[.agg i.cells.toArray] w fun e w' => e = .returned (.tuple #[.int .u32 (encW i : Nat), .int .i64 (encE i)]) ∧ Below w.heap.size w w' := by
  cases hx : isI i with
  | true =>
    have := enc_yes w i hx hO
    unfold encW encE
    rw [hx]; exact this
  | false =>
    have := enc_no w i hx hO
    unfold encW encE
    rw [hx]; exact this
section
variable (w : World)
set_option maxRecDepth 100000 in
set_option maxHeartbeats 2000000 in
theorem word_any (ps : List (Tx × (Nat × Int))) (l : Ln) (at' : Int) (r : Nat) (ha : 0 ≤ at') (ha2 : at' ≤ 512) (hm : ∀ m, atK KS ps l.name = some m → 0 ≤ m.2 ∧ m.2 ≤ 8389120) (hi : -9223372036854775808 ≤ l.i.imm ∧ l.i.imm ≤ 9223372036854775807) (hL : Lb w r ps) (hO : Ops w) : Calls Tryd.prog 40 #[.agg (lnC l), .int .i64 at', .map (some r)] w fun e w' => e = .returned (.int .u32 (wrdT ps l at' : Nat)) ∧ Below w.heap.size w w' := by
  obtain ⟨wrong, label, ⟨op, ia, ib, imm⟩, name, words⟩ := l
  simp only [lnC] at *
  have HV : Hid (wrdT ps ⟨wrong, label, ⟨op, ia, ib, imm⟩, name, words⟩ at' = if op = 0 then (immW ps ⟨wrong, label, ⟨op, ia, ib, imm⟩, name, words⟩ at' % 4294967296).toNat else encW ⟨op, ia, ib, immW ps ⟨wrong, label, ⟨op, ia, ib, imm⟩, name, words⟩ at'⟩) := hide rfl
  have HI : Hid (immW ps ⟨wrong, label, ⟨op, ia, ib, imm⟩, name, words⟩ at' = if name = [] then imm else if relN op then ((atK KS ps name).getD (0, 0)).2 - (at' + 1) else ((atK KS ps name).getD (0, 0)).2) := hide rfl
  have hB1 := bel1 w (.cells #[.bool wrong, .string ⟨label.toArray⟩, .int .i64 op, .int .i64 ia, .int .i64 ib, .int .i64 imm, .string ⟨name.toArray⟩, .int .i64 words] 60)
  have hB2 := hB1.trans ((bel1 _ (.cells #[.int .i64 op, .int .i64 ia, .int .i64 ib, .int .i64 imm] 58)).mono (by simp))
  have k1 := lookF (hL.keep hB2) name
  rw [mark_val] at k1
  have hf1 := fld1
  have hmm : 0 ≤ ((atK KS ps name).getD (0, 0)).2 ∧ ((atK KS ps name).getD (0, 0)).2 ≤ 8389120 := by
    cases hh : atK KS ps name with
    | none => simp
    | some m => exact hm m hh
  have HOa : Hid (∀ o o', Ops ((w.alloc o).alloc o')) := hide (fun o o' => hO.below (bel2 _ _ _))
  have HBa : Hid (∀ o o', Below w.heap.size w ((w.alloc o).alloc o')) := hide (fun o o' => bel2 _ _ _)
  clear hm hL hO hB1 hB2
  generalize (atK KS ps name).getD (0, 0) = mk at *
  generalize immW ps ⟨wrong, label, ⟨op, ia, ib, imm⟩, name, words⟩ at' = IM at *
  generalize wrdT ps ⟨wrong, label, ⟨op, ia, ib, imm⟩, name, words⟩ at' = WT at *
  by_cases h0 : name = []
  · by_cases hop : op = 0
    · have HZ : Hid (IM = imm) := hide (by rw [HI.out]; rw [if_pos h0])
      have HW : Hid (WT = (IM % 4294967296).toNat) := hide (by rw [HV.out, if_pos hop])
      have hne : List.isEmpty name = true := by simpa using h0
      subst hop
      clear HV HI h0
      go_enter Tryd.func40, Tryd.ntmps40
      go_wp2
      go_ret
      exact ⟨by rw [HW.out, HZ.out]; exact congrArg (fun z => Ending.returned (Value.int .u32 z)) (u32c _), HBa.out _ _⟩
    · have HZ : Hid (IM = imm) := hide (by rw [HI.out]; rw [if_pos h0])
      have HW : Hid (WT = encW ⟨op, ia, ib, IM⟩) := hide (by rw [HV.out, if_neg hop])
      have hopb : (op == 0) = false := by simpa using hop
      have hne : List.isEmpty name = true := by simpa using h0
      clear HV HI h0 hop
      go_enter Tryd.func40, Tryd.ntmps40
      go_wp2_with fail
      refine (enc_all _ ⟨op, ia, ib, imm⟩ (HOa.out _ _)).mono ?_
      rintro e w2 ⟨rfl, hb2⟩
      have HB9 := hide ((HBa.out _ _).trans (hb2.mono (by simp; omega)))
      clear hb2
      go_wp2
      go_ret
      exact ⟨by rw [HW.out, HZ.out]; rfl, HB9.out⟩
  · cases hrel : relN op with
    | false =>
      by_cases hop : op = 0
      · have HZ : Hid (IM = mk.2) := hide (by rw [HI.out]; rw [if_neg h0, hrel]; rfl)
        have HW : Hid (WT = (IM % 4294967296).toNat) := hide (by rw [HV.out, if_pos hop])
        have hne : List.isEmpty name = false := by simpa using h0
        subst hop
        have HRl := hide (fun W => isRel_any W 0)
        have hrel0 : relN 0 = false := rfl
        rw [hrel0] at HRl
        clear HV HI h0 hrel
        go_enter Tryd.func40, Tryd.ntmps40
        go_wp2_with fail
        refine (HRl.out _).mono ?_
        rintro e w1 ⟨rfl, rfl⟩
        go_wp2
        go_ret
        exact ⟨by rw [HW.out, HZ.out]; exact congrArg (fun z => Ending.returned (Value.int .u32 z)) (show mk.2 = (((mk.2 % 4294967296).toNat : Nat) : Int) by omega), HBa.out _ _⟩
      · have HZ : Hid (IM = mk.2) := hide (by rw [HI.out]; rw [if_neg h0, hrel]; rfl)
        have HW : Hid (WT = encW ⟨op, ia, ib, IM⟩) := hide (by rw [HV.out, if_neg hop])
        have hopb : (op == 0) = false := by simpa using hop
        have hne : List.isEmpty name = false := by simpa using h0
        have HRl := hide (fun W => isRel_any W op)
        rw [hrel] at HRl
        clear HV HI h0 hop hrel
        go_enter Tryd.func40, Tryd.ntmps40
        go_wp2_with fail
        refine (HRl.out _).mono ?_
        rintro e w1 ⟨rfl, rfl⟩
        go_wp2_with fail
        refine (enc_all _ ⟨op, ia, ib, mk.2⟩ (HOa.out _ _)).mono ?_
        rintro e w2 ⟨rfl, hb2⟩
        have HB9 := hide ((HBa.out _ _).trans (hb2.mono (by simp; omega)))
        clear hb2
        go_wp2
        go_ret
        exact ⟨by rw [HW.out, HZ.out]; rfl, HB9.out⟩
    | true =>
      have hop : ¬ op = 0 := fun e => by rw [e] at hrel; cases hrel
      have HZ : Hid (IM = mk.2 - (at' + 1)) := hide (by rw [HI.out]; rw [if_neg h0, hrel]; rfl)
      have HW : Hid (WT = encW ⟨op, ia, ib, IM⟩) := hide (by rw [HV.out, if_neg hop])
      have hopb : (op == 0) = false := by simpa using hop
      have hne : List.isEmpty name = false := by simpa using h0
      have hbz : -9223372036854775808 ≤ mk.2 - (at' + 1) ∧ mk.2 - (at' + 1) ≤ 9223372036854775807 := by omega
      have HRl := hide (fun W => isRel_any W op)
      rw [hrel] at HRl
      clear HV HI h0 hop hrel
      go_enter Tryd.func40, Tryd.ntmps40
      go_wp2_with fail
      refine (HRl.out _).mono ?_
      rintro e w1 ⟨rfl, rfl⟩
      go_wp2_with fail
      refine (enc_all _ ⟨op, ia, ib, mk.2 - (at' + 1)⟩ (HOa.out _ _)).mono ?_
      rintro e w2 ⟨rfl, hb2⟩
      have HB9 := hide ((HBa.out _ _).trans (hb2.mono (by simp; omega)))
      clear hb2
      go_wp2
      go_ret
      exact ⟨by rw [HW.out, HZ.out]; rfl, HB9.out⟩
end
end Go.Proofs.YtncbbllmhohnkaaDoor
