import Derived.Test.YtngmnlmagbfijabBE
namespace Go.Proofs.Ytngmnlmagbfijab
open Go.RowKit
theorem admK_eq (s : Pl) (R : List Int) : admK s.ps s.last R = admP s R := by
  funext k
  unfold admK admP val
  rfl
section
variable (w : World)
set_option maxRecDepth 100000 in
set_option maxHeartbeats 4000000 in
theorem schoose_any (S : Nat → Prop) (v : Value) (R : List Int) (hR : Rd S w v R) (hl : R.length ≤ 1048576) (hnd : R.Nodup) (hne : R ≠ []) (q pm wm n n2 : Nat) (l : Int) (f g : Int → Option Int) (hq : w.heap[q]? = some (.cells #[.map (some pm), .int .i64 l] 81 (0, 0))) (hM : Mp w pm n f) (hW : Mp w wm n2 g) (hSp : ∀ b, S b → b ≠ pm ∧ b < w.heap.size) (hqp : q ≠ pm) (hwp : wm ≠ pm) (hwq : wm ≠ q)
    (hpb : ∀ k ∈ R, 0 ≤ val (admK f l R) k ∧ val (admK f l R) k ≤ 4611686018427387904) (hwb : ∀ k ∈ R, 1 ≤ val g k ∧ val g k ≤ 8) :
    Calls Try.prog 76 #[.pointer (some ⟨q, 0, none⟩), v, .map (some wm)] w fun e w' => ∃ c, c = pmin (val (admK f l R)) (R.headD 0) R.tail ∧ e = .returned (.int .i64 c) ∧ w'.heap[q]? = some (.cells #[.map (some pm), .int .i64 (val (admK f l R) c)] 81 (0, 0)) ∧ Mp w' pm (n + R.length) (upd (admK f l R) c (val (admK f l R) c + stp (val g c))) ∧ Mod (fun b => b = pm ∨ b = q) w w' := by
  have hqlt : q < w.heap.size := (Array.getElem?_eq_some_iff.1 hq).1
  obtain ⟨o0, ho0⟩ : ∃ o0 : Obj, Obj.cells #[.pointer (some ⟨q, 0, none⟩)] 79 = o0 := ⟨_, rfl⟩
  have hcm : pmin (val (admK f l R)) (R.headD 0) R.tail ∈ R := by
    have := pmin_mem (val (admK f l R)) R.tail (R.headD 0)
    rwa [head_tail hne] at this
  have HR := hide (hR.keep (w' := w.alloc (.cells #[.pointer (some ⟨q, 0, none⟩)] 79)) (fun b hb => Below.heap_alloc _ _ _ (hSp b hb).2))
  have HB := hide (Bx.new w 79 (.pointer (some ⟨q, 0, none⟩)))
  have HQ : Hid ((w.alloc (.cells #[.pointer (some ⟨q, 0, none⟩)] 79)).heap[q]? = some (.cells #[.map (some pm), .int .i64 l] 81 (0, 0))) := hide (by rw [Below.heap_alloc _ _ _ hqlt]; exact hq)
  have HMo : Hid (Mod (fun b => b = pm ∨ b = q) w (w.alloc (.cells #[.pointer (some ⟨q, 0, none⟩)] 79))) := hide ((Mod.refl _ _).alloc _)
  have HM := hide (hM.keep (w' := w.alloc (.cells #[.pointer (some ⟨q, 0, none⟩)] 79)) (Below.heap_alloc _ _ _ hM.lt))
  have HW := hide (hW.keep (w' := w.alloc (.cells #[.pointer (some ⟨q, 0, none⟩)] 79)) (Below.heap_alloc _ _ _ hW.lt))
  have hsz : (w.alloc (.cells #[.pointer (some ⟨q, 0, none⟩)] 79)).heap.size = w.heap.size + 1 := by simp
  have hpl := hM.lt
  have hwl := hW.lt
  have HSp := hide hSp
  have HPb := hide (hpb _ hcm)
  have HWb := hide (hwb _ hcm)
  have HNd := hide hnd
  have HNe := hide hne
  obtain ⟨ao, cap, rfl, hcap⟩ := hR.len
  obtain ⟨m, hm⟩ : ∃ m, R.length = m := ⟨_, rfl⟩
  have HLn := hide hm
  rw [hm] at hl hcap HR ⊢
  clear hR hq hM hW hm hne hnd hSp hpb hwb hcm ho0
  obtain ⟨F, hF⟩ : ∃ F, admK f l R = F := ⟨_, rfl⟩
  obtain ⟨p, hp⟩ : ∃ p, pmin (val F) (R.headD 0) R.tail = p := ⟨_, rfl⟩
  obtain ⟨u, hu⟩ : ∃ u, val F p = u := ⟨_, rfl⟩
  obtain ⟨gp, hg⟩ : ∃ u, val g p = u := ⟨_, rfl⟩
  have HF := hide hF
  have HP := hide hp
  have HU := hide hu
  have HG := hide hg
  have hpb := HPb.out
  have hwb := HWb.out
  rw [hF, hp, hu] at hpb
  rw [hF, hp, hg] at hwb
  suffices hsuf : Calls Try.prog 76 #[.pointer (some ⟨q, 0, none⟩), .slice ao m cap, .map (some wm)] w fun e w' => e = .returned (.int .i64 p) ∧ w'.heap[q]? = some (.cells #[.map (some pm), .int .i64 u] 81 (0, 0)) ∧ Mp w' pm (n + m) (upd F p (u + stp gp)) ∧ Mod (fun b => b = pm ∨ b = q) w w' by
    refine hsuf.mono ?_
    rintro e w' ⟨h1, h2, h3, h4⟩
    refine ⟨p, by rw [hF]; exact hp.symm, h1, ?_, ?_, h4⟩
    · rw [hF, hu]; exact h2
    · rw [hF, hu, hg]; exact h3
  clear hF hp hu hg HPb HWb
  go_enter Try.func76, Try.ntmps76
  go_upto_region 1 with fail
  have b0 := HB.out.cell
  generalize w.alloc (.cells #[.pointer (some ⟨q, 0, none⟩)] 79) = w1 at *
  go_wp2_with fail
  refine (admit_any w1 S _ R HR.out (by rw [HLn.out]; exact hl) HNd.out q pm n l f HQ.out HM.out (fun b hb => ⟨(HSp.out b hb).1, by have := (HSp.out b hb).2; omega⟩) hqp).mono ?_
  rintro e w2 ⟨rfl, hM2, hd2⟩
  rw [HLn.out, HF.out] at hM2
  have HB2 := hide (HB.out.keep (hd2.block w.heap.size (by omega) (by omega)))
  have HQ2 := hide ((hd2.block q (by omega) hqp).trans HQ.out)
  have HW2 := hide (HW.out.keep (hd2.block wm (by omega) hwp))
  have HR2 := hide (HR.out.keep (fun b hb => hd2.block b (by have := (HSp.out b hb).2; omega) (HSp.out b hb).1))
  have HMo2 := hide (HMo.out.trans ⟨hd2.os, hd2.tape, hd2.output, hd2.size, fun b hb hf => hd2.block b hb (fun e => hf (.inl e))⟩)
  have HM2 := hide hM2
  have hs2 := hd2.size
  clear b0 hM2 hd2 HB HQ HW HR HMo HM
  go_upto_region 2 with fail
  go_wp2_with fail
  refine (minF_any w2 S _ R HR2.out (by rw [HLn.out]; exact hl) HNe.out _ 81 #[.pointer (some ⟨w.heap.size, 0, none⟩)] (val F) rfl
    (fun W hW x y _ _ => scmp_any W w.heap.size q pm (n + m) x y l F (HB2.out.keep (by rw [hW.heap])) (by rw [hW.heap]; exact HQ2.out) (HM2.out.keep (by rw [hW.heap]))) (enters_of Try.func81 (by kernel_rfl) rfl)).mono ?_
  rintro e w3 ⟨rfl, hdr⟩
  have HB3 := hide (HB2.out.keep (by rw [hdr.heap]))
  have HQ3 : Hid (w3.heap[q]? = some (.cells #[.map (some pm), .int .i64 l] 81 (0, 0))) := hide (by rw [hdr.heap]; exact HQ2.out)
  have HW3 := hide (HW2.out.keep (w' := w3) (by rw [hdr.heap]))
  have HM3 := hide (HM2.out.keep (w' := w3) (by rw [hdr.heap]))
  have HMo3 := hide (HMo2.out.trans (hdr.mod _))
  have hs3 : w3.heap.size = w2.heap.size := by rw [hdr.heap]
  clear hdr HB2 HQ2 HW2 HM2 HMo2 HR2
  rw [HP.out]
  have hlk := (HM3.out.keep (w' := w3.drew) rfl).look1 p
  rw [show (F p).getD 0 = val F p from rfl, HU.out] at hlk
  have b0 := HB3.out.cell
  have c0 := cell_of_row _ _ 0 _ _ _ HQ3.out
  have c1 := cell_of_row _ _ 1 _ _ _ HQ3.out
  have f1 := frozen_of_row w3 q 1 _ _ HQ3.out
  simp only [List.getElem?_toArray, List.getElem?_cons_zero, List.getElem?_cons_succ] at c0 c1
  have hst := heap_setCell_same w3 q 1 _ _ (.int .i64 u) HQ3.out
  have hso : ∀ k, k ≠ q → (w3.setCell ⟨q, 1, none⟩ (.int .i64 u)).heap[k]? = w3.heap[k]? := fun k h => heap_setCell_other w3 ⟨q, 1, none⟩ _ _ h
  have HQ4 : Hid ((w3.setCell ⟨q, 1, none⟩ (.int .i64 u)).drew.heap[q]? = some (.cells #[.map (some pm), .int .i64 u] 81 (0, 0))) := hide (by
    show (w3.setCell ⟨q, 1, none⟩ (.int .i64 u)).heap[q]? = _
    simpa using hst)
  have HB4 : Hid (Bx (w3.setCell ⟨q, 1, none⟩ (.int .i64 u)).drew w.heap.size 79 (.pointer (some ⟨q, 0, none⟩))) := hide (HB3.out.keep (hso _ (by omega)))
  have HW4 : Hid (Mp (w3.setCell ⟨q, 1, none⟩ (.int .i64 u)).drew wm n2 g) := hide (HW3.out.keep (hso _ hwq))
  have HM4 : Hid (Mp (w3.setCell ⟨q, 1, none⟩ (.int .i64 u)).drew pm (n + m) F) := hide (HM3.out.keep (hso _ hqp.symm))
  have HMo4 : Hid (Mod (fun b => b = pm ∨ b = q) w (w3.setCell ⟨q, 1, none⟩ (.int .i64 u)).drew) := hide ((HMo3.out.setCell (p := ⟨q, 1, none⟩) (.inl (.inr rfl)) _).drew)
  clear hst hso HQ3 HB3 HW3 HM3 HMo3
  go_upto_region 3 with fail
  go_region
  clear hlk b0 c0 c1 f1
  generalize (w3.setCell ⟨q, 1, none⟩ (.int .i64 u)).drew = w4 at *
  have b0 := HB4.out.cell
  have c0 := cell_of_row _ _ 0 _ _ _ HQ4.out
  simp only [List.getElem?_toArray, List.getElem?_cons_zero] at c0
  have hMd := HM4.out.keep (w' := w4.drew) rfl
  have hlk := hMd.look1 p
  rw [show (F p).getD 0 = val F p from rfl, HU.out] at hlk
  have hlk2 := (HW4.out.keep (w' := w4.drew) rfl).look1 p
  rw [show (g p).getD 0 = val g p from rfl, HG.out] at hlk2
  have hb := stp_bd hwb.1 hwb.2
  have hqs := quo_stp hwb.1 hwb.2
  obtain ⟨es, ck, hput, _, hM5⟩ := hMd.put p (u + stp gp)
  have hFp : (F p).isSome = true := by
    rw [← HF.out, ← HP.out]
    unfold admK
    have h1 := pmin_mem (val F) R.tail (R.headD 0)
    rw [head_tail HNe.out] at h1
    rw [if_pos h1]; rfl
  have HM5 := hide (hM5 hFp)
  have HMo5 := hide (HMo4.out.drew.putObj (r := pm) (.inl (.inl rfl)) (.map es ck))
  have HQ5 : Hid ((w4.drew.putObj pm (.map es ck)).heap[q]? = some (.cells #[.map (some pm), .int .i64 u] 81 (0, 0))) := hide (by rw [World.putObj_heap_other hqp]; exact HQ4.out)
  clear hMd hM5 hFp HW4 HM4 HMo4 HQ4 HB4
  go_upto_region 4 with fail
  go_region
  generalize w4.drew.putObj pm (.map es ck) = w5 at *
  go_wp2
  go_ret
  exact ⟨rfl, HQ5.out, HM5.out, HMo5.out⟩
end
end Go.Proofs.Ytngmnlmagbfijab
