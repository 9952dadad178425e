import Derived.Test.YtncbbllmhohnkaaDoorUM
namespace Go.Proofs.YtncbbllmhohnkaaDoor
open Go.RowKit
theorem opT_lt (s : Tx) : opT s < 27 := by
  unfold opT
  cases h : (List.range 27).find? (fun n => n != 0 && nm n == s) with
  | none => decide
  | some k => exact List.mem_range.1 (List.mem_of_find?_eq_some h)
theorem Ops.kp {w w' : World} {g : Nat} (h : Ops w) (hk : Kp g w w') (hg : 0 ≠ g) : Ops w' := by
  have hc : ∀ o v, w.cell? ⟨0, o, none⟩ = some v → w'.cell? ⟨0, o, none⟩ = some v := fun o v hv => cell_kp hv hk hg
  exact ⟨fun n hn => by obtain ⟨s, h1, h2⟩ := h.s n hn; exact ⟨s, hc _ _ h1, h2⟩, fun n hn => hc _ _ (h.a n hn), fun n hn => hc _ _ (h.b n hn), fun n hn => hc _ _ (h.k n hn)⟩
theorem addA0 (a : Addr) : a.add 0 = a := by
  obtain ⟨b, o, p⟩ := a
  cases p <;> simp [Addr.add]
/-- a line with one word -/
def ln1 : Ln := { ln0 with words := 1 }
section
variable (w : World)
set_option maxRecDepth 100000 in
set_option maxHeartbeats 4000000 in
theorem readFields_any (g : Nat) (name : Tx) (ao : Option Addr) (cap : Nat) (fs : List Tx) (hn : name.length ≤ 16384) (hf : ∀ f ∈ fs, f.length ≤ 16384) (hfl : fs.length ≤ 16385) (hL : LnAt w g ln0) (hR : Row w g ao (strs fs)) (hO : Ops w) (hg : 0 ≠ g) :
    Calls Tryd.prog 78 #[.pointer (some ⟨g, 0, none⟩), .string ⟨name.toArray⟩, .slice ao fs.length cap] w fun e w' => e = .returned (.bool (stmT name fs).isSome) ∧ (∀ l', stmT name fs = some l' → LnAt w' g l') ∧ (∃ l', LnAt w' g l') ∧ Kp g w w' := by
  have c7 := hL.cells.2.2.2.2.2.2.2
  have f7 := hL.frz 7
  have HL : Hid (LnAt (w.setCell ⟨g, 7, none⟩ (.int .i64 1)) g ln1) := hide (hL.words 1)
  have HK : Hid (Kp g w (w.setCell ⟨g, 7, none⟩ (.int .i64 1))) := hide (Kp.set (Kp.refl g w) _)
  have HR := hide (hR.kp HK.out)
  have HO := hide (hO.kp HK.out hg)
  have HF := hide hf
  clear hL hR hO hf
  go_enter Tryd.func78, Tryd.ntmps78
  go_upto_region 2 with fail
  generalize w.setCell ⟨g, 7, none⟩ (.int .i64 1) = W at *
  clear c7 f7
  by_cases h1 : name = [46, 119, 111, 114, 100]
  · subst h1
    rcases fs with _ | ⟨f, _ | ⟨f2, r⟩⟩
    · go_wp2
      go_ret
      exact ⟨rfl, fun l' e => (by cases e), ⟨_, HL.out⟩, HK.out⟩
    · have hf1 := HF.out f (by simp)
      obtain ⟨a, rfl, hab, ca⟩ := HR.out 0 (by simp [strs])
      have ca2 : W.cell? a = some (.string ⟨f.toArray⟩) := by rw [← addA0 a]; exact ca
      have HV : Hid (stmT [46, 119, 111, 114, 100] [f] = immT ln1 f (-2147483648) 4294967295) := hide rfl
      have HM := hide (readImm_any W g ln1 f (-2147483648) 4294967295 hf1 HL.out)
      clear ca
      go_wp2_with fail
      refine HM.out.mono ?_
      rintro e w4 ⟨rfl, hl9, hl8, hk9⟩
      have HL9 := hide hl9
      have HL8 := hide hl8
      have HK9 := hide (HK.out.trans hk9)
      clear hl9 hl8 hk9 HM HL HK HR
      go_wp2
      go_ret
      exact ⟨by rw [HV.out]; rfl, by rw [HV.out]; exact HL9.out, HL8.out, HK9.out⟩
    · have hx : ¬ ((r.length + 1 + 1 : Nat) : Int) = 1 := by omega
      go_wp2
      go_ret
      exact ⟨rfl, fun l' e => (by cases e), ⟨_, HL.out⟩, HK.out⟩
  by_cases h2 : name = [46, 122, 101, 114, 111]
  · subst h2
    clear h1
    rcases fs with _ | ⟨f, _ | ⟨f2, r⟩⟩
    · go_wp2
      go_ret
      exact ⟨rfl, fun l' e => (by cases e), ⟨_, HL.out⟩, HK.out⟩
    · have hf1 := HF.out f (by simp)
      obtain ⟨a, rfl, hab, ca⟩ := HR.out 0 (by simp [strs])
      have ca2 : W.cell? a = some (.string ⟨f.toArray⟩) := by rw [← addA0 a]; exact ca
      have HV : Hid (stmT [46, 122, 101, 114, 111] [f] = cntT ln1 f) := hide rfl
      have HM := hide (readCount_any W g ln1 f hf1 HL.out)
      clear ca
      go_wp2_with fail
      refine HM.out.mono ?_
      rintro e w4 ⟨rfl, hl9, hl8, hk9⟩
      have HL9 := hide hl9
      have HL8 := hide hl8
      have HK9 := hide (HK.out.trans hk9)
      clear hl9 hl8 hk9 HM HL HK HR
      go_wp2
      go_ret
      exact ⟨by rw [HV.out]; rfl, by rw [HV.out]; exact HL9.out, HL8.out, HK9.out⟩
    · have hx : ¬ ((r.length + 1 + 1 : Nat) : Int) = 1 := by omega
      go_wp2
      go_ret
      exact ⟨rfl, fun l' e => (by cases e), ⟨_, HL.out⟩, HK.out⟩
  have e1 : (name == [46, 119, 111, 114, 100]) = false := by simpa using h1
  have e2 : (name == [46, 122, 101, 114, 111]) = false := by simpa using h2
  have HV : Hid (stmT name fs = if opT name = 0 then none else insT (opT name) { ln1 with i := ⟨(opT name : Nat), 0, 0, 0⟩ } fs) := hide (by
    unfold stmT
    rw [if_neg h1, if_neg h2]
    rfl)
  have hol := opT_lt name
  have HNm := hide (opNamed_any W name HO.out)
  clear h1 h2
  go_wp2_with fail
  refine HNm.out.mono ?_
  rintro e w2 ⟨rfl, hb2⟩
  have hL2 := HL.out.keep hb2
  have c2 := hL2.cells.2.2.1
  have f2 := hL2.frz 2
  have HK3 := hide (Kp.set (j := 2) (Kp.of (g := g) hb2) (.int .i64 (opT name : Nat)))
  have HL3 := hide (hL2.op (opT name : Nat))
  have HR3 := hide (HR.out.kp HK3.out)
  have HO3 := hide (HO.out.kp HK3.out hg)
  have HK4 := hide (HK.out.trans HK3.out)
  clear hb2 hL2 HL HR HO HK HNm
  go_upto_region 8 with fail
  generalize w2.setCell ⟨g, 2, none⟩ (.int .i64 (opT name : Nat)) = W3 at *
  clear c2 f2 HK3
  have c3 : W3.cell? ⟨g, 2, none⟩ = some (.int .i64 (opT name : Nat)) := HL3.out.cells.2.2.1
  by_cases h0 : opT name = 0
  · have HV2 : Hid (stmT name fs = none) := hide (by rw [HV.out, if_pos h0])
    rw [h0] at c3
    clear HV
    go_wp2
    go_ret
    exact ⟨by rw [HV2.out]; rfl, fun l' e => (by rw [HV2.out] at e; cases e), ⟨_, HL3.out⟩, HK4.out⟩
  · have HV2 : Hid (stmT name fs = insT (opT name) { ln1 with i := ⟨(opT name : Nat), 0, 0, 0⟩ } fs) := hide (by rw [HV.out, if_neg h0])
    have HM := hide (readInstr_any W3 g (opT name) { ln1 with i := ⟨(opT name : Nat), 0, 0, 0⟩ } ao cap fs (by omega) hol rfl HF.out hfl HL3.out HR3.out HO3.out)
    have hz : ((opT name : Int) != 0) = true := by simp; omega
    clear HV h0
    generalize opT name = on at *
    go_wp2_with fail
    refine HM.out.mono ?_
    rintro e w4 ⟨rfl, hl9, hl8, hk9⟩
    have HL9 := hide hl9
    have HL8 := hide hl8
    have HK9 := hide (HK4.out.trans hk9)
    clear hl9 hl8 hk9 HM HL3 HK4 HR3
    go_wp2
    go_ret
    exact ⟨by rw [HV2.out]; rfl, by rw [HV2.out]; exact HL9.out, HL8.out, HK9.out⟩
end
end Go.Proofs.YtncbbllmhohnkaaDoor
