import Derived.Test.YtngmnlmagbfijabBD
namespace Go.Proofs.Ytngmnlmagbfijab
open Go.RowKit
/-- the passes when these have been let in -/
def admK (f : Int → Option Int) (l : Int) (R : List Int) : Int → Option Int := fun k => if k ∈ R then some (max (val f k) l) else f k
theorem admK_snoc (f : Int → Option Int) (l : Int) (R : List Int) (k : Int) (hk : k ∉ R) : (fun c => if c = k then some (max (val (admK f l R) k) l) else admK f l R c) = admK f l (R ++ [k]) := by
  funext c
  unfold admK
  by_cases hc : c = k
  · subst hc
    simp [hk, val]
  · by_cases hR : c ∈ R <;> simp [hc, hR]
section
variable (w : World)
set_option maxRecDepth 100000 in
set_option maxHeartbeats 2000000 in
theorem admit_any (S : Nat → Prop) (v : Value) (R : List Int) (hR : Rd S w v R) (hl : R.length ≤ 1048576) (hnd : R.Nodup) (q pm n : Nat) (l : Int) (f : Int → Option Int) (hq : w.heap[q]? = some (.cells #[.map (some pm), .int .i64 l] 81 (0, 0))) (hM : Mp w pm n f) (hSp : ∀ b, S b → b ≠ pm ∧ b < w.heap.size) (hqp : q ≠ pm) :
    Calls Try.prog 79 #[.pointer (some ⟨q, 0, none⟩), v] w fun e w' => e = .returned (.tuple #[]) ∧ Mp w' pm (n + R.length) (admK f l R) ∧ Mod (fun b => b = pm) w w' := by
  have HR := hide hR
  obtain ⟨ao, cap, rfl, hcap⟩ := hR.len
  obtain ⟨m, hm⟩ : ∃ m, R.length = m := ⟨_, rfl⟩
  have HLn := hide hm
  rw [hm] at hl hcap HR ⊢
  have HQ := hide hq
  have HM := hide hM
  have HS := hide hSp
  have HN : Hid (∀ k, k < m → R.getD k 0 ∉ R.take k ∧ R.take k ++ [R.getD k 0] = R.take (k + 1)) := hide (by
    intro k hk
    have hk' : k < R.length := by omega
    have hg : R.getD k 0 = R[k] := by rw [List.getD_eq_getElem?_getD, List.getElem?_eq_getElem hk', Option.getD_some]
    rw [hg]
    refine ⟨fun hmem => ?_, by rw [List.take_succ_eq_append_getElem hk']⟩
    have h1 := hnd
    rw [← List.take_append_drop k R, List.drop_eq_getElem_cons hk', List.nodup_append] at h1
    exact h1.2.2 _ hmem _ (List.mem_cons_self ..) rfl)
  have HT : Hid (R.take m = R) := hide (by rw [← hm]; exact List.take_length)
  clear hR hq hM hSp hm hnd
  go_enter Try.func79, Try.ntmps79
  go_upto_region 1 with fail
  go_loopw [8] (fun i wr => ∃ k : Nat, k ≤ m ∧ i = .int .i64 (k : Nat) ∧ Hid (Mp wr pm (n + k) (admK f l (R.take k))) ∧ Hid (Mod (fun b => b = pm) w wr)) (fun i _ => m - (RowKit.intOf i).toNat)
  case atStart => exact ⟨0, by omega, rfl, hide (by have : admK f l (R.take 0) = f := by funext c; simp [admK]
                                                    rw [this]; exact HM.out), hide (Mod.refl _ _)⟩
  case round =>
    obtain ⟨k, hk, rfl, HMk, HD⟩ := hrel
    by_cases hlt : k < m
    · have HRk := HR.out.keep (w' := wr) (fun b hb => HD.out.block b (HS.out b hb).2 (HS.out b hb).1)
      obtain ⟨x, rfl, hSx, hc⟩ := HRk.some_of (by rw [HLn.out]; omega)
      have d0 := hc k (by rw [HLn.out]; omega)
      obtain ⟨hN1, hN2⟩ := HN.out k hlt
      have hsn := admK_snoc f l (R.take k) (R.getD k 0) hN1
      rw [hN2] at hsn
      have HSn := hide hsn
      have hki : (k : Int) < m := by omega
      have HQw : wr.heap[q]? = some (.cells #[.map (some pm), .int .i64 l] 81 (0, 0)) := (HD.out.block q (Array.getElem?_eq_some_iff.1 HQ.out).1 hqp).trans HQ.out
      have c0 := cell_of_row _ _ 0 _ _ _ HQw
      have c1 := cell_of_row _ _ 1 _ _ _ HQw
      simp only [List.getElem?_toArray, List.getElem?_cons_zero, List.getElem?_cons_succ] at c0 c1
      have hMd := HMk.out.keep (w' := wr.drew) rfl
      have hlk := hMd.look1 (R.getD k 0)
      rw [show (admK f l (R.take k) (R.getD k 0)).getD 0 = val (admK f l (R.take k)) (R.getD k 0) from rfl] at hlk
      obtain ⟨es, ck, hput, hM2, _⟩ := hMd.put (R.getD k 0) (max (val (admK f l (R.take k)) (R.getD k 0)) l)
      rw [hsn] at hM2
      have HM2 := hide hM2
      have HD2 := hide (HD.out.drew.putObj (r := pm) (.inl rfl) (.map es ck))
      clear hc hN1 hN2 hsn HSn HQw hMd hM2 hSx HRk HMk HD
      generalize val (admK f l (R.take k)) (R.getD k 0) = u at *
      generalize R.getD k 0 = a at *
      go_upto_region 3 with fail
      go_region
      generalize wr.drew.putObj pm (.map es ck) = w3 at *
      go_wp2
      go_roundw
      case rel => exact ⟨k + 1, by omega, by go_num, HM2, HD2⟩
      case measure => simp [RowKit.intOf]; omega
    · obtain rfl : k = m := by omega
      go_wp2
      go_end0
      have := HMk.out
      rw [HT.out] at this
      exact ⟨rfl, this, HD.out⟩
end
end Go.Proofs.Ytngmnlmagbfijab
