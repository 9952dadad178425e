import Derived.Test.YtngmnlmagbfijabBF
namespace Go.Proofs.Ytngmnlmagbfijab
open Go.RowKit
/-- how long each has waited when so many were gone through -/
def waitK (f : Int → Option Int) (R : List Int) : Int → Option Int := fun k => if k ∈ R then some (val f k + 1) else none
theorem waitK_snoc (f : Int → Option Int) (R : List Int) (k : Int) : (fun c => if c = k then some (val f k + 1) else waitK f R c) = waitK f (R ++ [k]) := by
  funext c
  unfold waitK
  by_cases hc : c = k
  · subst hc; simp
  · by_cases hR : c ∈ R <;> simp [hc, hR]
theorem waitK_del (f : Int → Option Int) (R : List Int) (p : Int) : (fun c => if c = p then none else waitK f R c) = fun k => if k ∈ R ∧ k ≠ p then some (val f k + 1) else none := by
  funext c
  unfold waitK
  by_cases hc : c = p
  · subst hc; simp
  · by_cases hR : c ∈ R <;> simp [hc, hR]
theorem run_makeMap_n (w : World) (m : Int) : (Instr.makeMap 53 (some (.int .i64 m))).run Try.prog w = .ok (.map (some w.heap.size)) (w.alloc (.map #[] 0)) := by
  have hu := Try.underlying53
  simp [Instr.makeMap, run_underlying hu, asInt, asIntOf]
section
variable (w : World)
set_option maxRecDepth 100000 in
set_option maxHeartbeats 4000000 in
theorem rchoose_any (S : Nat → Prop) (v : Value) (R : List Int) (hR : Rd S w v R) (hl : R.length ≤ 1048576) (hne : R ≠ []) (q wm n n2 : Nat) (mo : Option Nat) (f g : Int → Option Int) (hq : w.heap[q]? = some (.cells #[.map mo] 84 (0, 0))) (hL : Lk w mo n f) (hW : Mp w wm n2 g) (hSp : ∀ b, S b → b < w.heap.size)
    (hpb : ∀ k, 0 ≤ val f k ∧ val f k ≤ 8388608) (hwb : ∀ k, 0 ≤ val g k ∧ val g k ≤ 8) :
    Calls Try.prog 83 #[.pointer (some ⟨q, 0, none⟩), v, .map (some wm)] w fun e w' => ∃ c nm, c = pmax (fun k => val g k + val f k) (R.headD 0) R.tail ∧ e = .returned (.int .i64 c) ∧ w.heap.size ≤ nm ∧ w'.heap[q]? = some (.cells #[.map (some nm)] 84 (0, 0)) ∧ Mp w' nm R.length (fun k => if k ∈ R ∧ k ≠ c then some (val f k + 1) else none) ∧ Mod (fun b => b = q) w w' := by
  have hqlt : q < w.heap.size := (Array.getElem?_eq_some_iff.1 hq).1
  have hkp : ∀ b, b < w.heap.size → ((w.alloc (.cells #[.pointer (some ⟨q, 0, none⟩)] 82)).alloc (.cells #[.map (some wm)] 53)).heap[b]? = w.heap[b]? := fun b hb => by
    rw [Below.heap_alloc _ _ _ (by simp; omega), Below.heap_alloc _ _ _ hb]
  have hmolt : ∀ pm, mo = some pm → pm < w.heap.size := fun pm hpm => by
    rcases hL with ⟨h1, _⟩ | ⟨pm', h1, h2⟩
    · rw [h1] at hpm; cases hpm
    · rw [h1] at hpm; cases hpm; exact h2.lt
  have HR := hide (hR.keep (fun b hb => hkp b (hSp b hb)))
  have HB := hide ((Bx.new w 82 (.pointer (some ⟨q, 0, none⟩))).keep (w' := (w.alloc (.cells #[.pointer (some ⟨q, 0, none⟩)] 82)).alloc (.cells #[.map (some wm)] 53)) (Below.heap_alloc _ _ _ (by simp)))
  have HBw : Hid (Bx ((w.alloc (.cells #[.pointer (some ⟨q, 0, none⟩)] 82)).alloc (.cells #[.map (some wm)] 53)) (w.heap.size + 1) 53 (.map (some wm))) := hide (by have := Bx.new (w.alloc (.cells #[.pointer (some ⟨q, 0, none⟩)] 82)) 53 (.map (some wm)); rw [World.size_alloc] at this; exact this)
  have HQ := hide ((hkp q hqlt).trans hq)
  have HL := hide (hL.keep (fun pm hpm => hkp pm (hmolt pm hpm)))
  have HW := hide (hW.keep (hkp wm hW.lt))
  have HMo : Hid (Mod (fun b => b = q) w ((w.alloc (.cells #[.pointer (some ⟨q, 0, none⟩)] 82)).alloc (.cells #[.map (some wm)] 53))) := hide (((Mod.refl _ _).alloc _).alloc _)
  have hsz : ((w.alloc (.cells #[.pointer (some ⟨q, 0, none⟩)] 82)).alloc (.cells #[.map (some wm)] 53)).heap.size = w.heap.size + 2 := by simp
  have HSp := hide hSp
  have HPb := hide hpb
  have HWb := hide hwb
  have HMol := hide hmolt
  have HNe := hide hne
  obtain ⟨ao, cap, rfl, hcap⟩ := hR.len
  obtain ⟨m, hm⟩ : ∃ m, R.length = m := ⟨_, rfl⟩
  have HLn := hide hm
  have HT : Hid (R.take m = R) := hide (by rw [← hm]; exact List.take_length)
  have HN : Hid (∀ k, k < m → R.take k ++ [R.getD k 0] = R.take (k + 1)) := hide (by
    intro k hk
    have hk' : k < R.length := by omega
    rw [List.getD_eq_getElem?_getD, List.getElem?_eq_getElem hk', Option.getD_some, List.take_succ_eq_append_getElem hk'])
  rw [hm] at hl hcap HR ⊢
  clear hR hq hL hW hm hne hSp hpb hwb hkp hmolt
  obtain ⟨p, hp⟩ : ∃ p, pmax (fun k => val g k + val f k) (R.headD 0) R.tail = p := ⟨_, rfl⟩
  have HP := hide hp
  have HPm : Hid (p ∈ R) := hide (by
    have := pmax_mem (fun k => val g k + val f k) R.tail (R.headD 0)
    rw [head_tail HNe.out, hp] at this
    exact this)
  suffices hsuf : Calls Try.prog 83 #[.pointer (some ⟨q, 0, none⟩), .slice ao m cap, .map (some wm)] w fun e w' => ∃ nm, e = .returned (.int .i64 p) ∧ w.heap.size ≤ nm ∧ w'.heap[q]? = some (.cells #[.map (some nm)] 84 (0, 0)) ∧ Mp w' nm m (fun c => if c = p then none else waitK f R c) ∧ Mod (fun b => b = q) w w' by
    refine hsuf.mono ?_
    rintro e w' ⟨nm, h1, h2, h3, h4, h5⟩
    rw [waitK_del] at h4
    exact ⟨p, nm, hp.symm, h1, h2, h3, h4, h5⟩
  clear hp
  have hmm := run_makeMap_n
  go_enter Try.func83, Try.ntmps83
  go_upto_region 1 with fail
  generalize (w.alloc (.cells #[.pointer (some ⟨q, 0, none⟩)] 82)).alloc (.cells #[.map (some wm)] 53) = w1 at *
  go_wp2_with fail
  refine (maxF_any w1 S _ R HR.out (by rw [HLn.out]; exact hl) HNe.out _ 87 #[.pointer (some ⟨w.heap.size + 1, 0, none⟩), .pointer (some ⟨w.heap.size, 0, none⟩)] (fun k => val g k + val f k) rfl
    (fun W hW x y _ _ => rcmp_any W (w.heap.size + 1) w.heap.size q wm n2 n mo x y g f (HB.out.keep (by rw [hW.heap])) (HBw.out.keep (by rw [hW.heap])) (by rw [hW.heap]; exact HQ.out) (HW.out.keep (by rw [hW.heap])) (HL.out.keep (fun _ _ => by rw [hW.heap])) (HWb.out x) (HWb.out y) (HPb.out x) (HPb.out y)) (enters_of Try.func87 (by kernel_rfl) rfl)).mono ?_
  rintro e w2 ⟨rfl, hdr⟩
  rw [HP.out]
  have HB2 := hide (HB.out.keep (w' := w2.alloc (.map #[] 0)) (by rw [Below.heap_alloc _ _ _ (by rw [hdr.heap]; omega), hdr.heap]))
  have HQ2 : Hid ((w2.alloc (.map #[] 0)).heap[q]? = some (.cells #[.map mo] 84 (0, 0))) := hide (by rw [Below.heap_alloc _ _ _ (by rw [hdr.heap]; omega), hdr.heap]; exact HQ.out)
  have HL2 := hide (HL.out.keep (w' := w2.alloc (.map #[] 0)) (fun pm hpm => by rw [Below.heap_alloc _ _ _ (by rw [hdr.heap]; have := HMol.out pm hpm; omega), hdr.heap]))
  have HR2 := hide (HR.out.keep (w' := w2.alloc (.map #[] 0)) (fun b hb => by rw [Below.heap_alloc _ _ _ (by rw [hdr.heap]; have := HSp.out b hb; omega), hdr.heap]))
  have HMo2 := hide ((HMo.out.trans (hdr.mod _)).alloc (.map #[] 0))
  have HN2 : Hid (Mp (w2.alloc (.map #[] 0)) w2.heap.size 0 (waitK f [])) := hide (by
    have := Mp.new w2
    rwa [show (fun _ => none : Int → Option Int) = waitK f [] from by funext c; simp [waitK]] at this)
  have hs2 : w2.heap.size = w.heap.size + 2 := by rw [hdr.heap, hsz]
  have hs3 : (w2.alloc (.map #[] 0)).heap.size = w.heap.size + 3 := by simp [hs2]
  clear hdr HB HQ HL HR HMo HW HBw
  go_upto_region 3 with fail
  clear hmm
  rw [hs2] at HN2
  obtain ⟨nm, hnm⟩ : ∃ nm, w.heap.size + 2 = nm := ⟨_, rfl⟩
  rw [hnm] at HN2 ⊢
  clear hs2
  generalize w2.alloc (.map #[] 0) = w3 at *
  go_upto_region 4 with fail
  go_loopw [19] (fun i wr => ∃ k : Nat, k ≤ m ∧ i = .int .i64 (k : Nat) ∧ Hid (Mp wr nm k (waitK f (R.take k))) ∧ Hid (Mod (fun b => b = nm) w3 wr)) (fun i _ => m - (RowKit.intOf i).toNat)
  case atStart => exact ⟨0, by omega, rfl, HN2, hide (Mod.refl _ _)⟩
  case round =>
    obtain ⟨k, hk, rfl, HMk, HD⟩ := hrel
    have hqn : q ≠ nm := by omega
    have HQr : Hid (wr.heap[q]? = some (.cells #[.map mo] 84 (0, 0))) := hide ((HD.out.block q (by omega) hqn).trans HQ2.out)
    have HBr := hide (HB2.out.keep (HD.out.block w.heap.size (by omega) (by omega)))
    have b0 := HBr.out.cell
    have c0 := cell_of_row _ _ 0 _ _ _ HQr.out
    simp only [List.getElem?_toArray, List.getElem?_cons_zero] at c0
    by_cases hlt : k < m
    · have HRk := HR2.out.keep (w' := wr) (fun b hb => HD.out.block b (by have := HSp.out b hb; omega) (by have := HSp.out b hb; omega))
      obtain ⟨x, rfl, hSx, hc⟩ := HRk.some_of (by rw [HLn.out]; omega)
      have d0 := hc k (by rw [HLn.out]; omega)
      have hN2 := HN.out k hlt
      have hsn := waitK_snoc f (R.take k) (R.getD k 0)
      rw [hN2] at hsn
      have hki : (k : Int) < m := by omega
      have hlk := (HL2.out.keep (w' := wr) (fun pm hpm => HD.out.block pm (by have := HMol.out pm hpm; omega) (by have := HMol.out pm hpm; omega))).look (R.getD k 0)
      obtain ⟨es, ck, hput, hM2, _⟩ := HMk.out.put (R.getD k 0) (val f (R.getD k 0) + 1)
      rw [hsn] at hM2
      have HM2 := hide hM2
      have HD2 := hide (HD.out.putObj (r := nm) (.inl rfl) (.map es ck))
      have hb := HPb.out (R.getD k 0)
      clear hc hN2 hsn hM2 hSx HRk HMk HD
      generalize val f (R.getD k 0) = u at *
      generalize R.getD k 0 = a at *
      have hwu : IntKind.i64.wrap (u + 1) = u + 1 := wi _ (by omega) (by omega)
      go_wp2_with fail
      generalize wr.putObj nm (.map es ck) = w5 at *
      go_roundw
      case rel => exact ⟨k + 1, by omega, by go_num, HM2, HD2⟩
      case measure => simp [RowKit.intOf]; omega
    · obtain rfl : k = m := by omega
      have hMd := HMk.out
      rw [HT.out] at hMd
      have hps : (waitK f R p).isSome = true := by unfold waitK; rw [if_pos HPm.out]; rfl
      obtain ⟨es, ck, hdel, hM2⟩ := hMd.del p hps 0
      have HM2 := hide hM2
      have HD2 := hide (HD.out.putObj (r := nm) (.inl rfl) (.map es ck))
      have HQ5 : Hid ((wr.putObj nm (.map es ck)).heap[q]? = some (.cells #[.map mo] 84 (0, 0))) := hide (by rw [World.putObj_heap_other hqn]; exact HQr.out)
      have HB5 := hide (HBr.out.keep (w' := wr.putObj nm (.map es ck)) (World.putObj_heap_other (by omega)))
      clear hMd hM2 hps HMk HD HQr HBr b0 c0
      go_upto_region 9 with fail
      generalize wr.putObj nm (.map es ck) = w5 at *
      have b0 := HB5.out.cell
      have c0 := cell_of_row _ _ 0 _ _ _ HQ5.out
      have f0 := frozen_of_row w5 q 0 _ _ HQ5.out
      simp only [List.getElem?_toArray, List.getElem?_cons_zero] at c0
      have HQ6 := hide (heap_setCell_same w5 q 0 _ _ (.map (some nm)) HQ5.out)
      have HM6 := hide (HM2.out.keep (w' := w5.setCell ⟨q, 0, none⟩ (.map (some nm))) (heap_setCell_other w5 ⟨q, 0, none⟩ _ _ (Ne.symm hqn)))
      have HMo6 : Hid (Mod (fun b => b = q) w (w5.setCell ⟨q, 0, none⟩ (.map (some nm)))) := hide (by
        have h1 : Mod (fun b => b = q) w w5 := ⟨HD2.out.os.trans HMo2.out.os, HD2.out.tape.trans HMo2.out.tape, HD2.out.output.trans HMo2.out.output, Nat.le_trans HMo2.out.size HD2.out.size, fun b hb hf => (HD2.out.block b (by omega) (by omega)).trans (HMo2.out.block b hb hf)⟩
        exact h1.setCell (.inl rfl) _)
      go_wp2
      go_ret
      refine ⟨nm, rfl, by omega, ?_, HM6.out, HMo6.out⟩
      have := HQ6.out
      simpa using this
end
end Go.Proofs.Ytngmnlmagbfijab
