import Derived.Test.YtbfagiofhakjnaaDoorMA05
import Derived.Test.YtbfagiofhakjnaaDoorMA06
namespace Go.Proofs.YtbfagiofhakjnaaDoor
open Go.RowKit
theorem jn_cons (sep f : List UInt8) (r : List (List UInt8)) : jn sep (f :: r) = sep ++ f ++ jn [44, 32] r := by simp [jn]
/-- the list of fields, in a world -/
def Fd (W : World) (ao : Option Addr) (L : List Int) : Prop := ∀ j (h : j < L.length), ∃ g, ao = some ⟨g, 0, none⟩ ∧ W.cell? ⟨g, j, none⟩ = some (.int .i64 L[j])
theorem Fd.below {W W' : World} {ao : Option Addr} {L : List Int} (h : Fd W ao L) (hb : Below W.heap.size W W') : Fd W' ao L := fun j hj => by
  obtain ⟨g, h1, h2⟩ := h j hj
  exact ⟨g, h1, by rw [hb.cell (p := ⟨g, j, none⟩) (cell_lt h2)]; exact h2⟩
theorem Fd.of {W : World} {base : Nat} {v : Value} {n : Nat} {L : List Int} (h : W.ownsRow base 3 1 v n (nums L)) (hn : n = L.length) : ∃ ao c, v = .slice ao n c ∧ Fd W ao L := by
  rcases h.2 with ⟨h1, h2⟩ | ⟨g, cap, cur, h1, _, h3, _, _, _, h7⟩
  · exact ⟨none, 0, by rw [h1, h2], fun j hj => by omega⟩
  · refine ⟨_, _, h1, fun j hj => ⟨g, rfl, ?_⟩⟩
    rw [Lib.cell_of_heap h3]
    have e : (nums L)[j]? = some (.int .i64 L[j]) := by simp [nums, hj]
    rw [← h7, List.getElem?_take] at e
    split at e
    · rw [← Array.getElem?_toList]; exact e
    · simp at e
end Go.Proofs.YtbfagiofhakjnaaDoor

namespace Go.Proofs.YtbfagiofhakjnaaDoor
open Go.RowKit
/-- values that lie in a row apart from a block -/
def Row (W : World) (g : Nat) (ao : Option Addr) (vs : List Value) : Prop := ∀ j (h : j < vs.length), ∃ a : Addr, ao = some a ∧ a.block ≠ g ∧ W.cell? (a.add j) = some vs[j]
theorem cell_blk {w : World} {a : Addr} {v : Value} (h : w.cell? a = some v) : a.block < w.heap.size := by
  by_cases hb : a.block < w.heap.size
  · exact hb
  · have e : w.heap[a.block]? = none := Array.getElem?_eq_none (by omega)
    simp [World.cell?, e] at h
theorem cell_kp {g : Nat} {W W' : World} {a : Addr} {v : Value} (h : W.cell? a = some v) (hk : Kp g W W') (hn : a.block ≠ g) : W'.cell? a = some v := by
  have hb := hk.block a.block (cell_blk h) hn
  rw [World.cell?_of_block hb]
  exact h
theorem add_block (a : Addr) (j : Nat) : (a.add j).block = a.block := by unfold Addr.add; split <;> rfl
theorem Row.kp {g : Nat} {W W' : World} {ao : Option Addr} {vs : List Value} (h : Row W g ao vs) (hk : Kp g W W') : Row W' g ao vs := fun j hj => by
  obtain ⟨a, h1, h2, h3⟩ := h j hj
  exact ⟨a, h1, h2, cell_kp h3 hk (by rw [add_block]; exact h2)⟩
theorem Row.of {W : World} {base g n : Nat} {e : TypeId} {v : Value} {vs : List Value} (h : W.ownsRow base e 1 v n vs) (hg : g < base) : ∃ ao c, v = .slice ao n c ∧ Row W g ao vs := by
  have hl := h.1
  rcases h.2 with ⟨h1, h2⟩ | ⟨k, cap, cur, h1, h2, h3, _, _, _, h7⟩
  · exact ⟨none, 0, by rw [h1, h2], fun j hj => by omega⟩
  · refine ⟨_, _, h1, fun j hj => ⟨_, rfl, by show k ≠ g; omega, ?_⟩⟩
    rw [add0, Lib.cell_of_heap h3]
    have e : (cur.toList.take (n * 1))[j]? = some vs[j] := by rw [h7]; exact List.getElem?_eq_getElem hj
    rw [List.getElem?_take] at e
    split at e
    · rw [← Array.getElem?_toList]; exact e
    · simp at e
theorem kinds_fl (n : Nat) : kinds n = fl (uA n) (uB n) (kd n) := rfl
theorem kinds_len (n : Nat) : (kinds n).length ≤ 3 := by
  unfold kinds
  cases uA n <;> cases uB n <;> (by_cases e : kd n = 0 <;> simp [e])
theorem kinds_mem (n : Nat) : ∀ k ∈ kinds n, k = 0 ∨ k = 1 ∨ k = 2 := by
  unfold kinds
  cases uA n <;> cases uB n <;> (by_cases e : kd n = 0 <;> simp [e])
/-- the fields of an instruction -/
def insT (n : Nat) (l : Ln) (fs : List Tx) : Option Ln := if fs.length = (kinds n).length then fldsT (lo (kd n)) (hi (kd n)) l (kinds n) fs else none
theorem flds_step {lo hi : Int} {l : Ln} {ks : List Int} {fs : List Tx} {j : Nat} (h1 : j < ks.length) (h2 : j < fs.length) : fldsT lo hi l (ks.drop j) (fs.drop j) = (fldT lo hi l ks[j] fs[j]).bind fun l' => fldsT lo hi l' (ks.drop (j + 1)) (fs.drop (j + 1)) := by
  rw [List.drop_eq_getElem_cons h1, List.drop_eq_getElem_cons h2]
  rfl
section
variable (w : World)
set_option maxRecDepth 100000 in
set_option maxHeartbeats 4000000 in
theorem readInstr_any (g no : Nat) (l : Ln) (ao : Option Addr) (cap : Nat) (fs : List Tx) (hno : 1 ≤ no) (hno2 : no < 27) (hop : l.i.op = (no : Int)) (hf : ∀ f ∈ fs, f.length ≤ 16384) (hfl : fs.length ≤ 16385) (hL : LnAt w g l) (hR : Row w g ao (strs fs)) (hO : Ops w) :
    Calls Tryd.prog 62 #[.pointer (some ⟨g, 0, none⟩), .slice ao fs.length cap] w fun e w' => e = .returned (.bool (insT no l fs).isSome) ∧ (∀ l', insT no l fs = some l' → LnAt w' g l') ∧ (∃ l', LnAt w' g l') ∧ Kp g w w' := by
  have c2 := hL.cells.2.2.1
  rw [hop] at c2
  have o0 := hO.name hno2
  have o1 := hO.a no hno2
  have o2 := hO.b no hno2
  have o3 := hO.k no hno2
  have hlt := hO.lt
  have hkd := kd_le no
  have HKl := hide (kinds_len no)
  have HKm := hide (kinds_mem no)
  have HKf := hide (kinds_fl no)
  have HV : Hid (insT no l fs = if fs.length = (kinds no).length then fldsT (lo (kd no)) (hi (kd no)) l (kinds no) fs else none) := hide rfl
  have hno3 : (no : Int) < 27 := by omega
  have HL := hide hL
  have HR := hide hR
  have HF := hide hf
  have hgs := hL.lt
  clear hL hR hO hf hop
  generalize kinds no = ks at *
  generalize uA no = ua at *
  generalize uB no = ub at *
  generalize kd no = kk at *
  generalize nm no = nn at *
  go_enter Tryd.func62, Tryd.ntmps62
  go_upto_region 1 with fail
  go_step3
  go_wp2_with fail
  refine (fields_any _ _ ua ub kk).mono ?_
  rintro e w1 ⟨v, rfl, ho, hb1⟩
  rw [← HKf.out] at ho
  obtain ⟨ak, ck, rfl, hFk⟩ := Row.of ho (show g < _ by simp; omega)
  have d3 : w1.cell? ⟨w.heap.size, 3, none⟩ = some (.int .i64 (kk : Int)) := by
    rw [hb1.cell (p := ⟨w.heap.size, 3, none⟩) (by simp), World.cell?_alloc_new]; rfl
  have hb0 := (bel1 w (.cells #[.string ⟨nn.toArray⟩, .bool ua, .bool ub, .int .i64 (kk : Int)] 97)).trans (hb1.mono (by simp))
  have hL1 := HL.out.keep hb0
  have hk1 := Kp.of (g := g) hb0
  have hR1 := HR.out.kp hk1
  have HL1 := hide hL1
  have HK1 := hide hk1
  have HR1 := hide hR1
  have HFk := hide hFk
  clear hL1 hk1 hR1 hFk ho hb1 hb0 HL HR c2 o0 o1 o2 o3
  by_cases hlen : fs.length = ks.length
  · have HV2 : Hid (insT no l fs = fldsT (lo kk) (hi kk) l ks fs) := hide (by rw [HV.out, if_pos hlen])
    have hlenI : ((fs.length : Int) != (ks.length : Int)) = false := by simp; omega
    clear HV
    go_wp2_with fail
    refine (bounds_any _ kk hkd).mono ?_
    rintro e w2 ⟨rfl, rfl⟩
    clear d3
    generalize lo kk = lw at *
    generalize hi kk = hg2 at *
    go_upto_region 8 with fail
    go_step3
    go_upto_region 8 with fail
    go_loopw [9, 36] (fun r u wr => ∃ (j : Nat) (l' : Ln), r = .int .i64 (j : Int) ∧ u = .int .i64 (j : Int) ∧ j ≤ ks.length ∧ fldsT lw hg2 l ks fs = fldsT lw hg2 l' (ks.drop j) (fs.drop j) ∧ LnAt wr g l' ∧ Row wr g ao (strs fs) ∧ Row wr g ak (nums ks) ∧ Kp g w wr) (fun _ u _ => ks.length - (intOf u).toNat)
    case atStart => exact ⟨0, l, rfl, rfl, by omega, rfl, HL1.out, HR1.out, HFk.out, HK1.out⟩
    case round =>
    obtain ⟨j, l', rfl, rfl, hj, hst, hLj, hRj, hFj, hKj⟩ := hrel
    clear HL1 HR1 HFk HK1
    by_cases hjk : j < ks.length
    · have hjf : j < fs.length := by omega
      obtain ⟨a, rfl, hab, ca⟩ := hRj j (by simpa [strs] using hjf)
      obtain ⟨b, rfl, hbb, cb⟩ := hFj j (by simpa [nums] using hjk)
      have ea : (strs fs)[j]'(by simpa [strs] using hjf) = .string ⟨fs[j].toArray⟩ := by simp [strs]
      have eb : (nums ks)[j]'(by simpa [nums] using hjk) = .int .i64 ks[j] := by simp [nums]
      rw [ea] at ca
      rw [eb] at cb
      have hkm := HKm.out ks[j] (List.getElem_mem hjk)
      have hfl2 := HF.out fs[j] (List.getElem_mem hjf)
      have HSt : Hid (insT no l fs = (fldT lw hg2 l' ks[j] fs[j]).bind fun l'' => fldsT lw hg2 l'' (ks.drop (j + 1)) (fs.drop (j + 1))) := hide (by rw [HV2.out, hst, flds_step hjk hjf])
      have HSt2 : Hid (∀ l'', fldT lw hg2 l' ks[j] fs[j] = some l'' → fldsT lw hg2 l ks fs = fldsT lw hg2 l'' (ks.drop (j + 1)) (fs.drop (j + 1))) := hide (fun l'' e => by rw [hst, flds_step hjk hjf, e]; rfl)
      have hd : (j : Int) < (fs.length : Int) := by omega
      have hne : ((j : Int) == (ks.length : Int)) = false := by simp; omega
      have hjI : (j : Int) < (ks.length : Int) := by omega
      have HL := hide hLj
      have HR := hide hRj
      have HFj := hide hFj
      have HK := hide hKj
      have HM := hide (readImm_any wr g l' fs[j] lw hg2 hfl2 hLj)
      have HRg := hide (fun W => register_any' W fs[j])
      clear hLj hRj hFj hKj hst ea eb
      generalize fs[j] = f at *
      generalize ks[j] = k at *
      rcases hkm with rfl | rfl | rfl
      · -- a register
        cases hr : regT f with
        | none =>
          have HE : Hid (fldT lw hg2 l' 0 f = none) := hide (by simp [fldT, hr])
          have HN : Hid (insT no l fs = none) := hide (by rw [HSt.out, HE.out]; rfl)
          rw [hr] at HRg
          clear hr HM HE HSt HSt2
          go_wp2_with fail
          refine (HRg.out _).mono ?_
          rintro e w3 ⟨rfl, rfl⟩
          go_wp2
          (try rw [Exit.noGoto_ret])
          go_ret
          exact ⟨by rw [HN.out]; rfl, fun l'' e => (by rw [HN.out] at e; cases e), ⟨_, HL.out⟩, HK.out⟩
        | some n =>
          have HE : Hid (fldT lw hg2 l' 0 f = some { l' with i := { l'.i with a := n } }) := hide (by simp [fldT, hr])
          rw [hr] at HRg
          have c0 := HL.out.cells
          have cx := c0.2.2.2.1
          have fx := HL.out.frz 3
          clear hr HM c0
          go_wp2_with fail
          refine (HRg.out _).mono ?_
          rintro e w3 ⟨rfl, rfl⟩
          have HK3 := hide (Kp.set (j := 3) (Kp.refl g w3) (.int .i64 (n : Int)))
          have HL3 := hide (HL.out.a (n : Int))
          have HR3 := hide (HR.out.kp HK3.out)
          have HF3 := hide (HFj.out.kp HK3.out)
          have HK4 := hide (HK.out.trans HK3.out)
          clear HL HR HFj HK HK3
          go_wp2
          refine ⟨⟨j + 1, _, by simp, by simp, by omega, HSt2.out _ HE.out, HL3.out, HR3.out, HF3.out, HK4.out⟩, ?_⟩
          simp [intOf]
          omega
      · -- a register
        cases hr : regT f with
        | none =>
          have HE : Hid (fldT lw hg2 l' 1 f = none) := hide (by simp [fldT, hr])
          have HN : Hid (insT no l fs = none) := hide (by rw [HSt.out, HE.out]; rfl)
          rw [hr] at HRg
          clear hr HM HE HSt HSt2
          go_wp2_with fail
          refine (HRg.out _).mono ?_
          rintro e w3 ⟨rfl, rfl⟩
          go_wp2
          (try rw [Exit.noGoto_ret])
          go_ret
          exact ⟨by rw [HN.out]; rfl, fun l'' e => (by rw [HN.out] at e; cases e), ⟨_, HL.out⟩, HK.out⟩
        | some n =>
          have HE : Hid (fldT lw hg2 l' 1 f = some { l' with i := { l'.i with b := n } }) := hide (by simp [fldT, hr])
          rw [hr] at HRg
          have c0 := HL.out.cells
          have cx := c0.2.2.2.2.1
          have fx := HL.out.frz 4
          clear hr HM c0
          go_wp2_with fail
          refine (HRg.out _).mono ?_
          rintro e w3 ⟨rfl, rfl⟩
          have HK3 := hide (Kp.set (j := 4) (Kp.refl g w3) (.int .i64 (n : Int)))
          have HL3 := hide (HL.out.b (n : Int))
          have HR3 := hide (HR.out.kp HK3.out)
          have HF3 := hide (HFj.out.kp HK3.out)
          have HK4 := hide (HK.out.trans HK3.out)
          clear HL HR HFj HK HK3
          go_wp2
          refine ⟨⟨j + 1, _, by simp, by simp, by omega, HSt2.out _ HE.out, HL3.out, HR3.out, HF3.out, HK4.out⟩, ?_⟩
          simp [intOf]
          omega
      · -- a number or a label
        have HE : Hid (fldT lw hg2 l' 2 f = immT l' f lw hg2) := hide (by simp [fldT])
        cases hi2 : immT l' f lw hg2 with
        | none =>
          rw [hi2] at HE HM
          have HN : Hid (insT no l fs = none) := hide (by rw [HSt.out, HE.out]; rfl)
          clear hi2 HE HSt HSt2
          go_wp2_with fail
          refine (HRg.out _).mono ?_
          rintro e w3 ⟨rfl, rfl⟩
          go_wp2_with fail
          refine HM.out.mono ?_
          rintro e w4 ⟨rfl, _, ⟨l9, hl9⟩, hk9⟩
          have HL9 := hide hl9
          have cb9 := cell_kp cb hk9 (by rw [add_block]; exact hbb)
          have HK9 := hide (HK.out.trans hk9)
          clear hl9 hk9 cb HL HR HFj HK HM
          go_wp2
          (try rw [Exit.noGoto_ret])
          go_ret
          exact ⟨by rw [HN.out]; rfl, fun l'' e => (by rw [HN.out] at e; cases e), ⟨_, HL9.out⟩, HK9.out⟩
        | some l9 =>
          rw [hi2] at HE HM
          clear hi2
          go_wp2_with fail
          refine (HRg.out _).mono ?_
          rintro e w3 ⟨rfl, rfl⟩
          go_wp2_with fail
          refine HM.out.mono ?_
          rintro e w4 ⟨rfl, hl9, _, hk9⟩
          have HL9 := hide (hl9 _ rfl)
          have HR9 := hide (HR.out.kp hk9)
          have HF9 := hide (HFj.out.kp hk9)
          have HK9 := hide (HK.out.trans hk9)
          clear hl9 hk9 HL HR HFj HK HM
          go_wp2
          refine ⟨⟨j + 1, _, by simp, by simp, by omega, HSt2.out _ HE.out, HL9.out, HR9.out, HF9.out, HK9.out⟩, ?_⟩
          simp [intOf]
          omega
    · obtain rfl : j = ks.length := by omega
      have HN : Hid (insT no l fs = some l') := hide (by
        rw [HV2.out, hst, List.drop_length, ← hlen, List.drop_length]; rfl)
      have HL := hide hLj
      have HK := hide hKj
      have hd : ¬ (ks.length : Int) < (fs.length : Int) := by omega
      clear hst hLj hRj hFj hKj
      go_wp2
      (try rw [Exit.noGoto_ret])
      go_ret
      exact ⟨by rw [HN.out]; rfl, fun l'' e => (by rw [HN.out] at e; cases e; exact HL.out), ⟨_, HL.out⟩, HK.out⟩
  · have HN : Hid (insT no l fs = none) := hide (by rw [HV.out, if_neg hlen])
    have hlenI : ((fs.length : Int) != (ks.length : Int)) = true := by simp; omega
    go_wp2
    (try rw [Exit.noGoto_ret])
    go_ret
    exact ⟨by rw [HN.out]; rfl, fun l'' e => (by rw [HN.out] at e; cases e), ⟨_, HL1.out⟩, HK1.out⟩
end
end Go.Proofs.YtbfagiofhakjnaaDoor

namespace Go.Proofs.YtbfagiofhakjnaaDoor
open Go.RowKit
theorem opT_lt (s : Tx) : opT s < 27 := by
  unfold opT
  cases h : (List.range 27).find? (fun n => n != 0 && nm n == s) with
  | none => decide
  | some k => exact List.mem_range.1 (List.mem_of_find?_eq_some h)
theorem Ops.kp {w w' : World} {g : Nat} (h : Ops w) (hk : Kp g w w') (hg : 1 ≠ g) : Ops w' := by
  have hc : ∀ o v, w.cell? ⟨1, o, none⟩ = some v → w'.cell? ⟨1, o, none⟩ = some v := fun o v hv => cell_kp hv hk hg
  exact ⟨fun n hn => by obtain ⟨s, h1, h2⟩ := h.s n hn; exact ⟨s, hc _ _ h1, h2⟩, fun n hn => hc _ _ (h.a n hn), fun n hn => hc _ _ (h.b n hn), fun n hn => hc _ _ (h.k n hn)⟩
theorem addA0 (a : Addr) : a.add 0 = a := by
  obtain ⟨b, o, p⟩ := a
  cases p <;> simp [Addr.add]
/-- a line with one word -/
def ln1 : Ln := { ln0 with words := 1 }
section
variable (w : World)
set_option maxRecDepth 100000 in
set_option maxHeartbeats 4000000 in
theorem readFields_any (g : Nat) (name : Tx) (ao : Option Addr) (cap : Nat) (fs : List Tx) (hn : name.length ≤ 16384) (hf : ∀ f ∈ fs, f.length ≤ 16384) (hfl : fs.length ≤ 16385) (hL : LnAt w g ln0) (hR : Row w g ao (strs fs)) (hO : Ops w) (hg : 1 ≠ g) :
    Calls Tryd.prog 48 #[.pointer (some ⟨g, 0, none⟩), .string ⟨name.toArray⟩, .slice ao fs.length cap] w fun e w' => e = .returned (.bool (stmT name fs).isSome) ∧ (∀ l', stmT name fs = some l' → LnAt w' g l') ∧ (∃ l', LnAt w' g l') ∧ Kp g w w' := by
  have c7 := hL.cells.2.2.2.2.2.2.2
  have f7 := hL.frz 7
  have HL : Hid (LnAt (w.setCell ⟨g, 7, none⟩ (.int .i64 1)) g ln1) := hide (hL.words 1)
  have HK : Hid (Kp g w (w.setCell ⟨g, 7, none⟩ (.int .i64 1))) := hide (Kp.set (Kp.refl g w) _)
  have HR := hide (hR.kp HK.out)
  have HO := hide (hO.kp HK.out hg)
  have HF := hide hf
  clear hL hR hO hf
  go_enter Tryd.func48, Tryd.ntmps48
  go_upto_region 2 with fail
  generalize w.setCell ⟨g, 7, none⟩ (.int .i64 1) = W at *
  clear c7 f7
  by_cases h1 : name = [46, 119, 111, 114, 100]
  · subst h1
    rcases fs with _ | ⟨f, _ | ⟨f2, r⟩⟩
    · go_wp2
      go_ret
      exact ⟨rfl, fun l' e => (by cases e), ⟨_, HL.out⟩, HK.out⟩
    · have hf1 := HF.out f (by simp)
      obtain ⟨a, rfl, hab, ca⟩ := HR.out 0 (by simp [strs])
      have ca2 : W.cell? a = some (.string ⟨f.toArray⟩) := by rw [← addA0 a]; exact ca
      have HV : Hid (stmT [46, 119, 111, 114, 100] [f] = immT ln1 f (-2147483648) 4294967295) := hide rfl
      have HM := hide (readImm_any W g ln1 f (-2147483648) 4294967295 hf1 HL.out)
      clear ca
      go_wp2_with fail
      refine HM.out.mono ?_
      rintro e w4 ⟨rfl, hl9, hl8, hk9⟩
      have HL9 := hide hl9
      have HL8 := hide hl8
      have HK9 := hide (HK.out.trans hk9)
      clear hl9 hl8 hk9 HM HL HK HR
      go_wp2
      go_ret
      exact ⟨by rw [HV.out]; rfl, by rw [HV.out]; exact HL9.out, HL8.out, HK9.out⟩
    · have hx : ¬ ((r.length + 1 + 1 : Nat) : Int) = 1 := by omega
      go_wp2
      go_ret
      exact ⟨rfl, fun l' e => (by cases e), ⟨_, HL.out⟩, HK.out⟩
  by_cases h2 : name = [46, 122, 101, 114, 111]
  · subst h2
    clear h1
    rcases fs with _ | ⟨f, _ | ⟨f2, r⟩⟩
    · go_wp2
      go_ret
      exact ⟨rfl, fun l' e => (by cases e), ⟨_, HL.out⟩, HK.out⟩
    · have hf1 := HF.out f (by simp)
      obtain ⟨a, rfl, hab, ca⟩ := HR.out 0 (by simp [strs])
      have ca2 : W.cell? a = some (.string ⟨f.toArray⟩) := by rw [← addA0 a]; exact ca
      have HV : Hid (stmT [46, 122, 101, 114, 111] [f] = cntT ln1 f) := hide rfl
      have HM := hide (readCount_any W g ln1 f hf1 HL.out)
      clear ca
      go_wp2_with fail
      refine HM.out.mono ?_
      rintro e w4 ⟨rfl, hl9, hl8, hk9⟩
      have HL9 := hide hl9
      have HL8 := hide hl8
      have HK9 := hide (HK.out.trans hk9)
      clear hl9 hl8 hk9 HM HL HK HR
      go_wp2
      go_ret
      exact ⟨by rw [HV.out]; rfl, by rw [HV.out]; exact HL9.out, HL8.out, HK9.out⟩
    · have hx : ¬ ((r.length + 1 + 1 : Nat) : Int) = 1 := by omega
      go_wp2
      go_ret
      exact ⟨rfl, fun l' e => (by cases e), ⟨_, HL.out⟩, HK.out⟩
  have e1 : (name == [46, 119, 111, 114, 100]) = false := by simpa using h1
  have e2 : (name == [46, 122, 101, 114, 111]) = false := by simpa using h2
  have HV : Hid (stmT name fs = if opT name = 0 then none else insT (opT name) { ln1 with i := ⟨(opT name : Nat), 0, 0, 0⟩ } fs) := hide (by
    unfold stmT
    rw [if_neg h1, if_neg h2]
    rfl)
  have hol := opT_lt name
  have HNm := hide (opNamed_any W name HO.out)
  clear h1 h2
  go_wp2_with fail
  refine HNm.out.mono ?_
  rintro e w2 ⟨rfl, hb2⟩
  have hL2 := HL.out.keep hb2
  have c2 := hL2.cells.2.2.1
  have f2 := hL2.frz 2
  have HK3 := hide (Kp.set (j := 2) (Kp.of (g := g) hb2) (.int .i64 (opT name : Nat)))
  have HL3 := hide (hL2.op (opT name : Nat))
  have HR3 := hide (HR.out.kp HK3.out)
  have HO3 := hide (HO.out.kp HK3.out hg)
  have HK4 := hide (HK.out.trans HK3.out)
  clear hb2 hL2 HL HR HO HK HNm
  go_upto_region 8 with fail
  generalize w2.setCell ⟨g, 2, none⟩ (.int .i64 (opT name : Nat)) = W3 at *
  clear c2 f2 HK3
  have c3 : W3.cell? ⟨g, 2, none⟩ = some (.int .i64 (opT name : Nat)) := HL3.out.cells.2.2.1
  by_cases h0 : opT name = 0
  · have HV2 : Hid (stmT name fs = none) := hide (by rw [HV.out, if_pos h0])
    rw [h0] at c3
    clear HV
    go_wp2
    go_ret
    exact ⟨by rw [HV2.out]; rfl, fun l' e => (by rw [HV2.out] at e; cases e), ⟨_, HL3.out⟩, HK4.out⟩
  · have HV2 : Hid (stmT name fs = insT (opT name) { ln1 with i := ⟨(opT name : Nat), 0, 0, 0⟩ } fs) := hide (by rw [HV.out, if_neg h0])
    have HM := hide (readInstr_any W3 g (opT name) { ln1 with i := ⟨(opT name : Nat), 0, 0, 0⟩ } ao cap fs (by omega) hol rfl HF.out hfl HL3.out HR3.out HO3.out)
    have hz : ((opT name : Int) != 0) = true := by simp; omega
    clear HV h0
    generalize opT name = on at *
    go_wp2_with fail
    refine HM.out.mono ?_
    rintro e w4 ⟨rfl, hl9, hl8, hk9⟩
    have HL9 := hide hl9
    have HL8 := hide hl8
    have HK9 := hide (HK4.out.trans hk9)
    clear hl9 hl8 hk9 HM HL3 HK4 HR3
    go_wp2
    go_ret
    exact ⟨by rw [HV2.out]; rfl, by rw [HV2.out]; exact HL9.out, HL8.out, HK9.out⟩
end
end Go.Proofs.YtbfagiofhakjnaaDoor
