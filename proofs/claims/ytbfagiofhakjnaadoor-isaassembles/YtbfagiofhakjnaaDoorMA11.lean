import Derived.Test.YtbfagiofhakjnaaDoorMA02
import Derived.Test.YtbfagiofhakjnaaDoorMA10
namespace Go.Proofs.YtbfagiofhakjnaaDoor
open Go.RowKit
theorem info_w : ∃ i, Tryd.prog.info? 46 = some i ∧ i.zero = some (.int .u32 0) ∧ i.size = 1 ∧ i.bytes = 4 := info_parts (by kernel_rfl)
def wds (ns : List Nat) : List Value := ns.map fun n => .int .u32 (n : Nat)
theorem u32c (z : Int) : IntKind.u32.wrap z = (((z % 4294967296).toNat : Nat) : Int) := by rw [IntKind.wrap_u32]; omega
theorem enc_all (w : World) (i : I) (hO : Ops w) : Calls Tryd.prog 34 #[.agg i.cells.toArray] w fun e w' => e = .returned (.tuple #[.int .u32 (encW i : Nat), .int .i64 (encE i)]) ∧ Below w.heap.size w w' := by
  cases hx : isI i with
  | true =>
    have := enc_yes w i hx hO
    unfold encW encE
    rw [hx]; exact this
  | false =>
    have := enc_no w i hx hO
    unfold encW encE
    rw [hx]; exact this
section
variable (w : World)
set_option maxRecDepth 100000 in
set_option maxHeartbeats 2000000 in
theorem word_any (ps : List (Tx × (Nat × Int))) (l : Ln) (at' : Int) (r : Nat) (ha : 0 ≤ at') (ha2 : at' ≤ 512) (hm : ∀ m, atK KS ps l.name = some m → 0 ≤ m.2 ∧ m.2 ≤ 8389120) (hi : -9223372036854775808 ≤ l.i.imm ∧ l.i.imm ≤ 9223372036854775807) (hL : Lb w r ps) (hO : Ops w) : Calls Tryd.prog 17 #[.agg (lnC l), .int .i64 at', .map (some r)] w fun e w' => e = .returned (.int .u32 (wrdT ps l at' : Nat)) ∧ Below w.heap.size w w' := by
  obtain ⟨wrong, label, ⟨op, ia, ib, imm⟩, name, words⟩ := l
  simp only [lnC] at *
  have HV : Hid (wrdT ps ⟨wrong, label, ⟨op, ia, ib, imm⟩, name, words⟩ at' = if op = 0 then (immW ps ⟨wrong, label, ⟨op, ia, ib, imm⟩, name, words⟩ at' % 4294967296).toNat else encW ⟨op, ia, ib, immW ps ⟨wrong, label, ⟨op, ia, ib, imm⟩, name, words⟩ at'⟩) := hide rfl
  have HI : Hid (immW ps ⟨wrong, label, ⟨op, ia, ib, imm⟩, name, words⟩ at' = if name = [] then imm else if relN op then ((atK KS ps name).getD (0, 0)).2 - (at' + 1) else ((atK KS ps name).getD (0, 0)).2) := hide rfl
  have hB1 := bel1 w (.cells #[.bool wrong, .string ⟨label.toArray⟩, .int .i64 op, .int .i64 ia, .int .i64 ib, .int .i64 imm, .string ⟨name.toArray⟩, .int .i64 words] 35)
  have hB2 := hB1.trans ((bel1 _ (.cells #[.int .i64 op, .int .i64 ia, .int .i64 ib, .int .i64 imm] 33)).mono (by simp))
  have k1 := lookF (hL.keep hB2) name
  rw [mark_val] at k1
  have hf1 := fld1
  have hmm : 0 ≤ ((atK KS ps name).getD (0, 0)).2 ∧ ((atK KS ps name).getD (0, 0)).2 ≤ 8389120 := by
    cases hh : atK KS ps name with
    | none => simp
    | some m => exact hm m hh
  have HOa : Hid (∀ o o', Ops ((w.alloc o).alloc o')) := hide (fun o o' => hO.below (bel2 _ _ _))
  have HBa : Hid (∀ o o', Below w.heap.size w ((w.alloc o).alloc o')) := hide (fun o o' => bel2 _ _ _)
  clear hm hL hO hB1 hB2
  generalize (atK KS ps name).getD (0, 0) = mk at *
  generalize immW ps ⟨wrong, label, ⟨op, ia, ib, imm⟩, name, words⟩ at' = IM at *
  generalize wrdT ps ⟨wrong, label, ⟨op, ia, ib, imm⟩, name, words⟩ at' = WT at *
  by_cases h0 : name = []
  · by_cases hop : op = 0
    · have HZ : Hid (IM = imm) := hide (by rw [HI.out]; rw [if_pos h0])
      have HW : Hid (WT = (IM % 4294967296).toNat) := hide (by rw [HV.out, if_pos hop])
      have hne : List.isEmpty name = true := by simpa using h0
      subst hop
      clear HV HI h0
      go_enter Tryd.func17, Tryd.ntmps17
      go_wp2
      go_ret
      exact ⟨by rw [HW.out, HZ.out]; exact congrArg (fun z => Ending.returned (Value.int .u32 z)) (u32c _), HBa.out _ _⟩
    · have HZ : Hid (IM = imm) := hide (by rw [HI.out]; rw [if_pos h0])
      have HW : Hid (WT = encW ⟨op, ia, ib, IM⟩) := hide (by rw [HV.out, if_neg hop])
      have hopb : (op == 0) = false := by simpa using hop
      have hne : List.isEmpty name = true := by simpa using h0
      clear HV HI h0 hop
      go_enter Tryd.func17, Tryd.ntmps17
      go_wp2_with fail
      refine (enc_all _ ⟨op, ia, ib, imm⟩ (HOa.out _ _)).mono ?_
      rintro e w2 ⟨rfl, hb2⟩
      have HB9 := hide ((HBa.out _ _).trans (hb2.mono (by simp; omega)))
      clear hb2
      go_wp2
      go_ret
      exact ⟨by rw [HW.out, HZ.out]; rfl, HB9.out⟩
  · cases hrel : relN op with
    | false =>
      by_cases hop : op = 0
      · have HZ : Hid (IM = mk.2) := hide (by rw [HI.out]; rw [if_neg h0, hrel]; rfl)
        have HW : Hid (WT = (IM % 4294967296).toNat) := hide (by rw [HV.out, if_pos hop])
        have hne : List.isEmpty name = false := by simpa using h0
        subst hop
        have HRl := hide (fun W => isRel_any W 0)
        have hrel0 : relN 0 = false := rfl
        rw [hrel0] at HRl
        clear HV HI h0 hrel
        go_enter Tryd.func17, Tryd.ntmps17
        go_wp2_with fail
        refine (HRl.out _).mono ?_
        rintro e w1 ⟨rfl, rfl⟩
        go_wp2
        go_ret
        exact ⟨by rw [HW.out, HZ.out]; exact congrArg (fun z => Ending.returned (Value.int .u32 z)) (show mk.2 = (((mk.2 % 4294967296).toNat : Nat) : Int) by omega), HBa.out _ _⟩
      · have HZ : Hid (IM = mk.2) := hide (by rw [HI.out]; rw [if_neg h0, hrel]; rfl)
        have HW : Hid (WT = encW ⟨op, ia, ib, IM⟩) := hide (by rw [HV.out, if_neg hop])
        have hopb : (op == 0) = false := by simpa using hop
        have hne : List.isEmpty name = false := by simpa using h0
        have HRl := hide (fun W => isRel_any W op)
        rw [hrel] at HRl
        clear HV HI h0 hop hrel
        go_enter Tryd.func17, Tryd.ntmps17
        go_wp2_with fail
        refine (HRl.out _).mono ?_
        rintro e w1 ⟨rfl, rfl⟩
        go_wp2_with fail
        refine (enc_all _ ⟨op, ia, ib, mk.2⟩ (HOa.out _ _)).mono ?_
        rintro e w2 ⟨rfl, hb2⟩
        have HB9 := hide ((HBa.out _ _).trans (hb2.mono (by simp; omega)))
        clear hb2
        go_wp2
        go_ret
        exact ⟨by rw [HW.out, HZ.out]; rfl, HB9.out⟩
    | true =>
      have hop : ¬ op = 0 := fun e => by rw [e] at hrel; cases hrel
      have HZ : Hid (IM = mk.2 - (at' + 1)) := hide (by rw [HI.out]; rw [if_neg h0, hrel]; rfl)
      have HW : Hid (WT = encW ⟨op, ia, ib, IM⟩) := hide (by rw [HV.out, if_neg hop])
      have hopb : (op == 0) = false := by simpa using hop
      have hne : List.isEmpty name = false := by simpa using h0
      have hbz : -9223372036854775808 ≤ mk.2 - (at' + 1) ∧ mk.2 - (at' + 1) ≤ 9223372036854775807 := by omega
      have HRl := hide (fun W => isRel_any W op)
      rw [hrel] at HRl
      clear HV HI h0 hop hrel
      go_enter Tryd.func17, Tryd.ntmps17
      go_wp2_with fail
      refine (HRl.out _).mono ?_
      rintro e w1 ⟨rfl, rfl⟩
      go_wp2_with fail
      refine (enc_all _ ⟨op, ia, ib, mk.2 - (at' + 1)⟩ (HOa.out _ _)).mono ?_
      rintro e w2 ⟨rfl, hb2⟩
      have HB9 := hide ((HBa.out _ _).trans (hb2.mono (by simp; omega)))
      clear hb2
      go_wp2
      go_ret
      exact ⟨by rw [HW.out, HZ.out]; rfl, HB9.out⟩
end
end Go.Proofs.YtbfagiofhakjnaaDoor

namespace Go.Proofs.YtbfagiofhakjnaaDoor
open Go.RowKit
/-- a line as it comes out of a text -/
structure LnOk (l : Ln) : Prop where
  w0 : 0 ≤ l.words
  w1 : l.words ≤ 512
  i0 : -2147483648 ≤ l.i.imm
  i1 : l.i.imm ≤ 4294967295
theorem ok0 : LnOk ln0 := ⟨by decide, by decide, by decide, by decide⟩
theorem okBad : LnOk lnBad := ⟨by decide, by decide, by decide, by decide⟩
theorem immT_ok {l l' : Ln} {f : Tx} {a b : Int} (h : LnOk l) (ha : -2147483648 ≤ a) (hb : b ≤ 4294967295) (e : immT l f a b = some l') : LnOk l' := by
  unfold immT at e
  split at e
  · cases e; exact ⟨h.w0, h.w1, h.i0, h.i1⟩
  · split at e
    · split at e
      · next n _ hn => cases e; exact ⟨h.w0, h.w1, by show -2147483648 ≤ n; omega, by show n ≤ 4294967295; omega⟩
      · cases e
    · cases e
theorem fldT_ok {l l' : Ln} {f : Tx} {a b k : Int} (h : LnOk l) (ha : -2147483648 ≤ a) (hb : b ≤ 4294967295) (e : fldT a b l k f = some l') : LnOk l' := by
  unfold fldT at e
  split at e
  · exact immT_ok h ha hb e
  · split at e
    · split at e
      · cases e; exact ⟨h.w0, h.w1, h.i0, h.i1⟩
      · cases e; exact ⟨h.w0, h.w1, h.i0, h.i1⟩
    · cases e
theorem fldsT_ok {a b : Int} (ha : -2147483648 ≤ a) (hb : b ≤ 4294967295) : ∀ (ks : List Int) (fs : List Tx) (l l' : Ln), LnOk l → fldsT a b l ks fs = some l' → LnOk l'
  | [], [], l, l', h, e => by simp [fldsT] at e; subst e; exact h
  | [], _ :: _, l, l', h, e => by simp [fldsT] at e
  | _ :: _, [], l, l', h, e => by simp [fldsT] at e
  | k :: ks, f :: fs, l, l', h, e => by
    simp only [fldsT] at e
    cases h1 : fldT a b l k f with
    | none => rw [h1] at e; simp at e
    | some l2 =>
      rw [h1] at e
      exact fldsT_ok ha hb ks fs l2 l' (fldT_ok h ha hb h1) e
theorem lo_ge (n : Nat) : -2147483648 ≤ lo n := by unfold lo; split <;> omega
theorem hi_le (n : Nat) : hi n ≤ 4294967295 := by unfold hi; split <;> (try split) <;> omega
theorem stmT_ok {name : Tx} {fs : List Tx} {l : Ln} (e : stmT name fs = some l) : LnOk l := by
  have h1 : LnOk { ln0 with words := 1 } := ⟨by decide, by decide, by decide, by decide⟩
  unfold stmT at e
  split at e
  · split at e
    · exact immT_ok h1 (by decide) (by decide) e
    · cases e
  · split at e
    · split at e
      · split at e
        · split at e
          · next n _ hn => cases e; exact ⟨by show 0 ≤ n; omega, by show n ≤ 512; omega, by show (-2147483648 : Int) ≤ 0; decide, by show (0 : Int) ≤ 4294967295; decide⟩
          · cases e
        · cases e
      · cases e
    · split at e
      · cases e
      · split at e
        · exact fldsT_ok (lo_ge _) (hi_le _) _ _ { ln0 with i := ⟨(opT name : Nat), 0, 0, 0⟩, words := 1 } l ⟨by show (0 : Int) ≤ 1; decide, by show (1 : Int) ≤ 512; decide, by show (-2147483648 : Int) ≤ 0; decide, by show (0 : Int) ≤ 4294967295; decide⟩ e
        · cases e
theorem stT_ok (s : Tx) : LnOk (stT s) := by
  unfold stT
  split
  · exact ok0
  · simp only []
    cases h : stmT ((cutT [32, 9] s).getD (s, [])).1 (sfT ((cutT [32, 9] s).getD (s, [])).2) with
    | none => exact okBad
    | some l => exact stmT_ok h
theorem lineT_ok (s : Tx) : LnOk (lineT s) := by
  unfold lineT
  simp only []
  split
  · exact stT_ok _
  · split
    · next a b _ _ =>
      have h := stT_ok (trimT b)
      exact ⟨h.w0, h.w1, h.i0, h.i1⟩
    · exact okBad
theorem lbs_bound {ls : List Ln} (hl : ls.length ≤ 16385) (hw : ∀ l ∈ ls, 0 ≤ l.words ∧ l.words ≤ 512) : ∀ k, k ≤ ls.length → ∀ p ∈ lbs ls k, 0 ≤ p.2.2 ∧ p.2.2 ≤ 8389120
  | 0, _, p, hp => by simp [lbs] at hp
  | k + 1, hk, p, hp => by
    have ih := lbs_bound hl hw k (by omega)
    have hb := ahd_bound hw k (by omega)
    rw [lbs, List.getElem?_eq_getElem hk] at hp
    simp only [] at hp
    split at hp
    · rcases List.mem_append.1 hp with h | h
      · exact ih p h
      · simp at h
        subst h
        show 0 ≤ ahd ls k ∧ ahd ls k ≤ 8389120
        omega
    · exact ih p hp
theorem atK_bound {ps : List (Tx × (Nat × Int))} (h : ∀ p ∈ ps, 0 ≤ p.2.2 ∧ p.2.2 ≤ 8389120) (s : Tx) : ∀ m, atK KS ps s = some m → 0 ≤ m.2 ∧ m.2 ≤ 8389120 := by
  intro m hm
  unfold atK at hm
  obtain ⟨p, hp, rfl⟩ := Option.map_eq_some_iff.1 hm
  exact h p (List.mem_of_find?_eq_some hp)
/-- the lines one by one -/
def asmL (ps : List (Tx × (Nat × Int))) : List Ln → Nat → List Nat → List Nat × Nat × Int
  | [], _, ws => (ws, 0, 0)
  | l :: r, k, ws => if fltT ps l k ws.length = 0 then asmL ps r (k + 1) (ws ++ List.replicate l.words.toNat (wrdT ps l ws.length)) else ([], k + 1, fltT ps l k ws.length)
def linesT (s : Tx) : List Ln := (splitT 10 s).map lineT
/-- what a text gives -/
def asmT (s : Tx) : List Nat × Nat × Int :=
  if 16384 < s.length then ([], 0, 41) else asmL (lbs (linesT s) (linesT s).length) (linesT s) 0 []
section
variable (w : World)
set_option maxRecDepth 100000 in
set_option maxHeartbeats 2000000 in
theorem give_any (ps : List (Tx × (Nat × Int))) (l : Ln) (ws : List Nat) (v : Value) (base r : Nat) (hk : LnOk l) (hm : ∀ m, atK KS ps l.name = some m → 0 ≤ m.2 ∧ m.2 ≤ 8389120) (hn : ws.length ≤ 512) (hO : w.ownsRow base 46 1 v ws.length (wds ws)) (hB : base ≤ w.heap.size) (hL : Lb w r ps) (hOp : Ops w) :
    Calls Tryd.prog 10 #[.agg (lnC l), v, .map (some r)] w fun e w' => ∃ v', e = .returned v' ∧ w'.ownsRow base 46 1 v' (ws ++ List.replicate l.words.toNat (wrdT ps l ws.length)).length (wds (ws ++ List.replicate l.words.toNat (wrdT ps l ws.length))) ∧ Below base w w' := by
  obtain ⟨i9, hi, hz, hsz, hb⟩ := info_w
  have HWd := hide (fun W (h1 : Lb W r ps) (h2 : Ops W) => word_any W ps l (ws.length : Int) r (by omega) (by omega) hm ⟨by have := hk.i0; omega, by have := hk.i1; omega⟩ h1 h2)
  have hw0 := hk.w0
  have hw1 := hk.w1
  generalize wrdT ps l (ws.length : Int) = x at *
  obtain ⟨wrong, label, ⟨op, ia, ib, imm⟩, name, words⟩ := l
  simp only [lnC] at *
  have hb1 := bel1 w (.cells #[.bool wrong, .string ⟨label.toArray⟩, .int .i64 op, .int .i64 ia, .int .i64 ib, .int .i64 imm, .string ⟨name.toArray⟩, .int .i64 words] 35)
  have HOp1 := hide (hOp.below hb1)
  have HL1 := hide (hL.keep hb1)
  have HO1 := hide (own_keep hO hb1)
  have HB1 := hide (hb1.mono hB)
  obtain ⟨au, cu, rfl⟩ := own_shape hO
  clear hO hL hOp hk hm hb1
  go_enter Tryd.func10, Tryd.ntmps10
  go_wp2_with fail
  refine (HWd.out _ HL1.out HOp1.out).mono ?_
  rintro e w1 ⟨rfl, hb2⟩
  have HO2 := hide (own_keep HO1.out hb2)
  have HB2 := hide (HB1.out.trans (hb2.mono (by simp; omega)))
  have hs2 := hb2.size
  simp only [World.size_alloc] at hs2
  have c7 : w1.cell? ⟨w.heap.size, 7, none⟩ = some (.int .i64 words) := by
    rw [hb2.cell (p := ⟨w.heap.size, 7, none⟩) (by simp), World.cell?_alloc_new]; rfl
  clear hb2 HO1 HB1 HL1 HOp1 HWd
  go_upto_region 3 with fail
  go_loopw [1, 15] (fun v u wr => ∃ j : Nat, u = .int .i64 (j : Int) ∧ (j : Int) ≤ words ∧ wr.ownsRow base 46 1 v (ws ++ List.replicate j x).length (wds (ws ++ List.replicate j x)) ∧ Below base w wr ∧ base ≤ wr.heap.size) (fun _ u _ => (words - intOf u).toNat)
  case atStart => exact ⟨0, rfl, by simpa using hw0, by simpa using HO2.out, HB2.out, by omega⟩
  case round =>
  obtain ⟨j, rfl, hj, hOw, hBw, hsw⟩ := hrel
  obtain ⟨a2, c2, rfl⟩ := own_shape hOw
  have HOw := hide hOw
  have HBw := hide hBw
  have hlen : (ws ++ List.replicate j x).length ≤ 1024 := by simp; omega
  clear hOw hBw HO2 HB2
  by_cases hlt : (j : Int) < words
  · have HE : Hid (wds (ws ++ List.replicate (j + 1) x) = wds (ws ++ List.replicate j x) ++ [.int .u32 (x : Nat)]) := hide (by
      rw [List.replicate_succ', ← List.append_assoc]; simp [wds])
    have HE2 : Hid ((ws ++ List.replicate (j + 1) x).length = (ws ++ List.replicate j x).length + 1) := hide (by simp; omega)
    generalize ws ++ List.replicate j x = wj at *
    go_upto_region 5 with (at_builtin; refine wpList_append_own _ rfl _ _ 22 rfl base 46 i9 (.int .u32 0) 1 4 Tryd.underlying22 hi hz hsz hb rfl (by decide) _ _ _ rfl (HOw.out.alloc _) ⟨_, 0, none⟩ 1 1 [.int .u32 (x : Nat)] rfl rfl (cell_one_new _ _ _) (by simp [Value.oneCell']) (by unfold maxLen; omega) (by omega) (by simp; omega) ?_; intro v3 w3 ho3 hg3 _; obtain ⟨a3, c3, rfl⟩ := own_shape ho3)
    have HO3 : Hid (w3.ownsRow base 46 1 (.slice a3 (wj.length + 1) c3) (ws ++ List.replicate (j + 1) x).length (wds (ws ++ List.replicate (j + 1) x))) := hide (by rw [HE.out, HE2.out]; exact ho3)
    have HB3 := hide ((HBw.out.alloc hsw _).grown hg3 (by simp; omega) (fun k hk => (HOw.out.lt k hk).1))
    have hs3 : base ≤ w3.heap.size := Nat.le_trans (by simp; omega) hg3.size
    clear ho3 hg3 HOw HBw
    go_wp2
    refine ⟨⟨j + 1, by simp, by omega, HO3.out, HB3.out, hs3⟩, ?_⟩
    simp [intOf]
    omega
  · have ej : j = words.toNat := by omega
    have hx : ¬ (j : Int) < words := hlt
    have HV : Hid (ws ++ List.replicate words.toNat x = ws ++ List.replicate j x) := hide (by rw [← ej])
    have HLn : Hid ((ws ++ List.replicate j x).length = ws.length + words.toNat) := hide (by simp; omega)
    clear ej hlt
    generalize ws ++ List.replicate j x = wj at *
    go_wp2
    go_ret
    exact ⟨_, rfl, by rw [HV.out, ← HLn.out]; exact HOw.out, HBw.out⟩
end
end Go.Proofs.YtbfagiofhakjnaaDoor

namespace Go.Proofs.YtbfagiofhakjnaaDoor
open Go.RowKit
/-- a sign that parts nothing -/
def plC (c : UInt8) : Bool := !([32, 9, 44, 58, 59, 10].contains c)
/-- a text of such signs -/
structure Pf (f : Tx) : Prop where
  ne : f ≠ []
  all : ∀ x ∈ f, plC x = true
theorem pl_not {c : UInt8} {ms : Tx} (h : plC c = true) (hm : ∀ x ∈ ms, x ∈ ([32, 9, 44, 58, 59, 10] : Tx)) : ms.contains c = false := by
  cases e : ms.contains c with
  | false => rfl
  | true =>
    have h1 := hm c (List.contains_iff_mem.1 e)
    have h2 : ([32, 9, 44, 58, 59, 10] : Tx).contains c = true := List.contains_iff_mem.2 h1
    unfold plC at h
    rw [h2] at h
    cases h
theorem pl_ne {c m : UInt8} (h : plC c = true) (hm : m ∈ ([32, 9, 44, 58, 59, 10] : Tx)) : (c == m) = false := by
  cases e : (c == m) with
  | false => rfl
  | true =>
    have : c = m := by simpa using e
    subst this
    have h2 : ([32, 9, 44, 58, 59, 10] : Tx).contains c = true := List.contains_iff_mem.2 hm
    unfold plC at h
    rw [h2] at h
    cases h
theorem cut_free (ms : Tx) : ∀ a : Tx, (∀ x ∈ a, ms.contains x = false) → cutT ms a = none
  | [], _ => rfl
  | c :: r, h => by
    rw [cutT, h c (by simp), cut_free ms r fun x hx => h x (by simp [hx])]
    rfl
theorem cut_mark (ms : Tx) (m : UInt8) (b : Tx) (hm : ms.contains m = true) : ∀ a : Tx, (∀ x ∈ a, ms.contains x = false) → cutT ms (a ++ m :: b) = some (a, b)
  | [], _ => by show cutT ms (m :: b) = _; rw [cutT, hm]; rfl
  | c :: r, h => by
    show cutT ms (c :: (r ++ m :: b)) = _
    rw [cutT, h c (by simp), cut_mark ms m b hm r fun x hx => h x (by simp [hx])]
    rfl
/-- nothing to trim -/
theorem trim_id {s : Tx} (h1 : ∀ c, s.head? = some c → plC c = true) (h2 : ∀ c, s.getLast? = some c → plC c = true) : trimT s = s := by
  have nb : ∀ c, plC c = true → ([32, 9] : Tx).contains c = false := fun c h => pl_not h (by decide)
  have e1 : Lib.trimRightS s [32, 9] = s := by
    rw [Lib.trimRightS_take s [32, 9] s.length (Nat.le_refl _) (fun j b hj hb => by rw [List.getElem?_eq_none (by omega)] at hb; cases hb) (fun b _ hb => nb b (h2 b (by rw [List.getLast?_eq_getElem?]; exact hb)))]
    simp
  unfold trimT Lib.trimS
  rw [e1, Lib.trimLeftS_drop s [32, 9] 0 (by omega) (fun j b hj _ => by omega) (fun b hb => nb b (h1 b (by rw [List.head?_eq_getElem?]; exact hb)))]
  rfl
theorem Pf.head {f : Tx} (h : Pf f) : ∀ c, f.head? = some c → plC c = true := fun c hc => h.all c (List.mem_of_mem_head? hc)
theorem Pf.last {f : Tx} (h : Pf f) : ∀ c, f.getLast? = some c → plC c = true := fun c hc => h.all c (List.mem_of_getLast? hc)
theorem Pf.trim {f : Tx} (h : Pf f) : trimT f = f := trim_id h.head h.last
theorem Pf.trim1 {f : Tx} (h : Pf f) : trimT (32 :: f) = f := by
  have h0 := h.trim
  have hl : 0 < f.length := List.length_pos_iff.2 h.ne
  have nb : ∀ c, plC c = true → ([32, 9] : Tx).contains c = false := fun c h => pl_not h (by decide)
  have e1 : Lib.trimRightS (32 :: f) [32, 9] = 32 :: f := by
    rw [Lib.trimRightS_take (32 :: f) [32, 9] (32 :: f).length (Nat.le_refl _) (fun j b hj hb => by rw [List.getElem?_eq_none (by omega)] at hb; cases hb) (fun b _ hb => nb b (h.last b (by
      rw [List.getLast?_eq_getElem?]
      rw [List.length_cons, Nat.add_sub_cancel] at hb
      rw [show f.length = (f.length - 1) + 1 by omega, List.getElem?_cons_succ] at hb
      exact hb)))]
    simp
  unfold trimT Lib.trimS
  rw [e1, Lib.trimLeftS_drop (32 :: f) [32, 9] 1 (by simp) (fun j b hj hb => by
    obtain rfl : j = 0 := by omega
    simp at hb
    subst hb
    decide) (fun b hb => nb b (h.head b (by rw [List.head?_eq_getElem?]; simpa using hb)))]
  rfl
theorem jn_last (fs : List Tx) (hf : ∀ f ∈ fs, Pf f) : ∀ (a : Tx), (∀ c, a.getLast? = some c → plC c = true) → ∀ c, (a ++ jn [44, 32] fs).getLast? = some c → plC c = true := by
  induction fs with
  | nil => intro a ha c hc; exact ha c (by simpa [jn] using hc)
  | cons g r ih =>
    intro a ha c hc
    have hg := hf g (by simp)
    refine ih (fun f h => hf f (by simp [h])) (a ++ 44 :: 32 :: g) (fun c hc => hg.last c ?_) c (by simpa [jn] using hc)
    have hne := hg.ne
    rw [show a ++ 44 :: 32 :: g = (a ++ [44, 32]) ++ g by simp, List.getLast?_append] at hc
    obtain ⟨z, hz⟩ := Option.isSome_iff_exists.1 (List.getLast?_isSome.2 hne)
    rw [hz] at hc ⊢
    simpa using hc
theorem split_jn (fs : List Tx) (hf : ∀ f ∈ fs, Pf f) : ∀ (a : Tx), (∀ x ∈ a, (x == (44 : UInt8)) = false) → splitT 44 (a ++ jn [44, 32] fs) = a :: fs.map (32 :: ·) := by
  induction fs with
  | nil => intro a ha; simp only [jn, List.append_nil, List.map_nil]; exact split_end 44 a ha
  | cons g r ih =>
    intro a ha
    have hg := hf g (by simp)
    rw [show a ++ jn [44, 32] (g :: r) = a ++ 44 :: ((32 :: g) ++ jn [44, 32] r) by simp [jn], split_mark 44 a _ ha, ih (fun f h => hf f (by simp [h])) (32 :: g) (fun x hx => by
      rcases List.mem_cons.1 hx with rfl | h
      · decide
      · exact pl_ne (hg.all x h) (by decide))]
    rfl
theorem sf_jn {f : Tx} {r : List Tx} (h : Pf f) (hr : ∀ g ∈ r, Pf g) : sfT (f ++ jn [44, 32] r) = f :: r := by
  have ht : trimT (f ++ jn [44, 32] r) = f ++ jn [44, 32] r := trim_id (fun c hc => h.head c (by
    obtain ⟨z, hz⟩ := Option.isSome_iff_exists.1 (List.isSome_head?.2 h.ne)
    rw [List.head?_append, hz] at hc
    rw [hz]
    simpa using hc)) (jn_last r hr f h.last)
  unfold sfT
  rw [ht, if_neg (by have := h.ne; simp [this]), split_jn r hr f fun x hx => pl_ne (h.all x hx) (by decide)]
  rw [List.map_cons, h.trim, List.map_map]
  congr 1
  conv => rhs; rw [← List.map_id r]
  exact List.map_congr_left fun g hg => (hr g hg).trim1
theorem jn_all (ms : Tx) (h44 : ms.contains 44 = false) (h32 : ms.contains 32 = false) (hm : ∀ x ∈ ms, x ∈ ([32, 9, 44, 58, 59, 10] : Tx)) (fs : List Tx) (hf : ∀ f ∈ fs, Pf f) : ∀ sep : Tx, (∀ x ∈ sep, ms.contains x = false) → ∀ x ∈ jn sep fs, ms.contains x = false := by
  induction fs with
  | nil => intro sep _ x hx; simp [jn] at hx
  | cons g r ih =>
    intro sep hs x hx
    rw [jn] at hx
    rcases List.mem_append.1 hx with h | h
    · exact hs x h
    · rcases List.mem_append.1 h with h | h
      · exact pl_not ((hf g (by simp)).all x h) hm
      · refine ih (fun f h => hf f (by simp [h])) [44, 32] (fun y hy => ?_) x h
        rcases List.mem_cons.1 hy with rfl | hy
        · exact h44
        · obtain rfl : y = 32 := by simpa using hy
          exact h32
theorem line_all (ms : Tx) (h44 : ms.contains 44 = false) (h32 : ms.contains 32 = false) (hm : ∀ x ∈ ms, x ∈ ([32, 9, 44, 58, 59, 10] : Tx)) {name : Tx} {fs : List Tx} (hn : Pf name) (hf : ∀ f ∈ fs, Pf f) : ∀ x ∈ name ++ jn [32] fs, ms.contains x = false := by
  intro x hx
  rcases List.mem_append.1 hx with h | h
  · exact pl_not (hn.all x h) hm
  · exact jn_all ms h44 h32 hm fs hf [32] (fun y hy => by obtain rfl : y = 32 := by simpa using hy
                                                          exact h32) x h
/-- a line of a name and its fields -/
theorem line_of {name : Tx} {fs : List Tx} (hn : Pf name) (hf : ∀ f ∈ fs, Pf f) : lineT (name ++ jn [32] fs) = (stmT name fs).getD lnBad := by
  have ht : trimT (name ++ jn [32] fs) = name ++ jn [32] fs := by
    refine trim_id (fun c hc => hn.head c (by
      obtain ⟨z, hz⟩ := Option.isSome_iff_exists.1 (List.isSome_head?.2 hn.ne)
      rw [List.head?_append, hz] at hc
      rw [hz]
      simpa using hc)) ?_
    cases fs with
    | nil => simpa [jn] using hn.last
    | cons f r =>
      have hff := hf f (by simp)
      rw [jn, ← List.append_assoc, ← List.append_assoc]
      refine jn_last r (fun g hg => hf g (by simp [hg])) _ fun c hc => hff.last c ?_
      obtain ⟨z, hz⟩ := Option.isSome_iff_exists.1 (List.getLast?_isSome.2 hff.ne)
      rw [List.getLast?_append, hz] at hc
      rw [hz]
      simpa using hc
  unfold lineT
  rw [cut_free [59] _ (line_all [59] (by decide) (by decide) (by decide) hn hf)]
  simp only [Option.getD_none]
  rw [ht, cut_free [58] _ (line_all [58] (by decide) (by decide) (by decide) hn hf)]
  simp only []
  unfold stT
  rw [if_neg (by have := hn.ne; simp [this])]
  cases fs with
  | nil =>
    simp only [jn, List.append_nil]
    rw [cut_free [32, 9] name fun x hx => pl_not (hn.all x hx) (by decide)]
    rfl
  | cons f r =>
    rw [show name ++ jn [32] (f :: r) = name ++ 32 :: (f ++ jn [44, 32] r) by simp [jn], cut_mark [32, 9] 32 _ (by decide) name fun x hx => pl_not (hn.all x hx) (by decide)]
    simp only [Option.getD_some]
    rw [sf_jn (hf f (by simp)) fun g hg => hf g (by simp [hg])]
/-- the digits of a number -/
theorem digV_dec {k : Nat} (h : k < 10) : digV (UInt8.ofNat (48 + k)) = k := by
  have : ∀ k : Fin 10, digV (UInt8.ofNat (48 + k.val)) = k.val := by decide
  exact this ⟨k, h⟩
theorem dec_ne (u : Nat) : Lib.decDigits u ≠ [] := by
  have := Lib.decDigits_length u
  have h2 := Lib.nDigits_pos u
  intro e
  rw [e] at this
  simp at this
  omega
theorem dec_dig (u : Nat) : ∀ x ∈ Lib.decDigits u, isDig x = true := by
  induction u using Nat.strongRecOn with
  | _ u ih =>
    have hd : ∀ k : Fin 10, isDig (UInt8.ofNat (48 + k.val)) = true := by decide
    by_cases h : u < 10
    · rw [Lib.decDigits, dif_pos h]
      intro x hx
      obtain rfl : x = UInt8.ofNat (48 + u) := by simpa using hx
      exact hd ⟨u, h⟩
    · rw [Lib.decDigits, dif_neg h]
      intro x hx
      rcases List.mem_append.1 hx with h1 | h1
      · exact ih (u / 10) (by omega) x h1
      · obtain rfl : x = UInt8.ofNat (48 + u % 10) := by simpa using h1
        exact hd ⟨u % 10, Nat.mod_lt _ (by decide)⟩
theorem numF_dec (u : Nat) : numF 10 0 (Lib.decDigits u) = some u := by
  induction u using Nat.strongRecOn with
  | _ u ih =>
    by_cases h : u < 10
    · rw [Lib.decDigits, dif_pos h]
      rw [numF, digV_dec h, if_pos h, numF]
      congr 1
      omega
    · rw [Lib.decDigits, dif_neg h, numF_snoc, ih (u / 10) (by omega), digV_dec (Nat.mod_lt _ (by decide))]
      simp only [Option.bind_some]
      rw [if_pos (Nat.mod_lt _ (by decide))]
      congr 1
      omega
theorem dig_pl {c : UInt8} (h : isDig c = true) : plC c = true := by
  cases e : plC c with
  | true => rfl
  | false =>
    unfold plC at e
    have h1 : c ∈ ([32, 9, 44, 58, 59, 10] : Tx) := List.contains_iff_mem.1 (by rw [Bool.not_eq_false'] at e; exact e)
    have h2 : ∀ x ∈ ([32, 9, 44, 58, 59, 10] : Tx), isDig x = false := by decide
    rw [h2 c h1] at h
    cases h
theorem dig_let {c : UInt8} (h : isDig c = true) : isLet c = false := by
  unfold isDig at h
  unfold isLet
  simp at h ⊢
  omega
theorem dig_abs {s : Tx} (h : ∀ x ∈ s, isDig x = true) : Lib.hasPrefix s [45] = false ∧ Lib.hasPrefix s [48, 120] = false := by
  have h45 : isDig 45 = false := by decide
  have h120 : isDig 120 = false := by decide
  constructor
  · cases e : Lib.hasPrefix s [45] with
    | false => rfl
    | true =>
      obtain ⟨t, rfl⟩ := List.isPrefixOf_iff_prefix.1 e
      have := h 45 (by simp)
      rw [h45] at this
      cases this
  · cases e : Lib.hasPrefix s [48, 120] with
    | false => rfl
    | true =>
      obtain ⟨t, rfl⟩ := List.isPrefixOf_iff_prefix.1 e
      have := h 120 (by simp)
      rw [h120] at this
      cases this
/-- a number within ten digits is read again -/
theorem num_dec {u : Nat} (h : u < 10000000000) : numT (Lib.decDigits u) = some (u : Int) ∧ numT (45 :: Lib.decDigits u) = some (-(u : Int)) := by
  obtain ⟨p1, p2⟩ := dig_abs (dec_dig u)
  have hl : (Lib.decDigits u).length ≤ 10 := by
    rw [Lib.decDigits_length]
    by_cases h0 : Lib.nDigits u ≤ 10
    · exact h0
    · exfalso
      have h1 : ∀ v : Nat, 10 ^ (Lib.nDigits v - 1) ≤ v ∨ v = 0 := fun v => by
        induction v using Nat.strongRecOn with
        | _ v ih =>
          by_cases h : v < 10
          · rw [Lib.nDigits_small h]; simp; omega
          · rw [Lib.nDigits_big h, Nat.add_sub_cancel]
            left
            rcases ih (v / 10) (by omega) with h2 | h2
            · have := Lib.nDigits_pos (v / 10)
              rw [show Lib.nDigits (v / 10) = (Lib.nDigits (v / 10) - 1) + 1 by omega, Nat.pow_succ]
              omega
            · omega
      have h3 : 10 ^ 10 ≤ 10 ^ (Lib.nDigits u - 1) := Nat.pow_le_pow_right (by decide) (by omega)
      rcases h1 u with h2 | h2
      · have : (10 : Nat) ^ 10 = 10000000000 := by decide
        omega
      · subst h2
        rw [Lib.nDigits_small (by decide)] at h0
        omega
  have hne : (Lib.decDigits u).length ≠ 0 := fun e => dec_ne u (List.eq_nil_of_length_eq_zero e)
  have a1 : absT (Lib.decDigits u) = Lib.decDigits u := by unfold absT Lib.trimPrefix; rw [p1]; rfl
  have a2 : absT (45 :: Lib.decDigits u) = Lib.decDigits u := by unfold absT Lib.trimPrefix Lib.hasPrefix; simp
  have d1 : digT (Lib.decDigits u) = Lib.decDigits u := by unfold digT Lib.trimPrefix; rw [p2]; rfl
  have b1 : basT (Lib.decDigits u) = 10 := by unfold basT hexT; rw [p2]; rfl
  have b2 : mosT (Lib.decDigits u) = 10 := by unfold mosT hexT; rw [p2]; rfl
  constructor
  · unfold numT
    rw [a1, d1, b1, b2, if_neg (by omega), numF_dec, show minT (Lib.decDigits u) = false from p1]
    rfl
  · unfold numT
    rw [a2, d1, b1, b2, if_neg (by omega), numF_dec, show minT (45 :: Lib.decDigits u) = true by unfold minT Lib.hasPrefix; simp]
    rfl
theorem num_itoa {z : Int} (h1 : -10000000000 < z) (h2 : z < 10000000000) : numT (Lib.itoa z) = some z := by
  unfold Lib.itoa
  split
  · rw [(num_dec (u := z.natAbs) (by omega)).2]; congr 1; omega
  · rw [(num_dec (u := z.toNat) (by omega)).1]; congr 1; omega
theorem lbl_dec (u : Nat) : isLbl (Lib.decDigits u) = false := by
  have h := dec_dig u
  cases e : Lib.decDigits u with
  | nil => rfl
  | cons c r => rw [e] at h; simp [isLbl, dig_let (h c (by simp))]
theorem lbl_itoa (z : Int) : isLbl (Lib.itoa z) = false := by
  unfold Lib.itoa
  split
  · rfl
  · exact lbl_dec _
theorem pf_dec (u : Nat) : Pf (Lib.decDigits u) := ⟨dec_ne u, fun x hx => dig_pl (dec_dig u x hx)⟩
theorem Pf.cons {f : Tx} {c : UInt8} (h : Pf f) (hc : plC c = true) : Pf (c :: f) := ⟨by simp, fun x hx => by
  rcases List.mem_cons.1 hx with rfl | h1
  · exact hc
  · exact h.all x h1⟩
theorem pf_itoa (z : Int) : Pf (Lib.itoa z) := by
  unfold Lib.itoa
  split
  · exact (pf_dec _).cons (by decide)
  · exact pf_dec _
theorem reg_itoa {k : Nat} (h : k < 8) : regT (114 :: Lib.itoa (k : Int)) = some k := by
  rw [Lib.itoa_nonneg, Lib.decDigits_one (by omega)]
  have : ∀ k : Fin 8, regT [114, UInt8.ofNat (48 + k.val)] = some k.val := by decide
  exact this ⟨k, h⟩
end Go.Proofs.YtbfagiofhakjnaaDoor
