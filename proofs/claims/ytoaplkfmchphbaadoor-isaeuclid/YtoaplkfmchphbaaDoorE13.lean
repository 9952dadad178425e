import Derived.Test.YtoaplkfmchphbaaDoorE12
namespace Go.Proofs.YtoaplkfmchphbaaDoor
open Go.RowKit
theorem info_w : ∃ i, Tryd.prog.info? 29 = some i ∧ i.zero = some (.int .u32 0) ∧ i.size = 1 ∧ i.bytes = 4 := info_parts (by kernel_rfl)
def wds (ns : List Nat) : List Value := ns.map fun n => .int .u32 (n : Nat)
theorem u32c (z : Int) : IntKind.u32.wrap z = (((z % 4294967296).toNat : Nat) : Int) := by rw [IntKind.wrap_u32]; omega
theorem enc_all (w : World) (i : I) (hO : Ops w) : Calls Tryd.prog 30 #[.agg i.cells.toArray] w fun e w' => e = .returned (.tuple #[.int .u32 (encW i : Nat), .int .i64 (encE i)]) ∧ Below w.heap.size w w' := by
  cases hx : isI i with
  | true =>
    have := enc_yes w i hx hO
    unfold encW encE
    rw [hx]; exact this
  | false =>
    have := enc_no w i hx hO
    unfold encW encE
    rw [hx]; exact this
section
variable (w : World)
set_option maxRecDepth 100000 in
set_option maxHeartbeats 2000000 in
theorem word_any (ps : List (Tx × (Nat × Int))) (l : Ln) (at' : Int) (r : Nat) (ha : 0 ≤ at') (ha2 : at' ≤ 512) (hm : ∀ m, atK KS ps l.name = some m → 0 ≤ m.2 ∧ m.2 ≤ 8389120) (hi : -9223372036854775808 ≤ l.i.imm ∧ l.i.imm ≤ 9223372036854775807) (hL : Lb w r ps) (hO : Ops w) : Calls Tryd.prog 40 #[.agg (lnC l), .int .i64 at', .map (some r)] w fun e w' => e = .returned (.int .u32 (wrdT ps l at' : Nat)) ∧ Below w.heap.size w w' := by
  obtain ⟨wrong, label, ⟨op, ia, ib, imm⟩, name, words⟩ := l
  simp only [lnC] at *
  have HV : Hid (wrdT ps ⟨wrong, label, ⟨op, ia, ib, imm⟩, name, words⟩ at' = if op = 0 then (immW ps ⟨wrong, label, ⟨op, ia, ib, imm⟩, name, words⟩ at' % 4294967296).toNat else encW ⟨op, ia, ib, immW ps ⟨wrong, label, ⟨op, ia, ib, imm⟩, name, words⟩ at'⟩) := hide rfl
  have HI : Hid (immW ps ⟨wrong, label, ⟨op, ia, ib, imm⟩, name, words⟩ at' = if name = [] then imm else if relN op then ((atK KS ps name).getD (0, 0)).2 - (at' + 1) else ((atK KS ps name).getD (0, 0)).2) := hide rfl
  have hB1 := bel1 w (.cells #[.bool wrong, .string ⟨label.toArray⟩, .int .i64 op, .int .i64 ia, .int .i64 ib, .int .i64 imm, .string ⟨name.toArray⟩, .int .i64 words] 60)
  have hB2 := hB1.trans ((bel1 _ (.cells #[.int .i64 op, .int .i64 ia, .int .i64 ib, .int .i64 imm] 58)).mono (by simp))
  have k1 := lookF (hL.keep hB2) name
  rw [mark_val] at k1
  have hf1 := fld1
  have hmm : 0 ≤ ((atK KS ps name).getD (0, 0)).2 ∧ ((atK KS ps name).getD (0, 0)).2 ≤ 8389120 := by
    cases hh : atK KS ps name with
    | none => simp
    | some m => exact hm m hh
  have HOa : Hid (∀ o o', Ops ((w.alloc o).alloc o')) := hide (fun o o' => hO.below (bel2 _ _ _))
  have HBa : Hid (∀ o o', Below w.heap.size w ((w.alloc o).alloc o')) := hide (fun o o' => bel2 _ _ _)
  clear hm hL hO hB1 hB2
  generalize (atK KS ps name).getD (0, 0) = mk at *
  generalize immW ps ⟨wrong, label, ⟨op, ia, ib, imm⟩, name, words⟩ at' = IM at *
  generalize wrdT ps ⟨wrong, label, ⟨op, ia, ib, imm⟩, name, words⟩ at' = WT at *
  by_cases h0 : name = []
  · by_cases hop : op = 0
    · have HZ : Hid (IM = imm) := hide (by rw [HI.out]; rw [if_pos h0])
      have HW : Hid (WT = (IM % 4294967296).toNat) := hide (by rw [HV.out, if_pos hop])
      have hne : List.isEmpty name = true := by simpa using h0
      subst hop
      clear HV HI h0
      go_enter Tryd.func40, Tryd.ntmps40
      go_wp2
      go_ret
      exact ⟨by rw [HW.out, HZ.out]; exact congrArg (fun z => Ending.returned (Value.int .u32 z)) (u32c _), HBa.out _ _⟩
    · have HZ : Hid (IM = imm) := hide (by rw [HI.out]; rw [if_pos h0])
      have HW : Hid (WT = encW ⟨op, ia, ib, IM⟩) := hide (by rw [HV.out, if_neg hop])
      have hopb : (op == 0) = false := by simpa using hop
      have hne : List.isEmpty name = true := by simpa using h0
      clear HV HI h0 hop
      go_enter Tryd.func40, Tryd.ntmps40
      go_wp2_with fail
      refine (enc_all _ ⟨op, ia, ib, imm⟩ (HOa.out _ _)).mono ?_
      rintro e w2 ⟨rfl, hb2⟩
      have HB9 := hide ((HBa.out _ _).trans (hb2.mono (by simp; omega)))
      clear hb2
      go_wp2
      go_ret
      exact ⟨by rw [HW.out, HZ.out]; rfl, HB9.out⟩
  · cases hrel : relN op with
    | false =>
      by_cases hop : op = 0
      · have HZ : Hid (IM = mk.2) := hide (by rw [HI.out]; rw [if_neg h0, hrel]; rfl)
        have HW : Hid (WT = (IM % 4294967296).toNat) := hide (by rw [HV.out, if_pos hop])
        have hne : List.isEmpty name = false := by simpa using h0
        subst hop
        have HRl := hide (fun W => isRel_any W 0)
        have hrel0 : relN 0 = false := rfl
        rw [hrel0] at HRl
        clear HV HI h0 hrel
        go_enter Tryd.func40, Tryd.ntmps40
        go_wp2_with fail
        refine (HRl.out _).mono ?_
        rintro e w1 ⟨rfl, rfl⟩
        go_wp2
        go_ret
        exact ⟨by rw [HW.out, HZ.out]; exact congrArg (fun z => Ending.returned (Value.int .u32 z)) (show mk.2 = (((mk.2 % 4294967296).toNat : Nat) : Int) by omega), HBa.out _ _⟩
      · have HZ : Hid (IM = mk.2) := hide (by rw [HI.out]; rw [if_neg h0, hrel]; rfl)
        have HW : Hid (WT = encW ⟨op, ia, ib, IM⟩) := hide (by rw [HV.out, if_neg hop])
        have hopb : (op == 0) = false := by simpa using hop
        have hne : List.isEmpty name = false := by simpa using h0
        have HRl := hide (fun W => isRel_any W op)
        rw [hrel] at HRl
        clear HV HI h0 hop hrel
        go_enter Tryd.func40, Tryd.ntmps40
        go_wp2_with fail
        refine (HRl.out _).mono ?_
        rintro e w1 ⟨rfl, rfl⟩
        go_wp2_with fail
        refine (enc_all _ ⟨op, ia, ib, mk.2⟩ (HOa.out _ _)).mono ?_
        rintro e w2 ⟨rfl, hb2⟩
        have HB9 := hide ((HBa.out _ _).trans (hb2.mono (by simp; omega)))
        clear hb2
        go_wp2
        go_ret
        exact ⟨by rw [HW.out, HZ.out]; rfl, HB9.out⟩
    | true =>
      have hop : ¬ op = 0 := fun e => by rw [e] at hrel; cases hrel
      have HZ : Hid (IM = mk.2 - (at' + 1)) := hide (by rw [HI.out]; rw [if_neg h0, hrel]; rfl)
      have HW : Hid (WT = encW ⟨op, ia, ib, IM⟩) := hide (by rw [HV.out, if_neg hop])
      have hopb : (op == 0) = false := by simpa using hop
      have hne : List.isEmpty name = false := by simpa using h0
      have hbz : -9223372036854775808 ≤ mk.2 - (at' + 1) ∧ mk.2 - (at' + 1) ≤ 9223372036854775807 := by omega
      have HRl := hide (fun W => isRel_any W op)
      rw [hrel] at HRl
      clear HV HI h0 hop hrel
      go_enter Tryd.func40, Tryd.ntmps40
      go_wp2_with fail
      refine (HRl.out _).mono ?_
      rintro e w1 ⟨rfl, rfl⟩
      go_wp2_with fail
      refine (enc_all _ ⟨op, ia, ib, mk.2 - (at' + 1)⟩ (HOa.out _ _)).mono ?_
      rintro e w2 ⟨rfl, hb2⟩
      have HB9 := hide ((HBa.out _ _).trans (hb2.mono (by simp; omega)))
      clear hb2
      go_wp2
      go_ret
      exact ⟨by rw [HW.out, HZ.out]; rfl, HB9.out⟩
end
end Go.Proofs.YtoaplkfmchphbaaDoor

namespace Go.Proofs.YtoaplkfmchphbaaDoor
open Go.RowKit
/-- a line as it comes out of a text -/
structure LnOk (l : Ln) : Prop where
  w0 : 0 ≤ l.words
  w1 : l.words ≤ 512
  i0 : -2147483648 ≤ l.i.imm
  i1 : l.i.imm ≤ 4294967295
theorem ok0 : LnOk ln0 := ⟨by decide, by decide, by decide, by decide⟩
theorem okBad : LnOk lnBad := ⟨by decide, by decide, by decide, by decide⟩
theorem immT_ok {l l' : Ln} {f : Tx} {a b : Int} (h : LnOk l) (ha : -2147483648 ≤ a) (hb : b ≤ 4294967295) (e : immT l f a b = some l') : LnOk l' := by
  unfold immT at e
  split at e
  · cases e; exact ⟨h.w0, h.w1, h.i0, h.i1⟩
  · split at e
    · split at e
      · next n _ hn => cases e; exact ⟨h.w0, h.w1, by show -2147483648 ≤ n; omega, by show n ≤ 4294967295; omega⟩
      · cases e
    · cases e
theorem fldT_ok {l l' : Ln} {f : Tx} {a b k : Int} (h : LnOk l) (ha : -2147483648 ≤ a) (hb : b ≤ 4294967295) (e : fldT a b l k f = some l') : LnOk l' := by
  unfold fldT at e
  split at e
  · exact immT_ok h ha hb e
  · split at e
    · split at e
      · cases e; exact ⟨h.w0, h.w1, h.i0, h.i1⟩
      · cases e; exact ⟨h.w0, h.w1, h.i0, h.i1⟩
    · cases e
theorem fldsT_ok {a b : Int} (ha : -2147483648 ≤ a) (hb : b ≤ 4294967295) : ∀ (ks : List Int) (fs : List Tx) (l l' : Ln), LnOk l → fldsT a b l ks fs = some l' → LnOk l'
  | [], [], l, l', h, e => by simp [fldsT] at e; subst e; exact h
  | [], _ :: _, l, l', h, e => by simp [fldsT] at e
  | _ :: _, [], l, l', h, e => by simp [fldsT] at e
  | k :: ks, f :: fs, l, l', h, e => by
    simp only [fldsT] at e
    cases h1 : fldT a b l k f with
    | none => rw [h1] at e; simp at e
    | some l2 =>
      rw [h1] at e
      exact fldsT_ok ha hb ks fs l2 l' (fldT_ok h ha hb h1) e
theorem lo_ge (n : Nat) : -2147483648 ≤ lo n := by unfold lo; split <;> omega
theorem hi_le (n : Nat) : hi n ≤ 4294967295 := by unfold hi; split <;> (try split) <;> omega
theorem stmT_ok {name : Tx} {fs : List Tx} {l : Ln} (e : stmT name fs = some l) : LnOk l := by
  have h1 : LnOk { ln0 with words := 1 } := ⟨by decide, by decide, by decide, by decide⟩
  unfold stmT at e
  split at e
  · split at e
    · exact immT_ok h1 (by decide) (by decide) e
    · cases e
  · split at e
    · split at e
      · split at e
        · split at e
          · next n _ hn => cases e; exact ⟨by show 0 ≤ n; omega, by show n ≤ 512; omega, by show (-2147483648 : Int) ≤ 0; decide, by show (0 : Int) ≤ 4294967295; decide⟩
          · cases e
        · cases e
      · cases e
    · split at e
      · cases e
      · split at e
        · exact fldsT_ok (lo_ge _) (hi_le _) _ _ { ln0 with i := ⟨(opT name : Nat), 0, 0, 0⟩, words := 1 } l ⟨by show (0 : Int) ≤ 1; decide, by show (1 : Int) ≤ 512; decide, by show (-2147483648 : Int) ≤ 0; decide, by show (0 : Int) ≤ 4294967295; decide⟩ e
        · cases e
theorem stT_ok (s : Tx) : LnOk (stT s) := by
  unfold stT
  split
  · exact ok0
  · simp only []
    cases h : stmT ((cutT [32, 9] s).getD (s, [])).1 (sfT ((cutT [32, 9] s).getD (s, [])).2) with
    | none => exact okBad
    | some l => exact stmT_ok h
theorem lineT_ok (s : Tx) : LnOk (lineT s) := by
  unfold lineT
  simp only []
  split
  · exact stT_ok _
  · split
    · next a b _ _ =>
      have h := stT_ok (trimT b)
      exact ⟨h.w0, h.w1, h.i0, h.i1⟩
    · exact okBad
theorem lbs_bound {ls : List Ln} (hl : ls.length ≤ 16385) (hw : ∀ l ∈ ls, 0 ≤ l.words ∧ l.words ≤ 512) : ∀ k, k ≤ ls.length → ∀ p ∈ lbs ls k, 0 ≤ p.2.2 ∧ p.2.2 ≤ 8389120
  | 0, _, p, hp => by simp [lbs] at hp
  | k + 1, hk, p, hp => by
    have ih := lbs_bound hl hw k (by omega)
    have hb := ahd_bound hw k (by omega)
    rw [lbs, List.getElem?_eq_getElem hk] at hp
    simp only [] at hp
    split at hp
    · rcases List.mem_append.1 hp with h | h
      · exact ih p h
      · simp at h
        subst h
        show 0 ≤ ahd ls k ∧ ahd ls k ≤ 8389120
        omega
    · exact ih p hp
theorem atK_bound {ps : List (Tx × (Nat × Int))} (h : ∀ p ∈ ps, 0 ≤ p.2.2 ∧ p.2.2 ≤ 8389120) (s : Tx) : ∀ m, atK KS ps s = some m → 0 ≤ m.2 ∧ m.2 ≤ 8389120 := by
  intro m hm
  unfold atK at hm
  obtain ⟨p, hp, rfl⟩ := Option.map_eq_some_iff.1 hm
  exact h p (List.mem_of_find?_eq_some hp)
/-- the lines one by one -/
def asmL (ps : List (Tx × (Nat × Int))) : List Ln → Nat → List Nat → List Nat × Nat × Int
  | [], _, ws => (ws, 0, 0)
  | l :: r, k, ws => if fltT ps l k ws.length = 0 then asmL ps r (k + 1) (ws ++ List.replicate l.words.toNat (wrdT ps l ws.length)) else ([], k + 1, fltT ps l k ws.length)
def linesT (s : Tx) : List Ln := (splitT 10 s).map lineT
/-- what a text gives -/
def asmT (s : Tx) : List Nat × Nat × Int :=
  if 16384 < s.length then ([], 0, 41) else asmL (lbs (linesT s) (linesT s).length) (linesT s) 0 []
section
variable (w : World)
set_option maxRecDepth 100000 in
set_option maxHeartbeats 2000000 in
theorem give_any (ps : List (Tx × (Nat × Int))) (l : Ln) (ws : List Nat) (v : Value) (base r : Nat) (hk : LnOk l) (hm : ∀ m, atK KS ps l.name = some m → 0 ≤ m.2 ∧ m.2 ≤ 8389120) (hn : ws.length ≤ 512) (hO : w.ownsRow base 29 1 v ws.length (wds ws)) (hB : base ≤ w.heap.size) (hL : Lb w r ps) (hOp : Ops w) :
    Calls Tryd.prog 25 #[.agg (lnC l), v, .map (some r)] w fun e w' => ∃ v', e = .returned v' ∧ w'.ownsRow base 29 1 v' (ws ++ List.replicate l.words.toNat (wrdT ps l ws.length)).length (wds (ws ++ List.replicate l.words.toNat (wrdT ps l ws.length))) ∧ Below base w w' := by
  obtain ⟨i9, hi, hz, hsz, hb⟩ := info_w
  have HWd := hide (fun W (h1 : Lb W r ps) (h2 : Ops W) => word_any W ps l (ws.length : Int) r (by omega) (by omega) hm ⟨by have := hk.i0; omega, by have := hk.i1; omega⟩ h1 h2)
  have hw0 := hk.w0
  have hw1 := hk.w1
  generalize wrdT ps l (ws.length : Int) = x at *
  obtain ⟨wrong, label, ⟨op, ia, ib, imm⟩, name, words⟩ := l
  simp only [lnC] at *
  have hb1 := bel1 w (.cells #[.bool wrong, .string ⟨label.toArray⟩, .int .i64 op, .int .i64 ia, .int .i64 ib, .int .i64 imm, .string ⟨name.toArray⟩, .int .i64 words] 60)
  have HOp1 := hide (hOp.below hb1)
  have HL1 := hide (hL.keep hb1)
  have HO1 := hide (own_keep hO hb1)
  have HB1 := hide (hb1.mono hB)
  obtain ⟨au, cu, rfl⟩ := own_shape hO
  clear hO hL hOp hk hm hb1
  go_enter Tryd.func25, Tryd.ntmps25
  go_wp2_with fail
  refine (HWd.out _ HL1.out HOp1.out).mono ?_
  rintro e w1 ⟨rfl, hb2⟩
  have HO2 := hide (own_keep HO1.out hb2)
  have HB2 := hide (HB1.out.trans (hb2.mono (by simp; omega)))
  have hs2 := hb2.size
  simp only [World.size_alloc] at hs2
  have c7 : w1.cell? ⟨w.heap.size, 7, none⟩ = some (.int .i64 words) := by
    rw [hb2.cell (p := ⟨w.heap.size, 7, none⟩) (by simp), World.cell?_alloc_new]; rfl
  clear hb2 HO1 HB1 HL1 HOp1 HWd
  go_upto_region 3 with fail
  go_loopw [1, 15] (fun v u wr => ∃ j : Nat, u = .int .i64 (j : Int) ∧ (j : Int) ≤ words ∧ wr.ownsRow base 29 1 v (ws ++ List.replicate j x).length (wds (ws ++ List.replicate j x)) ∧ Below base w wr ∧ base ≤ wr.heap.size) (fun _ u _ => (words - intOf u).toNat)
  case atStart => exact ⟨0, rfl, by simpa using hw0, by simpa using HO2.out, HB2.out, by omega⟩
  case round =>
  obtain ⟨j, rfl, hj, hOw, hBw, hsw⟩ := hrel
  obtain ⟨a2, c2, rfl⟩ := own_shape hOw
  have HOw := hide hOw
  have HBw := hide hBw
  have hlen : (ws ++ List.replicate j x).length ≤ 1024 := by simp; omega
  clear hOw hBw HO2 HB2
  by_cases hlt : (j : Int) < words
  · have HE : Hid (wds (ws ++ List.replicate (j + 1) x) = wds (ws ++ List.replicate j x) ++ [.int .u32 (x : Nat)]) := hide (by
      rw [List.replicate_succ', ← List.append_assoc]; simp [wds])
    have HE2 : Hid ((ws ++ List.replicate (j + 1) x).length = (ws ++ List.replicate j x).length + 1) := hide (by simp; omega)
    generalize ws ++ List.replicate j x = wj at *
    go_upto_region 5 with (at_builtin; refine wpList_append_own _ rfl _ _ 25 rfl base 29 i9 (.int .u32 0) 1 4 Tryd.underlying25 hi hz hsz hb rfl (by decide) _ _ _ rfl (HOw.out.alloc _) ⟨_, 0, none⟩ 1 1 [.int .u32 (x : Nat)] rfl rfl (cell_one_new _ _ _) (by simp [Value.oneCell']) (by unfold maxLen; omega) (by omega) (by simp; omega) ?_; intro v3 w3 ho3 hg3 _; obtain ⟨a3, c3, rfl⟩ := own_shape ho3)
    have HO3 : Hid (w3.ownsRow base 29 1 (.slice a3 (wj.length + 1) c3) (ws ++ List.replicate (j + 1) x).length (wds (ws ++ List.replicate (j + 1) x))) := hide (by rw [HE.out, HE2.out]; exact ho3)
    have HB3 := hide ((HBw.out.alloc hsw _).grown hg3 (by simp; omega) (fun k hk => (HOw.out.lt k hk).1))
    have hs3 : base ≤ w3.heap.size := Nat.le_trans (by simp; omega) hg3.size
    clear ho3 hg3 HOw HBw
    go_wp2
    refine ⟨⟨j + 1, by simp, by omega, HO3.out, HB3.out, hs3⟩, ?_⟩
    simp [intOf]
    omega
  · have ej : j = words.toNat := by omega
    have hx : ¬ (j : Int) < words := hlt
    have HV : Hid (ws ++ List.replicate words.toNat x = ws ++ List.replicate j x) := hide (by rw [← ej])
    have HLn : Hid ((ws ++ List.replicate j x).length = ws.length + words.toNat) := hide (by simp; omega)
    clear ej hlt
    generalize ws ++ List.replicate j x = wj at *
    go_wp2
    go_ret
    exact ⟨_, rfl, by rw [HV.out, ← HLn.out]; exact HOw.out, HBw.out⟩
end
end Go.Proofs.YtoaplkfmchphbaaDoor

namespace Go.Proofs.YtoaplkfmchphbaaDoor
open Go.RowKit
/-- blanks -/
def bl (c : UInt8) : Bool := ([32, 9] : Tx).contains c
theorem dropw_all {p : UInt8 → Bool} : ∀ {b x : Tx}, (∀ c ∈ b, p c = true) → (b ++ x).dropWhile p = x.dropWhile p
  | [], _, _ => rfl
  | c :: r, x, h => by
    rw [List.cons_append, List.dropWhile_cons, if_pos (h c (by simp))]
    exact dropw_all fun d hd => h d (by simp [hd])
theorem dropw_app (p : UInt8 → Bool) : ∀ (x y : Tx), (x ++ y).dropWhile p = if x.dropWhile p = [] then y.dropWhile p else x.dropWhile p ++ y
  | [], y => by simp
  | c :: r, y => by
    rw [List.cons_append, List.dropWhile_cons, List.dropWhile_cons]
    cases p c with
    | true => simpa using dropw_app p r y
    | false => simp
theorem trimR_app {s b : Tx} (h : ∀ c ∈ b, bl c = true) : Lib.trimRightS (s ++ b) [32, 9] = Lib.trimRightS s [32, 9] := by
  unfold Lib.trimRightS
  rw [List.reverse_append, dropw_all (p := fun x => ([32, 9] : Tx).contains x) fun c hc => h c (by simpa using hc)]
theorem trimL_app {s b : Tx} (h : ∀ c ∈ b, bl c = true) : Lib.trimLeftS (b ++ s) [32, 9] = Lib.trimLeftS s [32, 9] := by
  unfold Lib.trimLeftS
  exact dropw_all h
/-- blanks at both ends are nothing -/
theorem trim_blanks {s b b' : Tx} (h : ∀ c ∈ b, bl c = true) (h' : ∀ c ∈ b', bl c = true) : trimT (b ++ s ++ b') = trimT s := by
  unfold trimT Lib.trimS
  rw [trimR_app h']
  unfold Lib.trimRightS
  rw [List.reverse_append, dropw_app]
  by_cases e : (s.reverse.dropWhile fun x => ([32, 9] : Tx).contains x) = []
  · rw [if_pos e, e, show (b.reverse.dropWhile fun x => ([32, 9] : Tx).contains x) = [] from by
      have := dropw_all (p := fun x => ([32, 9] : Tx).contains x) (b := b.reverse) (x := []) fun c hc => h c (by simpa using hc)
      simpa using this]
  · rw [if_neg e, List.reverse_append, List.reverse_reverse]
    exact trimL_app h
/-- what stands ahead of the first mark -/
theorem cut_take (m : UInt8) : ∀ s : Tx, ((cutT [m] s).getD (s, [])).1 = s.takeWhile fun c => !([m].contains c)
  | [] => rfl
  | c :: r => by
    have ih := cut_take m r
    rw [cutT, List.takeWhile_cons]
    cases e : [m].contains c with
    | true => simp
    | false =>
      cases h : cutT [m] r with
      | none => rw [h] at ih; simpa using ih
      | some p => rw [h] at ih; simpa using ih
theorem takew_all {p : UInt8 → Bool} : ∀ {b x : Tx}, (∀ c ∈ b, p c = true) → (b ++ x).takeWhile p = b ++ x.takeWhile p
  | [], _, _ => rfl
  | c :: r, x, h => by
    rw [List.cons_append, List.takeWhile_cons, if_pos (h c (by simp)), takew_all fun d hd => h d (by simp [hd])]
    rfl
theorem takew_stop {p : UInt8 → Bool} : ∀ {s : Tx} (x : Tx), (∃ c ∈ s, p c = false) → (s ++ x).takeWhile p = s.takeWhile p
  | [], x, h => by obtain ⟨c, hc, _⟩ := h; cases hc
  | c :: r, x, h => by
    rw [List.cons_append, List.takeWhile_cons, List.takeWhile_cons]
    cases e : p c with
    | false => rfl
    | true =>
      obtain ⟨d, hd, hp⟩ := h
      rcases List.mem_cons.1 hd with rfl | h1
      · rw [e] at hp; cases hp
      · simp only [if_true]
        rw [takew_stop x ⟨d, h1, hp⟩]
/-- a remark: nothing, or what begins with its mark -/
def isRem : Tx → Bool
  | [] => true
  | c :: _ => c == 59
/-- a line with blanks at both ends and a remark says what it says -/
theorem line_blanks {s b b' r : Tx} (h : ∀ c ∈ b, bl c = true) (h' : ∀ c ∈ b', bl c = true) (hr : isRem r = true) : lineT (b ++ s ++ b' ++ r) = lineT s := by
  have n59 : ∀ c, bl c = true → (!([(59 : UInt8)].contains c)) = true := fun c hc => by
    have : c ∈ ([32, 9] : Tx) := List.contains_iff_mem.1 hc
    have h2 : ∀ x ∈ ([32, 9] : Tx), (!([(59 : UInt8)].contains x)) = true := by decide
    exact h2 c this
  have hrt : r.takeWhile (fun c => !([(59 : UInt8)].contains c)) = [] := by
    cases r with
    | nil => rfl
    | cons c t =>
      obtain rfl : c = 59 := by simpa [isRem] using hr
      rfl
  have e : trimT ((b ++ s ++ b' ++ r).takeWhile fun c => !([(59 : UInt8)].contains c)) = trimT (s.takeWhile fun c => !([(59 : UInt8)].contains c)) := by
    rw [List.append_assoc, List.append_assoc, takew_all fun c hc => n59 c (h c hc)]
    by_cases hs : ∃ c ∈ s, (!([(59 : UInt8)].contains c)) = false
    · rw [takew_stop _ hs]
      have := trim_blanks (s := s.takeWhile fun c => !([(59 : UInt8)].contains c)) (b' := []) h (by simp)
      simpa using this
    · have hall : ∀ c ∈ s, (!([(59 : UInt8)].contains c)) = true := fun c hc => by
        cases e : (!([(59 : UInt8)].contains c)) with
        | true => rfl
        | false => exact absurd ⟨c, hc, e⟩ hs
      rw [takew_all hall, takew_all fun c hc => n59 c (h' c hc), hrt, List.append_nil]
      have h2 := takew_all (x := []) hall
      simp only [List.append_nil, List.takeWhile_nil] at h2
      rw [h2, ← List.append_assoc]
      exact trim_blanks h h'
  unfold lineT
  simp only []
  rw [cut_take, cut_take, e]
/-- the labels, one line lower -/
def dn (ps : List (Tx × (Nat × Int))) : List (Tx × (Nat × Int)) := ps.map fun p => (p.1, (p.2.1 + 1, p.2.2))
theorem atK_dn (ps : List (Tx × (Nat × Int))) (s : Tx) : atK KS (dn ps) s = (atK KS ps s).map fun m => (m.1 + 1, m.2) := by
  unfold atK dn
  rw [List.find?_map]
  simp only [Option.map_map, Function.comp_def]
theorem ahd_ln0 (ls : List Ln) (k : Nat) : ahd (ln0 :: ls) (k + 1) = ahd ls k := by
  unfold ahd
  simp [ln0]
theorem lbs_dn (ls : List Ln) : ∀ k, lbs (ln0 :: ls) (k + 1) = dn (lbs ls k)
  | 0 => by simp [lbs, ln0, dn]
  | k + 1 => by
    rw [lbs, lbs_dn ls k, List.getElem?_cons_succ, lbs]
    cases h : ls[k]? with
    | none => rfl
    | some l =>
      simp only []
      have e : atK KS (dn (lbs ls k)) l.label = none ↔ atK KS (lbs ls k) l.label = none := by rw [atK_dn]; simp
      by_cases h1 : l.label ≠ [] ∧ atK KS (lbs ls k) l.label = none
      · rw [if_pos ⟨h1.1, e.2 h1.2⟩, if_pos h1, ahd_ln0]
        simp [dn]
      · rw [if_neg fun h2 => h1 ⟨h2.1, e.1 h2.2⟩, if_neg h1]
theorem flt_dn (ps : List (Tx × (Nat × Int))) (l : Ln) (k : Nat) (a : Int) (hl : l.label ≠ [] → atK KS ps l.label ≠ none) : fltT (dn ps) l (k + 1) a = fltT ps l k a := by
  unfold fltT
  simp only [atK_dn]
  have e1 : (l.label ≠ [] ∧ (((atK KS ps l.label).map fun m => (m.1 + 1, m.2)).getD (0, 0)).1 ≠ k + 1) ↔ (l.label ≠ [] ∧ ((atK KS ps l.label).getD (0, 0)).1 ≠ k) := by
    refine and_congr_right fun h => ?_
    cases h2 : atK KS ps l.label with
    | none => exact absurd h2 (hl h)
    | some m => simp
  simp only [e1, Option.map_eq_none_iff]
theorem wrd_dn (ps : List (Tx × (Nat × Int))) (l : Ln) (a : Int) : wrdT (dn ps) l a = wrdT ps l a := by
  have e : ∀ s, (((atK KS ps s).map fun m => (m.1 + 1, m.2)).getD (0, 0)).2 = ((atK KS ps s).getD (0, 0)).2 := fun s => by cases atK KS ps s <;> rfl
  unfold wrdT immW
  simp only [atK_dn, e]
theorem asm_dn (ps : List (Tx × (Nat × Int))) : ∀ (ls : List Ln) (k : Nat) (ws : List Nat), (∀ l ∈ ls, l.label ≠ [] → atK KS ps l.label ≠ none) → asmL (dn ps) ls (k + 1) ws = ((asmL ps ls k ws).1, (if (asmL ps ls k ws).2.2 = 0 then 0 else (asmL ps ls k ws).2.1 + 1), (asmL ps ls k ws).2.2)
  | [], k, ws, _ => by simp [asmL]
  | l :: r, k, ws, h => by
    rw [asmL, asmL, flt_dn ps l k _ (h l (by simp)), wrd_dn]
    by_cases e : fltT ps l k ws.length = 0
    · rw [if_pos e, if_pos e]
      exact asm_dn ps r (k + 1) _ fun l' hl' => h l' (by simp [hl'])
    · rw [if_neg e, if_neg e]
      simp [e]
end Go.Proofs.YtoaplkfmchphbaaDoor
