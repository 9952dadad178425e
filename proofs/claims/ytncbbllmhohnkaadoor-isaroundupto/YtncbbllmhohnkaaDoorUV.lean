import Derived.Test.YtncbbllmhohnkaaDoorUU
namespace Go.Proofs.YtncbbllmhohnkaaDoor
open Go.RowKit
/-- a line as it comes out of a text -/
structure LnOk (l : Ln) : Prop where
  w0 : 0 ≤ l.words
  w1 : l.words ≤ 512
  i0 : -2147483648 ≤ l.i.imm
  i1 : l.i.imm ≤ 4294967295
theorem ok0 : LnOk ln0 := ⟨by decide, by decide, by decide, by decide⟩
theorem okBad : LnOk lnBad := ⟨by decide, by decide, by decide, by decide⟩
theorem immT_ok {l l' : Ln} {f : Tx} {a b : Int} (h : LnOk l) (ha : -2147483648 ≤ a) (hb : b ≤ 4294967295) (e : immT l f a b = some l') : LnOk l' := by
  unfold immT at e
  split at e
  · cases e; exact ⟨h.w0, h.w1, h.i0, h.i1⟩
  · split at e
    · split at e
      · next n _ hn => cases e; exact ⟨h.w0, h.w1, by show -2147483648 ≤ n; omega, by show n ≤ 4294967295; omega⟩
      · cases e
    · cases e
theorem fldT_ok {l l' : Ln} {f : Tx} {a b k : Int} (h : LnOk l) (ha : -2147483648 ≤ a) (hb : b ≤ 4294967295) (e : fldT a b l k f = some l') : LnOk l' := by
  unfold fldT at e
  split at e
  · exact immT_ok h ha hb e
  · split at e
    · split at e
      · cases e; exact ⟨h.w0, h.w1, h.i0, h.i1⟩
      · cases e; exact ⟨h.w0, h.w1, h.i0, h.i1⟩
    · cases e
theorem fldsT_ok {a b : Int} (ha : -2147483648 ≤ a) (hb : b ≤ 4294967295) : ∀ (ks : List Int) (fs : List Tx) (l l' : Ln), LnOk l → fldsT a b l ks fs = some l' → LnOk l'
  | [], [], l, l', h, e => by simp [fldsT] at e; subst e; exact h
  | [], _ :: _, l, l', h, e => by simp [fldsT] at e
  | _ :: _, [], l, l', h, e => by simp [fldsT] at e
  | k :: ks, f :: fs, l, l', h, e => by
    simp only [fldsT] at e
    cases h1 : fldT a b l k f with
    | none => rw [h1] at e; simp at e
    | some l2 =>
      rw [h1] at e
      exact fldsT_ok ha hb ks fs l2 l' (fldT_ok h ha hb h1) e
theorem lo_ge (n : Nat) : -2147483648 ≤ lo n := by unfold lo; split <;> omega
theorem hi_le (n : Nat) : hi n ≤ 4294967295 := by unfold hi; split <;> (try split) <;> omega
theorem stmT_ok {name : Tx} {fs : List Tx} {l : Ln} (e : stmT name fs = some l) : LnOk l := by
  have h1 : LnOk { ln0 with words := 1 } := ⟨by decide, by decide, by decide, by decide⟩
  unfold stmT at e
  split at e
  · split at e
    · exact immT_ok h1 (by decide) (by decide) e
    · cases e
  · split at e
    · split at e
      · split at e
        · split at e
          · next n _ hn => cases e; exact ⟨by show 0 ≤ n; omega, by show n ≤ 512; omega, by show (-2147483648 : Int) ≤ 0; decide, by show (0 : Int) ≤ 4294967295; decide⟩
          · cases e
        · cases e
      · cases e
    · split at e
      · cases e
      · split at e
        · exact fldsT_ok (lo_ge _) (hi_le _) _ _ { ln0 with i := ⟨(opT name : Nat), 0, 0, 0⟩, words := 1 } l ⟨by show (0 : Int) ≤ 1; decide, by show (1 : Int) ≤ 512; decide, by show (-2147483648 : Int) ≤ 0; decide, by show (0 : Int) ≤ 4294967295; decide⟩ e
        · cases e
theorem stT_ok (s : Tx) : LnOk (stT s) := by
  unfold stT
  split
  · exact ok0
  · simp only []
    cases h : stmT ((cutT [32, 9] s).getD (s, [])).1 (sfT ((cutT [32, 9] s).getD (s, [])).2) with
    | none => exact okBad
    | some l => exact stmT_ok h
theorem lineT_ok (s : Tx) : LnOk (lineT s) := by
  unfold lineT
  simp only []
  split
  · exact stT_ok _
  · split
    · next a b _ _ =>
      have h := stT_ok (trimT b)
      exact ⟨h.w0, h.w1, h.i0, h.i1⟩
    · exact okBad
theorem lbs_bound {ls : List Ln} (hl : ls.length ≤ 16385) (hw : ∀ l ∈ ls, 0 ≤ l.words ∧ l.words ≤ 512) : ∀ k, k ≤ ls.length → ∀ p ∈ lbs ls k, 0 ≤ p.2.2 ∧ p.2.2 ≤ 8389120
  | 0, _, p, hp => by simp [lbs] at hp
  | k + 1, hk, p, hp => by
    have ih := lbs_bound hl hw k (by omega)
    have hb := ahd_bound hw k (by omega)
    rw [lbs, List.getElem?_eq_getElem hk] at hp
    simp only [] at hp
    split at hp
    · rcases List.mem_append.1 hp with h | h
      · exact ih p h
      · simp at h
        subst h
        show 0 ≤ ahd ls k ∧ ahd ls k ≤ 8389120
        omega
    · exact ih p hp
theorem atK_bound {ps : List (Tx × (Nat × Int))} (h : ∀ p ∈ ps, 0 ≤ p.2.2 ∧ p.2.2 ≤ 8389120) (s : Tx) : ∀ m, atK KS ps s = some m → 0 ≤ m.2 ∧ m.2 ≤ 8389120 := by
  intro m hm
  unfold atK at hm
  obtain ⟨p, hp, rfl⟩ := Option.map_eq_some_iff.1 hm
  exact h p (List.mem_of_find?_eq_some hp)
/-- the lines one by one -/
def asmL (ps : List (Tx × (Nat × Int))) : List Ln → Nat → List Nat → List Nat × Nat × Int
  | [], _, ws => (ws, 0, 0)
  | l :: r, k, ws => if fltT ps l k ws.length = 0 then asmL ps r (k + 1) (ws ++ List.replicate l.words.toNat (wrdT ps l ws.length)) else ([], k + 1, fltT ps l k ws.length)
def linesT (s : Tx) : List Ln := (splitT 10 s).map lineT
/-- what a text gives -/
def asmT (s : Tx) : List Nat × Nat × Int :=
  if 16384 < s.length then ([], 0, 41) else asmL (lbs (linesT s) (linesT s).length) (linesT s) 0 []
section
variable (w : World)
set_option maxRecDepth 100000 in
set_option maxHeartbeats 2000000 in
theorem give_any (ps : List (Tx × (Nat × Int))) (l : Ln) (ws : List Nat) (v : Value) (base r : Nat) (hk : LnOk l) (hm : ∀ m, atK KS ps l.name = some m → 0 ≤ m.2 ∧ m.2 ≤ 8389120) (hn : ws.length ≤ 512) (hO : w.ownsRow base 29 1 v ws.length (wds ws)) (hB : base ≤ w.heap.size) (hL : Lb w r ps) (hOp : Ops w) :
    Calls Tryd.prog 25 #[.agg (lnC l), v, .map (some r)] w fun e w' => ∃ v', e = .returned v' ∧ w'.ownsRow base 29 1 v' (ws ++ List.replicate l.words.toNat (wrdT ps l ws.length)).length (wds (ws ++ List.replicate l.words.toNat (wrdT ps l ws.length))) ∧ Below base w w' := by
  obtain ⟨i9, hi, hz, hsz, hb⟩ := info_w
  have HWd := hide (fun W (h1 : Lb W r ps) (h2 : Ops W) => word_any W ps l (ws.length : Int) r (by omega) (by omega) hm ⟨by have := hk.i0; omega, by have := hk.i1; omega⟩ h1 h2)
  have hw0 := hk.w0
  have hw1 := hk.w1
  generalize wrdT ps l (ws.length : Int) = x at *
  obtain ⟨wrong, label, ⟨op, ia, ib, imm⟩, name, words⟩ := l
  simp only [lnC] at *
  have hb1 := bel1 w (.cells #[.bool wrong, .string ⟨label.toArray⟩, .int .i64 op, .int .i64 ia, .int .i64 ib, .int .i64 imm, .string ⟨name.toArray⟩, .int .i64 words] 60)
  have HOp1 := hide (hOp.below hb1)
  have HL1 := hide (hL.keep hb1)
  have HO1 := hide (own_keep hO hb1)
  have HB1 := hide (hb1.mono hB)
  obtain ⟨au, cu, rfl⟩ := own_shape hO
  clear hO hL hOp hk hm hb1
  go_enter Tryd.func25, Tryd.ntmps25
  go_wp2_with fail
  refine (HWd.out _ HL1.out HOp1.out).mono ?_
  rintro e w1 ⟨rfl, hb2⟩
  have HO2 := hide (own_keep HO1.out hb2)
  have HB2 := hide (HB1.out.trans (hb2.mono (by simp; omega)))
  have hs2 := hb2.size
  simp only [World.size_alloc] at hs2
  have c7 : w1.cell? ⟨w.heap.size, 7, none⟩ = some (.int .i64 words) := by
    rw [hb2.cell (p := ⟨w.heap.size, 7, none⟩) (by simp), World.cell?_alloc_new]; rfl
  clear hb2 HO1 HB1 HL1 HOp1 HWd
  go_upto_region 3 with fail
  go_loopw [1, 15] (fun v u wr => ∃ j : Nat, u = .int .i64 (j : Int) ∧ (j : Int) ≤ words ∧ wr.ownsRow base 29 1 v (ws ++ List.replicate j x).length (wds (ws ++ List.replicate j x)) ∧ Below base w wr ∧ base ≤ wr.heap.size) (fun _ u _ => (words - intOf u).toNat)
  case atStart => exact ⟨0, rfl, by simpa using hw0, by simpa using HO2.out, HB2.out, by omega⟩
  case round =>
  obtain ⟨j, rfl, hj, hOw, hBw, hsw⟩ := hrel
  obtain ⟨a2, c2, rfl⟩ := own_shape hOw
  have HOw := hide hOw
  have HBw := hide hBw
  have hlen : (ws ++ List.replicate j x).length ≤ 1024 := by simp; omega
  clear hOw hBw HO2 HB2
  by_cases hlt : (j : Int) < words
  · have HE : Hid (wds (ws ++ List.replicate (j + 1) x) = wds (ws ++ List.replicate j x) ++ [.int .u32 (x : Nat)]) := hide (by
      rw [List.replicate_succ', ← List.append_assoc]; simp [wds])
    have HE2 : Hid ((ws ++ List.replicate (j + 1) x).length = (ws ++ List.replicate j x).length + 1) := hide (by simp; omega)
    generalize ws ++ List.replicate j x = wj at *
    go_upto_region 5 with (at_builtin; refine wpList_append_own _ rfl _ _ 25 rfl base 29 i9 (.int .u32 0) 1 4 Tryd.underlying25 hi hz hsz hb rfl (by decide) _ _ _ rfl (HOw.out.alloc _) ⟨_, 0, none⟩ 1 1 [.int .u32 (x : Nat)] rfl rfl (cell_one_new _ _ _) (by simp [Value.oneCell']) (by unfold maxLen; omega) (by omega) (by simp; omega) ?_; intro v3 w3 ho3 hg3 _; obtain ⟨a3, c3, rfl⟩ := own_shape ho3)
    have HO3 : Hid (w3.ownsRow base 29 1 (.slice a3 (wj.length + 1) c3) (ws ++ List.replicate (j + 1) x).length (wds (ws ++ List.replicate (j + 1) x))) := hide (by rw [HE.out, HE2.out]; exact ho3)
    have HB3 := hide ((HBw.out.alloc hsw _).grown hg3 (by simp; omega) (fun k hk => (HOw.out.lt k hk).1))
    have hs3 : base ≤ w3.heap.size := Nat.le_trans (by simp; omega) hg3.size
    clear ho3 hg3 HOw HBw
    go_wp2
    refine ⟨⟨j + 1, by simp, by omega, HO3.out, HB3.out, hs3⟩, ?_⟩
    simp [intOf]
    omega
  · have ej : j = words.toNat := by omega
    have hx : ¬ (j : Int) < words := hlt
    have HV : Hid (ws ++ List.replicate words.toNat x = ws ++ List.replicate j x) := hide (by rw [← ej])
    have HLn : Hid ((ws ++ List.replicate j x).length = ws.length + words.toNat) := hide (by simp; omega)
    clear ej hlt
    generalize ws ++ List.replicate j x = wj at *
    go_wp2
    go_ret
    exact ⟨_, rfl, by rw [HV.out, ← HLn.out]; exact HOw.out, HBw.out⟩
end
end Go.Proofs.YtncbbllmhohnkaaDoor
