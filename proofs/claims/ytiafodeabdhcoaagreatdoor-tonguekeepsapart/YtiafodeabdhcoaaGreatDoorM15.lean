import Derived.BigRegion
import Derived.Test.YtiafodeabdhcoaaGreatDoorM00
import Derived.Test.YtiafodeabdhcoaaGreatDoorM05
import Derived.Test.YtiafodeabdhcoaaGreatDoorM14
namespace Go.Proofs.YtiafodeabdhcoaaGreatDoor
open Go.RowKit
theorem results_row3 {P : Program} {fn : Func} {p u v : Tmp} {ty : TypeId} (h : fn.results = #[.cell p ty, .tmp u, .tmp v]) (tmps : Array Value) (w : World) (g : Nat) (t : TypeId) (cs : Array Value) (fr : Nat × Nat) (d : TypeDesc)
    (hp : tmps.getD p undef = .pointer (some ⟨g, 0, none⟩)) (hg : w.heap[g]? = some (.cells cs t fr))
    (hu : P.underlying ty = some d) (hd : (match d with | .struct _ | .array _ _ => true | _ => false) = true) (hi : (P.info? ty).map (·.size) = some cs.size) :
    (results fn tmps).run P w = .ok (.tuple #[.agg cs, tmps.getD u undef, tmps.getD v undef]) w := by
  have hp' : tmps[p]?.getD undef = .pointer (some ⟨g, 0, none⟩) := by simpa using hp
  unfold results
  simp [h, hp', asAddr, run_loadVar_row w g t ty cs fr d hg hu hd hi]
theorem set_three {w : World} {C : Nat} {T : TypeId} {a b c : Value} (h : w.heap[C]? = some (.cells #[a, b, c] T (0, 0))) (x y z : Value) : w.there C 0 3 ∧ (w.setCells C 0 [x, y, z]).heap[C]? = some (.cells #[x, y, z] T (0, 0)) ∧ (w.setCells C 0 [x, y, z]).heap.size = w.heap.size ∧ ∀ k, k ≠ C → (w.setCells C 0 [x, y, z]).heap[k]? = w.heap[k]? := by
  refine ⟨fun j hj => ⟨?_, frozen_of_row _ _ _ _ _ h⟩, ?_, ?_, fun k hk => ?_⟩
  · rw [cell_of_row _ _ _ _ _ _ h]
    match j, hj with
    | 0, _ => rfl
    | 1, _ => rfl
    | 2, _ => rfl
  · show (((w.setCell ⟨C, 0, none⟩ x).setCell ⟨C, 1, none⟩ y).setCell ⟨C, 2, none⟩ z).heap[C]? = _
    rw [heap_setCell_same _ C 2 _ T _ (heap_setCell_same _ C 1 _ T _ (heap_setCell_same _ C 0 _ T _ h))]; simp
  · show (((w.setCell ⟨C, 0, none⟩ x).setCell ⟨C, 1, none⟩ y).setCell ⟨C, 2, none⟩ z).heap.size = _
    simp [World.setCell]
  · show (((w.setCell ⟨C, 0, none⟩ x).setCell ⟨C, 1, none⟩ y).setCell ⟨C, 2, none⟩ z).heap[k]? = _
    rw [heap_setCell_other _ _ _ _ (by simpa using hk), heap_setCell_other _ _ _ _ (by simpa using hk), heap_setCell_other _ _ _ _ (by simpa using hk)]
/-- the faults, by kind, and their codes -/
def fltL (r : Rd) : List Nat := [r.form, r.nam, r.dat, r.dep]
def cdL : List Nat := [230, 231, 232, 232]
/-- what is told of a reader that is done -/
def doneT (o : Option Sl) (r : Rd) : (List Vr × Option Sl) × Nat × Nat :=
  if r.form ≠ 0 then (([], none), r.form, 230) else if r.nam ≠ 0 then (([], none), r.nam, 231) else if r.dat ≠ 0 then (([], none), r.dat, 232) else if r.dep ≠ 0 then (([], none), r.dep, 232) else ((r.vars, o), 0, 0)
theorem readT_done (s : Tx) : readT s = doneT (progT (tksT s)).1 (progT (tksT s)).2 := rfl
theorem doneT_bad {o : Option Sl} {r : Rd} {k : Nat} (hk : k < 4) (h0 : ∀ j, j < k → (fltL r).getD j 0 = 0) (h : (fltL r).getD k 0 ≠ 0) : doneT o r = (([], none), (fltL r).getD k 0, cdL.getD k 0) := by
  unfold doneT
  match k, hk with
  | 0, _ => rw [if_pos (show r.form ≠ 0 from h)]; rfl
  | 1, _ => rw [if_neg (show ¬ r.form ≠ 0 from fun h9 => h9 (h0 0 (by omega))), if_pos (show r.nam ≠ 0 from h)]; rfl
  | 2, _ => rw [if_neg (show ¬ r.form ≠ 0 from fun h9 => h9 (h0 0 (by omega))), if_neg (show ¬ r.nam ≠ 0 from fun h9 => h9 (h0 1 (by omega))), if_pos (show r.dat ≠ 0 from h)]; rfl
  | 3, _ => rw [if_neg (show ¬ r.form ≠ 0 from fun h9 => h9 (h0 0 (by omega))), if_neg (show ¬ r.nam ≠ 0 from fun h9 => h9 (h0 1 (by omega))), if_neg (show ¬ r.dat ≠ 0 from fun h9 => h9 (h0 2 (by omega))), if_pos (show r.dep ≠ 0 from h)]; rfl
theorem doneT_ok {o : Option Sl} {r : Rd} (h0 : ∀ j, j < 4 → (fltL r).getD j 0 = 0) : doneT o r = ((r.vars, o), 0, 0) := by
  unfold doneT
  rw [if_neg (show ¬ r.form ≠ 0 from fun h9 => h9 (h0 0 (by omega))), if_neg (show ¬ r.nam ≠ 0 from fun h9 => h9 (h0 1 (by omega))), if_neg (show ¬ r.dat ≠ 0 from fun h9 => h9 (h0 2 (by omega))), if_neg (show ¬ r.dep ≠ 0 from fun h9 => h9 (h0 3 (by omega)))]
theorem not_bool {w : World} {C : Nat} {T : TypeId} {fr : Nat × Nat} {a d : Option Addr} {b c e f : Nat} {t : ByteArray} (h : w.heap[C]? = some (.cells #[.slice a b c, .slice d e f, .string t] T fr)) {x : Addr} (hx : x.block = C) {z : Bool} (hs : w.cell? x = some (.bool z)) : False := by
  unfold World.cell? at hs
  rw [hx, h] at hs
  dsimp only at hs
  split at hs
  · cases hs
  · generalize x.off = n at hs
    match n with
    | 0 => simp at hs
    | 1 => simp at hs
    | 2 => simp at hs
    | n + 3 => simp at hs
theorem info_pg : (Tryz.prog.info? 57).map (·.size) = some 3 := by kernel_rfl
theorem idx4_0 (w : World) (a b c d : Nat) : (Instr.index 75 (.agg #[.int .i64 (a : Nat), .int .i64 (b : Nat), .int .i64 (c : Nat), .int .i64 (d : Nat)]) (.int .i64 (0 : Int))).run Tryz.prog w = .ok (.int .i64 (a : Nat)) w := by kernel_rfl
theorem idx4_1 (w : World) (a b c d : Nat) : (Instr.index 75 (.agg #[.int .i64 (a : Nat), .int .i64 (b : Nat), .int .i64 (c : Nat), .int .i64 (d : Nat)]) (.int .i64 (1 : Int))).run Tryz.prog w = .ok (.int .i64 (b : Nat)) w := by kernel_rfl
theorem idx4_2 (w : World) (a b c d : Nat) : (Instr.index 75 (.agg #[.int .i64 (a : Nat), .int .i64 (b : Nat), .int .i64 (c : Nat), .int .i64 (d : Nat)]) (.int .i64 (2 : Int))).run Tryz.prog w = .ok (.int .i64 (c : Nat)) w := by kernel_rfl
theorem idx4_3 (w : World) (a b c d : Nat) : (Instr.index 75 (.agg #[.int .i64 (a : Nat), .int .i64 (b : Nat), .int .i64 (c : Nat), .int .i64 (d : Nat)]) (.int .i64 (3 : Int))).run Tryz.prog w = .ok (.int .i64 (d : Nat)) w := by kernel_rfl
theorem idx4 (w : World) (a b c d : Nat) (k : Nat) (hk : k < 4) : (Instr.index 75 (.agg #[.int .i64 (a : Nat), .int .i64 (b : Nat), .int .i64 (c : Nat), .int .i64 (d : Nat)]) (.int .i64 (k : Nat))).run Tryz.prog w = .ok (.int .i64 (([a, b, c, d].getD k 0 : Nat) : Int)) w := by
  match k, hk with
  | 0, _ => exact idx4_0 w a b c d
  | 1, _ => exact idx4_1 w a b c d
  | 2, _ => exact idx4_2 w a b c d
  | 3, _ => exact idx4_3 w a b c d
section
variable (w : World)
set_option maxRecDepth 100000 in
set_option maxHeartbeats 16000000 in
theorem read_any (s : Tx) (hl : s.length ≤ 16384) (hG : Lg w) (h9 : 9 ≤ w.heap.size) : Calls Tryz.prog 24 #[.string ⟨s.toArray⟩] w fun e w' => ∃ (av : Option Addr) (cv : Nat) (v : Value), e = .returned (.tuple #[.agg #[.slice av (readT s).1.1.length cv, v, .string ⟨#[]⟩], .int .i64 ((readT s).2.1 : Nat), .int .i64 ((readT s).2.2 : Nat)]) ∧ RwK w' av 4 vrL (readT s).1.1 ∧ LsO w' (readT s).1.2 (New w) v ∧ Below w.heap.size w w' ∧ slO (readT s).1.2 ≤ 60000 := by
  have HC0 : Hid ((w.alloc (.cells #[.slice none 0 0, .slice none 0 0, .string ⟨#[]⟩] 57)).heap[w.heap.size]? = some (.cells #[.slice none 0 0, .slice none 0 0, .string ⟨#[]⟩] 57 (0, 0))) := hide (heap_alloc_last _ _)
  have HB0 : Hid (Below w.heap.size w (w.alloc (.cells #[.slice none 0 0, .slice none 0 0, .string ⟨#[]⟩] 57))) := hide ((Below.refl _ _).alloc (Nat.le_refl _) _)
  have HG0 := hide (hG.below ((Below.refl w.heap.size w).alloc (Nat.le_refl _) (.cells #[.slice none 0 0, .slice none 0 0, .string ⟨#[]⟩] 57)))
  obtain ⟨C, hC⟩ : ∃ C, w.heap.size = C := ⟨_, rfl⟩
  have HCw := hide hC
  have hz1 : (w.alloc (.cells #[.slice none 0 0, .slice none 0 0, .string ⟨#[]⟩] 57)).heap.size = C + 1 := by simp; omega
  rw [hC] at HC0
  clear hG
  go_enter Tryz.func24, Tryz.ntmps24
  go_upto_region 1 with fail
  generalize w.alloc (.cells #[.slice none 0 0, .slice none 0 0, .string ⟨#[]⟩] 57) = w1 at *
  have HZ1 := hide hz1
  clear hC hz1
  have hmm : ∀ W, (Instr.makeMap 74 none).run Tryz.prog W = .ok (.map (some W.heap.size)) (W.alloc (.map #[] 0)) := fun _ => rfl
  go_wp2_with fail
  refine (cut_any w1 s hl HG0.out).mono ?_
  rintro e w2 ⟨v, rfl, h1, h2⟩
  have HT := hide h1
  have HB2 := hide h2
  have hz2 := h2.size
  obtain ⟨hn, ao, c, rfl, hrw, hba⟩ := RwK.of tkL_len (by decide) h1
  have HRw := hide hrw
  have HBa := hide hba
  have HBl : Hid (∀ a, ao = some a → a.block < w2.heap.size) := hide (fun a ha => by subst ha; exact (World.ownsRow.lt h1 a.block (by obtain ⟨h5, h6, h7⟩ := hba a rfl; cases a; simp [Value.ownBlock] at h6 h7 ⊢)).2)
  clear h1 h2 hn hrw hba
  have hts : TsOk s.length (tksT s) := cut_ts s _ _
  obtain ⟨ts, htse⟩ : ∃ ts, tksT s = ts := ⟨_, rfl⟩
  have HTe := hide htse
  obtain ⟨n, hn⟩ : ∃ n, ts.length = n := ⟨_, rfl⟩
  have HN := hide hn
  rw [htse] at hts HRw HT
  rw [htse]
  rw [hn] at HT ⊢
  have HTs := hide hts
  obtain ⟨M, hM⟩ : ∃ M, w2.heap.size = M := ⟨_, rfl⟩
  have hb3 : Below w2.heap.size w2 ((w2.alloc (.map #[] 0)).alloc (.cells #[.slice ao n c, .int .i64 0, .int .i64 0, .int .i64 0, .int .i64 0, .int .i64 0, .slice none 0 0, .map (some M), .int .i64 0, .int .i64 0, .int .i64 0] 77)) := ((Below.refl _ _).alloc (Nat.le_refl _) _).alloc (by simp) _
  have HR3 : Hid (RdA ((w2.alloc (.map #[] 0)).alloc (.cells #[.slice ao n c, .int .i64 0, .int .i64 0, .int .i64 0, .int .i64 0, .int .i64 0, .slice none 0 0, .map (some M), .int .i64 0, .int .i64 0, .int .i64 0] 77)) (M + 1) ts ⟨ao, c, none, 0, M, []⟩ rd0) := hide (by
    have hlen := HTs.out.len
    refine ⟨⟨?_⟩, fun i hi => ?_, fun a ha => ?_, fun i hi => (by simp [rd0] at hi), fun a ha => (by cases ha), ⟨#[], 0, ?_, rfl⟩, (by show M ≠ M + 1; omega), fun s => rfl, HTs.out.ok, ?_, by omega⟩
    · have h9 := heap_alloc_last (w2.alloc (.map #[] 0)) (.cells #[.slice ao n c, .int .i64 0, .int .i64 0, .int .i64 0, .int .i64 0, .int .i64 0, .slice none 0 0, .map (some M), .int .i64 0, .int .i64 0, .int .i64 0] 77)
      rw [World.size_alloc, hM] at h9
      rw [h9, hn]; rfl
    · exact (HRw.out.keep hb3) i hi
    · have := HBl.out a ha; show a.block ≠ M + 1; omega
    · rw [Below.heap_alloc _ _ _ (by simp; omega), ← hM]; exact heap_alloc_last _ _
    · show 0 < ts.length
      exact List.length_pos_iff.2 HTs.out.ne)
  have HD3 : Hid (Dc ((w2.alloc (.map #[] 0)).alloc (.cells #[.slice ao n c, .int .i64 0, .int .i64 0, .int .i64 0, .int .i64 0, .int .i64 0, .slice none 0 0, .map (some M), .int .i64 0, .int .i64 0, .int .i64 0] 77)) (M + 1) ⟨ao, c, none, 0, M, []⟩ rd0) := hide ⟨⟨rfl, .inl ⟨rfl, rfl⟩⟩, by show M < M + 1; omega, fun a ha => by have := HBl.out a ha; show a.block < M + 1 ∧ a.block ≠ M; omega⟩
  have HB3 := hide hb3
  have HG3 := hide ((HG0.out.below HB2.out).below hb3)
  have hs3 : ((w2.alloc (.map #[] 0)).alloc (.cells #[.slice ao n c, .int .i64 0, .int .i64 0, .int .i64 0, .int .i64 0, .int .i64 0, .slice none 0 0, .map (some M), .int .i64 0, .int .i64 0, .int .i64 0] 77)).heap.size = M + 2 := by simp; omega
  clear hts htse hn hb3
  go_upto_region 2 with fail
  generalize ((w2.alloc (.map #[] 0)).alloc (.cells #[.slice ao n c, .int .i64 0, .int .i64 0, .int .i64 0, .int .i64 0, .int .i64 0, .slice none 0 0, .map (some M), .int .i64 0, .int .i64 0, .int .i64 0] 77)) = w3 at *
  have HM := hide hM
  clear hM
  have hM9 : 9 ≤ M := by have := HM.out; have := HZ1.out; have := HCw.out; omega
  have hCM : C < M := by have := HM.out; have := HZ1.out; omega
  have HC3 : Hid (w3.heap[C]? = some (.cells #[.slice none 0 0, .slice none 0 0, .string ⟨#[]⟩] 57 (0, 0))) := hide (by have := HM.out; have := HZ1.out; rw [HB3.out.block C (by omega), HB2.out.block C (by omega)]; exact HC0.out)
  have HB03 := hide (HB0.out.trans ((HB2.out.trans (HB3.out.mono hz2)).mono (by have := HZ1.out; have := HCw.out; omega)))
  go_wp2_with fail
  refine (prog_any w3 (M + 1) ts ⟨ao, c, none, 0, M, []⟩ HR3.out HD3.out HG3.out hM9 HTs.out.val).mono ?_
  rintro e w4 ⟨v, rfl, h1, ⟨F4, h2⟩, h3⟩
  obtain ⟨pt, hpt⟩ : ∃ z, progT ts = z := ⟨_, rfl⟩
  rw [hpt] at h1 h2
  obtain ⟨st, r⟩ := pt
  dsimp only at h1 h2
  have HPt : Hid (readT s = doneT st r) := hide (by rw [readT_done, HTe.out, hpt])
  have HCt : Hid (slO st ≤ 60000) := hide (by
    have h8 := prog_n (ts := ts)
    rw [hpt] at h8
    have h9 := h2.hat
    have h10 := h2.len
    dsimp only at h8
    omega)
  have hs4 := h3.size
  have h3' : Below M w3 w4 := h3
  have HB4 := hide h3'
  have HC4 : Hid ((w4.alloc (.cells #[.int .i64 230, .int .i64 231, .int .i64 232, .int .i64 232] 79)).heap[C]? = some (.cells #[.slice none 0 0, .slice none 0 0, .string ⟨#[]⟩] 57 (0, 0))) := hide (by rw [Below.heap_alloc _ _ _ (by omega), h3'.block C hCM]; exact HC3.out)
  have HR5 := hide (h2.keep (w' := (w4.alloc (.cells #[.int .i64 230, .int .i64 231, .int .i64 232, .int .i64 232] 79))) ((Below.refl _ _).alloc (Nat.le_refl _) _))
  have HL5 : Hid (LsO (w4.alloc (.cells #[.int .i64 230, .int .i64 231, .int .i64 232, .int .i64 232] 79)) st (New w3) v) := hide (h1.move (fun j hj hs => ⟨hj, Below.heap_alloc _ _ _ hs⟩) (fun j hj => hj))
  have HD5 : Hid ((w4.alloc (.cells #[.int .i64 230, .int .i64 231, .int .i64 232, .int .i64 232] 79)).heap[w4.heap.size]? = some (.cells #[.int .i64 230, .int .i64 231, .int .i64 232, .int .i64 232] 79 (0, 0))) := hide (heap_alloc_last _ _)
  have HB5 : Hid (Below w.heap.size w (w4.alloc (.cells #[.int .i64 230, .int .i64 231, .int .i64 232, .int .i64 232] 79))) := hide ((HB03.out.trans (h3'.mono (by have := HCw.out; omega))).alloc (by have := HCw.out; omega) _)
  obtain ⟨D, hD⟩ : ∃ D, w4.heap.size = D := ⟨_, rfl⟩
  rw [hD] at HD5
  have hCD : C < D := by omega
  clear h1 h2 h3 hpt h3'
  go_upto_region 4 with fail
  generalize (w4.alloc (.cells #[.int .i64 230, .int .i64 231, .int .i64 232, .int .i64 232] 79)) = w5 at *
  clear hD
  have b2 := HR5.out.b.get (j := 2) rfl
  have b3 := HR5.out.b.get (j := 3) rfl
  have b4 := HR5.out.b.get (j := 4) rfl
  have b5 := HR5.out.b.get (j := 5) rfl
  have b6 := HR5.out.b.get (j := 6) rfl
  obtain ⟨fl, hfl⟩ : ∃ fl, fltL r = fl := ⟨_, rfl⟩
  have HFl := hide hfl
  obtain ⟨f0, f1, f2, f3, hff⟩ : ∃ f0 f1 f2 f3, fl = [f0, f1, f2, f3] := ⟨_, _, _, _, hfl.symm⟩
  have e0 : r.form = f0 := by have := hfl.trans hff; unfold fltL at this; simp at this; exact this.1
  have e1 : r.nam = f1 := by have := hfl.trans hff; unfold fltL at this; simp at this; exact this.2.1
  have e2 : r.dat = f2 := by have := hfl.trans hff; unfold fltL at this; simp at this; exact this.2.2.1
  have e3 : r.dep = f3 := by have := hfl.trans hff; unfold fltL at this; simp at this; exact this.2.2.2
  rw [e0] at b2
  rw [e1] at b3
  rw [e2] at b4
  rw [e3] at b5
  subst hff
  clear hfl e0 e1 e2 e3
  have hix := fun (W : World) (k : Nat) (hk : k < 4) => idx4 W f0 f1 f2 f3 k hk
  have HIx := hide hix
  clear hix
  go_upto_region 5 with fail
  go_loopw [18] (fun i wr => ∃ k : Nat, k ≤ 4 ∧ i = .int .i64 (k : Nat) ∧ Hid (∀ j, j < k → [f0, f1, f2, f3].getD j 0 = 0) ∧ wr = w5) (fun i _ => 4 - (RowKit.intOf i).toNat)
  case atStart => exact ⟨0, by omega, rfl, hide (fun j hj => by omega), rfl⟩
  case round =>
    obtain ⟨k, hk, rfl, H0, hwr⟩ := hrel
    have hwr' := hwr.symm
    clear hwr
    subst hwr'
    by_cases hlt : k < 4
    · have hki : (k : Int) < 4 := by omega
      have hk0 : (0 : Int) ≤ k := by omega
      have hx := HIx.out w5 k hlt
      have hx' : (Instr.index 75 (.agg #[.int .i64 (f0 : Nat), .int .i64 (f1 : Nat), .int .i64 (f2 : Nat), .int .i64 (f3 : Nat)]) (.int .i64 (k : Int))).run Tryz.prog w5 = _ := hx
      clear hx
      have hx := hx'
      clear hx'
      obtain ⟨fk, hfk⟩ : ∃ z, [f0, f1, f2, f3].getD k 0 = z := ⟨_, rfl⟩
      have HFk := hide hfk
      rw [hfk] at hx
      clear hfk
      by_cases hz : fk = 0
      · have hzb : ((fk : Int) != 0) = false := by simp; omega
        have hzb2 : ((fk : Int) == 0) = true := by simp; omega
        have H02 : Hid (∀ j, j < k + 1 → [f0, f1, f2, f3].getD j 0 = 0) := hide (fun j hj => by
          by_cases hjk : j = k
          · subst hjk; rw [HFk.out]; exact hz
          · exact H0.out j (by omega))
        clear hz H0
        go_wp2
        go_roundw
        case rel => exact ⟨k + 1, by omega, by go_num, H02, trivial⟩
        case measure => simp [RowKit.intOf]; omega
      · have hzb : ((fk : Int) != 0) = true := by simp; omega
        have hzb2 : ((fk : Int) == 0) = false := by simp; omega
        have hbad := doneT_bad (o := st) (r := r) hlt (by rw [HFl.out]; exact H0.out) (by rw [HFl.out, HFk.out]; exact hz)
        rw [HFl.out, HFk.out] at hbad
        have HBad := hide hbad
        obtain ⟨ck, hck⟩ : ∃ z, cdL.getD k 0 = z := ⟨_, rfl⟩
        have dk : w5.cell? ⟨D, k, none⟩ = some (.int .i64 (ck : Nat)) := by
          rw [cell_of_row _ _ _ _ _ _ HD5.out, ← hck]
          rcases (show k = 0 ∨ k = 1 ∨ k = 2 ∨ k = 3 by omega) with rfl | rfl | rfl | rfl <;> rfl
        have HCk := hide hck
        have hst := set_three HC4.out (.slice none 0 0) (.slice none 0 0) (.string ⟨#[]⟩)
        have HSt := hide hst
        have HCle : Hid (w.heap.size ≤ C) := hide (by have := HCw.out; omega)
        have HFin : Hid (Below w.heap.size w (w5.setCells C 0 [.slice none 0 0, .slice none 0 0, .string ⟨#[]⟩])) := hide (((HB5.out.setCell (p := ⟨C, 0, none⟩) HCle.out _).setCell (p := ⟨C, 0 + 1, none⟩) HCle.out _).setCell (p := ⟨C, 0 + 1 + 1, none⟩) HCle.out _)
        have z0 := cell_of_row _ _ 0 _ _ _ HC4.out
        have z1 := cell_of_row _ _ 1 _ _ _ HC4.out
        have z2 := cell_of_row _ _ 2 _ _ _ HC4.out
        simp only [List.getElem?_toArray, List.getElem?_cons_zero, List.getElem?_cons_succ] at z0 z1 z2
        have y0 := frozen_of_row _ _ 0 _ _ HC4.out
        have y1 := frozen_of_row _ _ 1 _ _ HC4.out
        have y2 := frozen_of_row _ _ 2 _ _ HC4.out
        clear hz hbad hck hst
        go_upto_region 8 with fail
        go_region
        clear z0 z1 z2 y0 y1 y2
        go_wp2
        refine bodyPost_ret (results_row3 rfl _ _ C 57 #[.slice none 0 0, .slice none 0 0, .string ⟨#[]⟩] (0, 0) _ rfl HSt.out.2.1 Tryz.underlying57 rfl (by kernel_rfl)) rfl ?_
        rw [HPt.out, HBad.out, HCk.out]
        exact ⟨none, 0, _, rfl, fun i hi => absurd hi (Nat.not_lt_zero _), rfl, HFin.out.drew, Nat.zero_le _⟩
    · obtain rfl : k = 4 := by omega
      have HOk : Hid (doneT st r = ((r.vars, st), 0, 0)) := hide (doneT_ok (by rw [HFl.out]; exact H0.out))
      have HCb : Hid (Blk w5 C 57 [.slice none 0 0, .slice none 0 0, .string ⟨#[]⟩]) := hide ⟨HC4.out⟩
      have HCp := hide (HCb.out.put [.slice F4.av r.vars.length F4.cv, v, .string ⟨#[]⟩])
      have HFin := hide (putB_below HB5.out (g := C) (by have := HCw.out; omega) [.slice F4.av r.vars.length F4.cv, v, .string ⟨#[]⟩] 57)
      have hv1 := HL5.out.one
      have HVo : Hid (RwK (putB w5 C [.slice F4.av r.vars.length F4.cv, v, .string ⟨#[]⟩] 57) F4.av 4 vrL r.vars) := hide (fun i hi => by
        obtain ⟨a, h1, h2⟩ := HR5.out.vo i hi
        have hb : a.block ≠ C := fun e => not_bool HC4.out (by rw [add_blk, add_blk]; exact e) (h2 1 _ rfl)
        refine ⟨a, h1, fun j u hu => ?_⟩
        rw [putB_cell (by rw [add_blk, add_blk]; exact hb)]
        exact h2 j u hu)
      have HLs : Hid (LsO (putB w5 C [.slice F4.av r.vars.length F4.cv, v, .string ⟨#[]⟩] 57) st (New w) v) := hide (HL5.out.move (fun j hj hs => by
        have h8 : w3.heap.size ≤ j := hj
        have := HCw.out
        exact ⟨by show w.heap.size ≤ j; omega, putB_other _ _ _ _ (by omega)⟩) (fun j hj => by have h8 : w3.heap.size ≤ j := hj; have := HCw.out; show w.heap.size ≤ j; omega))
      obtain ⟨v1, v2, v3, rfl⟩ := ls_shape HL5.out
      go_wp2_with (refine storeB [.slice F4.av r.vars.length F4.cv, .slice v1 v2 v3, .string ⟨#[]⟩] info_pg rfl rfl _ _ rfl C rfl rfl _ HCb.out rfl ?_)
      refine bodyPost_ret (results_row3 rfl _ _ C 57 #[.slice F4.av r.vars.length F4.cv, .slice v1 v2 v3, .string ⟨#[]⟩] (0, 0) _ rfl HCp.out.out Tryz.underlying57 rfl (by kernel_rfl)) rfl ?_
      rw [HPt.out, HOk.out]
      exact ⟨F4.av, F4.cv, .slice v1 v2 v3, rfl, HVo.out, HLs.out, HFin.out, HCt.out⟩
end
end Go.Proofs.YtiafodeabdhcoaaGreatDoor

namespace Go.Proofs.YtiafodeabdhcoaaGreatDoor
open Go.RowKit
/-- what load tells: the variables, the statements, the code; the line and the error -/
def ldT (s : Tx) : (List Vr × Option Sl × Tx) × Nat × Nat :=
  if 16384 < s.length then (([], none, []), 0, 232)
  else if (readT s).2.2 ≠ 0 then (([], none, []), (readT s).2.1, (readT s).2.2)
  else if 384 < (codeT (readT s).1.2).words then (([], none, []), 0, 232)
  else (((readT s).1.1, (readT s).1.2, (codeT (readT s).1.2).text), 0, 0)
def pgL (av : Option Addr) (n cv : Nat) (v : Value) (t : Tx) : List Value := [.slice av n cv, v, .string ⟨t.toArray⟩]
theorem info_pgc : (Tryz.prog.info? 57).map (·.size) = some 3 := by kernel_rfl
theorem pg_one {av : Option Addr} {n cv : Nat} {v1 : Option Addr} {v2 v3 : Nat} {t : Tx} : (pgL av n cv (.slice v1 v2 v3) t).all (fun u => u.oneCell') = true := rfl
theorem bad_val (s : Tx) (h : ¬ 16384 < s.length) (hb : (readT s).2.2 ≠ 0) : ldT s = (([], none, []), (readT s).2.1, (readT s).2.2) := by
  unfold ldT; rw [if_neg h, if_pos hb]
def LdPost (w : World) (q : (List Vr × Option Sl × Tx) × Nat × Nat) (e : Ending) (w' : World) : Prop := ∃ av cv v, e = .returned (.tuple #[.agg (pgL av q.1.1.length cv v q.1.2.2).toArray, .int .i64 (q.2.1 : Nat), .int .i64 (q.2.2 : Nat)]) ∧ RwK w' av 4 vrL q.1.1 ∧ LsO w' q.1.2.1 (New w) v ∧ Below w.heap.size w w' ∧ q.1.2.2.length ≤ 1000000000 ∧ slO q.1.2.1 ≤ 60000
theorem ld_ok (s : Tx) : (ldT s).2.2 = 0 → slOK (ldT s).1.2.1 := by
  unfold ldT
  split
  · intro h; cases h
  · split
    · next h => intro h2; exact absurd h2 h
    · next h =>
      split
      · intro h; cases h
      · intro _; exact read_ok s (by omega)
theorem rw_none {w : World} {av : Option Addr} : RwK w av 4 vrL [] := fun _ hi => absurd hi (Nat.not_lt_zero _)
theorem rw_put {w : World} {C : Nat} {a0 : Option Addr} {b0 c0 : Nat} {d0 : Option Addr} {e0 f0 : Nat} {t : ByteArray} {T T' : TypeId} (hC : w.heap[C]? = some (.cells #[.slice a0 b0 c0, .slice d0 e0 f0, .string t] T (0, 0))) {av : Option Addr} {l : List Vr} (h : RwK w av 4 vrL l) (cs : List Value) : RwK (putB w C cs T') av 4 vrL l := fun i hi => by
  obtain ⟨a, h1, h2⟩ := h i hi
  have hb : a.block ≠ C := fun e => not_bool hC (by rw [add_blk, add_blk]; exact e) (h2 1 _ rfl)
  refine ⟨a, h1, fun j u hu => ?_⟩
  rw [putB_cell (by rw [add_blk, add_blk]; exact hb)]
  exact h2 j u hu
set_option maxRecDepth 100000 in
set_option maxHeartbeats 16000000 in
theorem load_any (w : World) (s : Tx) (hs : s.length ≤ 4000000000000000000) (hG : Lg w) (h9 : 9 ≤ w.heap.size) : Calls Tryz.prog 20 #[.string ⟨s.toArray⟩] w (LdPost w (ldT s)) := by
  have hb1 : Below w.heap.size w (w.alloc (.cells #[.slice none 0 0, .slice none 0 0, .string ⟨#[]⟩] 57)) := (Below.refl _ _).alloc (Nat.le_refl _) _
  have HB1 := hide hb1
  have HG1 := hide (hG.below hb1)
  have HC1 : Hid (Blk (w.alloc (.cells #[.slice none 0 0, .slice none 0 0, .string ⟨#[]⟩] 57)) w.heap.size 57 [.slice none 0 0, .slice none 0 0, .string ⟨#[]⟩]) := hide ⟨heap_alloc_last _ _⟩
  have hz1 : (w.alloc (.cells #[.slice none 0 0, .slice none 0 0, .string ⟨#[]⟩] 57)).heap.size = w.heap.size + 1 := by simp
  obtain ⟨C, hC⟩ : ∃ C, w.heap.size = C := ⟨_, rfl⟩
  by_cases hl : 16384 < s.length
  · have HV : Hid (ldT s = (([], none, []), 0, 232)) := hide (by unfold ldT; rw [if_pos hl])
    have hli : (16384 : Int) < (s.length : Int) := by omega
    have HF := hide (putB_below (g := C) HB1.out (by omega) [.slice none 0 0, .slice none 0 0, .string ⟨#[]⟩] 57)
    have HCw := hide hC
    rw [hC] at HC1
    have HCp := hide (HC1.out.put [.slice none 0 0, .slice none 0 0, .string ⟨#[]⟩])
    clear hG hb1 hl hz1 HG1
    go_enter Tryz.func20, Tryz.ntmps20
    go_upto_region 2 with fail
    generalize w.alloc (.cells #[.slice none 0 0, .slice none 0 0, .string ⟨#[]⟩] 57) = w1 at *
    clear hC
    go_wp2_with (refine storeB [.slice none 0 0, .slice none 0 0, .string ⟨#[]⟩] info_pgc rfl rfl _ _ rfl C rfl rfl _ HC1.out rfl ?_)
    refine bodyPost_ret (results_row3 rfl _ _ C 57 #[.slice none 0 0, .slice none 0 0, .string ⟨#[]⟩] (0, 0) _ rfl HCp.out.out Tryz.underlying57 rfl (by kernel_rfl)) rfl ?_
    rw [HV.out]
    exact ⟨none, 0, .slice none 0 0, rfl, rw_none, rfl, HF.out, Nat.zero_le _, Nat.zero_le _⟩
  · have hli : ¬ (16384 : Int) < (s.length : Int) := by omega
    have HRd := hide (read_any (w.alloc (.cells #[.slice none 0 0, .slice none 0 0, .string ⟨#[]⟩] 57)) s (by omega) HG1.out (by omega))
    have HRo := hide (read_ok s)
    have HL0 := hide hl
    have HCw := hide hC
    rw [hC] at HC1
    clear hG hb1 hl
    go_enter Tryz.func20, Tryz.ntmps20
    go_upto_region 3 with fail
    generalize w.alloc (.cells #[.slice none 0 0, .slice none 0 0, .string ⟨#[]⟩] 57) = w1 at *
    have HZ1 := hide hz1
    clear hC hz1
    go_wp2_with fail
    refine HRd.out.mono ?_
    rintro e w2 ⟨av, cv, v, rfl, hrw, hls, hb2, hcnt⟩
    obtain ⟨v1, v2, v3, rfl⟩ := ls_shape hls
    have hs2 := hb2.size
    have hb3 : Below w2.heap.size w2 (putB (w2.alloc (.cells #[.slice none 0 0, .slice none 0 0, .string ⟨#[]⟩] 57)) w2.heap.size (pgL av (readT s).1.1.length cv (.slice v1 v2 v3) []) 57) := putB_below ((Below.refl _ _).alloc (Nat.le_refl _) _) (Nat.le_refl _) _ _
    have hb13 := hb2.trans (hb3.mono hs2)
    have HZ3 : Hid (Blk (w2.alloc (.cells #[.slice none 0 0, .slice none 0 0, .string ⟨#[]⟩] 57)) w2.heap.size 57 [.slice none 0 0, .slice none 0 0, .string ⟨#[]⟩]) := hide ⟨heap_alloc_last _ _⟩
    have HP4 := hide (HZ3.out.put (pgL av (readT s).1.1.length cv (.slice v1 v2 v3) []))
    have HC4 := hide (HC1.out.below hb13 (by have := HZ1.out; have := HCw.out; omega))
    have HB4 := hide (HB1.out.trans (hb13.mono (by have := HZ1.out; omega)))
    have HG4 := hide (HG1.out.below hb13)
    have HRw := hide (hrw.keep hb3)
    have HLs := hide (hls.move (fun j hj hs => ⟨hj, hb3.block j hs⟩) (fun _ h => h))
    have HLg := hide (hls.go (w' := w2) (Y := fun j => w1.heap.size ≤ j ∧ j < w2.heap.size) (fun j hj hs => ⟨⟨hj, hs⟩, rfl⟩))
    have HLb := hide (HLg.out.move (Y := fun j => w1.heap.size ≤ j ∧ j < w2.heap.size) (fun j hj hs => ⟨hj, hb3.block j hs⟩) (fun _ h => h))
    have HCn := hide hcnt
    have HZ2 := hide hs2
    obtain ⟨lv, hlv⟩ : ∃ n, (readT s).1.1.length = n := ⟨_, rfl⟩
    obtain ⟨ln, hln⟩ : ∃ n, (readT s).2.1 = n := ⟨_, rfl⟩
    obtain ⟨er, her⟩ : ∃ n, (readT s).2.2 = n := ⟨_, rfl⟩
    rw [hlv] at HP4 HC4 HB4 HG4 HRw HLs HLb ⊢
    rw [hln, her]
    have HLv := hide hlv
    have HLn := hide hln
    have HEr := hide her
    clear hb2 hb3 hb13 hrw hls hcnt HRd hlv hln her hs2
    go_upto_region 4 with (refine storeB (pgL av lv cv (.slice v1 v2 v3) []) info_pgc rfl rfl _ _ rfl w2.heap.size rfl rfl _ HZ3.out rfl ?_)
    generalize hw4 : putB (w2.alloc (.cells #[.slice none 0 0, .slice none 0 0, .string ⟨#[]⟩] 57)) w2.heap.size (pgL av lv cv (.slice v1 v2 v3) []) 57 = w4 at *
    have HSz : Hid (w4.heap.size = w2.heap.size + 1) := hide (by rw [← hw4, putB_size]; simp)
    clear hw4 HZ3
    have HCw2 : Hid (C < w2.heap.size) := hide (by have := HZ1.out; have := HCw.out; have := HZ2.out; omega)
    by_cases he : er = 0
    · subst he
      obtain ⟨P, hP⟩ : ∃ P, w2.heap.size = P := ⟨_, rfl⟩
      rw [hP] at HP4 HCw2 ⊢
      have HPe := hide hP
      have HOk := HRo.out HEr.out
      have HCd := hide (codeOf_any w4 (readT s).1.2 _ _ HLb.out (fun j hj => by have := HSz.out; have := hj.2; omega) HG4.out HOk (code_ok _ HOk (by have := HCn.out; omega)) (by have := HCn.out; omega))
      have hok := code_ok _ HOk (by have := HCn.out; omega)
      have hwb := hok.w
      have htb := hok.t
      have HV1 : Hid (ldT s = if 384 < (codeT (readT s).1.2).words then (([], none, []), 0, 232) else (((readT s).1.1, (readT s).1.2, (codeT (readT s).1.2).text), 0, 0)) := hide (by
        unfold ldT; rw [if_neg HL0.out, if_neg (by rw [HEr.out]; simp)])
      obtain ⟨wd, hwd⟩ : ∃ n, (codeT (readT s).1.2).words = n := ⟨_, rfl⟩
      obtain ⟨tx, htx⟩ : ∃ n, (codeT (readT s).1.2).text = n := ⟨_, rfl⟩
      rw [hwd, htx] at HCd HV1
      rw [hwd] at hwb
      rw [htx] at htb
      clear hP HOk hok hwd htx
      have b1 := HP4.out.get (j := 1) rfl
      go_wp2_with fail
      refine HCd.out.mono ?_
      rintro e w5 ⟨rfl, hb5⟩
      have HP5 := hide (HP4.out.below hb5 HP4.out.lt)
      have HC5 := hide (HC4.out.below hb5 HC4.out.lt)
      have HR5 := hide (HRw.out.keep hb5)
      have HL5 := hide (HLb.out.move (Y := fun j => w1.heap.size ≤ j ∧ j < w2.heap.size) (fun j hj hs => ⟨hj, hb5.block j hs⟩) (fun _ h => h))
      have HB5 := hide (HB4.out.trans (hb5.mono (by have := HSz.out; have := HZ2.out; have := HZ1.out; omega)))
      clear hb5 HP4 HC4 HRw HLs HB4 b1 HCd
      have q2 := HP5.out.get (j := 2) rfl
      have qf := HP5.out.frz 2
      have HP6 := hide (HP5.out.set 2 (.string ⟨tx.toArray⟩))
      have HC6 : Hid (Blk (w5.setCell ⟨P, 2, none⟩ (.string ⟨tx.toArray⟩)) C 57 [.slice none 0 0, .slice none 0 0, .string ⟨#[]⟩]) := hide (HC5.out.keep (heap_setCell_other _ _ _ _ (by have := HCw2.out; show C ≠ P; omega)))
      have HR6 : Hid (RwK (w5.setCell ⟨P, 2, none⟩ (.string ⟨tx.toArray⟩)) av 4 vrL (readT s).1.1) := hide (fun i hi => by
        obtain ⟨a, h1, h2⟩ := HR5.out i hi
        have hb : a.block ≠ P := fun e => not_bool (show w5.heap[P]? = some (.cells #[.slice av lv cv, .slice v1 v2 v3, .string ⟨#[]⟩] 57 (0, 0)) from HP5.out.out) (by rw [add_blk, add_blk]; exact e) (h2 1 _ rfl)
        refine ⟨a, h1, fun j u hu => ?_⟩
        rw [← h2 j u hu]
        exact World.cell?_of_block (heap_setCell_other _ _ _ _ (by rw [add_blk, add_blk]; exact hb)))
      have HB6 : Hid (Below w.heap.size w (w5.setCell ⟨P, 2, none⟩ (.string ⟨tx.toArray⟩))) := hide (HB5.out.setCell (p := ⟨P, 2, none⟩) (by have := HCw2.out; have := HCw.out; show w.heap.size ≤ P; omega) _)
      have HL6 : Hid (LsO (w5.setCell ⟨P, 2, none⟩ (.string ⟨tx.toArray⟩)) (readT s).1.2 (fun j => w1.heap.size ≤ j ∧ j < w2.heap.size) (.slice v1 v2 v3)) := hide (HL5.out.move (fun j hj _ => ⟨hj, heap_setCell_other _ _ _ _ (by have := HPe.out; have := hj.2; show j ≠ P; omega)⟩) (fun _ h => h))
      clear HP5 HC5 HR5 HL5 HB5
      by_cases hw : 384 < wd
      · have hwi : (384 : Int) < (wd : Int) := by omega
        rw [if_pos hw] at HV1
        clear hw
        go_upto_region 8 with fail
        generalize w5.setCell ⟨P, 2, none⟩ (.string ⟨tx.toArray⟩) = w6 at *
        have HF := hide (putB_below (g := C) HB6.out (by have := HCw.out; omega) [.slice none 0 0, .slice none 0 0, .string ⟨#[]⟩] 57)
        have HCp := hide (HC6.out.put [.slice none 0 0, .slice none 0 0, .string ⟨#[]⟩])
        clear q2 qf
        go_wp2_with (refine storeB [.slice none 0 0, .slice none 0 0, .string ⟨#[]⟩] info_pgc rfl rfl _ _ rfl C rfl rfl _ HC6.out rfl ?_)
        refine bodyPost_ret (results_row3 rfl _ _ C 57 #[.slice none 0 0, .slice none 0 0, .string ⟨#[]⟩] (0, 0) _ rfl HCp.out.out Tryz.underlying57 rfl (by kernel_rfl)) rfl ?_
        rw [HV1.out]
        exact ⟨none, 0, .slice none 0 0, rfl, rw_none, rfl, HF.out, Nat.zero_le _, Nat.zero_le _⟩
      · have hwi : ¬ (384 : Int) < (wd : Int) := by omega
        rw [if_neg hw] at HV1
        clear hw
        go_upto_region 8 with fail
        generalize w5.setCell ⟨P, 2, none⟩ (.string ⟨tx.toArray⟩) = w6 at *
        have HF := hide (putB_below (g := C) HB6.out (by have := HCw.out; omega) (pgL av lv cv (.slice v1 v2 v3) tx) 57)
        have HCp := hide (HC6.out.put (pgL av lv cv (.slice v1 v2 v3) tx))
        have HRf := hide (rw_put (T' := 57) (show w6.heap[C]? = some (.cells #[.slice none 0 0, .slice none 0 0, .string ⟨#[]⟩] 57 (0, 0)) from HC6.out.out) HR6.out (pgL av lv cv (.slice v1 v2 v3) tx))
        have HLf : Hid (LsO (putB w6 C (pgL av lv cv (.slice v1 v2 v3) tx) 57) (readT s).1.2 (New w) (.slice v1 v2 v3)) := hide (HL6.out.move (fun j hj _ => by
          have h1 := hj.1
          have := HZ1.out
          have := HCw.out
          exact ⟨by show w.heap.size ≤ j; omega, putB_other _ _ _ _ (by omega)⟩) (fun j hj => by have h1 := hj.1; have := HZ1.out; show w.heap.size ≤ j; omega))
        clear q2 qf
        have k0 := HP6.out.get (j := 0) rfl
        have k1 := HP6.out.get (j := 1) rfl
        have k2 := HP6.out.get (j := 2) rfl
        go_wp2_with (refine storeB (pgL av lv cv (.slice v1 v2 v3) tx) info_pgc rfl rfl _ _ rfl C rfl rfl _ HC6.out rfl ?_)
        refine bodyPost_ret (results_row3 rfl _ _ C 57 (pgL av lv cv (.slice v1 v2 v3) tx).toArray (0, 0) _ rfl HCp.out.out Tryz.underlying57 rfl (by kernel_rfl)) rfl ?_
        rw [HV1.out]
        exact ⟨av, cv, .slice v1 v2 v3, by rw [← HLv.out]; rfl, HRf.out, HLf.out, HF.out, htb, HCn.out⟩
    · have hei : ((er : Int) != 0) = true := by simp; omega
      have hei2 : ((er : Int) == 0) = false := by simp; omega
      have HV : Hid (ldT s = (([], none, []), ln, er)) := hide (by rw [bad_val s HL0.out (by rw [HEr.out]; exact he), HLn.out, HEr.out])
      have HF := hide (putB_below (g := C) HB4.out (by have := HCw.out; omega) [.slice none 0 0, .slice none 0 0, .string ⟨#[]⟩] 57)
      have HCp := hide (HC4.out.put [.slice none 0 0, .slice none 0 0, .string ⟨#[]⟩])
      clear he
      go_wp2_with (refine storeB [.slice none 0 0, .slice none 0 0, .string ⟨#[]⟩] info_pgc rfl rfl _ _ rfl C rfl rfl _ HC4.out rfl ?_)
      refine bodyPost_ret (results_row3 rfl _ _ C 57 #[.slice none 0 0, .slice none 0 0, .string ⟨#[]⟩] (0, 0) _ rfl HCp.out.out Tryz.underlying57 rfl (by kernel_rfl)) rfl ?_
      rw [HV.out]
      exact ⟨none, 0, .slice none 0 0, rfl, rw_none, rfl, HF.out, Nat.zero_le _, Nat.zero_le _⟩
end Go.Proofs.YtiafodeabdhcoaaGreatDoor

namespace Go.Proofs.YtiafodeabdhcoaaGreatDoor
open Go.RowKit
/-- the labels of the first k lines -/
def lbs (ls : List Ln) : Nat → List (Tx × (Nat × Int))
  | 0 => []
  | k + 1 => match ls[k]? with
    | none => lbs ls k
    | some l => if l.label ≠ [] ∧ atK KS (lbs ls k) l.label = none then lbs ls k ++ [(l.label, (k, ahd ls k))] else lbs ls k
theorem ahd_step {ls : List Ln} {k : Nat} (h : k < ls.length) : ahd ls (k + 1) = ahd ls k + ls[k].words := by
  unfold ahd
  rw [List.take_succ_eq_append_getElem h, List.map_append, List.sum_append]
  simp
theorem ahd_bound {ls : List Ln} (hw : ∀ l ∈ ls, 0 ≤ l.words ∧ l.words ≤ 512) : ∀ k, k ≤ ls.length → 0 ≤ ahd ls k ∧ ahd ls k ≤ 512 * k
  | 0, _ => by simp [ahd]
  | k + 1, h => by
    have ih := ahd_bound hw k (by omega)
    have h2 := hw ls[k] (List.getElem_mem h)
    rw [ahd_step h]
    omega
/-- lines that lie in a row -/
def LRow (W : World) (ao : Option Addr) (ls : List Ln) : Prop := ∀ k (h : k < ls.length), ∃ a : Addr, ao = some a ∧ ∀ j v, (lnL ls[k])[j]? = some v → W.cell? ((a.add (k * 8)).add j) = some v
theorem LRow.keep {W W' : World} {ao : Option Addr} {ls : List Ln} (h : LRow W ao ls) (hb : Below W.heap.size W W') : LRow W' ao ls := fun k hk => by
  obtain ⟨a, h1, h2⟩ := h k hk
  exact ⟨a, h1, fun j v hv => by rw [hb.cell (cell_blk (h2 j v hv))]; exact h2 j v hv⟩
theorem LRow.of {W : World} {base n : Nat} {e : TypeId} {v : Value} {ls : List Ln} (h : W.ownsRow base e 8 v n (lns ls)) : n = ls.length ∧ ∃ ao c, v = .slice ao n c ∧ LRow W ao ls := by
  have hl := h.1
  rw [lns_len] at hl
  refine ⟨by omega, ?_⟩
  rcases h.2 with ⟨h1, h2⟩ | ⟨g, cap, cur, h1, h2, h3, _, _, _, h7⟩
  · exact ⟨none, 0, by rw [h1, h2], fun j hj => by omega⟩
  · refine ⟨_, _, h1, fun k hk => ⟨_, rfl, fun j v hv => ?_⟩⟩
    have hj : j < 8 := by
      have := (List.getElem?_eq_some_iff.1 hv).1
      simpa [lnL] using this
    rw [add0, Lib.add_plain, Lib.cell_of_heap h3]
    have e : (cur.toList.take (n * 8))[k * 8 + j]? = some v := by rw [h7, lns_at hk hj]; exact hv
    rw [List.getElem?_take] at e
    split at e
    · rw [← Array.getElem?_toList]; exact e
    · simp at e
/-- w1 is w but for the block r -/
structure Upd (w w1 : World) (r : Nat) : Prop where
  os : w1.os = w.os
  tape : w1.tape = w.tape
  output : w1.output = w.output
  size : w1.heap.size = w.heap.size
  block : ∀ b, b ≠ r → w1.heap[b]? = w.heap[b]?
theorem lb_push {w : World} {r : Nat} {ps : List (Tx × (Nat × Int))} (h : Lb w r ps) (a : Tx) (k : Nat) (z : Int) (hn : atK KS ps a = none) :
    ∃ w1, (Instr.mapUpdate 104 (.map (some r)) (.string ⟨a.toArray⟩) (.agg #[.int .i64 (k : Nat), .int .i64 z])).run Tryz.prog w = .ok () w1 ∧ Lb w1 r (ps ++ [(a, (k, z))]) ∧ Upd w w1 r := by
  obtain ⟨es, c, h1, h2⟩ := run_push key_str Tryz.underlying104 h a (k, z) hn
  exact ⟨_, h1, h2, ⟨rfl, rfl, rfl, by simp [World.putObj], fun _ hb => World.putObj_heap_other hb⟩⟩
theorem Upd.below {w w1 v : World} {r B : Nat} (h : Upd w w1 r) (hb : Below B v w) (hr : B ≤ r) : Below B v w1 :=
  ⟨h.os.trans hb.os, h.tape.trans hb.tape, h.output.trans hb.output, by rw [h.size]; exact hb.size, fun k hk => (h.block k (by omega)).trans (hb.block k hk)⟩
section
variable (w : World)
set_option maxRecDepth 100000 in
set_option maxHeartbeats 2000000 in
theorem findLabels_any (ls : List Ln) (ao : Option Addr) (cap : Nat) (hl : ls.length ≤ 16385) (hw : ∀ l ∈ ls, 0 ≤ l.words ∧ l.words ≤ 512) (hR : LRow w ao ls) : Calls Tryz.prog 45 #[.slice ao ls.length cap] w fun e w' => ∃ r, e = .returned (.map (some r)) ∧ Lb w' r (lbs ls ls.length) ∧ w.heap.size ≤ r ∧ Below w.heap.size w w' := by
  have hmm : ∀ W, (Instr.makeMap 104 none).run Tryz.prog W = .ok (.map (some W.heap.size)) (W.alloc (.map #[] 0)) := fun _ => rfl
  have HR := hide hR
  have HW := hide (ahd_bound hw)
  have HW1 := hide hw
  clear hR hw
  go_enter Tryz.func45, Tryz.ntmps45
  go_upto_region 4 with fail
  go_loopw [4, 12] (fun u v wr => ∃ k : Nat, u = .int .i64 (ahd ls k) ∧ v = .int .i64 (k : Int) ∧ k ≤ ls.length ∧ Lb wr w.heap.size (lbs ls k) ∧ Below w.heap.size w wr ∧ w.heap.size < wr.heap.size) (fun _ v _ => ls.length - (intOf v).toNat)
  case atStart => exact ⟨0, rfl, rfl, by omega, ⟨#[], 0, heap_alloc_last _ _, rfl⟩, bel1 _ _, by simp⟩
  case round =>
  obtain ⟨k, rfl, rfl, hk, hLb, hB, hsz⟩ := hrel
  by_cases hlt : k < ls.length
  · obtain ⟨a, rfl, ha⟩ := (HR.out.keep hB) k hlt
    have hd : (k : Int) < (ls.length : Int) := by omega
    have hb0 := HW.out k (by omega)
    have hwd := HW1.out ls[k] (List.getElem_mem hlt)
    have HA := hide ha
    have HS : Hid (ahd ls (k + 1) = ahd ls k + ls[k].words) := hide (ahd_step hlt)
    have HLs : Hid (lbs ls (k + 1) = if ls[k].label ≠ [] ∧ atK KS (lbs ls k) ls[k].label = none then lbs ls k ++ [(ls[k].label, (k, ahd ls k))] else lbs ls k) := hide (by
      rw [lbs, List.getElem?_eq_getElem hlt])
    have HLb := hide hLb
    have HB := hide hB
    clear ha hLb hB
    generalize ls[k] = L at *
    generalize ahd ls k = wd at *
    generalize lbs ls k = ps at *
    obtain ⟨wrong, label, ⟨op, ia, ib, imm⟩, name, words⟩ := L
    go_upto_region 6 with (refine loadT Tryz.underlying109 rfl [.bool wrong, .string ⟨label.toArray⟩, .int .i64 op, .int .i64 ia, .int .i64 ib, .int .i64 imm, .string ⟨name.toArray⟩, .int .i64 words] (by kernel_rfl) rfl _ rfl (a.add (k * 8)) rfl HA.out ?_)
    have HLb1 := hide (HLb.out.keep (bel1 wr (.cells #[.bool wrong, .string ⟨label.toArray⟩, .int .i64 op, .int .i64 ia, .int .i64 ib, .int .i64 imm, .string ⟨name.toArray⟩, .int .i64 words] 109)))
    have HB1 := hide (HB.out.alloc HB.out.size (.cells #[.bool wrong, .string ⟨label.toArray⟩, .int .i64 op, .int .i64 ia, .int .i64 ib, .int .i64 imm, .string ⟨name.toArray⟩, .int .i64 words] 109))
    have hG : LnAt (wr.alloc (.cells #[.bool wrong, .string ⟨label.toArray⟩, .int .i64 op, .int .i64 ia, .int .i64 ib, .int .i64 imm, .string ⟨name.toArray⟩, .int .i64 words] 109)) wr.heap.size ⟨wrong, label, ⟨op, ia, ib, imm⟩, name, words⟩ := heap_alloc_last _ _
    have hs1 : w.heap.size < (wr.alloc (.cells #[.bool wrong, .string ⟨label.toArray⟩, .int .i64 op, .int .i64 ia, .int .i64 ib, .int .i64 imm, .string ⟨name.toArray⟩, .int .i64 words] 109)).heap.size := by simp; omega
    generalize wr.alloc (.cells #[.bool wrong, .string ⟨label.toArray⟩, .int .i64 op, .int .i64 ia, .int .i64 ib, .int .i64 imm, .string ⟨name.toArray⟩, .int .i64 words] 109) = W at *
    generalize wr.heap.size = g at *
    obtain ⟨q0, q1, q2, q3, q4, q5, q6, q7⟩ := hG.cells
    have hgl := hG.lt
    have hlk := lookT HLb1.out label
    clear hG HA HB HLb
    have HV2 : Hid (wrap64 (wd + words) = wd + words) := hide (by
      have h1 : 0 ≤ words ∧ words ≤ 512 := hwd
      unfold wrap64; omega)
    by_cases h0 : label = []
    · subst h0
      have HLs2 : Hid (lbs ls (k + 1) = ps) := hide (by rw [HLs.out, if_neg (by simp)])
      cases hat : atK KS ps [] with
      | none =>
        rw [hat] at hlk
        simp only [Option.map_none, Option.getD_none, Option.isSome_none] at hlk
        clear hat HLs
        go_wp2
        refine ⟨⟨k + 1, by rw [HS.out, HV2.out], by simp, by omega, by rw [HLs2.out]; exact HLb1.out.keep (bel1 _ _), HB1.out.alloc HB1.out.size _, by simp; omega⟩, ?_⟩
        simp [intOf]
        omega
      | some m =>
        obtain ⟨m1, m2⟩ := m
        rw [hat] at hlk
        simp only [Option.map_some, Option.getD_some, Option.isSome_some, mkE] at hlk
        clear hat HLs
        go_wp2
        refine ⟨⟨k + 1, by rw [HS.out, HV2.out], by simp, by omega, by rw [HLs2.out]; exact HLb1.out.keep (bel1 _ _), HB1.out.alloc HB1.out.size _, by simp; omega⟩, ?_⟩
        simp [intOf]
        omega
    · have hne : List.isEmpty label = false := by simpa using h0
      cases hat : atK KS ps label with
      | some m =>
        have HLs2 : Hid (lbs ls (k + 1) = ps) := hide (by rw [HLs.out, if_neg (by rw [hat]; simp)])
        obtain ⟨m1, m2⟩ := m
        rw [hat] at hlk
        simp only [Option.map_some, Option.getD_some, Option.isSome_some, mkE] at hlk
        clear hat HLs h0
        go_wp2
        refine ⟨⟨k + 1, by rw [HS.out, HV2.out], by simp, by omega, by rw [HLs2.out]; exact HLb1.out.keep (bel1 _ _), HB1.out.alloc HB1.out.size _, by simp; omega⟩, ?_⟩
        simp [intOf]
        omega
      | none =>
        have HLs2 : Hid (lbs ls (k + 1) = ps ++ [(label, (k, wd))]) := hide (by rw [HLs.out, if_pos ⟨h0, hat⟩])
        rw [hat] at hlk
        simp only [Option.map_none, Option.getD_none, Option.isSome_none] at hlk
        obtain ⟨w9, hup, hLb9, hUp⟩ := lb_push (HLb1.out.keep (bel1 W (.cells #[.int .i64 0, .int .i64 0] 139))) label k wd hat
        have HB9 := hide (hUp.below (HB1.out.alloc HB1.out.size (.cells #[.int .i64 0, .int .i64 0] 139)) (Nat.le_refl _))
        have hs9 : w9.heap.size = W.heap.size + 1 := by rw [hUp.size]; simp
        have cw : w9.cell? ⟨g, 7, none⟩ = some (.int .i64 words) := by
          rw [World.cell?_of_block (a := ⟨g, 7, none⟩) (hUp.block g (by have := HB1.out.size; omega))]
          rw [(bel1 W _).cell (p := ⟨g, 7, none⟩) hgl]
          exact q7
        have HLb9 := hide hLb9
        clear hat HLs h0 hLb9 hUp
        go_wp2
        refine ⟨⟨k + 1, by rw [HS.out, HV2.out], by simp, by omega, by rw [HLs2.out]; exact HLb9.out, HB9.out, by omega⟩, ?_⟩
        simp [intOf]
        omega
  · obtain rfl : k = ls.length := by omega
    have HLb := hide hLb
    have HB := hide hB
    clear hLb hB
    go_wp2
    go_ret
    exact ⟨_, rfl, HLb.out, Nat.le_refl _, HB.out⟩
end
end Go.Proofs.YtiafodeabdhcoaaGreatDoor

namespace Go.Proofs.YtiafodeabdhcoaaGreatDoor
open Go.RowKit
theorem wrap_u16 (n : Int) : IntKind.u16.wrap n = n % 65536 := by simp [IntKind.wrap, IntKind.bits, IntKind.signed]
theorem or_word (op a b imm : Int) (h1 : 1 ≤ op) (h2 : op < 27) (ha : 0 ≤ a ∧ a < 8) (hb : 0 ≤ b ∧ b < 8) :
    bits BinOp.or IntKind.u32 (bits BinOp.or IntKind.u32 (bits BinOp.or IntKind.u32 (op * 16777216) (a * 1048576)) (b * 65536)) (IntKind.u16.wrap imm % 4294967296) = op * 16777216 + a * 1048576 + b * 65536 + imm % 65536 := by
  have e1 := bits_join .u32 32 (by decide) wraps_u32 24 (op * 16777216) (a * 1048576) (by omega) (by omega) (by omega) (by omega) (by omega) (by omega)
  have e2 := bits_join .u32 32 (by decide) wraps_u32 20 (op * 16777216 + a * 1048576) (b * 65536) (by omega) (by omega) (by omega) (by omega) (by omega) (by omega)
  have e3 := bits_join .u32 32 (by decide) wraps_u32 16 (op * 16777216 + a * 1048576 + b * 65536) (imm % 65536 % 4294967296) (by omega) (by omega) (by omega) (by omega) (by omega) (by omega)
  rw [e1, e2, wrap_u16, e3]
  omega
theorem ret_word {x y : Int} (h : x = y) : Ending.returned (.tuple #[.int .u32 x, .int .i64 0]) = .returned (.tuple #[.int .u32 y, .int .i64 0]) := by rw [h]
section
variable (w : World)
set_option maxRecDepth 100000 in
set_option maxHeartbeats 1000000 in
theorem enc_no (i : I) (hx : isI i = false) (hO : Ops w) : Calls Tryz.prog 106 #[.agg i.cells.toArray] w fun e w' => e = .returned (.tuple #[.int .u32 0, .int .i64 70]) ∧ Below w.heap.size w w' := by
  obtain ⟨op, a, b, imm⟩ := i
  simp only [I.cells]
  go_enter Tryz.func106, Tryz.ntmps106
  go_wp2_with fail
  refine (isInstr_any _ ⟨op, a, b, imm⟩ (hO.below (bel1 _ _))).mono ?_
  rintro e w1 ⟨rfl, hb⟩
  have HB := hide ((bel1 w _).trans (hb.mono (by simp)))
  clear hb
  go_wp2
  go_ret2
  exact ⟨rfl, HB.out⟩
set_option maxRecDepth 100000 in
set_option maxHeartbeats 1000000 in
theorem enc_yes (i : I) (hx : isI i = true) (hO : Ops w) : Calls Tryz.prog 106 #[.agg i.cells.toArray] w fun e w' => e = .returned (.tuple #[.int .u32 (word i : Nat), .int .i64 0]) ∧ Below w.heap.size w w' := by
  have hI := isn.1 hx
  have ha := fitsB_range hI.a
  have hb' := fitsB_range hI.b
  have h1 := hI.op1
  have h2 := hI.op2
  have hm := hI.imm
  have HW : Hid (((word i : Nat) : Int) = i.op * 16777216 + i.a * 1048576 + i.b * 65536 + i.imm % 65536) := by apply hide; unfold word; omega
  have HX := hide hx
  clear hI
  obtain ⟨op, a, b, imm⟩ := i
  simp only [I.cells]
  simp only at ha hb' h1 h2 hm HW
  go_enter Tryz.func106, Tryz.ntmps106
  go_wp2_with fail
  refine (isInstr_any _ ⟨op, a, b, imm⟩ (hO.below (bel1 _ _))).mono ?_
  rintro e w1 ⟨rfl, hb⟩
  have HB := hide ((bel1 w _).trans (hb.mono (by simp)))
  obtain ⟨hc, hf⟩ := bcell hb
  clear hb hO
  go_wp2
  go_ret2
  exact ⟨ret_word (by rw [HW.out]; exact or_word op a b imm h1 h2 ha hb'), HB.out⟩
end
end Go.Proofs.YtiafodeabdhcoaaGreatDoor

namespace Go.Proofs.YtiafodeabdhcoaaGreatDoor
open Go.RowKit
/-- the fault of line k -/
def fltT (ps : List (Tx × (Nat × Int))) (l : Ln) (k : Nat) (ahead : Int) : Int :=
  if l.wrong then 71
  else if l.label ≠ [] ∧ ((atK KS ps l.label).getD (0, 0)).1 ≠ k then 72
  else if l.name ≠ [] ∧ atK KS ps l.name = none then 72
  else if 512 < ahead + l.words then 2 else 0
def relN (z : Int) : Bool := z == 21 || z == 22 || z == 23 || z == 25
/-- the number of an instruction's line -/
def immW (ps : List (Tx × (Nat × Int))) (l : Ln) (at' : Int) : Int :=
  if l.name = [] then l.i.imm
  else if relN l.i.op then ((atK KS ps l.name).getD (0, 0)).2 - (at' + 1) else ((atK KS ps l.name).getD (0, 0)).2
/-- a line's word -/
def wrdT (ps : List (Tx × (Nat × Int))) (l : Ln) (at' : Int) : Nat :=
  if l.i.op = 0 then (immW ps l at' % 4294967296).toNat else encW { l.i with imm := immW ps l at' }
theorem mark_val (o : Option (Nat × Int)) : (o.map mkE).getD (.agg #[.int .i64 0, .int .i64 0]) = .agg #[.int .i64 ((o.getD (0, 0)).1 : Nat), .int .i64 (o.getD (0, 0)).2] := by
  cases o <;> rfl
theorem ifld0 (a b : Int) (W : World) : (Instr.field 139 (.agg #[.int .i64 a, .int .i64 b]) 0).run Tryz.prog W = .ok (.int .i64 a) W := by
  unfold Instr.field
  simp [run_underlying Tryz.underlying139, part, asAgg]
theorem ifld1 (a b : Int) (W : World) : (Instr.field 139 (.agg #[.int .i64 a, .int .i64 b]) 1).run Tryz.prog W = .ok (.int .i64 b) W := by
  unfold Instr.field
  simp [run_underlying Tryz.underlying139, part, asAgg]
section
variable (w : World)
theorem isRel_any (z : Int) : Calls Tryz.prog 105 #[.int .i64 z] w fun e w' => e = .returned (.bool (relN z)) ∧ w' = w := by
  by_cases h1 : z = 21
  · subst h1
    go_enter Tryz.func105, Tryz.ntmps105
    go_wp2
    go_ret
    exact ⟨rfl, rfl⟩
  by_cases h2 : z = 22
  · subst h2
    go_enter Tryz.func105, Tryz.ntmps105
    go_wp2
    go_ret
    exact ⟨rfl, rfl⟩
  by_cases h3 : z = 23
  · subst h3
    go_enter Tryz.func105, Tryz.ntmps105
    go_wp2
    go_ret
    exact ⟨rfl, rfl⟩
  by_cases h4 : z = 25
  · subst h4
    go_enter Tryz.func105, Tryz.ntmps105
    go_wp2
    go_ret
    exact ⟨rfl, rfl⟩
  · have HV : Hid (relN z = false) := hide (by simp [relN, h1, h2, h3, h4])
    have e1 : (z == 21) = false := by simpa using h1
    have e2 : (z == 22) = false := by simpa using h2
    have e3 : (z == 23) = false := by simpa using h3
    have e4 : (z == 25) = false := by simpa using h4
    clear h1 h2 h3 h4
    go_enter Tryz.func105, Tryz.ntmps105
    go_wp2
    go_ret
    exact ⟨by rw [HV.out]; rfl, rfl⟩
set_option maxRecDepth 100000 in
set_option maxHeartbeats 2000000 in
theorem fault_any (ps : List (Tx × (Nat × Int))) (l : Ln) (k : Nat) (ah : Int) (r : Nat) (ha : 0 ≤ ah) (ha2 : ah ≤ 512) (hw : 0 ≤ l.words) (hw2 : l.words ≤ 512) (hL : Lb w r ps) : Calls Tryz.prog 46 #[.agg (lnC l), .int .i64 (k : Int), .int .i64 ah, .map (some r)] w fun e w' => e = .returned (.int .i64 (fltT ps l k ah)) ∧ Below w.heap.size w w' := by
  obtain ⟨wrong, label, ⟨op, ia, ib, imm⟩, name, words⟩ := l
  simp only [lnC] at *
  have hf0 := ifld0
  have hL1 := hL.keep (bel1 w (.cells #[.bool wrong, .string ⟨label.toArray⟩, .int .i64 op, .int .i64 ia, .int .i64 ib, .int .i64 imm, .string ⟨name.toArray⟩, .int .i64 words] 109))
  have k1 := lookF hL1 label
  have k2 := lookT hL1 name
  rw [mark_val] at k1 k2
  have HB := hide (bel1 w (.cells #[.bool wrong, .string ⟨label.toArray⟩, .int .i64 op, .int .i64 ia, .int .i64 ib, .int .i64 imm, .string ⟨name.toArray⟩, .int .i64 words] 109))
  have HV : Hid (fltT ps ⟨wrong, label, ⟨op, ia, ib, imm⟩, name, words⟩ k ah = if wrong then 71 else if label ≠ [] ∧ ((atK KS ps label).getD (0, 0)).1 ≠ k then 72 else if name ≠ [] ∧ atK KS ps name = none then 72 else if 512 < ah + words then 2 else 0) := hide rfl
  clear hL hL1
  cases wrong with
  | true =>
    have HV2 : Hid (fltT ps ⟨true, label, ⟨op, ia, ib, imm⟩, name, words⟩ k ah = 71) := hide (by rw [HV.out]; rfl)
    clear HV k1 k2
    go_enter Tryz.func46, Tryz.ntmps46
    go_wp2
    go_ret
    exact ⟨by rw [HV2.out]; rfl, HB.out⟩
  | false =>
    simp only [Bool.false_eq_true, if_false] at HV
    generalize (atK KS ps label).getD (0, 0) = ml at *
    generalize (atK KS ps name).getD (0, 0) = mn at *
    by_cases hc : label ≠ [] ∧ ml.1 ≠ k
    · have HV2 : Hid (fltT ps ⟨false, label, ⟨op, ia, ib, imm⟩, name, words⟩ k ah = 72) := hide (by rw [HV.out, if_pos hc])
      have h1 : List.isEmpty label = false := by simpa using hc.1
      have h2 : ((ml.1 : Int) != (k : Int)) = true := by have := hc.2; simp; omega
      clear HV hc k2
      go_enter Tryz.func46, Tryz.ntmps46
      go_wp2
      go_ret
      exact ⟨by rw [HV2.out]; rfl, HB.out⟩
    · rw [if_neg hc] at HV
      have hq : List.isEmpty label = true ∨ (List.isEmpty label = false ∧ ((ml.1 : Int) != (k : Int)) = false) := by
        by_cases e : label = []
        · left; simpa using e
        · right
          refine ⟨by simpa using e, ?_⟩
          have : ml.1 = k := Classical.byContradiction fun h => hc ⟨e, h⟩
          simp [this]
      clear hc
      by_cases hd : name ≠ [] ∧ atK KS ps name = none
      · have HV2 : Hid (fltT ps ⟨false, label, ⟨op, ia, ib, imm⟩, name, words⟩ k ah = 72) := hide (by rw [HV.out, if_pos hd])
        have h3 : List.isEmpty name = false := by simpa using hd.1
        rw [hd.2] at k2
        simp only [Option.isSome_none] at k2
        clear HV hd
        rcases hq with h1 | ⟨h1, h2⟩
        · go_enter Tryz.func46, Tryz.ntmps46
          go_wp2
          go_ret
          exact ⟨by rw [HV2.out]; rfl, HB.out.alloc HB.out.size _⟩
        · go_enter Tryz.func46, Tryz.ntmps46
          go_wp2
          go_ret
          exact ⟨by rw [HV2.out]; rfl, HB.out.alloc HB.out.size _⟩
      · rw [if_neg hd] at HV
        have hq2 : List.isEmpty name = true ∨ (List.isEmpty name = false ∧ (atK KS ps name).isSome = true) := by
          by_cases e : name = []
          · left; simpa using e
          · right
            refine ⟨by simpa using e, ?_⟩
            cases hh : atK KS ps name with
            | some _ => rfl
            | none => exact absurd ⟨e, hh⟩ hd
        clear hd
        generalize (atK KS ps name).isSome = bs at *
        by_cases hs : 512 < ah + words
        · have HV2 : Hid (fltT ps ⟨false, label, ⟨op, ia, ib, imm⟩, name, words⟩ k ah = 2) := hide (by rw [HV.out, if_pos hs])
          clear HV
          rcases hq with h1 | ⟨h1, h2⟩ <;> rcases hq2 with h3 | ⟨h3, rfl⟩
          all_goals
            go_enter Tryz.func46, Tryz.ntmps46
            go_wp2
            go_ret
            exact ⟨by rw [HV2.out]; rfl, HB.out.alloc HB.out.size _⟩
        · have HV2 : Hid (fltT ps ⟨false, label, ⟨op, ia, ib, imm⟩, name, words⟩ k ah = 0) := hide (by rw [HV.out, if_neg hs])
          clear HV
          rcases hq with h1 | ⟨h1, h2⟩ <;> rcases hq2 with h3 | ⟨h3, rfl⟩
          all_goals
            go_enter Tryz.func46, Tryz.ntmps46
            go_wp2
            go_ret
            exact ⟨by rw [HV2.out]; rfl, HB.out.alloc HB.out.size _⟩
end
end Go.Proofs.YtiafodeabdhcoaaGreatDoor

namespace Go.Proofs.YtiafodeabdhcoaaGreatDoor
open Go.RowKit
theorem info_w : ∃ i, Tryz.prog.info? 30 = some i ∧ i.zero = some (.int .u32 0) ∧ i.size = 1 ∧ i.bytes = 4 := info_parts (by kernel_rfl)
def wds (ns : List Nat) : List Value := ns.map fun n => .int .u32 (n : Nat)
theorem u32c (z : Int) : IntKind.u32.wrap z = (((z % 4294967296).toNat : Nat) : Int) := by rw [IntKind.wrap_u32]; omega
theorem enc_all (w : World) (i : I) (hO : Ops w) : Calls Tryz.prog 106 #[.agg i.cells.toArray] w fun e w' => e = .returned (.tuple #[.int .u32 (encW i : Nat), .int .i64 (encE i)]) ∧ Below w.heap.size w w' := by
  cases hx : isI i with
  | true =>
    have := enc_yes w i hx hO
    unfold encW encE
    rw [hx]; exact this
  | false =>
    have := enc_no w i hx hO
    unfold encW encE
    rw [hx]; exact this
section
variable (w : World)
set_option maxRecDepth 100000 in
set_option maxHeartbeats 2000000 in
theorem word_any (ps : List (Tx × (Nat × Int))) (l : Ln) (at' : Int) (r : Nat) (ha : 0 ≤ at') (ha2 : at' ≤ 512) (hm : ∀ m, atK KS ps l.name = some m → 0 ≤ m.2 ∧ m.2 ≤ 8389120) (hi : -9223372036854775808 ≤ l.i.imm ∧ l.i.imm ≤ 9223372036854775807) (hL : Lb w r ps) (hO : Ops w) : Calls Tryz.prog 71 #[.agg (lnC l), .int .i64 at', .map (some r)] w fun e w' => e = .returned (.int .u32 (wrdT ps l at' : Nat)) ∧ Below w.heap.size w w' := by
  obtain ⟨wrong, label, ⟨op, ia, ib, imm⟩, name, words⟩ := l
  simp only [lnC] at *
  have HV : Hid (wrdT ps ⟨wrong, label, ⟨op, ia, ib, imm⟩, name, words⟩ at' = if op = 0 then (immW ps ⟨wrong, label, ⟨op, ia, ib, imm⟩, name, words⟩ at' % 4294967296).toNat else encW ⟨op, ia, ib, immW ps ⟨wrong, label, ⟨op, ia, ib, imm⟩, name, words⟩ at'⟩) := hide rfl
  have HI : Hid (immW ps ⟨wrong, label, ⟨op, ia, ib, imm⟩, name, words⟩ at' = if name = [] then imm else if relN op then ((atK KS ps name).getD (0, 0)).2 - (at' + 1) else ((atK KS ps name).getD (0, 0)).2) := hide rfl
  have hB1 := bel1 w (.cells #[.bool wrong, .string ⟨label.toArray⟩, .int .i64 op, .int .i64 ia, .int .i64 ib, .int .i64 imm, .string ⟨name.toArray⟩, .int .i64 words] 109)
  have hB2 := hB1.trans ((bel1 _ (.cells #[.int .i64 op, .int .i64 ia, .int .i64 ib, .int .i64 imm] 107)).mono (by simp))
  have k1 := lookF (hL.keep hB2) name
  rw [mark_val] at k1
  have hf1 := ifld1
  have hmm : 0 ≤ ((atK KS ps name).getD (0, 0)).2 ∧ ((atK KS ps name).getD (0, 0)).2 ≤ 8389120 := by
    cases hh : atK KS ps name with
    | none => simp
    | some m => exact hm m hh
  have HOa : Hid (∀ o o', Ops ((w.alloc o).alloc o')) := hide (fun o o' => hO.below (bel2 _ _ _))
  have HBa : Hid (∀ o o', Below w.heap.size w ((w.alloc o).alloc o')) := hide (fun o o' => bel2 _ _ _)
  clear hm hL hO hB1 hB2
  generalize (atK KS ps name).getD (0, 0) = mk at *
  generalize immW ps ⟨wrong, label, ⟨op, ia, ib, imm⟩, name, words⟩ at' = IM at *
  generalize wrdT ps ⟨wrong, label, ⟨op, ia, ib, imm⟩, name, words⟩ at' = WT at *
  by_cases h0 : name = []
  · by_cases hop : op = 0
    · have HZ : Hid (IM = imm) := hide (by rw [HI.out]; rw [if_pos h0])
      have HW : Hid (WT = (IM % 4294967296).toNat) := hide (by rw [HV.out, if_pos hop])
      have hne : List.isEmpty name = true := by simpa using h0
      subst hop
      clear HV HI h0
      go_enter Tryz.func71, Tryz.ntmps71
      go_wp2
      go_ret
      exact ⟨by rw [HW.out, HZ.out]; exact congrArg (fun z => Ending.returned (Value.int .u32 z)) (u32c _), HBa.out _ _⟩
    · have HZ : Hid (IM = imm) := hide (by rw [HI.out]; rw [if_pos h0])
      have HW : Hid (WT = encW ⟨op, ia, ib, IM⟩) := hide (by rw [HV.out, if_neg hop])
      have hopb : (op == 0) = false := by simpa using hop
      have hne : List.isEmpty name = true := by simpa using h0
      clear HV HI h0 hop
      go_enter Tryz.func71, Tryz.ntmps71
      go_wp2_with fail
      refine (enc_all _ ⟨op, ia, ib, imm⟩ (HOa.out _ _)).mono ?_
      rintro e w2 ⟨rfl, hb2⟩
      have HB9 := hide ((HBa.out _ _).trans (hb2.mono (by simp; omega)))
      clear hb2
      go_wp2
      go_ret
      exact ⟨by rw [HW.out, HZ.out]; rfl, HB9.out⟩
  · cases hrel : relN op with
    | false =>
      by_cases hop : op = 0
      · have HZ : Hid (IM = mk.2) := hide (by rw [HI.out]; rw [if_neg h0, hrel]; rfl)
        have HW : Hid (WT = (IM % 4294967296).toNat) := hide (by rw [HV.out, if_pos hop])
        have hne : List.isEmpty name = false := by simpa using h0
        subst hop
        have HRl := hide (fun W => isRel_any W 0)
        have hrel0 : relN 0 = false := rfl
        rw [hrel0] at HRl
        clear HV HI h0 hrel
        go_enter Tryz.func71, Tryz.ntmps71
        go_wp2_with fail
        refine (HRl.out _).mono ?_
        rintro e w1 ⟨rfl, rfl⟩
        go_wp2
        go_ret
        exact ⟨by rw [HW.out, HZ.out]; exact congrArg (fun z => Ending.returned (Value.int .u32 z)) (show mk.2 = (((mk.2 % 4294967296).toNat : Nat) : Int) by omega), HBa.out _ _⟩
      · have HZ : Hid (IM = mk.2) := hide (by rw [HI.out]; rw [if_neg h0, hrel]; rfl)
        have HW : Hid (WT = encW ⟨op, ia, ib, IM⟩) := hide (by rw [HV.out, if_neg hop])
        have hopb : (op == 0) = false := by simpa using hop
        have hne : List.isEmpty name = false := by simpa using h0
        have HRl := hide (fun W => isRel_any W op)
        rw [hrel] at HRl
        clear HV HI h0 hop hrel
        go_enter Tryz.func71, Tryz.ntmps71
        go_wp2_with fail
        refine (HRl.out _).mono ?_
        rintro e w1 ⟨rfl, rfl⟩
        go_wp2_with fail
        refine (enc_all _ ⟨op, ia, ib, mk.2⟩ (HOa.out _ _)).mono ?_
        rintro e w2 ⟨rfl, hb2⟩
        have HB9 := hide ((HBa.out _ _).trans (hb2.mono (by simp; omega)))
        clear hb2
        go_wp2
        go_ret
        exact ⟨by rw [HW.out, HZ.out]; rfl, HB9.out⟩
    | true =>
      have hop : ¬ op = 0 := fun e => by rw [e] at hrel; cases hrel
      have HZ : Hid (IM = mk.2 - (at' + 1)) := hide (by rw [HI.out]; rw [if_neg h0, hrel]; rfl)
      have HW : Hid (WT = encW ⟨op, ia, ib, IM⟩) := hide (by rw [HV.out, if_neg hop])
      have hopb : (op == 0) = false := by simpa using hop
      have hne : List.isEmpty name = false := by simpa using h0
      have hbz : -9223372036854775808 ≤ mk.2 - (at' + 1) ∧ mk.2 - (at' + 1) ≤ 9223372036854775807 := by omega
      have HRl := hide (fun W => isRel_any W op)
      rw [hrel] at HRl
      clear HV HI h0 hop hrel
      go_enter Tryz.func71, Tryz.ntmps71
      go_wp2_with fail
      refine (HRl.out _).mono ?_
      rintro e w1 ⟨rfl, rfl⟩
      go_wp2_with fail
      refine (enc_all _ ⟨op, ia, ib, mk.2 - (at' + 1)⟩ (HOa.out _ _)).mono ?_
      rintro e w2 ⟨rfl, hb2⟩
      have HB9 := hide ((HBa.out _ _).trans (hb2.mono (by simp; omega)))
      clear hb2
      go_wp2
      go_ret
      exact ⟨by rw [HW.out, HZ.out]; rfl, HB9.out⟩
end
end Go.Proofs.YtiafodeabdhcoaaGreatDoor

namespace Go.Proofs.YtiafodeabdhcoaaGreatDoor
open Go.RowKit
/-- a line as it comes out of a text -/
structure LnOk (l : Ln) : Prop where
  w0 : 0 ≤ l.words
  w1 : l.words ≤ 512
  i0 : -2147483648 ≤ l.i.imm
  i1 : l.i.imm ≤ 4294967295
theorem ok0 : LnOk ln0 := ⟨by decide, by decide, by decide, by decide⟩
theorem okBad : LnOk lnBad := ⟨by decide, by decide, by decide, by decide⟩
theorem immT_ok {l l' : Ln} {f : Tx} {a b : Int} (h : LnOk l) (ha : -2147483648 ≤ a) (hb : b ≤ 4294967295) (e : immT l f a b = some l') : LnOk l' := by
  unfold immT at e
  split at e
  · cases e; exact ⟨h.w0, h.w1, h.i0, h.i1⟩
  · split at e
    · split at e
      · next n _ hn => cases e; exact ⟨h.w0, h.w1, by show -2147483648 ≤ n; omega, by show n ≤ 4294967295; omega⟩
      · cases e
    · cases e
theorem fldT_ok {l l' : Ln} {f : Tx} {a b k : Int} (h : LnOk l) (ha : -2147483648 ≤ a) (hb : b ≤ 4294967295) (e : fldT a b l k f = some l') : LnOk l' := by
  unfold fldT at e
  split at e
  · exact immT_ok h ha hb e
  · split at e
    · split at e
      · cases e; exact ⟨h.w0, h.w1, h.i0, h.i1⟩
      · cases e; exact ⟨h.w0, h.w1, h.i0, h.i1⟩
    · cases e
theorem fldsT_ok {a b : Int} (ha : -2147483648 ≤ a) (hb : b ≤ 4294967295) : ∀ (ks : List Int) (fs : List Tx) (l l' : Ln), LnOk l → fldsT a b l ks fs = some l' → LnOk l'
  | [], [], l, l', h, e => by simp [fldsT] at e; subst e; exact h
  | [], _ :: _, l, l', h, e => by simp [fldsT] at e
  | _ :: _, [], l, l', h, e => by simp [fldsT] at e
  | k :: ks, f :: fs, l, l', h, e => by
    simp only [fldsT] at e
    cases h1 : fldT a b l k f with
    | none => rw [h1] at e; simp at e
    | some l2 =>
      rw [h1] at e
      exact fldsT_ok ha hb ks fs l2 l' (fldT_ok h ha hb h1) e
theorem lo_ge (n : Nat) : -2147483648 ≤ lo n := by unfold lo; split <;> omega
theorem hi_le (n : Nat) : hi n ≤ 4294967295 := by unfold hi; split <;> (try split) <;> omega
theorem stmT_ok {name : Tx} {fs : List Tx} {l : Ln} (e : stmT name fs = some l) : LnOk l := by
  have h1 : LnOk { ln0 with words := 1 } := ⟨by decide, by decide, by decide, by decide⟩
  unfold stmT at e
  split at e
  · split at e
    · exact immT_ok h1 (by decide) (by decide) e
    · cases e
  · split at e
    · split at e
      · split at e
        · split at e
          · next n _ hn => cases e; exact ⟨by show 0 ≤ n; omega, by show n ≤ 512; omega, by show (-2147483648 : Int) ≤ 0; decide, by show (0 : Int) ≤ 4294967295; decide⟩
          · cases e
        · cases e
      · cases e
    · split at e
      · cases e
      · split at e
        · exact fldsT_ok (lo_ge _) (hi_le _) _ _ { ln0 with i := ⟨(opT name : Nat), 0, 0, 0⟩, words := 1 } l ⟨by show (0 : Int) ≤ 1; decide, by show (1 : Int) ≤ 512; decide, by show (-2147483648 : Int) ≤ 0; decide, by show (0 : Int) ≤ 4294967295; decide⟩ e
        · cases e
theorem stT_ok (s : Tx) : LnOk (stT s) := by
  unfold stT
  split
  · exact ok0
  · simp only []
    cases h : stmT ((cutT [32, 9] s).getD (s, [])).1 (sfT ((cutT [32, 9] s).getD (s, [])).2) with
    | none => exact okBad
    | some l => exact stmT_ok h
theorem lineT_ok (s : Tx) : LnOk (lineT s) := by
  unfold lineT
  simp only []
  split
  · exact stT_ok _
  · split
    · next a b _ _ =>
      have h := stT_ok (trimT b)
      exact ⟨h.w0, h.w1, h.i0, h.i1⟩
    · exact okBad
theorem lbs_bound {ls : List Ln} (hl : ls.length ≤ 16385) (hw : ∀ l ∈ ls, 0 ≤ l.words ∧ l.words ≤ 512) : ∀ k, k ≤ ls.length → ∀ p ∈ lbs ls k, 0 ≤ p.2.2 ∧ p.2.2 ≤ 8389120
  | 0, _, p, hp => by simp [lbs] at hp
  | k + 1, hk, p, hp => by
    have ih := lbs_bound hl hw k (by omega)
    have hb := ahd_bound hw k (by omega)
    rw [lbs, List.getElem?_eq_getElem hk] at hp
    simp only [] at hp
    split at hp
    · rcases List.mem_append.1 hp with h | h
      · exact ih p h
      · simp at h
        subst h
        show 0 ≤ ahd ls k ∧ ahd ls k ≤ 8389120
        omega
    · exact ih p hp
theorem atK_bound {ps : List (Tx × (Nat × Int))} (h : ∀ p ∈ ps, 0 ≤ p.2.2 ∧ p.2.2 ≤ 8389120) (s : Tx) : ∀ m, atK KS ps s = some m → 0 ≤ m.2 ∧ m.2 ≤ 8389120 := by
  intro m hm
  unfold atK at hm
  obtain ⟨p, hp, rfl⟩ := Option.map_eq_some_iff.1 hm
  exact h p (List.mem_of_find?_eq_some hp)
/-- the lines one by one -/
def asmL (ps : List (Tx × (Nat × Int))) : List Ln → Nat → List Nat → List Nat × Nat × Int
  | [], _, ws => (ws, 0, 0)
  | l :: r, k, ws => if fltT ps l k ws.length = 0 then asmL ps r (k + 1) (ws ++ List.replicate l.words.toNat (wrdT ps l ws.length)) else ([], k + 1, fltT ps l k ws.length)
def linesT (s : Tx) : List Ln := (splitT 10 s).map lineT
/-- what a text gives -/
def asmT (s : Tx) : List Nat × Nat × Int :=
  if 16384 < s.length then ([], 0, 41) else asmL (lbs (linesT s) (linesT s).length) (linesT s) 0 []
section
variable (w : World)
set_option maxRecDepth 100000 in
set_option maxHeartbeats 2000000 in
theorem give_any (ps : List (Tx × (Nat × Int))) (l : Ln) (ws : List Nat) (v : Value) (base r : Nat) (hk : LnOk l) (hm : ∀ m, atK KS ps l.name = some m → 0 ≤ m.2 ∧ m.2 ≤ 8389120) (hn : ws.length ≤ 512) (hO : w.ownsRow base 30 1 v ws.length (wds ws)) (hB : base ≤ w.heap.size) (hL : Lb w r ps) (hOp : Ops w) :
    Calls Tryz.prog 47 #[.agg (lnC l), v, .map (some r)] w fun e w' => ∃ v', e = .returned v' ∧ w'.ownsRow base 30 1 v' (ws ++ List.replicate l.words.toNat (wrdT ps l ws.length)).length (wds (ws ++ List.replicate l.words.toNat (wrdT ps l ws.length))) ∧ Below base w w' := by
  obtain ⟨i9, hi, hz, hsz, hb⟩ := info_w
  have HWd := hide (fun W (h1 : Lb W r ps) (h2 : Ops W) => word_any W ps l (ws.length : Int) r (by omega) (by omega) hm ⟨by have := hk.i0; omega, by have := hk.i1; omega⟩ h1 h2)
  have hw0 := hk.w0
  have hw1 := hk.w1
  generalize wrdT ps l (ws.length : Int) = x at *
  obtain ⟨wrong, label, ⟨op, ia, ib, imm⟩, name, words⟩ := l
  simp only [lnC] at *
  have hb1 := bel1 w (.cells #[.bool wrong, .string ⟨label.toArray⟩, .int .i64 op, .int .i64 ia, .int .i64 ib, .int .i64 imm, .string ⟨name.toArray⟩, .int .i64 words] 109)
  have HOp1 := hide (hOp.below hb1)
  have HL1 := hide (hL.keep hb1)
  have HO1 := hide (own_keep hO hb1)
  have HB1 := hide (hb1.mono hB)
  obtain ⟨au, cu, rfl⟩ := own_shape hO
  clear hO hL hOp hk hm hb1
  go_enter Tryz.func47, Tryz.ntmps47
  go_wp2_with fail
  refine (HWd.out _ HL1.out HOp1.out).mono ?_
  rintro e w1 ⟨rfl, hb2⟩
  have HO2 := hide (own_keep HO1.out hb2)
  have HB2 := hide (HB1.out.trans (hb2.mono (by simp; omega)))
  have hs2 := hb2.size
  simp only [World.size_alloc] at hs2
  have c7 : w1.cell? ⟨w.heap.size, 7, none⟩ = some (.int .i64 words) := by
    rw [hb2.cell (p := ⟨w.heap.size, 7, none⟩) (by simp), World.cell?_alloc_new]; rfl
  clear hb2 HO1 HB1 HL1 HOp1 HWd
  go_upto_region 3 with fail
  go_loopw [1, 15] (fun v u wr => ∃ j : Nat, u = .int .i64 (j : Int) ∧ (j : Int) ≤ words ∧ wr.ownsRow base 30 1 v (ws ++ List.replicate j x).length (wds (ws ++ List.replicate j x)) ∧ Below base w wr ∧ base ≤ wr.heap.size) (fun _ u _ => (words - intOf u).toNat)
  case atStart => exact ⟨0, rfl, by simpa using hw0, by simpa using HO2.out, HB2.out, by omega⟩
  case round =>
  obtain ⟨j, rfl, hj, hOw, hBw, hsw⟩ := hrel
  obtain ⟨a2, c2, rfl⟩ := own_shape hOw
  have HOw := hide hOw
  have HBw := hide hBw
  have hlen : (ws ++ List.replicate j x).length ≤ 1024 := by simp; omega
  clear hOw hBw HO2 HB2
  by_cases hlt : (j : Int) < words
  · have HE : Hid (wds (ws ++ List.replicate (j + 1) x) = wds (ws ++ List.replicate j x) ++ [.int .u32 (x : Nat)]) := hide (by
      rw [List.replicate_succ', ← List.append_assoc]; simp [wds])
    have HE2 : Hid ((ws ++ List.replicate (j + 1) x).length = (ws ++ List.replicate j x).length + 1) := hide (by simp; omega)
    generalize ws ++ List.replicate j x = wj at *
    go_upto_region 5 with (at_builtin; refine wpList_append_own _ rfl _ _ 22 rfl base 30 i9 (.int .u32 0) 1 4 Tryz.underlying22 hi hz hsz hb rfl (by decide) _ _ _ rfl (HOw.out.alloc _) ⟨_, 0, none⟩ 1 1 [.int .u32 (x : Nat)] rfl rfl (cell_one_new _ _ _) (by simp [Value.oneCell']) (by unfold maxLen; omega) (by omega) (by simp; omega) ?_; intro v3 w3 ho3 hg3 _; obtain ⟨a3, c3, rfl⟩ := own_shape ho3)
    have HO3 : Hid (w3.ownsRow base 30 1 (.slice a3 (wj.length + 1) c3) (ws ++ List.replicate (j + 1) x).length (wds (ws ++ List.replicate (j + 1) x))) := hide (by rw [HE.out, HE2.out]; exact ho3)
    have HB3 := hide ((HBw.out.alloc hsw _).grown hg3 (by simp; omega) (fun k hk => (HOw.out.lt k hk).1))
    have hs3 : base ≤ w3.heap.size := Nat.le_trans (by simp; omega) hg3.size
    clear ho3 hg3 HOw HBw
    go_wp2
    refine ⟨⟨j + 1, by simp, by omega, HO3.out, HB3.out, hs3⟩, ?_⟩
    simp [intOf]
    omega
  · have ej : j = words.toNat := by omega
    have hx : ¬ (j : Int) < words := hlt
    have HV : Hid (ws ++ List.replicate words.toNat x = ws ++ List.replicate j x) := hide (by rw [← ej])
    have HLn : Hid ((ws ++ List.replicate j x).length = ws.length + words.toNat) := hide (by simp; omega)
    clear ej hlt
    generalize ws ++ List.replicate j x = wj at *
    go_wp2
    go_ret
    exact ⟨_, rfl, by rw [HV.out, ← HLn.out]; exact HOw.out, HBw.out⟩
end
end Go.Proofs.YtiafodeabdhcoaaGreatDoor
