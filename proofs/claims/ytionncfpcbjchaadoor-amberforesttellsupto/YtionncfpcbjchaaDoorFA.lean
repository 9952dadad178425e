import Derived.Test.YtionncfpcbjchaaDoorF9
namespace Go.Proofs.YtionncfpcbjchaaDoor
open Go.RowKit
/-- the same beside a forest's block -/
structure Sf (w : World) (b fb : Nat) (V : List Value) (X : Tx) (wr : World) : Prop where
  st : Stt w b X wr
  fo : Blk wr fb 28 V
section
variable {w w1 w2 : World} {b fb : Nat} {V : List Value} {X X' : Tx}
theorem Sf.call (h : Sf w b fb V X w1) (h3 : 3 ≤ b) (hne : fb ≠ b) (hs : Sh w2 b X') (hf : Fr b w1 w2) : Sf w b fb V X' w2 := ⟨h.st.call h3 hs hf, h.fo.fr (by decide) hne hf⟩
theorem Sf.up (h : Sf w b fb V X w1) (h3 : 3 ≤ b) (hb : Below w1.heap.size w1 w2) : Sf w b fb V X w2 := ⟨h.st.up h3 hb, h.fo.below hb h.fo.lt⟩
end
theorem add_lit (g o j : Nat) : (⟨g, o, none⟩ : Addr).add j = ⟨g, o + j, none⟩ := by unfold Addr.add; split <;> simp_all
set_option maxRecDepth 100000 in
theorem numbers_lit (w : World) (b : Nat) (X : Tx) (L : List Int) (n : Nat) (hn : L.length = n) (h3 : 3 ≤ b) (h : Sh w b X) (hO : Opn X) (hI : ∀ z ∈ L, I64 z) (hT : Tb w) (hl : X.length + 22 * n ≤ 800000000) :
    Calls Tryd.prog 17 #[.pointer (some ⟨b, 0, none⟩), .slice (some ⟨w.heap.size, 0, none⟩) n n] (w.alloc (.cells (L.map In).toArray 3)) fun e w' => e = .returned (.tuple #[]) ∧ Sh w' b (X ++ lst L) ∧ Fr b w w' := by
  have hb : Below w.heap.size w (w.alloc (.cells (L.map In).toArray 3)) := (Below.refl _ _).alloc (Nat.le_refl _) _
  have hbl := h.lt
  refine (numbers_any _ b X L _ h3 (h.up hb) hO (RdI.new w L n n hn (Nat.le_refl _)) hI (hT.fr h3 (Fr.of hb (by omega))) (by rw [hn]; exact hl)).mono ?_
  rintro e w' ⟨rfl, h1, h2⟩
  exact ⟨rfl, h1, (Fr.of hb (by omega)).trans h2⟩
theorem line_lit (w : World) (b : Nat) (X s : Tx) (L : List Int) (n : Nat) (hn : L.length = n) (h3 : 3 ≤ b) (h : Sh w b X) (hO : Fresh X) (hs : ∃ c : UInt8, s.getLast? = some c ∧ c ≠ 10) (hI : ∀ z ∈ L, I64 z) (hT : Tb w) (hl : X.length + s.length + 22 * n ≤ 700000000) :
    Calls Tryd.prog 24 #[.pointer (some ⟨b, 0, none⟩), .string ⟨s.toArray⟩, .slice (some ⟨w.heap.size, 0, none⟩) n n] (w.alloc (.cells (L.map In).toArray 3)) fun e w' => e = .returned (.tuple #[]) ∧ Sh w' b (X ++ (s ++ lst L ++ [10])) ∧ Fr b w w' := by
  have hb : Below w.heap.size w (w.alloc (.cells (L.map In).toArray 3)) := (Below.refl _ _).alloc (Nat.le_refl _) _
  have hbl := h.lt
  refine (line_any _ b X s L _ h3 (h.up hb) hO hs (RdI.new w L n n hn (Nat.le_refl _)) hI (hT.fr h3 (Fr.of hb (by omega))) (by rw [hn]; exact hl)).mono ?_
  rintro e w' ⟨rfl, h1, h2⟩
  exact ⟨rfl, h1, (Fr.of hb (by omega)).trans h2⟩
set_option maxRecDepth 100000 in
set_option maxHeartbeats 8000000 in
theorem forest_any (w : World) (b : Nat) (v : Fv) (F : Fo) (hF : F.Ok) (h3 : 3 ≤ b) (h : Sh w b []) (hA : FoAt b w v F) (hT : Tb w) :
    Calls Tryd.prog 8 #[.pointer (some ⟨b, 0, none⟩), .agg (v.cells F).toArray] w fun e w' => e = .returned (.tuple #[]) ∧ Sh w' b F.text ∧ Fr b w w' := by
  have hbl := h.lt
  obtain ⟨V, hV⟩ : ∃ V, v.cells F = V := ⟨_, rfl⟩
  have hb0 : Below w.heap.size w (w.alloc (.cells V.toArray 28)) := (Below.refl _ _).alloc (Nat.le_refl _) _
  have H0 : Hid (Sf w b w.heap.size V [] (w.alloc (.cells V.toArray 28))) := hide ⟨(Stt.mk h (Fr.refl _ _) hT).up h3 hb0, Blk.new _ _ _⟩
  have HA := hide hA
  have HF := hide hF
  have hsz := hF.sz
  have hVl : V.length = 5 := by rw [← hV]; rfl
  rw [hV]
  obtain ⟨aE, cE, aC, cC, aM, cM, aP, cP, aO, cO⟩ := v
  obtain ⟨nE, E, nC, C, nM, M, nP, P, nO, O⟩ := F
  simp only [Fv.cells] at hV
  obtain ⟨fb, hfb0⟩ : ∃ fb, w.heap.size = fb := ⟨_, rfl⟩
  have hfb : fb ≠ b := by omega
  rw [hfb0] at H0
  have v0 : V[0]? = some (.slice aE nE cE) := by rw [← hV]; rfl
  have v1 : V[1]? = some (.slice aC nC cC) := by rw [← hV]; rfl
  have v2 : V[2]? = some (.slice aM nM cM) := by rw [← hV]; rfl
  have v3 : V[3]? = some (.slice aP nP cP) := by rw [← hV]; rfl
  have v4 : V[4]? = some (.slice aO nO cO) := by rw [← hV]; rfl
  simp only at hsz
  clear h hT hA hF hb0 hV
  go_enter Tryd.func8, Tryd.ntmps8
  go_upto_region 1 with fail
  try rw [hfb0]
  generalize w.alloc (.cells V.toArray 28) = w1 at *
  have hc0 := H0.out.fo.get v0
  go_wp2
  have HFE : Hid (∀ m, Fresh (upT (fun k => envT k (E k)) m)) := hide (fun m => by simpa using upT_fresh (f := fun k => envT k (E k)) (fun k => ⟨_, rfl⟩) Fresh.nil m)
  have HLE : Hid (∀ m, m ≤ nE → (upT (fun k => envT k (E k)) m).length ≤ 500 * m) := hide (HF.out.e5)
  have HLC : Hid (∀ m, m ≤ nC → (upT (fun k => capT (C k)) m).length ≤ 500 * m) := hide (HF.out.c5)
  have HLM : Hid (∀ m, m ≤ nM → (upT (fun k => mapT (M k)) m).length ≤ 500 * m) := hide (HF.out.m5)
  have HLP : Hid (∀ m, m ≤ nP → (upT (fun k => pageT k (P k)) m).length ≤ 500 * m) := hide (HF.out.p5)
  have HLO : Hid (∀ m, m ≤ nO → (upT (fun k => outT k (O k)) m).length ≤ 500 * m) := hide (HF.out.o5)
  go_loopw [15] (fun i wr => ∃ k : Nat, k ≤ nE ∧ i = .int .i64 (k : Int) ∧ Hid (Sf w b fb V (upT (fun k => envT k (E k)) k) wr)) (fun i _ => nE - (intOf i).toNat)
  case atStart => exact ⟨0, by omega, rfl, by simpa [upT] using H0⟩
  case round =>
    obtain ⟨k, hk, rfl, HS⟩ := hrel
    by_cases hlt : k < nE
    · have hd : decide ((k : Int) < (nE : Int)) = true := by simp; omega
      have hRow := (HA.out.E.keep HS.out.st.fr.1) k hlt
      simp only at hRow
      obtain ⟨ad, rfl, hadb, hc⟩ := hRow
      have HC : Hid (∀ (j : Nat) (v : Value), (E k).cells[j]? = some v → wr.cell? ((ad.add (k * 17)).add j) = some v) := hide hc
      have HO : Hid (E k).Ok := hide (HF.out.E k hlt)
      have HFk := hide (HFE.out k)
      have HLk : Hid ((upT (fun k => envT k (E k)) k).length + 500 ≤ 600000000) := hide (by have h1 := HLE.out k (by omega); omega)
      have HUp : Hid (upT (fun k => envT k (E k)) (k + 1) = upT (fun k => envT k (E k)) k ++ envT k (E k)) := hide (upT_succ _ _)
      clear hc
      obtain ⟨⟨ep, es, ec, eb, ez, eW, epc, q1, q2, q3⟩, he⟩ : ∃ e, E k = e := ⟨_, rfl⟩
      rw [he] at HC HO HUp
      obtain ⟨X, hX⟩ : ∃ X, upT (fun k => envT k (E k)) k = X := ⟨_, rfl⟩
      rw [hX] at HS HFk HLk HUp
      clear he hX
      have HZ : Hid (Blk (wr.alloc (.cells [.int .i64 0, .int .i64 0, .int .i64 0, .int .i64 0, .bool false, .int .u32 0, .int .u32 0, .int .u32 0, .int .u32 0, .int .u32 0, .int .u32 0, .int .u32 0, .int .u32 0, .int .u32 0, .int .i64 0, .int .i64 0, .int .i64 0].toArray 39)) wr.heap.size 39 [.int .i64 0, .int .i64 0, .int .i64 0, .int .i64 0, .bool false, .int .u32 0, .int .u32 0, .int .u32 0, .int .u32 0, .int .u32 0, .int .u32 0, .int .u32 0, .int .u32 0, .int .u32 0, .int .i64 0, .int .i64 0, .int .i64 0]) := hide ⟨heap_alloc_last _ _⟩
      have hEl : (EnG.cells ⟨ep, es, ec, eb, ez, eW, epc, q1, q2, q3⟩).length = 17 := EnG.len HO.out
      have hE1 : (EnG.cells ⟨ep, es, ec, eb, ez, eW, epc, q1, q2, q3⟩).all (fun u => u.oneCell') = true := by simp [EnG.cells, rgL, Value.oneCell']
      go_upto_region 4 with (first | (refine loadT Tryd.underlying39 rfl (EnG.cells ⟨ep, es, ec, eb, ez, eW, epc, q1, q2, q3⟩) (by rw [hEl]; exact info_en) (by rfl) _ rfl (ad.add (k * 17)) rfl HC.out ?_) | (refine storeB (EnG.cells ⟨ep, es, ec, eb, ez, eW, epc, q1, q2, q3⟩) (by rw [hEl]; exact info_en) hE1 rfl _ _ rfl wr.heap.size rfl rfl _ HZ.out (by rw [hEl]; rfl) ?_))
      simp only [Act.put]
      have HS2 := hide (HS.out.up h3 (box_below wr [.int .i64 0, .int .i64 0, .int .i64 0, .int .i64 0, .bool false, .int .u32 0, .int .u32 0, .int .u32 0, .int .u32 0, .int .u32 0, .int .u32 0, .int .u32 0, .int .u32 0, .int .u32 0, .int .i64 0, .int .i64 0, .int .i64 0] (EnG.cells ⟨ep, es, ec, eb, ez, eW, epc, q1, q2, q3⟩) 39))
      have HB2 := hide (box_blk wr [.int .i64 0, .int .i64 0, .int .i64 0, .int .i64 0, .bool false, .int .u32 0, .int .u32 0, .int .u32 0, .int .u32 0, .int .u32 0, .int .u32 0, .int .u32 0, .int .u32 0, .int .u32 0, .int .i64 0, .int .i64 0, .int .i64 0] (EnG.cells ⟨ep, es, ec, eb, ez, eW, epc, q1, q2, q3⟩) 39)
      have hEb : wr.heap.size ≠ b := by have := HS.out.st.sh.lt; omega
      clear HZ HC HS hE1
      generalize putB (wr.alloc (.cells [.int .i64 0, .int .i64 0, .int .i64 0, .int .i64 0, .bool false, .int .u32 0, .int .u32 0, .int .u32 0, .int .u32 0, .int .u32 0, .int .u32 0, .int .u32 0, .int .u32 0, .int .u32 0, .int .i64 0, .int .i64 0, .int .i64 0].toArray 39)) wr.heap.size (EnG.cells ⟨ep, es, ec, eb, ez, eW, epc, q1, q2, q3⟩) 39 = w2 at *
      obtain ⟨eB, hE⟩ : ∃ eB, wr.heap.size = eB := ⟨_, rfl⟩
      rw [hE] at HB2 hEb
      rw [hE]
      clear hE
      go_wp2_with fail
      refine (word_new w2 b X [101, 110, 118] HS2.out.st.sh HFk.out (by have := HLk.out; simp; omega)).mono ?_
      rintro e w3 ⟨rfl, hs3, hf3⟩
      have HS3 := hide (HS2.out.call h3 hfb hs3 hf3)
      have HB3 := hide (HB2.out.fr (by decide) hEb hf3)
      have HO3 := hide (Opn.app X (s := [101, 110, 118]) ⟨118, rfl, by decide⟩)
      clear hs3 hf3 HS2 HB2 HFk
      go_upto_region 5 with fail
      obtain ⟨w0, hwD⟩ : ∃ wD, wD = w3.drew := ⟨_, rfl⟩
      have HSD : Hid (Sf w b fb V (X ++ [101, 110, 118]) w0) := by rw [hwD]; exact hide (HS3.out.up h3 (drew_below w3))
      have HBD : Hid (Blk w0 eB 39 (EnG.cells ⟨ep, es, ec, eb, ez, eW, epc, q1, q2, q3⟩)) := by rw [hwD]; exact hide (HB3.out.below (drew_below w3) HB3.out.lt)
      have HS0 : Hid ((fun W : World => Blk W eB 39 (EnG.cells ⟨ep, es, ec, eb, ez, eW, epc, q1, q2, q3⟩)) w0) := HBD
      have hA1 : Below w0.heap.size w0 (w0.alloc (.cells #[.int .i64 ((k : Int)), .int .i64 (ep), .int .i64 (es), .int .i64 (ec), .int .i64 (eb), .int .i64 (fl ez)] 3)) := (Below.refl _ _).alloc (Nat.le_refl _) _
      have HS1 : Hid ((fun W : World => Blk W eB 39 (EnG.cells ⟨ep, es, ec, eb, ez, eW, epc, q1, q2, q3⟩)) (w0.alloc (.cells #[.int .i64 ((k : Int)), .int .i64 (ep), .int .i64 (es), .int .i64 (ec), .int .i64 (eb), .int .i64 (fl ez)] 3))) := hide (HBD.out.below hA1 HBD.out.lt)
      have HSA := hide (HSD.out.up h3 hA1)
      have HRA : Hid (RdI (w0.alloc (.cells #[.int .i64 ((k : Int)), .int .i64 (ep), .int .i64 (es), .int .i64 (ec), .int .i64 (eb), .int .i64 (fl ez)] 3)) (.slice (some ⟨w0.heap.size, 0, none⟩) 6 6) [(k : Int), ep, es, ec, eb, fl ez]) := hide (by have := RdI.new w0 [(k : Int), ep, es, ec, eb, fl ez] 6 6 rfl (Nat.le_refl _); simpa [In] using this)
      clear hA1
      refine wp_region_held_drew (S := fun W : World => Blk W eB 39 (EnG.cells ⟨ep, es, ec, eb, ez, eW, epc, q1, q2, q3⟩)) (by kernel_rfl) (by rw [← hwD]; exact HS0.out) (fun hHeld => ?_)
      rw [← hwD]
      clear hwD hHeld HS3 HB3
      refine hd_take 0 (o := ⟨some 22, _, _, _, _, _⟩) (.pointer (some ⟨b, 0, none⟩)) (by kernel_rfl) (by kernel_rfl) (by kernel_rfl) rfl (by rfl) (fun W hSw => by go_simp) (fun _ _ _ h => h) HS0.out ?_
      simp only [Act.put, List.setIfInBounds_toArray, List.set_cons_zero, List.set_cons_succ]
      refine hd_take 1 (o := ⟨some 23, _, _, _, _, _⟩) (.int .i64 (k : Int)) (by kernel_rfl) (by kernel_rfl) (by kernel_rfl) rfl (by rfl) (fun W hSw => by go_simp) (fun _ _ _ h => h) HS0.out ?_
      simp only [Act.put, List.setIfInBounds_toArray, List.set_cons_zero, List.set_cons_succ]
      refine hd_take 2 (o := ⟨some 24, _, _, _, _, _⟩) (.pointer (some ⟨eB, 0, none⟩)) (by kernel_rfl) (by kernel_rfl) (by kernel_rfl) rfl (by rfl) (fun W hSw => by go_simp) (fun _ _ _ h => h) HS0.out ?_
      simp only [Act.put, List.setIfInBounds_toArray, List.set_cons_zero, List.set_cons_succ]
      refine hd_take 3 (o := ⟨some 25, _, _, _, _, _⟩) (.int .i64 ep) (by kernel_rfl) (by kernel_rfl) (by kernel_rfl) rfl (by rfl) (fun W hSw => by have h9 := Blk.get (show Blk W eB 39 (EnG.cells ⟨ep, es, ec, eb, ez, eW, epc, q1, q2, q3⟩) from hSw) (j := 0) rfl; go_simp) (fun _ _ _ h => h) HS0.out ?_
      simp only [Act.put, List.setIfInBounds_toArray, List.set_cons_zero, List.set_cons_succ]
      refine hd_take 4 (o := ⟨some 26, _, _, _, _, _⟩) (.pointer (some ⟨eB, 1, none⟩)) (by kernel_rfl) (by kernel_rfl) (by kernel_rfl) rfl (by rfl) (fun W hSw => by go_simp) (fun _ _ _ h => h) HS0.out ?_
      simp only [Act.put, List.setIfInBounds_toArray, List.set_cons_zero, List.set_cons_succ]
      refine hd_take 5 (o := ⟨some 27, _, _, _, _, _⟩) (.int .i64 es) (by kernel_rfl) (by kernel_rfl) (by kernel_rfl) rfl (by rfl) (fun W hSw => by have h9 := Blk.get (show Blk W eB 39 (EnG.cells ⟨ep, es, ec, eb, ez, eW, epc, q1, q2, q3⟩) from hSw) (j := 1) rfl; go_simp) (fun _ _ _ h => h) HS0.out ?_
      simp only [Act.put, List.setIfInBounds_toArray, List.set_cons_zero, List.set_cons_succ]
      refine hd_take 6 (o := ⟨some 28, _, _, _, _, _⟩) (.pointer (some ⟨eB, 2, none⟩)) (by kernel_rfl) (by kernel_rfl) (by kernel_rfl) rfl (by rfl) (fun W hSw => by go_simp) (fun _ _ _ h => h) HS0.out ?_
      simp only [Act.put, List.setIfInBounds_toArray, List.set_cons_zero, List.set_cons_succ]
      refine hd_take 7 (o := ⟨some 29, _, _, _, _, _⟩) (.int .i64 ec) (by kernel_rfl) (by kernel_rfl) (by kernel_rfl) rfl (by rfl) (fun W hSw => by have h9 := Blk.get (show Blk W eB 39 (EnG.cells ⟨ep, es, ec, eb, ez, eW, epc, q1, q2, q3⟩) from hSw) (j := 2) rfl; go_simp) (fun _ _ _ h => h) HS0.out ?_
      simp only [Act.put, List.setIfInBounds_toArray, List.set_cons_zero, List.set_cons_succ]
      refine hd_take 8 (o := ⟨some 30, _, _, _, _, _⟩) (.pointer (some ⟨eB, 3, none⟩)) (by kernel_rfl) (by kernel_rfl) (by kernel_rfl) rfl (by rfl) (fun W hSw => by go_simp) (fun _ _ _ h => h) HS0.out ?_
      simp only [Act.put, List.setIfInBounds_toArray, List.set_cons_zero, List.set_cons_succ]
      refine hd_take 9 (o := ⟨some 31, _, _, _, _, _⟩) (.int .i64 eb) (by kernel_rfl) (by kernel_rfl) (by kernel_rfl) rfl (by rfl) (fun W hSw => by have h9 := Blk.get (show Blk W eB 39 (EnG.cells ⟨ep, es, ec, eb, ez, eW, epc, q1, q2, q3⟩) from hSw) (j := 3) rfl; go_simp) (fun _ _ _ h => h) HS0.out ?_
      simp only [Act.put, List.setIfInBounds_toArray, List.set_cons_zero, List.set_cons_succ]
      refine hd_take 10 (o := ⟨some 32, _, _, _, _, _⟩) (.pointer (some ⟨eB, 4, none⟩)) (by kernel_rfl) (by kernel_rfl) (by kernel_rfl) rfl (by rfl) (fun W hSw => by go_simp) (fun _ _ _ h => h) HS0.out ?_
      simp only [Act.put, List.setIfInBounds_toArray, List.set_cons_zero, List.set_cons_succ]
      refine hd_take 11 (o := ⟨some 33, _, _, _, _, _⟩) (.bool ez) (by kernel_rfl) (by kernel_rfl) (by kernel_rfl) rfl (by rfl) (fun W hSw => by have h9 := Blk.get (show Blk W eB 39 (EnG.cells ⟨ep, es, ec, eb, ez, eW, epc, q1, q2, q3⟩) from hSw) (j := 4) rfl; go_simp) (fun _ _ _ h => h) HS0.out ?_
      simp only [Act.put, List.setIfInBounds_toArray, List.set_cons_zero, List.set_cons_succ]
      refine hd_call 12 (o := ⟨some 34, _, _, _, _, _⟩) (by kernel_rfl) rfl (by rfl) (fun K' hK => ?_)
      go_wp2_with fail
      refine (flag_any _ ez).mono ?_
      rintro e w9 ⟨rfl, hw9⟩
      subst hw9
      refine hK _ _ HS0.out ?_
      clear hK K'
      try simp only [Act.put, List.setIfInBounds_toArray, List.set_cons_zero, List.set_cons_succ]
      refine hd_call 13 (o := ⟨some 35, _, _, _, _, _⟩) (by kernel_rfl) rfl (by rfl) (fun K' hK => ?_)
      refine wp_row 56 3 _ Tryd.underlying56 info_i1 6 _ rfl [.int .i64 ((k : Int)), .int .i64 (ep), .int .i64 (es), .int .i64 (ec), .int .i64 (eb), .int .i64 (fl ez)] rfl (by decide) (by decide) (by simp [Value.oneCell']) (by simp; exact ⟨rfl, rfl, rfl, rfl, rfl, rfl⟩) ?_
      refine hK _ _ HS1.out ?_
      clear hK K'
      try simp only [Act.put, List.setIfInBounds_toArray, List.set_cons_zero, List.set_cons_succ]
      refine hd_call 14 (o := ⟨some 36, _, _, _, _, _⟩) (by kernel_rfl) rfl (by rfl) (fun K' hK => ?_)
      go_wp2_with fail
      refine (numbers_any _ b (X ++ [101, 110, 118]) [(k : Int), ep, es, ec, eb, fl ez] _ h3 HSA.out.st.sh HO3.out HRA.out (all_cons (nat64 (by omega)) (all_cons HO.out.p (all_cons HO.out.s (all_cons HO.out.c (all_cons HO.out.b (all_cons (fl64 ez) all_nil)))))) HSA.out.st.tb (by have := HLk.out; simp; omega)).mono ?_
      rintro e w5 ⟨rfl, hs5, hf5⟩
      have HS5 := hide (HSA.out.call h3 hfb hs5 hf5)
      have HB5 : Hid ((fun W : World => Blk W eB 39 (EnG.cells ⟨ep, es, ec, eb, ez, eW, epc, q1, q2, q3⟩)) w5) := hide (HS1.out.fr (by decide) hEb hf5)
      clear hs5 hf5
      refine hK _ _ HB5.out ?_
      clear hK K'
      try simp only [Act.put, List.setIfInBounds_toArray, List.set_cons_zero, List.set_cons_succ]
      refine wpAnyH_done (by kernel_rfl) ?_ _
      clear HSA HRA HS1 HS0 HSD HBD
      have HO5 := hide (HO3.out.lst [(k : Int), ep, es, ec, eb, fl ez])
      have hL5 : (X ++ [101, 110, 118] ++ lst [(k : Int), ep, es, ec, eb, fl ez]).length ≤ 640000000 := by
        have h1 := lst_len (all_cons (nat64 (show k ≤ 1048576 by omega)) (all_cons HO.out.p (all_cons HO.out.s (all_cons HO.out.c (all_cons HO.out.b (all_cons (fl64 ez) all_nil))))))
        have h2 := HLk.out
        simp only [List.length_append, List.length_cons, List.length_nil] at h1 ⊢
        omega
      obtain ⟨X5, hX5⟩ : ∃ X5, X ++ [101, 110, 118] ++ lst [(k : Int), ep, es, ec, eb, fl ez] = X5 := ⟨_, rfl⟩
      rw [hX5] at HS5 HO5 hL5
      have hn8 := HO.out.n
      go_wp2_with (refine loadT Tryd.underlying35 rfl (rgL (eW ++ [epc])) (by rw [rgL_len, List.length_append, hn8]; exact info_rg) (by rfl) _ rfl ⟨eB, 5, none⟩ rfl (fun j u hu => by rw [add_lit]; exact Blk.get HB5.out (EnG.at5 hu)) ?_)
      refine (registers_any _ b X5 eW epc h3 HS5.out.st.sh HO5.out hn8 HO.out.w HS5.out.st.tb (by omega)).mono ?_
      rintro e w6 ⟨rfl, hs6, hf6⟩
      have HS6 := hide (HS5.out.call h3 hfb hs6 hf6)
      have HB6 : Hid (Blk w6 eB 39 (EnG.cells ⟨ep, es, ec, eb, ez, eW, epc, q1, q2, q3⟩)) := hide (Blk.fr HB5.out (by decide) hEb hf6)
      have HO6 := hide (HO5.out.lst (iN (eW ++ [epc])))
      have hL6 : (X5 ++ lst (iN (eW ++ [epc]))).length ≤ 641000000 := by
        have h1 := lst_len (iN64 HO.out.w)
        rw [iN_len, List.length_append, hn8] at h1
        rw [List.length_append]
        simp only [List.length_cons, List.length_nil] at h1
        omega
      clear hs6 hf6 HS5 HB5 HO5
      go_wp2_with (refine loadT Tryd.underlying37 rfl [.int .i64 q1, .int .i64 q2, .int .i64 q3] info_qu (by rfl) _ rfl ⟨eB, 14, none⟩ rfl (fun j u hu => by rw [add_lit]; exact HB6.out.get (EnG.at14 HO.out hu)) ?_)
      refine (quota_any _ b (X5 ++ lst (iN (eW ++ [epc]))) q1 q2 q3 h3 HS6.out.st.sh HO6.out ⟨HO.out.q1, HO.out.q2, HO.out.q3⟩ HS6.out.st.tb (by omega)).mono ?_
      rintro e w7 ⟨rfl, hs7, hf7⟩
      have HS7 := hide (HS6.out.call h3 hfb hs7 hf7)
      have hL7 : (X5 ++ lst (iN (eW ++ [epc])) ++ lst [q1, q2, q3]).length ≤ 642000000 := by
        have h1 := lst_len (all_cons HO.out.q1 (all_cons HO.out.q2 (all_cons HO.out.q3 all_nil)))
        rw [List.length_append]
        simp only [List.length_cons, List.length_nil] at h1
        omega
      clear hs7 hf7 HS6 HB6 HO6
      go_wp2_with fail
      refine (end_any _ b _ HS7.out.st.sh (by omega)).mono ?_
      rintro e w8 ⟨rfl, hs8, hf8⟩
      have HS8 := hide (HS7.out.call h3 hfb hs8 hf8)
      have HN : Hid (Sf w b fb V (upT (fun k => envT k (E k)) (k + 1)) w8) := hide (by
        have e : upT (fun k => envT k (E k)) (k + 1) = X5 ++ lst (iN (eW ++ [epc])) ++ lst [q1, q2, q3] ++ [10] := by
          rw [HUp.out, ← hX5]
          simp only [envT, envN, lst_app, List.append_assoc]
        rw [e]
        exact HS8.out)
      clear hs8 hf8 HS7 HS8 hX5
      try go_wp2
      go_roundw
      case rel => exact ⟨k + 1, by omega, by go_num, HN⟩
      case measure => simp [intOf]; omega
    · have hd : decide ((k : Int) < (nE : Int)) = false := by simp; omega
      obtain rfl : nE = k := by omega
      have H1 := HS
      clear HS hlt hd
      try clear H0
      have HFP1 : Hid (Fresh (upT (fun k => envT k (E k)) nE)) := hide (HFE.out nE)
      have HLP1 : Hid ((upT (fun k => envT k (E k)) nE).length ≤ 500 * nE) := hide (HLE.out nE (by omega))
      obtain ⟨P1, hP1⟩ : ∃ x, upT (fun k => envT k (E k)) nE = x := ⟨_, rfl⟩
      rw [hP1] at H1 HFP1 HLP1
      have hc1 := H1.out.fo.get v1
      go_wp2
      go_loopw [51] (fun i wr => ∃ k : Nat, k ≤ nC ∧ i = .int .i64 (k : Int) ∧ Hid (Sf w b fb V (P1 ++ upT (fun k => capT (C k)) k) wr)) (fun i _ => nC - (intOf i).toNat)
      case atStart => exact ⟨0, by omega, rfl, by simpa [upT] using H1⟩
      case round =>
        obtain ⟨k, hk, rfl, HS⟩ := hrel
        by_cases hlt : k < nC
        · have hd : decide ((k : Int) < (nC : Int)) = true := by simp; omega
          have hRow := (HA.out.C.keep HS.out.st.fr.1) k hlt
          simp only at hRow
          obtain ⟨ad, rfl, hadb, hc⟩ := hRow
          have HC : Hid (∀ (j : Nat) (v : Value), ((C k).cells)[j]? = some v → wr.cell? ((ad.add (k * 8)).add j) = some v) := hide hc
          have HO : Hid ((C k).Ok) := hide (HF.out.C k hlt)
          have HFk : Hid (Fresh (P1 ++ upT (fun k => capT (C k)) k)) := hide (upT_fresh (f := fun k => capT (C k)) (fun k => ⟨_, rfl⟩) HFP1.out k)
          have HLk : Hid ((P1 ++ upT (fun k => capT (C k)) k).length + 500 ≤ 600000000) := hide (by have h1 := HLC.out k (by omega); have h2 := HLP1.out; rw [List.length_append]; omega)
          have HUp : Hid (P1 ++ upT (fun k => capT (C k)) (k + 1) = P1 ++ upT (fun k => capT (C k)) k ++ capT (C k)) := hide (by rw [upT_succ, List.append_assoc])
          clear hc
          obtain ⟨⟨ce, cs, ck, cr, ci, co, cfe, cfs⟩, he⟩ : ∃ c, C k = c := ⟨_, rfl⟩
          rw [he] at HC HO HUp
          clear he
          obtain ⟨X, hX⟩ : ∃ X, P1 ++ upT (fun k => capT (C k)) k = X := ⟨_, rfl⟩
          rw [hX] at HS HFk HLk HUp
          clear hX
          have HZ : Hid (Blk (wr.alloc (.cells ([.int .i64 0, .int .i64 0, .int .i64 0, .int .i64 0, .bool false, .int .i64 0, .int .i64 0, .int .i64 0]).toArray 43)) wr.heap.size 43 ([.int .i64 0, .int .i64 0, .int .i64 0, .int .i64 0, .bool false, .int .i64 0, .int .i64 0, .int .i64 0])) := hide ⟨heap_alloc_last _ _⟩
          go_upto_region 13 with (first | (refine loadT Tryd.underlying43 rfl (CaG.cells ⟨ce, cs, ck, cr, ci, co, cfe, cfs⟩) (info_ca) (by rfl) _ rfl (ad.add (k * 8)) rfl HC.out ?_) | (refine storeB (CaG.cells ⟨ce, cs, ck, cr, ci, co, cfe, cfs⟩) (info_ca) rfl rfl _ _ rfl wr.heap.size rfl rfl _ HZ.out (rfl) ?_))
          simp only [Act.put]
          have HS2 := hide (HS.out.up h3 (box_below wr ([.int .i64 0, .int .i64 0, .int .i64 0, .int .i64 0, .bool false, .int .i64 0, .int .i64 0, .int .i64 0]) (CaG.cells ⟨ce, cs, ck, cr, ci, co, cfe, cfs⟩) 43))
          have HB2 := hide (box_blk wr ([.int .i64 0, .int .i64 0, .int .i64 0, .int .i64 0, .bool false, .int .i64 0, .int .i64 0, .int .i64 0]) (CaG.cells ⟨ce, cs, ck, cr, ci, co, cfe, cfs⟩) 43)
          have hEb : wr.heap.size ≠ b := by have := HS.out.st.sh.lt; omega
          clear HZ HC HS
          generalize putB (wr.alloc (.cells ([.int .i64 0, .int .i64 0, .int .i64 0, .int .i64 0, .bool false, .int .i64 0, .int .i64 0, .int .i64 0]).toArray 43)) wr.heap.size (CaG.cells ⟨ce, cs, ck, cr, ci, co, cfe, cfs⟩) 43 = w2 at *
          obtain ⟨eB, hE⟩ : ∃ eB, wr.heap.size = eB := ⟨_, rfl⟩
          rw [hE] at HB2 hEb
          rw [hE]
          clear hE
          go_wp2_with fail
          refine (word_new w2 b X [99, 97, 112] HS2.out.st.sh HFk.out (by have := HLk.out; simp; omega)).mono ?_
          rintro e w3 ⟨rfl, hs, hf⟩
          have HS3 := hide (HS2.out.call h3 hfb hs hf)
          have HB3 : Hid (Blk w3 eB _ _) := hide (HB2.out.fr (by decide) hEb hf)
          clear hs hf HS2 HB2
          have c0 := HB3.out.get (j := 0) rfl
          have c1 := HB3.out.get (j := 1) rfl
          have c2 := HB3.out.get (j := 2) rfl
          have c3 := HB3.out.get (j := 3) rfl
          have a4 := all_cons HO.out.e (all_cons HO.out.s (all_cons HO.out.k (all_cons HO.out.r all_nil)))
          have l4 := lst_len a4
          have HO3 := hide (Opn.app X (s := [99, 97, 112]) ⟨112, rfl, by decide⟩)
          go_wp2_with fail
          refine (numbers_lit w3 b (X ++ [99, 97, 112]) [ce, cs, ck, cr] 4 rfl h3 HS3.out.st.sh HO3.out a4 HS3.out.st.tb (by have := HLk.out; simp; omega)).mono ?_
          rintro e w4 ⟨rfl, hs, hf⟩
          have HS4 := hide (HS3.out.call h3 hfb hs hf)
          have HB4 : Hid (Blk w4 eB _ _) := hide (HB3.out.fr (by decide) hEb hf)
          clear hs hf HS3 HB3
          clear c0 c1 c2 c3 a4
          have HO4 := hide (HO3.out.lst [ce, cs, ck, cr])
          have c4 := HB4.out.get (j := 4) rfl
          have hL4 : (X ++ [99, 97, 112] ++ lst [ce, cs, ck, cr]).length ≤ 600000200 := by have := HLk.out; simp only [List.length_append, List.length_cons, List.length_nil] at l4 ⊢; omega
          have a3 := all_cons HO.out.o (all_cons HO.out.fe (all_cons HO.out.fs all_nil))
          have l3 := lst_len a3
          obtain ⟨X4, hX4⟩ : ∃ x, X ++ [99, 97, 112] ++ lst [ce, cs, ck, cr] = x := ⟨_, rfl⟩
          rw [hX4] at HS4 HO4 hL4
          cases ci
          · go_wp2_with fail
            refine (word_mid w4 b X4 [111, 117, 116] HS4.out.st.sh HO4.out (by simp; omega)).mono ?_
            rintro e w5 ⟨rfl, hs, hf⟩
            have HS5 := hide (HS4.out.call h3 hfb hs hf)
            have HB5 : Hid (Blk w5 eB _ _) := hide (HB4.out.fr (by decide) hEb hf)
            clear hs hf HS4 HB4
            have c5 := HB5.out.get (j := 5) rfl
            have c6 := HB5.out.get (j := 6) rfl
            have c7 := HB5.out.get (j := 7) rfl
            have HO5 := hide (Opn.app X4 (s := 32 :: [111, 117, 116]) ⟨116, rfl, by decide⟩)
            go_wp2_with fail
            refine (numbers_lit w5 b (X4 ++ 32 :: [111, 117, 116]) [co, cfe, cfs] 3 rfl h3 HS5.out.st.sh HO5.out a3 HS5.out.st.tb (by simp; omega)).mono ?_
            rintro e w6 ⟨rfl, hs, hf⟩
            have HS6 := hide (HS5.out.call h3 hfb hs hf)
            have HB6 : Hid (Blk w6 eB _ _) := hide (HB5.out.fr (by decide) hEb hf)
            clear hs hf HS5 HB5
            go_wp2_with fail
            refine (end_any w6 b _ HS6.out.st.sh (by simp only [List.length_append, List.length_cons, List.length_nil] at l3 ⊢; omega)).mono ?_
            rintro e w7 ⟨rfl, hs, hf⟩
            have HS7 := hide (HS6.out.call h3 hfb hs hf)
            have HB7 : Hid (Blk w7 eB _ _) := hide (HB6.out.fr (by decide) hEb hf)
            clear hs hf HS6 HB6
            have HN : Hid (Sf w b fb V (P1 ++ upT (fun k => capT (C k)) (k + 1)) w7) := hide (by
              rw [HUp.out]
              have e : X ++ capT ⟨ce, cs, ck, cr, false, co, cfe, cfs⟩ = X4 ++ 32 :: [111, 117, 116] ++ lst [co, cfe, cfs] ++ [10] := by
                rw [← hX4]; simp [capT, whr]
              rw [e]
              exact HS7.out)
            try go_wp2
            go_roundw
            case rel => exact ⟨k + 1, by omega, by go_num, HN⟩
            case measure => simp [intOf]; omega
          · go_wp2_with fail
            refine (word_mid w4 b X4 [105, 110] HS4.out.st.sh HO4.out (by simp; omega)).mono ?_
            rintro e w5 ⟨rfl, hs, hf⟩
            have HS5 := hide (HS4.out.call h3 hfb hs hf)
            have HB5 : Hid (Blk w5 eB _ _) := hide (HB4.out.fr (by decide) hEb hf)
            clear hs hf HS4 HB4
            have c5 := HB5.out.get (j := 5) rfl
            have c6 := HB5.out.get (j := 6) rfl
            have c7 := HB5.out.get (j := 7) rfl
            have HO5 := hide (Opn.app X4 (s := 32 :: [105, 110]) ⟨110, rfl, by decide⟩)
            go_wp2_with fail
            refine (numbers_lit w5 b (X4 ++ 32 :: [105, 110]) [co, cfe, cfs] 3 rfl h3 HS5.out.st.sh HO5.out a3 HS5.out.st.tb (by simp; omega)).mono ?_
            rintro e w6 ⟨rfl, hs, hf⟩
            have HS6 := hide (HS5.out.call h3 hfb hs hf)
            have HB6 : Hid (Blk w6 eB _ _) := hide (HB5.out.fr (by decide) hEb hf)
            clear hs hf HS5 HB5
            go_wp2_with fail
            refine (end_any w6 b _ HS6.out.st.sh (by simp only [List.length_append, List.length_cons, List.length_nil] at l3 ⊢; omega)).mono ?_
            rintro e w7 ⟨rfl, hs, hf⟩
            have HS7 := hide (HS6.out.call h3 hfb hs hf)
            have HB7 : Hid (Blk w7 eB _ _) := hide (HB6.out.fr (by decide) hEb hf)
            clear hs hf HS6 HB6
            have HN : Hid (Sf w b fb V (P1 ++ upT (fun k => capT (C k)) (k + 1)) w7) := hide (by
              rw [HUp.out]
              have e : X ++ capT ⟨ce, cs, ck, cr, true, co, cfe, cfs⟩ = X4 ++ 32 :: [105, 110] ++ lst [co, cfe, cfs] ++ [10] := by
                rw [← hX4]; simp [capT, whr]
              rw [e]
              exact HS7.out)
            try go_wp2
            go_roundw
            case rel => exact ⟨k + 1, by omega, by go_num, HN⟩
            case measure => simp [intOf]; omega
        · have hd : decide ((k : Int) < (nC : Int)) = false := by simp; omega
          obtain rfl : nC = k := by omega
          have H2 := HS
          clear HS hlt hd
          try clear H0
          have HFP2 : Hid (Fresh (P1 ++ upT (fun k => capT (C k)) nC)) := hide (upT_fresh (f := fun k => capT (C k)) (fun k => ⟨_, rfl⟩) HFP1.out nC)
          have HLP2 : Hid ((P1 ++ upT (fun k => capT (C k)) nC).length ≤ 500 * nE + 500 * nC) := hide (by have h1 := HLC.out nC (by omega); have h2 := HLP1.out; rw [List.length_append]; omega)
          obtain ⟨P2, hP2⟩ : ∃ x, P1 ++ upT (fun k => capT (C k)) nC = x := ⟨_, rfl⟩
          rw [hP2] at H2 HFP2 HLP2
          have hc2 := H2.out.fo.get v2
          go_wp2_with fail
          refine (maps_any _ b P2 aM nM cM M HF.out.M h3 H2.out.st.sh HFP2.out (HA.out.M.keep H2.out.st.fr.1) H2.out.st.tb (by have := HLP2.out; omega)).mono ?_
          rintro e w3 ⟨rfl, hs, hf⟩
          have H3 := hide (H2.out.call h3 hfb hs hf)
          clear hs hf H2 hc2
          have HFP3 : Hid (Fresh (P2 ++ upT (fun k => mapT (M k)) nM)) := hide (upT_fresh (f := fun k => mapT (M k)) (fun k => ⟨_, rfl⟩) HFP2.out nM)
          have HLP3 : Hid ((P2 ++ upT (fun k => mapT (M k)) nM).length ≤ 500 * nE + 500 * nC + 500 * nM) := hide (by have h1 := HLM.out nM (by omega); have h2 := HLP2.out; rw [List.length_append]; omega)
          obtain ⟨P3, hP3⟩ : ∃ x, P2 ++ upT (fun k => mapT (M k)) nM = x := ⟨_, rfl⟩
          rw [hP3] at H3 HFP3 HLP3
          have hc3 := H3.out.fo.get v3
          go_wp2
          go_loopw [95] (fun i wr => ∃ k : Nat, k ≤ nP ∧ i = .int .i64 (k : Int) ∧ Hid (Sf w b fb V (P3 ++ upT (fun k => pageT k (P k)) k) wr)) (fun i _ => nP - (intOf i).toNat)
          case atStart => exact ⟨0, by omega, rfl, by simpa [upT] using H3⟩
          case round =>
            obtain ⟨k, hk, rfl, HS⟩ := hrel
            by_cases hlt : k < nP
            · have hd : decide ((k : Int) < (nP : Int)) = true := by simp; omega
              have hRow := (HA.out.P.keep HS.out.st.fr.1) k hlt
              simp only at hRow
              obtain ⟨ad, rfl, hadb, hc⟩ := hRow
              have HC : Hid (∀ (j : Nat) (v : Value), (pgL (P k))[j]? = some v → wr.cell? ((ad.add (k * 32)).add j) = some v) := hide hc
              have HO : Hid (PgOk (P k)) := hide (HF.out.P k hlt)
              have HFk : Hid (Fresh (P3 ++ upT (fun k => pageT k (P k)) k)) := hide (upT_fresh (f := fun k => pageT k (P k)) (fun k => ⟨_, rfl⟩) HFP3.out k)
              have HLk : Hid ((P3 ++ upT (fun k => pageT k (P k)) k).length + 500 ≤ 600000000) := hide (by have h1 := HLP.out k (by omega); have h2 := HLP3.out; rw [List.length_append]; omega)
              have HUp : Hid (P3 ++ upT (fun k => pageT k (P k)) (k + 1) = P3 ++ upT (fun k => pageT k (P k)) k ++ pageT k (P k)) := hide (by rw [upT_succ, List.append_assoc])
              clear hc
              obtain ⟨W, he⟩ : ∃ W, P k = W := ⟨_, rfl⟩
              rw [he] at HC HO HUp
              clear he
              have hPl : (pgL W).length = 32 := by rw [pgL, List.length_map]; exact HO.out.1
              have hP1 : (pgL W).all (fun u => u.oneCell') = true := by simp [pgL, Value.oneCell']
              obtain ⟨X, hX⟩ : ∃ X, P3 ++ upT (fun k => pageT k (P k)) k = X := ⟨_, rfl⟩
              rw [hX] at HS HFk HLk HUp
              clear hX
              have HZ : Hid (Blk (wr.alloc (.cells ([.int .u32 0, .int .u32 0, .int .u32 0, .int .u32 0, .int .u32 0, .int .u32 0, .int .u32 0, .int .u32 0, .int .u32 0, .int .u32 0, .int .u32 0, .int .u32 0, .int .u32 0, .int .u32 0, .int .u32 0, .int .u32 0, .int .u32 0, .int .u32 0, .int .u32 0, .int .u32 0, .int .u32 0, .int .u32 0, .int .u32 0, .int .u32 0, .int .u32 0, .int .u32 0, .int .u32 0, .int .u32 0, .int .u32 0, .int .u32 0, .int .u32 0, .int .u32 0]).toArray 47)) wr.heap.size 47 ([.int .u32 0, .int .u32 0, .int .u32 0, .int .u32 0, .int .u32 0, .int .u32 0, .int .u32 0, .int .u32 0, .int .u32 0, .int .u32 0, .int .u32 0, .int .u32 0, .int .u32 0, .int .u32 0, .int .u32 0, .int .u32 0, .int .u32 0, .int .u32 0, .int .u32 0, .int .u32 0, .int .u32 0, .int .u32 0, .int .u32 0, .int .u32 0, .int .u32 0, .int .u32 0, .int .u32 0, .int .u32 0, .int .u32 0, .int .u32 0, .int .u32 0, .int .u32 0])) := hide ⟨heap_alloc_last _ _⟩
              go_upto_region 25 with (first | (refine loadT Tryd.underlying47 rfl (pgL W) (by rw [hPl]; exact info_pg) (by rfl) _ rfl (ad.add (k * 32)) rfl HC.out ?_) | (refine storeB (pgL W) (by rw [hPl]; exact info_pg) hP1 rfl _ _ rfl wr.heap.size rfl rfl _ HZ.out (by rw [hPl]; rfl) ?_))
              simp only [Act.put]
              have HS2 := hide (HS.out.up h3 (box_below wr ([.int .u32 0, .int .u32 0, .int .u32 0, .int .u32 0, .int .u32 0, .int .u32 0, .int .u32 0, .int .u32 0, .int .u32 0, .int .u32 0, .int .u32 0, .int .u32 0, .int .u32 0, .int .u32 0, .int .u32 0, .int .u32 0, .int .u32 0, .int .u32 0, .int .u32 0, .int .u32 0, .int .u32 0, .int .u32 0, .int .u32 0, .int .u32 0, .int .u32 0, .int .u32 0, .int .u32 0, .int .u32 0, .int .u32 0, .int .u32 0, .int .u32 0, .int .u32 0]) (pgL W) 47))
              have HB2 := hide (box_blk wr ([.int .u32 0, .int .u32 0, .int .u32 0, .int .u32 0, .int .u32 0, .int .u32 0, .int .u32 0, .int .u32 0, .int .u32 0, .int .u32 0, .int .u32 0, .int .u32 0, .int .u32 0, .int .u32 0, .int .u32 0, .int .u32 0, .int .u32 0, .int .u32 0, .int .u32 0, .int .u32 0, .int .u32 0, .int .u32 0, .int .u32 0, .int .u32 0, .int .u32 0, .int .u32 0, .int .u32 0, .int .u32 0, .int .u32 0, .int .u32 0, .int .u32 0, .int .u32 0]) (pgL W) 47)
              have hEb : wr.heap.size ≠ b := by have := HS.out.st.sh.lt; omega
              clear HZ HC HS
              generalize putB (wr.alloc (.cells ([.int .u32 0, .int .u32 0, .int .u32 0, .int .u32 0, .int .u32 0, .int .u32 0, .int .u32 0, .int .u32 0, .int .u32 0, .int .u32 0, .int .u32 0, .int .u32 0, .int .u32 0, .int .u32 0, .int .u32 0, .int .u32 0, .int .u32 0, .int .u32 0, .int .u32 0, .int .u32 0, .int .u32 0, .int .u32 0, .int .u32 0, .int .u32 0, .int .u32 0, .int .u32 0, .int .u32 0, .int .u32 0, .int .u32 0, .int .u32 0, .int .u32 0, .int .u32 0]).toArray 47)) wr.heap.size (pgL W) 47 = w2 at *
              obtain ⟨eB, hE⟩ : ∃ eB, wr.heap.size = eB := ⟨_, rfl⟩
              rw [hE] at HB2 hEb
              rw [hE]
              clear hE
              go_wp2_with fail
              refine (word_new w2 b X [112, 97, 103, 101] HS2.out.st.sh HFk.out (by have := HLk.out; simp; omega)).mono ?_
              rintro e w3 ⟨rfl, hs, hf⟩
              have HS3 := hide (HS2.out.call h3 hfb hs hf)
              have HB3 : Hid (Blk w3 eB _ _) := hide (HB2.out.fr (by decide) hEb hf)
              clear hs hf HS2 HB2
              have HO3 := hide (Opn.app X (s := [112, 97, 103, 101]) ⟨101, rfl, by decide⟩)
              have a1 := all_cons (nat64 (show k ≤ 1048576 by omega)) all_nil
              have l1 := lst_len a1
              go_wp2_with fail
              refine (numbers_lit w3 b (X ++ [112, 97, 103, 101]) [(k : Int)] 1 rfl h3 HS3.out.st.sh HO3.out a1 HS3.out.st.tb (by have := HLk.out; simp; omega)).mono ?_
              rintro e w4 ⟨rfl, hs, hf⟩
              have HS4 := hide (HS3.out.call h3 hfb hs hf)
              have HB4 : Hid (Blk w4 eB _ _) := hide (HB3.out.fr (by decide) hEb hf)
              clear hs hf HS3 HB3
              have HO4 := hide (HO3.out.lst [(k : Int)])
              go_wp2_with (refine loadT Tryd.underlying47 rfl (pgL W) (by rw [hPl]; exact info_pg) (by rfl) _ rfl ⟨eB, 0, none⟩ rfl (Blk.cells HB4.out) ?_)
              refine (pageHex_any W HO.out.1 HO.out.2 w4).mono ?_
              rintro e w5 ⟨rfl, hb5⟩
              have HS5 := hide (HS4.out.up h3 hb5)
              have HB5 : Hid (Blk w5 eB _ _) := hide (HB4.out.below hb5 HB4.out.lt)
              have lh := hx_len (bys W)
              rw [bys_len] at lh
              clear hb5 HS4 HB4
              obtain ⟨hX, ehX⟩ : ∃ x, hx (bys W) = x := ⟨_, rfl⟩
              rw [ehX] at lh ⊢
              go_wp2_with fail
              refine (word_mid w5 b _ hX HS5.out.st.sh HO4.out (by have := HLk.out; simp only [List.length_append, List.length_cons, List.length_nil] at l1 ⊢; omega)).mono ?_
              rintro e w6 ⟨rfl, hs, hf⟩
              have HS6 := hide (HS5.out.call h3 hfb hs hf)
              have HB6 : Hid (Blk w6 eB _ _) := hide (HB5.out.fr (by decide) hEb hf)
              clear hs hf HS5 HB5
              go_wp2_with fail
              refine (end_any w6 b _ HS6.out.st.sh (by have := HLk.out; simp only [List.length_append, List.length_cons, List.length_nil] at l1 ⊢; omega)).mono ?_
              rintro e w7 ⟨rfl, hs, hf⟩
              have HS7 := hide (HS6.out.call h3 hfb hs hf)
              have HB7 : Hid (Blk w7 eB _ _) := hide (HB6.out.fr (by decide) hEb hf)
              clear hs hf HS6 HB6
              have HN : Hid (Sf w b fb V (P3 ++ upT (fun k => pageT k (P k)) (k + 1)) w7) := hide (by
                rw [HUp.out]
                have e : X ++ pageT k W = X ++ [112, 97, 103, 101] ++ lst [(k : Int)] ++ 32 :: hX ++ [10] := by
                  rw [← ehX]; simp [pageT]
                rw [e]
                exact HS7.out)
              try go_wp2
              go_roundw
              case rel => exact ⟨k + 1, by omega, by go_num, HN⟩
              case measure => simp [intOf]; omega
            · have hd : decide ((k : Int) < (nP : Int)) = false := by simp; omega
              obtain rfl : nP = k := by omega
              have H4 := HS
              clear HS hlt hd
              try clear H0
              have HFP4 : Hid (Fresh (P3 ++ upT (fun k => pageT k (P k)) nP)) := hide (upT_fresh (f := fun k => pageT k (P k)) (fun k => ⟨_, rfl⟩) HFP3.out nP)
              have HLP4 : Hid ((P3 ++ upT (fun k => pageT k (P k)) nP).length ≤ 500 * nE + 500 * nC + 500 * nM + 500 * nP) := hide (by have h1 := HLP.out nP (by omega); have h2 := HLP3.out; rw [List.length_append]; omega)
              obtain ⟨P4, hP4⟩ : ∃ x, P3 ++ upT (fun k => pageT k (P k)) nP = x := ⟨_, rfl⟩
              rw [hP4] at H4 HFP4 HLP4
              have hc4 := H4.out.fo.get v4
              go_wp2
              go_loopw [116] (fun i wr => ∃ k : Nat, k ≤ nO ∧ i = .int .i64 (k : Int) ∧ Hid (Sf w b fb V (P4 ++ upT (fun k => outT k (O k)) k) wr)) (fun i _ => nO - (intOf i).toNat)
              case atStart => exact ⟨0, by omega, rfl, by simpa [upT] using H4⟩
              case round =>
                obtain ⟨k, hk, rfl, HS⟩ := hrel
                by_cases hlt : k < nO
                · have hd : decide ((k : Int) < (nO : Int)) = true := by simp; omega
                  have hRow := (HA.out.O.keep HS.out.st.fr.1) k hlt
                  simp only at hRow
                  obtain ⟨ad, rfl, hadb, hc⟩ := hRow
                  have HC : Hid (∀ (j : Nat) (v : Value), ((O k).cells)[j]? = some v → wr.cell? ((ad.add (k * 2)).add j) = some v) := hide hc
                  have HO : Hid ((O k).Ok) := hide (HF.out.O k hlt)
                  have HFk : Hid (Fresh (P4 ++ upT (fun k => outT k (O k)) k)) := hide (upT_fresh (f := fun k => outT k (O k)) (fun k => ⟨_, rfl⟩) HFP4.out k)
                  have HLk : Hid ((P4 ++ upT (fun k => outT k (O k)) k).length + 500 ≤ 600000000) := hide (by have h1 := HLO.out k (by omega); have h2 := HLP4.out; rw [List.length_append]; omega)
                  have HUp : Hid (P4 ++ upT (fun k => outT k (O k)) (k + 1) = P4 ++ upT (fun k => outT k (O k)) k ++ outT k (O k)) := hide (by rw [upT_succ, List.append_assoc])
                  clear hc
                  obtain ⟨⟨ok, os⟩, he⟩ : ∃ o, O k = o := ⟨_, rfl⟩
                  rw [he] at HC HO HUp
                  clear he
                  obtain ⟨X, hX⟩ : ∃ X, P4 ++ upT (fun k => outT k (O k)) k = X := ⟨_, rfl⟩
                  rw [hX] at HS HFk HLk HUp
                  clear hX
                  have HZ : Hid (Blk (wr.alloc (.cells ([.int .i64 0, .int .i64 0]).toArray 49)) wr.heap.size 49 ([.int .i64 0, .int .i64 0])) := hide ⟨heap_alloc_last _ _⟩
                  go_upto_region 33 with (first | (refine loadT Tryd.underlying49 rfl (OuG.cells ⟨ok, os⟩) (info_ou) (by rfl) _ rfl (ad.add (k * 2)) rfl HC.out ?_) | (refine storeB (OuG.cells ⟨ok, os⟩) (info_ou) rfl rfl _ _ rfl wr.heap.size rfl rfl _ HZ.out (rfl) ?_))
                  simp only [Act.put]
                  have HS2 := hide (HS.out.up h3 (box_below wr ([.int .i64 0, .int .i64 0]) (OuG.cells ⟨ok, os⟩) 49))
                  have HB2 := hide (box_blk wr ([.int .i64 0, .int .i64 0]) (OuG.cells ⟨ok, os⟩) 49)
                  have hEb : wr.heap.size ≠ b := by have := HS.out.st.sh.lt; omega
                  clear HZ HC HS
                  generalize putB (wr.alloc (.cells ([.int .i64 0, .int .i64 0]).toArray 49)) wr.heap.size (OuG.cells ⟨ok, os⟩) 49 = w2 at *
                  obtain ⟨eB, hE⟩ : ∃ eB, wr.heap.size = eB := ⟨_, rfl⟩
                  rw [hE] at HB2 hEb
                  rw [hE]
                  clear hE
                  have c0 := HB2.out.get (j := 0) rfl
                  have c1 := HB2.out.get (j := 1) rfl
                  have a3 := all_cons (nat64 (show k ≤ 1048576 by omega)) (all_cons HO.out.k (all_cons HO.out.s all_nil))
                  go_wp2_with fail
                  refine (line_lit w2 b X [111, 117, 116] [(k : Int), ok, os] 3 rfl h3 HS2.out.st.sh HFk.out ⟨116, rfl, by decide⟩ a3 HS2.out.st.tb (by have := HLk.out; simp; omega)).mono ?_
                  rintro e w3 ⟨rfl, hs, hf⟩
                  have HS3 := hide (HS2.out.call h3 hfb hs hf)
                  have HB3 : Hid (Blk w3 eB _ _) := hide (HB2.out.fr (by decide) hEb hf)
                  clear hs hf HS2 HB2
                  have HN : Hid (Sf w b fb V (P4 ++ upT (fun k => outT k (O k)) (k + 1)) w3) := hide (by
                    rw [HUp.out]
                    have e : X ++ outT k ⟨ok, os⟩ = X ++ ([111, 117, 116] ++ lst [(k : Int), ok, os] ++ [10]) := by simp [outT]
                    rw [e]
                    exact HS3.out)
                  try go_wp2
                  go_roundw
                  case rel => exact ⟨k + 1, by omega, by go_num, HN⟩
                  case measure => simp [intOf]; omega
                · have hd : decide ((k : Int) < (nO : Int)) = false := by simp; omega
                  obtain rfl : nO = k := by omega
                  have H5 := HS
                  clear HS hlt hd
                  try clear H0
                  go_wp2
                  go_end0
                  refine ⟨rfl, ?_, H5.out.st.fr⟩
                  have e : Fo.text ⟨nE, E, nC, C, nM, M, nP, P, nO, O⟩ = P4 ++ upT (fun k => outT k (O k)) nO := by
                    rw [← hP4, ← hP3, ← hP2, ← hP1]; rfl
                  rw [e]
                  exact H5.out.st.sh
end Go.Proofs.YtionncfpcbjchaaDoor
