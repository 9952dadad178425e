import Derived.Test.YtionncfpcbjchaaDoorFB
namespace Go.Proofs.YtionncfpcbjchaaDoor
open Go.RowKit
theorem OwI.new (w : World) (L : List Int) (n base : Nat) (hn : L.length = n) (hb : base ≤ w.heap.size) (hm : n ≤ 1000) : OwI (w.alloc (.cells (L.map In).toArray 3)) base (.slice (some ⟨w.heap.size, 0, none⟩) n n) L := by
  subst hn
  refine ⟨by simp, .inr ⟨w.heap.size, L.length, _, rfl, hb, heap_alloc_new _ _, Nat.le_refl _, by unfold maxLen; omega, by simp, ?_⟩⟩
  simp [List.take_of_length_le]
theorem OwI.keepB {w w' : World} {base : Nat} {l : Value} {L : List Int} (hO : OwI w base l L) (hg : w.grownBy w' l.ownBlock) {k : Nat} {cur : Array Value} {T : TypeId} {f : Nat × Nat} (hk : w.heap[k]? = some (.cells cur T f)) (hT : T ≠ 3) : w'.heap[k]? = w.heap[k]? := by
  refine hg.block k (Array.getElem?_eq_some_iff.1 hk).1 fun e => ?_
  obtain ⟨_, ⟨h2, _⟩ | ⟨g, cap, c2, h2, _, h3, _⟩⟩ := hO
  · rw [h2] at e; cases e
  · rw [h2] at e; cases e
    have h4 := h3.symm.trans hk
    cases h4
    exact hT rfl
theorem OwB.keepB {w w' : World} {base : Nat} {l : Value} {L : Tx} (hO : OwB w base l L) (hg : w.grownBy w' l.ownBlock) {k : Nat} {cur : Array Value} {T : TypeId} {f : Nat × Nat} (hk : w.heap[k]? = some (.cells cur T f)) (hT : T ≠ 5) : w'.heap[k]? = w.heap[k]? := by
  refine hg.block k (Array.getElem?_eq_some_iff.1 hk).1 fun e => ?_
  obtain ⟨_, ⟨h2, _⟩ | ⟨g, cap, c2, h2, _, h3, _⟩⟩ := hO
  · rw [h2] at e; cases e
  · rw [h2] at e; cases e
    have h4 := h3.symm.trans hk
    cases h4
    exact hT rfl
theorem OwB.keepI {w w' : World} {base base' : Nat} {l v : Value} {L : List Int} {T : Tx} (h : OwB w base' v T) (hO : OwI w base l L) (hg : w.grownBy w' l.ownBlock) : OwB w' base' v T := by
  obtain ⟨h1, h2 | ⟨g, cap, cur, h2, h3, h4, h5⟩⟩ := h
  · exact ⟨h1, .inl h2⟩
  · exact ⟨h1, .inr ⟨g, cap, cur, h2, h3, (hO.keepB hg h4 (by decide)).trans h4, h5⟩⟩
/-- where the document's text stands -/
structure Sr (w1 : World) (B : Nat) (X : Tx) (s : Value) (wr : World) : Prop where
  ow : OwB wr B s X
  be : Below B w1 wr
  lo : B ≤ wr.heap.size
  tb : Tb wr
section
variable {w1 wr w2 : World} {B : Nat} {X : Tx} {s : Value}
theorem Sr.up (h : Sr w1 B X s wr) (h3 : 3 ≤ B) (hb : Below wr.heap.size wr w2) : Sr w1 B X s w2 := ⟨h.ow.up hb, h.be.trans (hb.mono h.lo), Nat.le_trans h.lo hb.size, h.tb.up (Nat.le_trans h3 h.lo) hb⟩
theorem Sr.app (h : Sr w1 B X s wr) (h3 : 3 ≤ B) {s' : Value} {X' : Tx} (ho : OwB w2 B s' X') (hg : wr.grownBy w2 s.ownBlock) : Sr w1 B X' s' w2 := ⟨ho, h.be.trans (below_grown h.ow hg (Nat.le_refl _) h.lo), Nat.le_trans h.lo hg.size, h.tb.up h3 (below_grown h.ow hg (Nat.le_refl _) h.lo)⟩
theorem Sr.appI (h : Sr w1 B X s wr) (h3 : 3 ≤ B) {l : Value} {L : List Int} (hO : OwI wr B l L) (hg : wr.grownBy w2 l.ownBlock) : Sr w1 B X s w2 := ⟨h.ow.keepI hO hg, h.be.trans (below_grown hO hg (Nat.le_refl _) h.lo), Nat.le_trans h.lo hg.size, h.tb.up h3 (below_grown hO hg (Nat.le_refl _) h.lo)⟩
end
/-- a forest's block, and a struct in a row -/
structure SeP (fb : Nat) (V : List Value) (ad : Addr) (cs : List Value) (W : World) : Prop where
  b : Blk W fb 28 V
  c : ∀ (j : Nat) (v : Value), cs[j]? = some v → W.cell? (ad.add j) = some v
theorem SeP.up {fb : Nat} {V : List Value} {ad : Addr} {cs : List Value} {W W' : World} (h : SeP fb V ad cs W) (hb : Below W.heap.size W W') : SeP fb V ad cs W' :=
  ⟨h.b.below hb h.b.lt, fun j v hv => (hb.cell (cell_lt (h.c j v hv))).trans (h.c j v hv)⟩
theorem SeP.app {fb : Nat} {V : List Value} {ad : Addr} {n : Nat} {cs : List Value} {W W' : World} (h : SeP fb V (ad.add n) cs W) {l : Value} {T : Tx} (hO : OwB W (fb + 1) l T) (hg : W.grownBy W' l.ownBlock) (hl : ad.block < fb + 1) : SeP fb V (ad.add n) cs W' := by
  have hb : Below (fb + 1) W W' := below_grown hO hg (Nat.le_refl _) h.b.lt
  exact ⟨h.b.below hb (Nat.lt_succ_self _), fun j v hv => (hb.cell (by rw [blk_add, blk_add]; exact hl)).trans (h.c j v hv)⟩
/-- two strings joined, the operation's run -/
theorem run_cat {op : Oper} {a : Act} {w : World} {t t' : TypeId} (x y : Operand) (ho : op.op = .binOp .add t x y t') {A B Y : Tx} (hx : a.eval x = .string ⟨A.toArray⟩) (hy : a.eval y = .string ⟨B.toArray⟩) (hY : A ++ B = Y) (hl : Y.length ≤ 9223372036854775807) : (execOp a.eval op).run Tryd.prog w = .ok (.value (.string ⟨Y.toArray⟩)) w := by
  have hs := run_string_add_sum (P := Tryd.prog) w (⟨A.toArray⟩ : ByteArray) ⟨B.toArray⟩ (by
    have e := congrArg List.length hY
    rw [List.length_append] at e
    simp [ByteArray.size]
    omega)
  rw [str_app, hY] at hs
  unfold execOp
  rw [ho]
  simp [hx, hy, binOp, eqGuard, hs]
theorem list_lit (w : World) (L : List Int) (n : Nat) (hn : L.length = n) (hI : ∀ z ∈ L, I64 z) (h3 : 3 ≤ w.heap.size) (hT : Tb w) (hl : n ≤ 1000) :
    Calls Tryd.prog 13 #[.slice (some ⟨w.heap.size, 0, none⟩) n n] (w.alloc (.cells (L.map In).toArray 3)) fun e w' => e = .returned (.string ⟨(lst L).toArray⟩) ∧ Below w.heap.size w w' := by
  have hb : Below w.heap.size w (w.alloc (.cells (L.map In).toArray 3)) := (Below.refl _ _).alloc (Nat.le_refl _) _
  refine (list_any _ L _ (RdI.new w L n n hn (Nat.le_refl _)) hI (by simp; omega) (hT.up h3 hb) (by omega)).mono ?_
  rintro e w' ⟨rfl, h1⟩
  exact ⟨rfl, hb.trans (h1.mono hb.size)⟩
theorem rline_lit (w : World) (s : Tx) (L : List Int) (n : Nat) (hn : L.length = n) (hI : ∀ z ∈ L, I64 z) (h3 : 3 ≤ w.heap.size) (hT : Tb w) (hl : n ≤ 1000) (hs : s.length ≤ 1000) :
    Calls Tryd.prog 12 #[.string ⟨s.toArray⟩, .slice (some ⟨w.heap.size, 0, none⟩) n n] (w.alloc (.cells (L.map In).toArray 3)) fun e w' => e = .returned (.string ⟨(s ++ lst L ++ [10]).toArray⟩) ∧ Below w.heap.size w w' := by
  have hb : Below w.heap.size w (w.alloc (.cells (L.map In).toArray 3)) := (Below.refl _ _).alloc (Nat.le_refl _) _
  refine (rline_any _ s L _ (RdI.new w L n n hn (Nat.le_refl _)) hI (by simp; omega) (hT.up h3 hb) (by omega)).mono ?_
  rintro e w' ⟨rfl, h1⟩
  exact ⟨rfl, hb.trans (h1.mono hb.size)⟩
set_option maxRecDepth 100000 in
set_option maxHeartbeats 8000000 in
theorem rForest_any (w : World) (v : Fv) (F : Fo) (hF : F.Ok) (h3 : 3 ≤ w.heap.size) (hA : FoAt w.heap.size w v F) (hT : Tb w) :
    Calls Tryd.prog 7 #[.agg (v.cells F).toArray] w fun e w' => e = .returned (.string ⟨F.text.toArray⟩) ∧ Below w.heap.size w w' := by
  obtain ⟨V, hV⟩ : ∃ V, v.cells F = V := ⟨_, rfl⟩
  have hb0 : Below w.heap.size w (w.alloc (.cells V.toArray 28)) := (Below.refl _ _).alloc (Nat.le_refl _) _
  have hw1 : (w.alloc (.cells V.toArray 28)).heap.size = w.heap.size + 1 := by simp
  have H0 : Hid (Sr (w.alloc (.cells V.toArray 28)) (w.heap.size + 1) [] (.slice none 0 0) (w.alloc (.cells V.toArray 28))) := hide ⟨OwB.nil _ _, Below.refl _ _, by omega, hT.up h3 hb0⟩
  have HV := hide (Blk.new w V 28)
  have HA := hide ((hA.keep hb0).mono (Nat.le_succ _))
  have HB0 := hide hb0
  have HF := hide hF
  have hsz := hF.sz
  rw [hV]
  obtain ⟨aE, cE, aC, cC, aM, cM, aP, cP, aO, cO⟩ := v
  obtain ⟨nE, E, nC, C, nM, M, nP, P, nO, O⟩ := F
  simp only [Fv.cells] at hV
  have v0 : V[0]? = some (.slice aE nE cE) := by rw [← hV]; rfl
  have v1 : V[1]? = some (.slice aC nC cC) := by rw [← hV]; rfl
  have v2 : V[2]? = some (.slice aM nM cM) := by rw [← hV]; rfl
  have v3 : V[3]? = some (.slice aP nP cP) := by rw [← hV]; rfl
  have v4 : V[4]? = some (.slice aO nO cO) := by rw [← hV]; rfl
  simp only at hsz
  clear hT hA hF hb0 hV
  go_enter Tryd.func7, Tryd.ntmps7
  go_upto_region 1 with fail
  generalize hfb0 : w.heap.size = fb at *
  generalize w.alloc (.cells V.toArray 28) = w1 at *
  have h3' : 3 ≤ fb + 1 := by omega
  have HLE : Hid (∀ m, m ≤ nE → (upT (fun k => envT k (E k)) m).length ≤ 500 * m) := hide (HF.out.e5)
  have HLC : Hid (∀ m, m ≤ nC → (upT (fun k => capT (C k)) m).length ≤ 500 * m) := hide (HF.out.c5)
  have HLM : Hid (∀ m, m ≤ nM → (upT (fun k => mapT (M k)) m).length ≤ 500 * m) := hide (HF.out.m5)
  have HLP : Hid (∀ m, m ≤ nP → (upT (fun k => pageT k (P k)) m).length ≤ 500 * m) := hide (HF.out.p5)
  have HLO : Hid (∀ m, m ≤ nO → (upT (fun k => outT k (O k)) m).length ≤ 500 * m) := hide (HF.out.o5)
  have HVk : Hid (∀ wr, Below (fb + 1) w1 wr → Blk wr fb 28 V) := hide (fun wr hb => HV.out.below hb (Nat.lt_succ_self _))
  go_wp2
  have HLP0 : Hid (([] : Tx).length ≤ 0) := hide (Nat.le_refl _)
  go_loopw [4, 3] (fun i s wr => ∃ k : Nat, k ≤ nE ∧ i = .int .i64 (k : Int) ∧ Hid (Sr w1 (fb + 1) (([] : Tx) ++ upT (fun k => envT k (E k)) k) s wr)) (fun i _ _ => nE - (intOf i).toNat)
  case atStart => exact ⟨0, by omega, rfl, by simpa [upT] using H0⟩
  case round =>
    obtain ⟨k, hk, rfl, HS⟩ := hrel
    have hcV := (HVk.out _ HS.out.be).get v0
    obtain ⟨sa, sn, sc, hs, hsn, hsc⟩ := HS.out.ow.len2
    subst hs
    by_cases hlt : k < nE
    · have hd : decide ((k : Int) < (nE : Int)) = true := by simp; omega
      have hRow := (HA.out.E.keep HS.out.be) k hlt
      simp only at hRow
      obtain ⟨ad, rfl, hadb, hc⟩ := hRow
      have HC : Hid (∀ (j : Nat) (v : Value), ((E k).cells)[j]? = some v → wr.cell? ((ad.add (k * 17)).add j) = some v) := hide hc
      have HO : Hid ((E k).Ok) := hide (HF.out.E k hlt)
      have HLk : Hid ((([] : Tx) ++ upT (fun k => envT k (E k)) k).length + 500 ≤ 600000000) := hide (by have h1 := HLE.out k (by omega); have h2 := HLP0.out; rw [List.length_append]; omega)
      have HUp : Hid (([] : Tx) ++ upT (fun k => envT k (E k)) (k + 1) = ([] : Tx) ++ upT (fun k => envT k (E k)) k ++ envT k (E k)) := hide (by rw [upT_succ, List.append_assoc])
      clear hc
      obtain ⟨⟨ep, es, ec, eb, ez, eW, epc, q1, q2, q3⟩, he⟩ : ∃ e, E k = e := ⟨_, rfl⟩
      rw [he] at HC HO HUp
      clear he
      obtain ⟨X, hX⟩ : ∃ X, ([] : Tx) ++ upT (fun k => envT k (E k)) k = X := ⟨_, rfl⟩
      rw [hX] at HS HLk HUp
      clear hX
      have hEl : (EnG.cells ⟨ep, es, ec, eb, ez, eW, epc, q1, q2, q3⟩).length = 17 := EnG.len HO.out
      have hE1 : (EnG.cells ⟨ep, es, ec, eb, ez, eW, epc, q1, q2, q3⟩).all (fun u => u.oneCell') = true := by simp [EnG.cells, rgL, Value.oneCell']
      have HZ : Hid (Blk (wr.alloc (.cells ([.int .i64 0, .int .i64 0, .int .i64 0, .int .i64 0, .bool false, .int .u32 0, .int .u32 0, .int .u32 0, .int .u32 0, .int .u32 0, .int .u32 0, .int .u32 0, .int .u32 0, .int .u32 0, .int .i64 0, .int .i64 0, .int .i64 0]).toArray 39)) wr.heap.size 39 ([.int .i64 0, .int .i64 0, .int .i64 0, .int .i64 0, .bool false, .int .u32 0, .int .u32 0, .int .u32 0, .int .u32 0, .int .u32 0, .int .u32 0, .int .u32 0, .int .u32 0, .int .u32 0, .int .i64 0, .int .i64 0, .int .i64 0])) := hide ⟨heap_alloc_last _ _⟩
      go_upto_region 6 with (first | (refine loadT Tryd.underlying39 rfl (EnG.cells ⟨ep, es, ec, eb, ez, eW, epc, q1, q2, q3⟩) (by rw [hEl]; exact info_en) (by rfl) _ rfl (ad.add (k * 17)) rfl HC.out ?_) | (refine storeB (EnG.cells ⟨ep, es, ec, eb, ez, eW, epc, q1, q2, q3⟩) (by rw [hEl]; exact info_en) hE1 rfl _ _ rfl wr.heap.size rfl rfl _ HZ.out (by rw [hEl]; rfl) ?_))
      simp only [Act.put]
      have HS2 := hide (HS.out.up h3' (box_below wr ([.int .i64 0, .int .i64 0, .int .i64 0, .int .i64 0, .bool false, .int .u32 0, .int .u32 0, .int .u32 0, .int .u32 0, .int .u32 0, .int .u32 0, .int .u32 0, .int .u32 0, .int .u32 0, .int .i64 0, .int .i64 0, .int .i64 0]) (EnG.cells ⟨ep, es, ec, eb, ez, eW, epc, q1, q2, q3⟩) 39))
      have HB2 := hide (box_blk wr ([.int .i64 0, .int .i64 0, .int .i64 0, .int .i64 0, .bool false, .int .u32 0, .int .u32 0, .int .u32 0, .int .u32 0, .int .u32 0, .int .u32 0, .int .u32 0, .int .u32 0, .int .u32 0, .int .i64 0, .int .i64 0, .int .i64 0]) (EnG.cells ⟨ep, es, ec, eb, ez, eW, epc, q1, q2, q3⟩) 39)
      have hElo : fb + 1 ≤ wr.heap.size := HS.out.lo
      clear HZ HC HS hcV
      generalize putB (wr.alloc (.cells ([.int .i64 0, .int .i64 0, .int .i64 0, .int .i64 0, .bool false, .int .u32 0, .int .u32 0, .int .u32 0, .int .u32 0, .int .u32 0, .int .u32 0, .int .u32 0, .int .u32 0, .int .u32 0, .int .i64 0, .int .i64 0, .int .i64 0]).toArray 39)) wr.heap.size (EnG.cells ⟨ep, es, ec, eb, ez, eW, epc, q1, q2, q3⟩) 39 = w2 at *
      obtain ⟨eB, hE⟩ : ∃ eB, wr.heap.size = eB := ⟨_, rfl⟩
      rw [hE] at HB2 hElo
      rw [hE]
      clear hE
      obtain ⟨w0, hwD⟩ : ∃ wD, wD = w2.drew := ⟨_, rfl⟩
      have HSD : Hid (Sr w1 (fb + 1) X (.slice sa sn sc) w0) := by rw [hwD]; exact hide (HS2.out.up h3' (drew_below w2))
      have HS0 : Hid ((fun W : World => Blk W eB 39 (EnG.cells ⟨ep, es, ec, eb, ez, eW, epc, q1, q2, q3⟩)) w0) := by rw [hwD]; exact hide (HB2.out.below (drew_below w2) HB2.out.lt)
      have hA1 : Below w0.heap.size w0 (w0.alloc (.cells #[.int .i64 ((k : Int)), .int .i64 (ep), .int .i64 (es), .int .i64 (ec), .int .i64 (eb), .int .i64 (fl ez)] 3)) := (Below.refl _ _).alloc (Nat.le_refl _) _
      have HSA := hide (HSD.out.up h3' hA1)
      have HS1 : Hid ((fun W : World => Blk W eB 39 (EnG.cells ⟨ep, es, ec, eb, ez, eW, epc, q1, q2, q3⟩)) (w0.alloc (.cells #[.int .i64 ((k : Int)), .int .i64 (ep), .int .i64 (es), .int .i64 (ec), .int .i64 (eb), .int .i64 (fl ez)] 3))) := hide (Blk.below HS0.out hA1 (Blk.lt HS0.out))
      have a6 := all_cons (nat64 (show k ≤ 1048576 by omega)) (all_cons HO.out.p (all_cons HO.out.s (all_cons HO.out.c (all_cons HO.out.b (all_cons (fl64 ez) all_nil)))))
      have HOI : Hid (OwI (w0.alloc (.cells #[.int .i64 ((k : Int)), .int .i64 (ep), .int .i64 (es), .int .i64 (ec), .int .i64 (eb), .int .i64 (fl ez)] 3)) (fb + 1) (.slice (some ⟨w0.heap.size, 0, none⟩) 6 6) [(k : Int), ep, es, ec, eb, fl ez]) := hide (by have := OwI.new w0 [(k : Int), ep, es, ec, eb, fl ez] 6 (fb + 1) rfl HSD.out.lo (by omega); simpa [In] using this)
      clear hA1
      refine wp_region_held_drew (S := fun W : World => Blk W eB 39 (EnG.cells ⟨ep, es, ec, eb, ez, eW, epc, q1, q2, q3⟩)) (by kernel_rfl) (by rw [← hwD]; exact HS0.out) (fun hHeld => ?_)
      rw [← hwD]
      clear hwD hHeld HS2 HB2
      refine hd_take 0 (o := ⟨some 28, _, _, _, _, _⟩) (.int .i64 (k : Int)) (by kernel_rfl) (by kernel_rfl) (by kernel_rfl) rfl (by rfl) (fun W hSw => by go_simp) (fun _ _ _ h => h) HS0.out ?_
      simp only [Act.put, List.setIfInBounds_toArray, List.set_cons_zero, List.set_cons_succ]
      refine hd_take 1 (o := ⟨some 29, _, _, _, _, _⟩) (.pointer (some ⟨eB, 0, none⟩)) (by kernel_rfl) (by kernel_rfl) (by kernel_rfl) rfl (by rfl) (fun W hSw => by go_simp) (fun _ _ _ h => h) HS0.out ?_
      simp only [Act.put, List.setIfInBounds_toArray, List.set_cons_zero, List.set_cons_succ]
      refine hd_take 2 (o := ⟨some 30, _, _, _, _, _⟩) (.int .i64 ep) (by kernel_rfl) (by kernel_rfl) (by kernel_rfl) rfl (by rfl) (fun W hSw => by have h9 := Blk.get (show Blk W eB 39 (EnG.cells ⟨ep, es, ec, eb, ez, eW, epc, q1, q2, q3⟩) from hSw) (j := 0) rfl; go_simp) (fun _ _ _ h => h) HS0.out ?_
      simp only [Act.put, List.setIfInBounds_toArray, List.set_cons_zero, List.set_cons_succ]
      refine hd_take 3 (o := ⟨some 31, _, _, _, _, _⟩) (.pointer (some ⟨eB, 1, none⟩)) (by kernel_rfl) (by kernel_rfl) (by kernel_rfl) rfl (by rfl) (fun W hSw => by go_simp) (fun _ _ _ h => h) HS0.out ?_
      simp only [Act.put, List.setIfInBounds_toArray, List.set_cons_zero, List.set_cons_succ]
      refine hd_take 4 (o := ⟨some 32, _, _, _, _, _⟩) (.int .i64 es) (by kernel_rfl) (by kernel_rfl) (by kernel_rfl) rfl (by rfl) (fun W hSw => by have h9 := Blk.get (show Blk W eB 39 (EnG.cells ⟨ep, es, ec, eb, ez, eW, epc, q1, q2, q3⟩) from hSw) (j := 1) rfl; go_simp) (fun _ _ _ h => h) HS0.out ?_
      simp only [Act.put, List.setIfInBounds_toArray, List.set_cons_zero, List.set_cons_succ]
      refine hd_take 5 (o := ⟨some 33, _, _, _, _, _⟩) (.pointer (some ⟨eB, 2, none⟩)) (by kernel_rfl) (by kernel_rfl) (by kernel_rfl) rfl (by rfl) (fun W hSw => by go_simp) (fun _ _ _ h => h) HS0.out ?_
      simp only [Act.put, List.setIfInBounds_toArray, List.set_cons_zero, List.set_cons_succ]
      refine hd_take 6 (o := ⟨some 34, _, _, _, _, _⟩) (.int .i64 ec) (by kernel_rfl) (by kernel_rfl) (by kernel_rfl) rfl (by rfl) (fun W hSw => by have h9 := Blk.get (show Blk W eB 39 (EnG.cells ⟨ep, es, ec, eb, ez, eW, epc, q1, q2, q3⟩) from hSw) (j := 2) rfl; go_simp) (fun _ _ _ h => h) HS0.out ?_
      simp only [Act.put, List.setIfInBounds_toArray, List.set_cons_zero, List.set_cons_succ]
      refine hd_take 7 (o := ⟨some 35, _, _, _, _, _⟩) (.pointer (some ⟨eB, 3, none⟩)) (by kernel_rfl) (by kernel_rfl) (by kernel_rfl) rfl (by rfl) (fun W hSw => by go_simp) (fun _ _ _ h => h) HS0.out ?_
      simp only [Act.put, List.setIfInBounds_toArray, List.set_cons_zero, List.set_cons_succ]
      refine hd_take 8 (o := ⟨some 36, _, _, _, _, _⟩) (.int .i64 eb) (by kernel_rfl) (by kernel_rfl) (by kernel_rfl) rfl (by rfl) (fun W hSw => by have h9 := Blk.get (show Blk W eB 39 (EnG.cells ⟨ep, es, ec, eb, ez, eW, epc, q1, q2, q3⟩) from hSw) (j := 3) rfl; go_simp) (fun _ _ _ h => h) HS0.out ?_
      simp only [Act.put, List.setIfInBounds_toArray, List.set_cons_zero, List.set_cons_succ]
      refine hd_take 9 (o := ⟨some 37, _, _, _, _, _⟩) (.pointer (some ⟨eB, 4, none⟩)) (by kernel_rfl) (by kernel_rfl) (by kernel_rfl) rfl (by rfl) (fun W hSw => by go_simp) (fun _ _ _ h => h) HS0.out ?_
      simp only [Act.put, List.setIfInBounds_toArray, List.set_cons_zero, List.set_cons_succ]
      refine hd_take 10 (o := ⟨some 38, _, _, _, _, _⟩) (.bool ez) (by kernel_rfl) (by kernel_rfl) (by kernel_rfl) rfl (by rfl) (fun W hSw => by have h9 := Blk.get (show Blk W eB 39 (EnG.cells ⟨ep, es, ec, eb, ez, eW, epc, q1, q2, q3⟩) from hSw) (j := 4) rfl; go_simp) (fun _ _ _ h => h) HS0.out ?_
      simp only [Act.put, List.setIfInBounds_toArray, List.set_cons_zero, List.set_cons_succ]
      refine hd_call 11 (o := ⟨some 39, _, _, _, _, _⟩) (by kernel_rfl) rfl (by rfl) (fun K' hK => ?_)
      go_wp2_with fail
      refine (rflag_any _ ez).mono ?_
      rintro e w9 ⟨rfl, hw9⟩
      obtain rfl : w0 = w9 := hw9.symm
      refine hK _ _ HS0.out ?_
      clear hK K'
      try simp only [Act.put, List.setIfInBounds_toArray, List.set_cons_zero, List.set_cons_succ]
      refine hd_call 12 (o := ⟨some 40, _, _, _, _, _⟩) (by kernel_rfl) rfl (by rfl) (fun K' hK => ?_)
      refine wp_row 56 3 _ Tryd.underlying56 info_i1 6 _ rfl [.int .i64 ((k : Int)), .int .i64 (ep), .int .i64 (es), .int .i64 (ec), .int .i64 (eb), .int .i64 (fl ez)] rfl (by decide) (by decide) (by simp [Value.oneCell']) (by simp; exact ⟨rfl, rfl, rfl, rfl, rfl, rfl⟩) ?_
      refine hK _ _ HS1.out ?_
      clear hK K'
      try simp only [Act.put, List.setIfInBounds_toArray, List.set_cons_zero, List.set_cons_succ]
      refine hd_take 13 (o := ⟨some 6, _, _, _, _, _⟩) (.slice (some ⟨w0.heap.size, 0, none⟩) 6 6) (by kernel_rfl) (by kernel_rfl) (by kernel_rfl) rfl (by rfl) (fun W hSw => by go_simp) (fun _ _ _ h => h) HS1.out ?_
      simp only [Act.put, List.setIfInBounds_toArray, List.set_cons_zero, List.set_cons_succ]
      refine wpAnyH_done (by kernel_rfl) ?_ _
      clear HSD HS0
      generalize hwA : w0.alloc (.cells #[.int .i64 ((k : Int)), .int .i64 (ep), .int .i64 (es), .int .i64 (ec), .int .i64 (eb), .int .i64 (fl ez)] 3) = w3 at *
      clear hwA
      obtain ⟨g6, hg6⟩ : ∃ g, w0.heap.size = g := ⟨_, rfl⟩
      rw [hg6] at HOI
      rw [hg6]
      clear hg6
      have hn8 := HO.out.n
      go_wp2_with (refine loadT Tryd.underlying35 rfl (rgL (eW ++ [epc])) (by rw [rgL_len, List.length_append, hn8]; exact info_rg) (by rfl) _ rfl ⟨eB, 5, none⟩ rfl (fun j u hu => by rw [add_lit]; exact Blk.get HS1.out (EnG.at5 hu)) ?_)
      refine (regs_any _ eW epc hn8 HO.out.w).mono ?_
      rintro e w4 ⟨u4, rfl, ho4, hb4⟩
      have HS4 := hide (HSA.out.up h3' hb4)
      have HB4 : Hid ((fun W : World => Blk W eB 39 (EnG.cells ⟨ep, es, ec, eb, ez, eW, epc, q1, q2, q3⟩)) w4) := hide (Blk.below HS1.out hb4 (Blk.lt HS1.out))
      have HO4 := hide (HOI.out.up hb4)
      have HR4 := hide ho4.rd
      obtain ⟨ra, rn, rc, hr, hrn, hrc⟩ := ho4.len2
      subst hr
      clear hb4 ho4 HSA HS1 HOI
      have h9 : (iN (eW ++ [epc])).length = 9 := by rw [iN_len, List.length_append, hn8]; rfl
      go_upto_region 8 with (at_builtin; refine app_ints rfl _ _ rfl (fb + 1) _ [(k : Int), ep, es, ec, eb, fl ez] rfl HO4.out (iN (eW ++ [epc])) _ rfl HR4.out (by rw [h9]; simp) HS4.out.lo ?_; intro v5 w5 ho5 hg5)
      have HS5 := hide (HS4.out.appI h3' HO4.out hg5)
      have HB5 : Hid ((fun W : World => Blk W eB 39 (EnG.cells ⟨ep, es, ec, eb, ez, eW, epc, q1, q2, q3⟩)) w5) := hide ⟨(HO4.out.keepB hg5 HB4.out.out (by decide)).trans HB4.out.out⟩
      obtain ⟨la, ln, lc, hl5, hln, hlc⟩ := ho5.len2
      subst hl5
      have HO5 := hide ho5
      clear ho5 hg5 HS4 HB4 HO4 HR4
      have c14 := Blk.get HB5.out (EnG.at14 HO.out (j := 0) rfl)
      have c15 := Blk.get HB5.out (EnG.at14 HO.out (j := 1) rfl)
      have c16 := Blk.get HB5.out (EnG.at14 HO.out (j := 2) rfl)
      have hA1 : Below w5.heap.size w5 (w5.alloc (.cells #[.int .i64 q1, .int .i64 q2, .int .i64 q3] 3)) := (Below.refl _ _).alloc (Nat.le_refl _) _
      have HS6 := hide (HS5.out.up h3' hA1)
      have HO6 := hide (HO5.out.up hA1)
      have HR6 : Hid (RdI (w5.alloc (.cells #[.int .i64 q1, .int .i64 q2, .int .i64 q3] 3)) (.slice (some ⟨w5.heap.size, 0, none⟩) 3 3) [q1, q2, q3]) := hide (by have := RdI.new w5 [q1, q2, q3] 3 3 rfl (Nat.le_refl _); simpa [In] using this)
      clear hA1 HS5 HB5 HO5
      go_upto_region 9 with (at_builtin; refine app_ints rfl _ _ rfl (fb + 1) _ ([(k : Int), ep, es, ec, eb, fl ez] ++ iN (eW ++ [epc])) rfl HO6.out [q1, q2, q3] _ rfl HR6.out (by rw [List.length_append, h9]; simp) HS6.out.lo ?_; intro v7 w7 ho7 hg7)
      have HS7 := hide (HS6.out.appI h3' HO6.out hg7)
      have HR7 := hide ho7.rd
      obtain ⟨ma, mn, mc, hm7, hmn, hmc⟩ := ho7.len2
      subst hm7
      clear ho7 hg7 HS6 HO6 HR6 c14 c15 c16
      have HEN : Hid (envN k ⟨ep, es, ec, eb, ez, eW, epc, q1, q2, q3⟩ = [(k : Int), ep, es, ec, eb, fl ez] ++ iN (eW ++ [epc]) ++ [q1, q2, q3]) := hide rfl
      have hI7 := envN64 (show k ≤ 1048576 by omega) HO.out
      rw [HEN.out] at hI7
      have h18 : ([(k : Int), ep, es, ec, eb, fl ez] ++ iN (eW ++ [epc]) ++ [q1, q2, q3]).length = 18 := by rw [List.length_append, List.length_append, h9]; rfl
      have hll := lst_len hI7
      rw [h18] at hll
      go_wp2_with fail
      refine (rline_any _ [101, 110, 118] _ _ HR7.out hI7 (by have := HS7.out.lo; omega) HS7.out.tb (by rw [h18]; simp)).mono ?_
      rintro e w8 ⟨rfl, hb8⟩
      have HS8 := hide (HS7.out.up h3' hb8)
      clear hb8 HS7 HR7 hI7
      rw [← HEN.out] at hll ⊢
      obtain ⟨LN, hLN⟩ : ∃ x, [101, 110, 118] ++ lst (envN k ⟨ep, es, ec, eb, ez, eW, epc, q1, q2, q3⟩) ++ [10] = x := ⟨_, rfl⟩
      have hLl : LN.length ≤ 500 := by rw [← hLN]; simp only [List.length_append, List.length_cons, List.length_nil]; omega
      rw [hLN]
      go_wp2_with (at_builtin; refine app_str rfl _ _ rfl (fb + 1) _ X rfl HS8.out.ow LN rfl (by have := HLk.out; omega) HS8.out.lo ?_; intro v9 w9 ho9 hg9)
      have HS9 := hide (HS8.out.app h3' ho9 hg9)
      clear ho9 hg9 HS8
      have HN : Hid (Sr w1 (fb + 1) ([] ++ upT (fun k => envT k (E k)) (k + 1)) v9 w9) := hide (by
        rw [HUp.out]
        rw [show envT k ⟨ep, es, ec, eb, ez, eW, epc, q1, q2, q3⟩ = LN from hLN]
        exact HS9.out)
      try go_wp2
      go_roundw
      case rel => exact ⟨k + 1, by omega, by go_num, HN⟩
      case measure => simp [intOf]; omega
    · have hd : decide ((k : Int) < (nE : Int)) = false := by simp; omega
      obtain rfl : nE = k := by omega
      have H1 := HS
      clear HS hlt hd
      try clear H0
      have HLP1 : Hid (([] ++ upT (fun k => envT k (E k)) nE).length ≤ 500 * nE) := hide (by rw [List.nil_append]; exact HLE.out nE (by omega))
      obtain ⟨P1, hP1⟩ : ∃ x, [] ++ upT (fun k => envT k (E k)) nE = x := ⟨_, rfl⟩
      rw [hP1] at H1 HLP1
      go_wp2
      go_loopw [7, 3] (fun i s wr => ∃ k : Nat, k ≤ nC ∧ i = .int .i64 (k : Int) ∧ Hid (Sr w1 (fb + 1) (P1 ++ upT (fun k => capT (C k)) k) s wr)) (fun i _ _ => nC - (intOf i).toNat)
      case atStart => exact ⟨0, by omega, rfl, by simpa [upT] using H1⟩
      case round =>
        obtain ⟨k, hk, rfl, HS⟩ := hrel
        have hcV := (HVk.out _ HS.out.be).get v1
        obtain ⟨sa, sn, sc, hs, hsn, hsc⟩ := HS.out.ow.len2
        subst hs
        by_cases hlt : k < nC
        · have hd : decide ((k : Int) < (nC : Int)) = true := by simp; omega
          have hRow := (HA.out.C.keep HS.out.be) k hlt
          simp only at hRow
          obtain ⟨ad, rfl, hadb, hc⟩ := hRow
          have HC : Hid (∀ (j : Nat) (v : Value), ((C k).cells)[j]? = some v → wr.cell? ((ad.add (k * 8)).add j) = some v) := hide hc
          have HO : Hid ((C k).Ok) := hide (HF.out.C k hlt)
          have HLk : Hid ((P1 ++ upT (fun k => capT (C k)) k).length + 500 ≤ 600000000) := hide (by have h1 := HLC.out k (by omega); have h2 := HLP1.out; rw [List.length_append]; omega)
          have HUp : Hid (P1 ++ upT (fun k => capT (C k)) (k + 1) = P1 ++ upT (fun k => capT (C k)) k ++ capT (C k)) := hide (by rw [upT_succ, List.append_assoc])
          clear hc
          obtain ⟨⟨ce, cs, ck, cr, ci, co, cfe, cfs⟩, he⟩ : ∃ c, C k = c := ⟨_, rfl⟩
          rw [he] at HC HO HUp
          clear he
          obtain ⟨X, hX⟩ : ∃ X, P1 ++ upT (fun k => capT (C k)) k = X := ⟨_, rfl⟩
          rw [hX] at HS HLk HUp
          clear hX
          have HZ : Hid (Blk (wr.alloc (.cells ([.int .i64 0, .int .i64 0, .int .i64 0, .int .i64 0, .bool false, .int .i64 0, .int .i64 0, .int .i64 0]).toArray 43)) wr.heap.size 43 ([.int .i64 0, .int .i64 0, .int .i64 0, .int .i64 0, .bool false, .int .i64 0, .int .i64 0, .int .i64 0])) := hide ⟨heap_alloc_last _ _⟩
          go_upto_region 14 with (first | (refine loadT Tryd.underlying43 rfl (CaG.cells ⟨ce, cs, ck, cr, ci, co, cfe, cfs⟩) (info_ca) (by rfl) _ rfl (ad.add (k * 8)) rfl HC.out ?_) | (refine storeB (CaG.cells ⟨ce, cs, ck, cr, ci, co, cfe, cfs⟩) (info_ca) rfl rfl _ _ rfl wr.heap.size rfl rfl _ HZ.out (rfl) ?_))
          simp only [Act.put]
          have HS2 := hide (HS.out.up h3' (box_below wr ([.int .i64 0, .int .i64 0, .int .i64 0, .int .i64 0, .bool false, .int .i64 0, .int .i64 0, .int .i64 0]) (CaG.cells ⟨ce, cs, ck, cr, ci, co, cfe, cfs⟩) 43))
          have HB2 := hide (box_blk wr ([.int .i64 0, .int .i64 0, .int .i64 0, .int .i64 0, .bool false, .int .i64 0, .int .i64 0, .int .i64 0]) (CaG.cells ⟨ce, cs, ck, cr, ci, co, cfe, cfs⟩) 43)
          have hElo : fb + 1 ≤ wr.heap.size := HS.out.lo
          clear HZ HC HS hcV
          generalize putB (wr.alloc (.cells ([.int .i64 0, .int .i64 0, .int .i64 0, .int .i64 0, .bool false, .int .i64 0, .int .i64 0, .int .i64 0]).toArray 43)) wr.heap.size (CaG.cells ⟨ce, cs, ck, cr, ci, co, cfe, cfs⟩) 43 = w2 at *
          obtain ⟨eB, hE⟩ : ∃ eB, wr.heap.size = eB := ⟨_, rfl⟩
          rw [hE] at HB2 hElo
          rw [hE]
          clear hE
          have a4 := all_cons HO.out.e (all_cons HO.out.s (all_cons HO.out.k (all_cons HO.out.r all_nil)))
          have l4 := lst_len a4
          have a3 := all_cons HO.out.o (all_cons HO.out.fe (all_cons HO.out.fs all_nil))
          have l3 := lst_len a3
          simp only [List.length_cons, List.length_nil] at l3 l4
          have c4 := HB2.out.get (j := 4) rfl
          cases ci
          · go_upto_region 17 with fail
            obtain ⟨w0, hwD⟩ : ∃ wD, wD = w2.drew := ⟨_, rfl⟩
            have HSD : Hid (Sr w1 (fb + 1) X (.slice sa sn sc) w0) := by rw [hwD]; exact hide (HS2.out.up h3' (drew_below w2))
            have HS0 : Hid ((fun W : World => Blk W eB 43 (CaG.cells ⟨ce, cs, ck, cr, false, co, cfe, cfs⟩)) w0) := by rw [hwD]; exact hide (HB2.out.below (drew_below w2) HB2.out.lt)
            refine wp_region_held_drew (S := fun W : World => Blk W eB 43 (CaG.cells ⟨ce, cs, ck, cr, false, co, cfe, cfs⟩)) (by kernel_rfl) (by rw [← hwD]; exact HS0.out) (fun hHeld => ?_)
            rw [← hwD]
            clear hwD hHeld HS2 HB2
            refine hd_take 0 (o := ⟨some 76, _, _, _, _, _⟩) (.pointer (some ⟨eB, 0, none⟩)) (by kernel_rfl) (by kernel_rfl) (by kernel_rfl) rfl (by rfl) (fun W hSw => by go_simp) (fun _ _ _ h => h) HS0.out ?_
            simp only [Act.put, List.setIfInBounds_toArray, List.set_cons_zero, List.set_cons_succ]
            refine hd_take 1 (o := ⟨some 77, _, _, _, _, _⟩) (.int .i64 ce) (by kernel_rfl) (by kernel_rfl) (by kernel_rfl) rfl (by rfl) (fun W hSw => by have h9 := Blk.get (show Blk W eB 43 (CaG.cells ⟨ce, cs, ck, cr, false, co, cfe, cfs⟩) from hSw) (j := 0) rfl; go_simp) (fun _ _ _ h => h) HS0.out ?_
            simp only [Act.put, List.setIfInBounds_toArray, List.set_cons_zero, List.set_cons_succ]
            refine hd_take 2 (o := ⟨some 78, _, _, _, _, _⟩) (.pointer (some ⟨eB, 1, none⟩)) (by kernel_rfl) (by kernel_rfl) (by kernel_rfl) rfl (by rfl) (fun W hSw => by go_simp) (fun _ _ _ h => h) HS0.out ?_
            simp only [Act.put, List.setIfInBounds_toArray, List.set_cons_zero, List.set_cons_succ]
            refine hd_take 3 (o := ⟨some 79, _, _, _, _, _⟩) (.int .i64 cs) (by kernel_rfl) (by kernel_rfl) (by kernel_rfl) rfl (by rfl) (fun W hSw => by have h9 := Blk.get (show Blk W eB 43 (CaG.cells ⟨ce, cs, ck, cr, false, co, cfe, cfs⟩) from hSw) (j := 1) rfl; go_simp) (fun _ _ _ h => h) HS0.out ?_
            simp only [Act.put, List.setIfInBounds_toArray, List.set_cons_zero, List.set_cons_succ]
            refine hd_take 4 (o := ⟨some 80, _, _, _, _, _⟩) (.pointer (some ⟨eB, 2, none⟩)) (by kernel_rfl) (by kernel_rfl) (by kernel_rfl) rfl (by rfl) (fun W hSw => by go_simp) (fun _ _ _ h => h) HS0.out ?_
            simp only [Act.put, List.setIfInBounds_toArray, List.set_cons_zero, List.set_cons_succ]
            refine hd_take 5 (o := ⟨some 81, _, _, _, _, _⟩) (.int .i64 ck) (by kernel_rfl) (by kernel_rfl) (by kernel_rfl) rfl (by rfl) (fun W hSw => by have h9 := Blk.get (show Blk W eB 43 (CaG.cells ⟨ce, cs, ck, cr, false, co, cfe, cfs⟩) from hSw) (j := 2) rfl; go_simp) (fun _ _ _ h => h) HS0.out ?_
            simp only [Act.put, List.setIfInBounds_toArray, List.set_cons_zero, List.set_cons_succ]
            refine hd_take 6 (o := ⟨some 82, _, _, _, _, _⟩) (.pointer (some ⟨eB, 3, none⟩)) (by kernel_rfl) (by kernel_rfl) (by kernel_rfl) rfl (by rfl) (fun W hSw => by go_simp) (fun _ _ _ h => h) HS0.out ?_
            simp only [Act.put, List.setIfInBounds_toArray, List.set_cons_zero, List.set_cons_succ]
            refine hd_take 7 (o := ⟨some 83, _, _, _, _, _⟩) (.int .i64 cr) (by kernel_rfl) (by kernel_rfl) (by kernel_rfl) rfl (by rfl) (fun W hSw => by have h9 := Blk.get (show Blk W eB 43 (CaG.cells ⟨ce, cs, ck, cr, false, co, cfe, cfs⟩) from hSw) (j := 3) rfl; go_simp) (fun _ _ _ h => h) HS0.out ?_
            simp only [Act.put, List.setIfInBounds_toArray, List.set_cons_zero, List.set_cons_succ]
            refine hd_take 11 (o := ⟨some 87, _, _, _, _, _⟩) (.string ⟨#[32, 111, 117, 116]⟩) (by kernel_rfl) (by kernel_rfl) (by kernel_rfl) rfl (by rfl) (fun W hSw => by go_simp) (fun _ _ _ h => h) HS0.out ?_
            simp only [Act.put, List.setIfInBounds_toArray, List.set_cons_zero, List.set_cons_succ]
            refine hd_take 13 (o := ⟨some 89, _, _, _, _, _⟩) (.pointer (some ⟨eB, 5, none⟩)) (by kernel_rfl) (by kernel_rfl) (by kernel_rfl) rfl (by rfl) (fun W hSw => by go_simp) (fun _ _ _ h => h) HS0.out ?_
            simp only [Act.put, List.setIfInBounds_toArray, List.set_cons_zero, List.set_cons_succ]
            refine hd_take 14 (o := ⟨some 90, _, _, _, _, _⟩) (.int .i64 co) (by kernel_rfl) (by kernel_rfl) (by kernel_rfl) rfl (by rfl) (fun W hSw => by have h9 := Blk.get (show Blk W eB 43 (CaG.cells ⟨ce, cs, ck, cr, false, co, cfe, cfs⟩) from hSw) (j := 5) rfl; go_simp) (fun _ _ _ h => h) HS0.out ?_
            simp only [Act.put, List.setIfInBounds_toArray, List.set_cons_zero, List.set_cons_succ]
            refine hd_take 15 (o := ⟨some 91, _, _, _, _, _⟩) (.pointer (some ⟨eB, 6, none⟩)) (by kernel_rfl) (by kernel_rfl) (by kernel_rfl) rfl (by rfl) (fun W hSw => by go_simp) (fun _ _ _ h => h) HS0.out ?_
            simp only [Act.put, List.setIfInBounds_toArray, List.set_cons_zero, List.set_cons_succ]
            refine hd_take 16 (o := ⟨some 92, _, _, _, _, _⟩) (.pointer (some ⟨eB, 6, none⟩)) (by kernel_rfl) (by kernel_rfl) (by kernel_rfl) rfl (by rfl) (fun W hSw => by go_simp) (fun _ _ _ h => h) HS0.out ?_
            simp only [Act.put, List.setIfInBounds_toArray, List.set_cons_zero, List.set_cons_succ]
            refine hd_take 17 (o := ⟨some 93, _, _, _, _, _⟩) (.int .i64 cfe) (by kernel_rfl) (by kernel_rfl) (by kernel_rfl) rfl (by rfl) (fun W hSw => by have h9 := Blk.get (show Blk W eB 43 (CaG.cells ⟨ce, cs, ck, cr, false, co, cfe, cfs⟩) from hSw) (j := 6) rfl; go_simp) (fun _ _ _ h => h) HS0.out ?_
            simp only [Act.put, List.setIfInBounds_toArray, List.set_cons_zero, List.set_cons_succ]
            refine hd_take 18 (o := ⟨some 94, _, _, _, _, _⟩) (.pointer (some ⟨eB, 6, none⟩)) (by kernel_rfl) (by kernel_rfl) (by kernel_rfl) rfl (by rfl) (fun W hSw => by go_simp) (fun _ _ _ h => h) HS0.out ?_
            simp only [Act.put, List.setIfInBounds_toArray, List.set_cons_zero, List.set_cons_succ]
            refine hd_take 19 (o := ⟨some 95, _, _, _, _, _⟩) (.pointer (some ⟨eB, 7, none⟩)) (by kernel_rfl) (by kernel_rfl) (by kernel_rfl) rfl (by rfl) (fun W hSw => by go_simp) (fun _ _ _ h => h) HS0.out ?_
            simp only [Act.put, List.setIfInBounds_toArray, List.set_cons_zero, List.set_cons_succ]
            refine hd_take 20 (o := ⟨some 96, _, _, _, _, _⟩) (.int .i64 cfs) (by kernel_rfl) (by kernel_rfl) (by kernel_rfl) rfl (by rfl) (fun W hSw => by have h9 := Blk.get (show Blk W eB 43 (CaG.cells ⟨ce, cs, ck, cr, false, co, cfe, cfs⟩) from hSw) (j := 7) rfl; go_simp) (fun _ _ _ h => h) HS0.out ?_
            simp only [Act.put, List.setIfInBounds_toArray, List.set_cons_zero, List.set_cons_succ]
            refine hd_both 8 21 (o1 := ⟨some 84, _, _, _, _, _⟩) (o2 := ⟨some 97, _, _, _, _, _⟩) (by kernel_rfl) rfl rfl (by rfl) (by rfl) (fun K' hK => ?_) (fun K' hK => ?_)
            · refine wp_row 56 3 _ Tryd.underlying56 info_i1 4 _ rfl [.int .i64 (ce), .int .i64 (cs), .int .i64 (ck), .int .i64 (cr)] rfl (by decide) (by decide) (by simp [Value.oneCell']) (by simp; exact ⟨rfl, rfl, rfl, rfl⟩) ?_
              have hA11 : Below w0.heap.size w0 (w0.alloc (.cells #[.int .i64 (ce), .int .i64 (cs), .int .i64 (ck), .int .i64 (cr)] 3)) := (Below.refl _ _).alloc (Nat.le_refl _) _
              have HS11 := hide (HSD.out.up h3' hA11)
              have HB11 : Hid ((fun W : World => Blk W eB 43 (CaG.cells ⟨ce, cs, ck, cr, false, co, cfe, cfs⟩)) (w0.alloc (.cells #[.int .i64 (ce), .int .i64 (cs), .int .i64 (ck), .int .i64 (cr)] 3))) := hide (Blk.below HS0.out hA11 (Blk.lt HS0.out))
              have HRA11 : Hid (RdI (w0.alloc (.cells #[.int .i64 (ce), .int .i64 (cs), .int .i64 (ck), .int .i64 (cr)] 3)) (.slice (some ⟨w0.heap.size, 0, none⟩) 4 4) [ce, cs, ck, cr]) := hide (by have := RdI.new w0 [ce, cs, ck, cr] 4 4 rfl (Nat.le_refl _); simpa [In] using this)
              clear hA11
              generalize (w0.alloc (.cells #[.int .i64 (ce), .int .i64 (cs), .int .i64 (ck), .int .i64 (cr)] 3)) = w11 at *
              obtain ⟨gA, hgA⟩ : ∃ g, w0.heap.size = g := ⟨_, rfl⟩
              rw [hgA] at HRA11 ⊢
              clear hgA
              refine hK _ _ HB11.out ?_
              clear hK K'
              try simp only [Act.put, List.setIfInBounds_toArray, List.set_cons_zero, List.set_cons_succ]
              refine hd_both 9 21 (o1 := ⟨some 85, _, _, _, _, _⟩) (o2 := ⟨some 97, _, _, _, _, _⟩) (by kernel_rfl) rfl rfl (by rfl) (by rfl) (fun K' hK => ?_) (fun K' hK => ?_)
              · go_wp2_with fail
                refine (list_any w11 [ce, cs, ck, cr] _ HRA11.out a4 (by have := HS11.out.lo; omega) HS11.out.tb (by simp)).mono ?_
                rintro e w12 ⟨rfl, hb12⟩
                have HS12 := hide (HS11.out.up h3' hb12)
                have HB12 : Hid ((fun W : World => Blk W eB 43 (CaG.cells ⟨ce, cs, ck, cr, false, co, cfe, cfs⟩)) w12) := hide (Blk.below HB11.out hb12 (Blk.lt HB11.out))
                have HRA12 := hide (HRA11.out.up hb12)
                clear hb12
                refine hK _ _ HB12.out ?_
                clear hK K'
                try simp only [Act.put, List.setIfInBounds_toArray, List.set_cons_zero, List.set_cons_succ]
                refine hd_take 10 (o := ⟨some 86, _, _, _, _, _⟩) (.string ⟨([99, 97, 112] ++ lst [ce, cs, ck, cr]).toArray⟩) (by kernel_rfl) (by kernel_rfl) (by kernel_rfl) rfl (by rfl) (fun W hSw => by exact run_cat _ _ rfl rfl rfl rfl (by simp only [List.length_append, List.length_cons, List.length_nil]; omega)) (fun _ _ _ h => h) HB12.out ?_
                simp only [Act.put, List.setIfInBounds_toArray, List.set_cons_zero, List.set_cons_succ]
                refine hd_take 12 (o := ⟨some 88, _, _, _, _, _⟩) (.string ⟨([99, 97, 112] ++ lst [ce, cs, ck, cr] ++ [32, 111, 117, 116]).toArray⟩) (by kernel_rfl) (by kernel_rfl) (by kernel_rfl) rfl (by rfl) (fun W hSw => by exact run_cat _ _ rfl rfl rfl rfl (by simp only [List.length_append, List.length_cons, List.length_nil]; omega)) (fun _ _ _ h => h) HB12.out ?_
                simp only [Act.put, List.setIfInBounds_toArray, List.set_cons_zero, List.set_cons_succ]
                refine hd_call 21 (o := ⟨some 97, _, _, _, _, _⟩) (by kernel_rfl) rfl (by rfl) (fun K' hK => ?_)
                refine wp_row 56 3 _ Tryd.underlying56 info_i1 3 _ rfl [.int .i64 (co), .int .i64 (cfe), .int .i64 (cfs)] rfl (by decide) (by decide) (by simp [Value.oneCell']) (by simp; exact ⟨rfl, rfl, rfl⟩) ?_
                have hA13 : Below w12.heap.size w12 (w12.alloc (.cells #[.int .i64 (co), .int .i64 (cfe), .int .i64 (cfs)] 3)) := (Below.refl _ _).alloc (Nat.le_refl _) _
                have HS13 := hide (HS12.out.up h3' hA13)
                have HB13 : Hid ((fun W : World => Blk W eB 43 (CaG.cells ⟨ce, cs, ck, cr, false, co, cfe, cfs⟩)) (w12.alloc (.cells #[.int .i64 (co), .int .i64 (cfe), .int .i64 (cfs)] 3))) := hide (Blk.below HB12.out hA13 (Blk.lt HB12.out))
                have HRA13 := hide (HRA12.out.up hA13)
                have HRB13 : Hid (RdI (w12.alloc (.cells #[.int .i64 (co), .int .i64 (cfe), .int .i64 (cfs)] 3)) (.slice (some ⟨w12.heap.size, 0, none⟩) 3 3) [co, cfe, cfs]) := hide (by have := RdI.new w12 [co, cfe, cfs] 3 3 rfl (Nat.le_refl _); simpa [In] using this)
                clear hA13
                generalize (w12.alloc (.cells #[.int .i64 (co), .int .i64 (cfe), .int .i64 (cfs)] 3)) = w13 at *
                obtain ⟨gB, hgB⟩ : ∃ g, w12.heap.size = g := ⟨_, rfl⟩
                rw [hgB] at HRB13 ⊢
                clear hgB
                refine hK _ _ HB13.out ?_
                clear hK K'
                try simp only [Act.put, List.setIfInBounds_toArray, List.set_cons_zero, List.set_cons_succ]
                refine hd_call 22 (o := ⟨some 98, _, _, _, _, _⟩) (by kernel_rfl) rfl (by rfl) (fun K' hK => ?_)
                go_wp2_with fail
                refine (list_any w13 [co, cfe, cfs] _ HRB13.out a3 (by have := HS13.out.lo; omega) HS13.out.tb (by simp)).mono ?_
                rintro e w14 ⟨rfl, hb14⟩
                have HS14 := hide (HS13.out.up h3' hb14)
                have HB14 : Hid ((fun W : World => Blk W eB 43 (CaG.cells ⟨ce, cs, ck, cr, false, co, cfe, cfs⟩)) w14) := hide (Blk.below HB13.out hb14 (Blk.lt HB13.out))
                have HRA14 := hide (HRA13.out.up hb14)
                have HRB14 := hide (HRB13.out.up hb14)
                clear hb14
                refine hK _ _ HB14.out ?_
                clear hK K'
                try simp only [Act.put, List.setIfInBounds_toArray, List.set_cons_zero, List.set_cons_succ]
                refine hd_take 23 (o := ⟨some 99, _, _, _, _, _⟩) (.string ⟨([99, 97, 112] ++ lst [ce, cs, ck, cr] ++ [32, 111, 117, 116] ++ lst [co, cfe, cfs]).toArray⟩) (by kernel_rfl) (by kernel_rfl) (by kernel_rfl) rfl (by rfl) (fun W hSw => by exact run_cat _ _ rfl rfl rfl rfl (by simp only [List.length_append, List.length_cons, List.length_nil]; omega)) (fun _ _ _ h => h) HB14.out ?_
                simp only [Act.put, List.setIfInBounds_toArray, List.set_cons_zero, List.set_cons_succ]
                refine hd_take 24 (o := ⟨some 100, _, _, _, _, _⟩) (.string ⟨([99, 97, 112] ++ lst [ce, cs, ck, cr] ++ [32, 111, 117, 116] ++ lst [co, cfe, cfs] ++ [10]).toArray⟩) (by kernel_rfl) (by kernel_rfl) (by kernel_rfl) rfl (by rfl) (fun W hSw => by exact run_cat _ _ rfl rfl rfl rfl (by simp only [List.length_append, List.length_cons, List.length_nil]; omega)) (fun _ _ _ h => h) HB14.out ?_
                simp only [Act.put, List.setIfInBounds_toArray, List.set_cons_zero, List.set_cons_succ]
                refine hd_take 25 (o := ⟨some 10, _, _, _, _, _⟩) (.string ⟨([99, 97, 112] ++ lst [ce, cs, ck, cr] ++ [32, 111, 117, 116] ++ lst [co, cfe, cfs] ++ [10]).toArray⟩) (by kernel_rfl) (by kernel_rfl) (by kernel_rfl) rfl (by rfl) (fun W hSw => by go_simp) (fun _ _ _ h => h) HB14.out ?_
                simp only [Act.put, List.setIfInBounds_toArray, List.set_cons_zero, List.set_cons_succ]
                refine wpAnyH_done (by kernel_rfl) ?_ _
                go_wp2_with (at_builtin; refine app_str rfl _ _ rfl (fb + 1) _ X rfl HS14.out.ow ([99, 97, 112] ++ lst [ce, cs, ck, cr] ++ [32, 111, 117, 116] ++ lst [co, cfe, cfs] ++ [10]) rfl (by have := HLk.out; simp only [List.length_append, List.length_cons, List.length_nil]; omega) HS14.out.lo ?_; intro v9 w9 ho9 hg9)
                have HS9 := hide (HS14.out.app h3' ho9 hg9)
                clear ho9 hg9
                have HN : Hid (Sr w1 (fb + 1) (P1 ++ upT (fun k => capT (C k)) (k + 1)) v9 w9) := hide (by
                  rw [HUp.out]
                  have e : X ++ capT ⟨ce, cs, ck, cr, false, co, cfe, cfs⟩ = X ++ ([99, 97, 112] ++ lst [ce, cs, ck, cr] ++ [32, 111, 117, 116] ++ lst [co, cfe, cfs] ++ [10]) := by simp [capT, whr]
                  rw [e]
                  exact HS9.out)
                try go_wp2
                go_roundw
                case rel => exact ⟨k + 1, by omega, by go_num, HN⟩
                case measure => simp [intOf]; omega
              · refine wp_row 56 3 _ Tryd.underlying56 info_i1 3 _ rfl [.int .i64 (co), .int .i64 (cfe), .int .i64 (cfs)] rfl (by decide) (by decide) (by simp [Value.oneCell']) (by simp; exact ⟨rfl, rfl, rfl⟩) ?_
                have hA15 : Below w11.heap.size w11 (w11.alloc (.cells #[.int .i64 (co), .int .i64 (cfe), .int .i64 (cfs)] 3)) := (Below.refl _ _).alloc (Nat.le_refl _) _
                have HS15 := hide (HS11.out.up h3' hA15)
                have HB15 : Hid ((fun W : World => Blk W eB 43 (CaG.cells ⟨ce, cs, ck, cr, false, co, cfe, cfs⟩)) (w11.alloc (.cells #[.int .i64 (co), .int .i64 (cfe), .int .i64 (cfs)] 3))) := hide (Blk.below HB11.out hA15 (Blk.lt HB11.out))
                have HRA15 := hide (HRA11.out.up hA15)
                have HRB15 : Hid (RdI (w11.alloc (.cells #[.int .i64 (co), .int .i64 (cfe), .int .i64 (cfs)] 3)) (.slice (some ⟨w11.heap.size, 0, none⟩) 3 3) [co, cfe, cfs]) := hide (by have := RdI.new w11 [co, cfe, cfs] 3 3 rfl (Nat.le_refl _); simpa [In] using this)
                clear hA15
                generalize (w11.alloc (.cells #[.int .i64 (co), .int .i64 (cfe), .int .i64 (cfs)] 3)) = w15 at *
                obtain ⟨gB, hgB⟩ : ∃ g, w11.heap.size = g := ⟨_, rfl⟩
                rw [hgB] at HRB15 ⊢
                clear hgB
                refine hK _ _ HB15.out ?_
                clear hK K'
                try simp only [Act.put, List.setIfInBounds_toArray, List.set_cons_zero, List.set_cons_succ]
                refine hd_call 9 (o := ⟨some 85, _, _, _, _, _⟩) (by kernel_rfl) rfl (by rfl) (fun K' hK => ?_)
                go_wp2_with fail
                refine (list_any w15 [ce, cs, ck, cr] _ HRA15.out a4 (by have := HS15.out.lo; omega) HS15.out.tb (by simp)).mono ?_
                rintro e w16 ⟨rfl, hb16⟩
                have HS16 := hide (HS15.out.up h3' hb16)
                have HB16 : Hid ((fun W : World => Blk W eB 43 (CaG.cells ⟨ce, cs, ck, cr, false, co, cfe, cfs⟩)) w16) := hide (Blk.below HB15.out hb16 (Blk.lt HB15.out))
                have HRA16 := hide (HRA15.out.up hb16)
                have HRB16 := hide (HRB15.out.up hb16)
                clear hb16
                refine hK _ _ HB16.out ?_
                clear hK K'
                try simp only [Act.put, List.setIfInBounds_toArray, List.set_cons_zero, List.set_cons_succ]
                refine hd_take 10 (o := ⟨some 86, _, _, _, _, _⟩) (.string ⟨([99, 97, 112] ++ lst [ce, cs, ck, cr]).toArray⟩) (by kernel_rfl) (by kernel_rfl) (by kernel_rfl) rfl (by rfl) (fun W hSw => by exact run_cat _ _ rfl rfl rfl rfl (by simp only [List.length_append, List.length_cons, List.length_nil]; omega)) (fun _ _ _ h => h) HB16.out ?_
                simp only [Act.put, List.setIfInBounds_toArray, List.set_cons_zero, List.set_cons_succ]
                refine hd_take 12 (o := ⟨some 88, _, _, _, _, _⟩) (.string ⟨([99, 97, 112] ++ lst [ce, cs, ck, cr] ++ [32, 111, 117, 116]).toArray⟩) (by kernel_rfl) (by kernel_rfl) (by kernel_rfl) rfl (by rfl) (fun W hSw => by exact run_cat _ _ rfl rfl rfl rfl (by simp only [List.length_append, List.length_cons, List.length_nil]; omega)) (fun _ _ _ h => h) HB16.out ?_
                simp only [Act.put, List.setIfInBounds_toArray, List.set_cons_zero, List.set_cons_succ]
                refine hd_call 22 (o := ⟨some 98, _, _, _, _, _⟩) (by kernel_rfl) rfl (by rfl) (fun K' hK => ?_)
                go_wp2_with fail
                refine (list_any w16 [co, cfe, cfs] _ HRB16.out a3 (by have := HS16.out.lo; omega) HS16.out.tb (by simp)).mono ?_
                rintro e w17 ⟨rfl, hb17⟩
                have HS17 := hide (HS16.out.up h3' hb17)
                have HB17 : Hid ((fun W : World => Blk W eB 43 (CaG.cells ⟨ce, cs, ck, cr, false, co, cfe, cfs⟩)) w17) := hide (Blk.below HB16.out hb17 (Blk.lt HB16.out))
                have HRA17 := hide (HRA16.out.up hb17)
                have HRB17 := hide (HRB16.out.up hb17)
                clear hb17
                refine hK _ _ HB17.out ?_
                clear hK K'
                try simp only [Act.put, List.setIfInBounds_toArray, List.set_cons_zero, List.set_cons_succ]
                refine hd_take 23 (o := ⟨some 99, _, _, _, _, _⟩) (.string ⟨([99, 97, 112] ++ lst [ce, cs, ck, cr] ++ [32, 111, 117, 116] ++ lst [co, cfe, cfs]).toArray⟩) (by kernel_rfl) (by kernel_rfl) (by kernel_rfl) rfl (by rfl) (fun W hSw => by exact run_cat _ _ rfl rfl rfl rfl (by simp only [List.length_append, List.length_cons, List.length_nil]; omega)) (fun _ _ _ h => h) HB17.out ?_
                simp only [Act.put, List.setIfInBounds_toArray, List.set_cons_zero, List.set_cons_succ]
                refine hd_take 24 (o := ⟨some 100, _, _, _, _, _⟩) (.string ⟨([99, 97, 112] ++ lst [ce, cs, ck, cr] ++ [32, 111, 117, 116] ++ lst [co, cfe, cfs] ++ [10]).toArray⟩) (by kernel_rfl) (by kernel_rfl) (by kernel_rfl) rfl (by rfl) (fun W hSw => by exact run_cat _ _ rfl rfl rfl rfl (by simp only [List.length_append, List.length_cons, List.length_nil]; omega)) (fun _ _ _ h => h) HB17.out ?_
                simp only [Act.put, List.setIfInBounds_toArray, List.set_cons_zero, List.set_cons_succ]
                refine hd_take 25 (o := ⟨some 10, _, _, _, _, _⟩) (.string ⟨([99, 97, 112] ++ lst [ce, cs, ck, cr] ++ [32, 111, 117, 116] ++ lst [co, cfe, cfs] ++ [10]).toArray⟩) (by kernel_rfl) (by kernel_rfl) (by kernel_rfl) rfl (by rfl) (fun W hSw => by go_simp) (fun _ _ _ h => h) HB17.out ?_
                simp only [Act.put, List.setIfInBounds_toArray, List.set_cons_zero, List.set_cons_succ]
                refine wpAnyH_done (by kernel_rfl) ?_ _
                go_wp2_with (at_builtin; refine app_str rfl _ _ rfl (fb + 1) _ X rfl HS17.out.ow ([99, 97, 112] ++ lst [ce, cs, ck, cr] ++ [32, 111, 117, 116] ++ lst [co, cfe, cfs] ++ [10]) rfl (by have := HLk.out; simp only [List.length_append, List.length_cons, List.length_nil]; omega) HS17.out.lo ?_; intro v9 w9 ho9 hg9)
                have HS9 := hide (HS17.out.app h3' ho9 hg9)
                clear ho9 hg9
                have HN : Hid (Sr w1 (fb + 1) (P1 ++ upT (fun k => capT (C k)) (k + 1)) v9 w9) := hide (by
                  rw [HUp.out]
                  have e : X ++ capT ⟨ce, cs, ck, cr, false, co, cfe, cfs⟩ = X ++ ([99, 97, 112] ++ lst [ce, cs, ck, cr] ++ [32, 111, 117, 116] ++ lst [co, cfe, cfs] ++ [10]) := by simp [capT, whr]
                  rw [e]
                  exact HS9.out)
                try go_wp2
                go_roundw
                case rel => exact ⟨k + 1, by omega, by go_num, HN⟩
                case measure => simp [intOf]; omega
            · refine wp_row 56 3 _ Tryd.underlying56 info_i1 3 _ rfl [.int .i64 (co), .int .i64 (cfe), .int .i64 (cfs)] rfl (by decide) (by decide) (by simp [Value.oneCell']) (by simp; exact ⟨rfl, rfl, rfl⟩) ?_
              have hA18 : Below w0.heap.size w0 (w0.alloc (.cells #[.int .i64 (co), .int .i64 (cfe), .int .i64 (cfs)] 3)) := (Below.refl _ _).alloc (Nat.le_refl _) _
              have HS18 := hide (HSD.out.up h3' hA18)
              have HB18 : Hid ((fun W : World => Blk W eB 43 (CaG.cells ⟨ce, cs, ck, cr, false, co, cfe, cfs⟩)) (w0.alloc (.cells #[.int .i64 (co), .int .i64 (cfe), .int .i64 (cfs)] 3))) := hide (Blk.below HS0.out hA18 (Blk.lt HS0.out))
              have HRB18 : Hid (RdI (w0.alloc (.cells #[.int .i64 (co), .int .i64 (cfe), .int .i64 (cfs)] 3)) (.slice (some ⟨w0.heap.size, 0, none⟩) 3 3) [co, cfe, cfs]) := hide (by have := RdI.new w0 [co, cfe, cfs] 3 3 rfl (Nat.le_refl _); simpa [In] using this)
              clear hA18
              generalize (w0.alloc (.cells #[.int .i64 (co), .int .i64 (cfe), .int .i64 (cfs)] 3)) = w18 at *
              obtain ⟨gB, hgB⟩ : ∃ g, w0.heap.size = g := ⟨_, rfl⟩
              rw [hgB] at HRB18 ⊢
              clear hgB
              refine hK _ _ HB18.out ?_
              clear hK K'
              try simp only [Act.put, List.setIfInBounds_toArray, List.set_cons_zero, List.set_cons_succ]
              refine hd_call 8 (o := ⟨some 84, _, _, _, _, _⟩) (by kernel_rfl) rfl (by rfl) (fun K' hK => ?_)
              refine wp_row 56 3 _ Tryd.underlying56 info_i1 4 _ rfl [.int .i64 (ce), .int .i64 (cs), .int .i64 (ck), .int .i64 (cr)] rfl (by decide) (by decide) (by simp [Value.oneCell']) (by simp; exact ⟨rfl, rfl, rfl, rfl⟩) ?_
              have hA19 : Below w18.heap.size w18 (w18.alloc (.cells #[.int .i64 (ce), .int .i64 (cs), .int .i64 (ck), .int .i64 (cr)] 3)) := (Below.refl _ _).alloc (Nat.le_refl _) _
              have HS19 := hide (HS18.out.up h3' hA19)
              have HB19 : Hid ((fun W : World => Blk W eB 43 (CaG.cells ⟨ce, cs, ck, cr, false, co, cfe, cfs⟩)) (w18.alloc (.cells #[.int .i64 (ce), .int .i64 (cs), .int .i64 (ck), .int .i64 (cr)] 3))) := hide (Blk.below HB18.out hA19 (Blk.lt HB18.out))
              have HRB19 := hide (HRB18.out.up hA19)
              have HRA19 : Hid (RdI (w18.alloc (.cells #[.int .i64 (ce), .int .i64 (cs), .int .i64 (ck), .int .i64 (cr)] 3)) (.slice (some ⟨w18.heap.size, 0, none⟩) 4 4) [ce, cs, ck, cr]) := hide (by have := RdI.new w18 [ce, cs, ck, cr] 4 4 rfl (Nat.le_refl _); simpa [In] using this)
              clear hA19
              generalize (w18.alloc (.cells #[.int .i64 (ce), .int .i64 (cs), .int .i64 (ck), .int .i64 (cr)] 3)) = w19 at *
              obtain ⟨gA, hgA⟩ : ∃ g, w18.heap.size = g := ⟨_, rfl⟩
              rw [hgA] at HRA19 ⊢
              clear hgA
              refine hK _ _ HB19.out ?_
              clear hK K'
              try simp only [Act.put, List.setIfInBounds_toArray, List.set_cons_zero, List.set_cons_succ]
              refine hd_call 9 (o := ⟨some 85, _, _, _, _, _⟩) (by kernel_rfl) rfl (by rfl) (fun K' hK => ?_)
              go_wp2_with fail
              refine (list_any w19 [ce, cs, ck, cr] _ HRA19.out a4 (by have := HS19.out.lo; omega) HS19.out.tb (by simp)).mono ?_
              rintro e w20 ⟨rfl, hb20⟩
              have HS20 := hide (HS19.out.up h3' hb20)
              have HB20 : Hid ((fun W : World => Blk W eB 43 (CaG.cells ⟨ce, cs, ck, cr, false, co, cfe, cfs⟩)) w20) := hide (Blk.below HB19.out hb20 (Blk.lt HB19.out))
              have HRB20 := hide (HRB19.out.up hb20)
              have HRA20 := hide (HRA19.out.up hb20)
              clear hb20
              refine hK _ _ HB20.out ?_
              clear hK K'
              try simp only [Act.put, List.setIfInBounds_toArray, List.set_cons_zero, List.set_cons_succ]
              refine hd_take 10 (o := ⟨some 86, _, _, _, _, _⟩) (.string ⟨([99, 97, 112] ++ lst [ce, cs, ck, cr]).toArray⟩) (by kernel_rfl) (by kernel_rfl) (by kernel_rfl) rfl (by rfl) (fun W hSw => by exact run_cat _ _ rfl rfl rfl rfl (by simp only [List.length_append, List.length_cons, List.length_nil]; omega)) (fun _ _ _ h => h) HB20.out ?_
              simp only [Act.put, List.setIfInBounds_toArray, List.set_cons_zero, List.set_cons_succ]
              refine hd_take 12 (o := ⟨some 88, _, _, _, _, _⟩) (.string ⟨([99, 97, 112] ++ lst [ce, cs, ck, cr] ++ [32, 111, 117, 116]).toArray⟩) (by kernel_rfl) (by kernel_rfl) (by kernel_rfl) rfl (by rfl) (fun W hSw => by exact run_cat _ _ rfl rfl rfl rfl (by simp only [List.length_append, List.length_cons, List.length_nil]; omega)) (fun _ _ _ h => h) HB20.out ?_
              simp only [Act.put, List.setIfInBounds_toArray, List.set_cons_zero, List.set_cons_succ]
              refine hd_call 22 (o := ⟨some 98, _, _, _, _, _⟩) (by kernel_rfl) rfl (by rfl) (fun K' hK => ?_)
              go_wp2_with fail
              refine (list_any w20 [co, cfe, cfs] _ HRB20.out a3 (by have := HS20.out.lo; omega) HS20.out.tb (by simp)).mono ?_
              rintro e w21 ⟨rfl, hb21⟩
              have HS21 := hide (HS20.out.up h3' hb21)
              have HB21 : Hid ((fun W : World => Blk W eB 43 (CaG.cells ⟨ce, cs, ck, cr, false, co, cfe, cfs⟩)) w21) := hide (Blk.below HB20.out hb21 (Blk.lt HB20.out))
              have HRB21 := hide (HRB20.out.up hb21)
              have HRA21 := hide (HRA20.out.up hb21)
              clear hb21
              refine hK _ _ HB21.out ?_
              clear hK K'
              try simp only [Act.put, List.setIfInBounds_toArray, List.set_cons_zero, List.set_cons_succ]
              refine hd_take 23 (o := ⟨some 99, _, _, _, _, _⟩) (.string ⟨([99, 97, 112] ++ lst [ce, cs, ck, cr] ++ [32, 111, 117, 116] ++ lst [co, cfe, cfs]).toArray⟩) (by kernel_rfl) (by kernel_rfl) (by kernel_rfl) rfl (by rfl) (fun W hSw => by exact run_cat _ _ rfl rfl rfl rfl (by simp only [List.length_append, List.length_cons, List.length_nil]; omega)) (fun _ _ _ h => h) HB21.out ?_
              simp only [Act.put, List.setIfInBounds_toArray, List.set_cons_zero, List.set_cons_succ]
              refine hd_take 24 (o := ⟨some 100, _, _, _, _, _⟩) (.string ⟨([99, 97, 112] ++ lst [ce, cs, ck, cr] ++ [32, 111, 117, 116] ++ lst [co, cfe, cfs] ++ [10]).toArray⟩) (by kernel_rfl) (by kernel_rfl) (by kernel_rfl) rfl (by rfl) (fun W hSw => by exact run_cat _ _ rfl rfl rfl rfl (by simp only [List.length_append, List.length_cons, List.length_nil]; omega)) (fun _ _ _ h => h) HB21.out ?_
              simp only [Act.put, List.setIfInBounds_toArray, List.set_cons_zero, List.set_cons_succ]
              refine hd_take 25 (o := ⟨some 10, _, _, _, _, _⟩) (.string ⟨([99, 97, 112] ++ lst [ce, cs, ck, cr] ++ [32, 111, 117, 116] ++ lst [co, cfe, cfs] ++ [10]).toArray⟩) (by kernel_rfl) (by kernel_rfl) (by kernel_rfl) rfl (by rfl) (fun W hSw => by go_simp) (fun _ _ _ h => h) HB21.out ?_
              simp only [Act.put, List.setIfInBounds_toArray, List.set_cons_zero, List.set_cons_succ]
              refine wpAnyH_done (by kernel_rfl) ?_ _
              go_wp2_with (at_builtin; refine app_str rfl _ _ rfl (fb + 1) _ X rfl HS21.out.ow ([99, 97, 112] ++ lst [ce, cs, ck, cr] ++ [32, 111, 117, 116] ++ lst [co, cfe, cfs] ++ [10]) rfl (by have := HLk.out; simp only [List.length_append, List.length_cons, List.length_nil]; omega) HS21.out.lo ?_; intro v9 w9 ho9 hg9)
              have HS9 := hide (HS21.out.app h3' ho9 hg9)
              clear ho9 hg9
              have HN : Hid (Sr w1 (fb + 1) (P1 ++ upT (fun k => capT (C k)) (k + 1)) v9 w9) := hide (by
                rw [HUp.out]
                have e : X ++ capT ⟨ce, cs, ck, cr, false, co, cfe, cfs⟩ = X ++ ([99, 97, 112] ++ lst [ce, cs, ck, cr] ++ [32, 111, 117, 116] ++ lst [co, cfe, cfs] ++ [10]) := by simp [capT, whr]
                rw [e]
                exact HS9.out)
              try go_wp2
              go_roundw
              case rel => exact ⟨k + 1, by omega, by go_num, HN⟩
              case measure => simp [intOf]; omega
          · go_upto_region 17 with fail
            obtain ⟨w0, hwD⟩ : ∃ wD, wD = w2.drew := ⟨_, rfl⟩
            have HSD : Hid (Sr w1 (fb + 1) X (.slice sa sn sc) w0) := by rw [hwD]; exact hide (HS2.out.up h3' (drew_below w2))
            have HS0 : Hid ((fun W : World => Blk W eB 43 (CaG.cells ⟨ce, cs, ck, cr, true, co, cfe, cfs⟩)) w0) := by rw [hwD]; exact hide (HB2.out.below (drew_below w2) HB2.out.lt)
            refine wp_region_held_drew (S := fun W : World => Blk W eB 43 (CaG.cells ⟨ce, cs, ck, cr, true, co, cfe, cfs⟩)) (by kernel_rfl) (by rw [← hwD]; exact HS0.out) (fun hHeld => ?_)
            rw [← hwD]
            clear hwD hHeld HS2 HB2
            refine hd_take 0 (o := ⟨some 76, _, _, _, _, _⟩) (.pointer (some ⟨eB, 0, none⟩)) (by kernel_rfl) (by kernel_rfl) (by kernel_rfl) rfl (by rfl) (fun W hSw => by go_simp) (fun _ _ _ h => h) HS0.out ?_
            simp only [Act.put, List.setIfInBounds_toArray, List.set_cons_zero, List.set_cons_succ]
            refine hd_take 1 (o := ⟨some 77, _, _, _, _, _⟩) (.int .i64 ce) (by kernel_rfl) (by kernel_rfl) (by kernel_rfl) rfl (by rfl) (fun W hSw => by have h9 := Blk.get (show Blk W eB 43 (CaG.cells ⟨ce, cs, ck, cr, true, co, cfe, cfs⟩) from hSw) (j := 0) rfl; go_simp) (fun _ _ _ h => h) HS0.out ?_
            simp only [Act.put, List.setIfInBounds_toArray, List.set_cons_zero, List.set_cons_succ]
            refine hd_take 2 (o := ⟨some 78, _, _, _, _, _⟩) (.pointer (some ⟨eB, 1, none⟩)) (by kernel_rfl) (by kernel_rfl) (by kernel_rfl) rfl (by rfl) (fun W hSw => by go_simp) (fun _ _ _ h => h) HS0.out ?_
            simp only [Act.put, List.setIfInBounds_toArray, List.set_cons_zero, List.set_cons_succ]
            refine hd_take 3 (o := ⟨some 79, _, _, _, _, _⟩) (.int .i64 cs) (by kernel_rfl) (by kernel_rfl) (by kernel_rfl) rfl (by rfl) (fun W hSw => by have h9 := Blk.get (show Blk W eB 43 (CaG.cells ⟨ce, cs, ck, cr, true, co, cfe, cfs⟩) from hSw) (j := 1) rfl; go_simp) (fun _ _ _ h => h) HS0.out ?_
            simp only [Act.put, List.setIfInBounds_toArray, List.set_cons_zero, List.set_cons_succ]
            refine hd_take 4 (o := ⟨some 80, _, _, _, _, _⟩) (.pointer (some ⟨eB, 2, none⟩)) (by kernel_rfl) (by kernel_rfl) (by kernel_rfl) rfl (by rfl) (fun W hSw => by go_simp) (fun _ _ _ h => h) HS0.out ?_
            simp only [Act.put, List.setIfInBounds_toArray, List.set_cons_zero, List.set_cons_succ]
            refine hd_take 5 (o := ⟨some 81, _, _, _, _, _⟩) (.int .i64 ck) (by kernel_rfl) (by kernel_rfl) (by kernel_rfl) rfl (by rfl) (fun W hSw => by have h9 := Blk.get (show Blk W eB 43 (CaG.cells ⟨ce, cs, ck, cr, true, co, cfe, cfs⟩) from hSw) (j := 2) rfl; go_simp) (fun _ _ _ h => h) HS0.out ?_
            simp only [Act.put, List.setIfInBounds_toArray, List.set_cons_zero, List.set_cons_succ]
            refine hd_take 6 (o := ⟨some 82, _, _, _, _, _⟩) (.pointer (some ⟨eB, 3, none⟩)) (by kernel_rfl) (by kernel_rfl) (by kernel_rfl) rfl (by rfl) (fun W hSw => by go_simp) (fun _ _ _ h => h) HS0.out ?_
            simp only [Act.put, List.setIfInBounds_toArray, List.set_cons_zero, List.set_cons_succ]
            refine hd_take 7 (o := ⟨some 83, _, _, _, _, _⟩) (.int .i64 cr) (by kernel_rfl) (by kernel_rfl) (by kernel_rfl) rfl (by rfl) (fun W hSw => by have h9 := Blk.get (show Blk W eB 43 (CaG.cells ⟨ce, cs, ck, cr, true, co, cfe, cfs⟩) from hSw) (j := 3) rfl; go_simp) (fun _ _ _ h => h) HS0.out ?_
            simp only [Act.put, List.setIfInBounds_toArray, List.set_cons_zero, List.set_cons_succ]
            refine hd_take 11 (o := ⟨some 87, _, _, _, _, _⟩) (.string ⟨#[32, 105, 110]⟩) (by kernel_rfl) (by kernel_rfl) (by kernel_rfl) rfl (by rfl) (fun W hSw => by go_simp) (fun _ _ _ h => h) HS0.out ?_
            simp only [Act.put, List.setIfInBounds_toArray, List.set_cons_zero, List.set_cons_succ]
            refine hd_take 13 (o := ⟨some 89, _, _, _, _, _⟩) (.pointer (some ⟨eB, 5, none⟩)) (by kernel_rfl) (by kernel_rfl) (by kernel_rfl) rfl (by rfl) (fun W hSw => by go_simp) (fun _ _ _ h => h) HS0.out ?_
            simp only [Act.put, List.setIfInBounds_toArray, List.set_cons_zero, List.set_cons_succ]
            refine hd_take 14 (o := ⟨some 90, _, _, _, _, _⟩) (.int .i64 co) (by kernel_rfl) (by kernel_rfl) (by kernel_rfl) rfl (by rfl) (fun W hSw => by have h9 := Blk.get (show Blk W eB 43 (CaG.cells ⟨ce, cs, ck, cr, true, co, cfe, cfs⟩) from hSw) (j := 5) rfl; go_simp) (fun _ _ _ h => h) HS0.out ?_
            simp only [Act.put, List.setIfInBounds_toArray, List.set_cons_zero, List.set_cons_succ]
            refine hd_take 15 (o := ⟨some 91, _, _, _, _, _⟩) (.pointer (some ⟨eB, 6, none⟩)) (by kernel_rfl) (by kernel_rfl) (by kernel_rfl) rfl (by rfl) (fun W hSw => by go_simp) (fun _ _ _ h => h) HS0.out ?_
            simp only [Act.put, List.setIfInBounds_toArray, List.set_cons_zero, List.set_cons_succ]
            refine hd_take 16 (o := ⟨some 92, _, _, _, _, _⟩) (.pointer (some ⟨eB, 6, none⟩)) (by kernel_rfl) (by kernel_rfl) (by kernel_rfl) rfl (by rfl) (fun W hSw => by go_simp) (fun _ _ _ h => h) HS0.out ?_
            simp only [Act.put, List.setIfInBounds_toArray, List.set_cons_zero, List.set_cons_succ]
            refine hd_take 17 (o := ⟨some 93, _, _, _, _, _⟩) (.int .i64 cfe) (by kernel_rfl) (by kernel_rfl) (by kernel_rfl) rfl (by rfl) (fun W hSw => by have h9 := Blk.get (show Blk W eB 43 (CaG.cells ⟨ce, cs, ck, cr, true, co, cfe, cfs⟩) from hSw) (j := 6) rfl; go_simp) (fun _ _ _ h => h) HS0.out ?_
            simp only [Act.put, List.setIfInBounds_toArray, List.set_cons_zero, List.set_cons_succ]
            refine hd_take 18 (o := ⟨some 94, _, _, _, _, _⟩) (.pointer (some ⟨eB, 6, none⟩)) (by kernel_rfl) (by kernel_rfl) (by kernel_rfl) rfl (by rfl) (fun W hSw => by go_simp) (fun _ _ _ h => h) HS0.out ?_
            simp only [Act.put, List.setIfInBounds_toArray, List.set_cons_zero, List.set_cons_succ]
            refine hd_take 19 (o := ⟨some 95, _, _, _, _, _⟩) (.pointer (some ⟨eB, 7, none⟩)) (by kernel_rfl) (by kernel_rfl) (by kernel_rfl) rfl (by rfl) (fun W hSw => by go_simp) (fun _ _ _ h => h) HS0.out ?_
            simp only [Act.put, List.setIfInBounds_toArray, List.set_cons_zero, List.set_cons_succ]
            refine hd_take 20 (o := ⟨some 96, _, _, _, _, _⟩) (.int .i64 cfs) (by kernel_rfl) (by kernel_rfl) (by kernel_rfl) rfl (by rfl) (fun W hSw => by have h9 := Blk.get (show Blk W eB 43 (CaG.cells ⟨ce, cs, ck, cr, true, co, cfe, cfs⟩) from hSw) (j := 7) rfl; go_simp) (fun _ _ _ h => h) HS0.out ?_
            simp only [Act.put, List.setIfInBounds_toArray, List.set_cons_zero, List.set_cons_succ]
            refine hd_both 8 21 (o1 := ⟨some 84, _, _, _, _, _⟩) (o2 := ⟨some 97, _, _, _, _, _⟩) (by kernel_rfl) rfl rfl (by rfl) (by rfl) (fun K' hK => ?_) (fun K' hK => ?_)
            · refine wp_row 56 3 _ Tryd.underlying56 info_i1 4 _ rfl [.int .i64 (ce), .int .i64 (cs), .int .i64 (ck), .int .i64 (cr)] rfl (by decide) (by decide) (by simp [Value.oneCell']) (by simp; exact ⟨rfl, rfl, rfl, rfl⟩) ?_
              have hA22 : Below w0.heap.size w0 (w0.alloc (.cells #[.int .i64 (ce), .int .i64 (cs), .int .i64 (ck), .int .i64 (cr)] 3)) := (Below.refl _ _).alloc (Nat.le_refl _) _
              have HS22 := hide (HSD.out.up h3' hA22)
              have HB22 : Hid ((fun W : World => Blk W eB 43 (CaG.cells ⟨ce, cs, ck, cr, true, co, cfe, cfs⟩)) (w0.alloc (.cells #[.int .i64 (ce), .int .i64 (cs), .int .i64 (ck), .int .i64 (cr)] 3))) := hide (Blk.below HS0.out hA22 (Blk.lt HS0.out))
              have HRA22 : Hid (RdI (w0.alloc (.cells #[.int .i64 (ce), .int .i64 (cs), .int .i64 (ck), .int .i64 (cr)] 3)) (.slice (some ⟨w0.heap.size, 0, none⟩) 4 4) [ce, cs, ck, cr]) := hide (by have := RdI.new w0 [ce, cs, ck, cr] 4 4 rfl (Nat.le_refl _); simpa [In] using this)
              clear hA22
              generalize (w0.alloc (.cells #[.int .i64 (ce), .int .i64 (cs), .int .i64 (ck), .int .i64 (cr)] 3)) = w22 at *
              obtain ⟨gA, hgA⟩ : ∃ g, w0.heap.size = g := ⟨_, rfl⟩
              rw [hgA] at HRA22 ⊢
              clear hgA
              refine hK _ _ HB22.out ?_
              clear hK K'
              try simp only [Act.put, List.setIfInBounds_toArray, List.set_cons_zero, List.set_cons_succ]
              refine hd_both 9 21 (o1 := ⟨some 85, _, _, _, _, _⟩) (o2 := ⟨some 97, _, _, _, _, _⟩) (by kernel_rfl) rfl rfl (by rfl) (by rfl) (fun K' hK => ?_) (fun K' hK => ?_)
              · go_wp2_with fail
                refine (list_any w22 [ce, cs, ck, cr] _ HRA22.out a4 (by have := HS22.out.lo; omega) HS22.out.tb (by simp)).mono ?_
                rintro e w23 ⟨rfl, hb23⟩
                have HS23 := hide (HS22.out.up h3' hb23)
                have HB23 : Hid ((fun W : World => Blk W eB 43 (CaG.cells ⟨ce, cs, ck, cr, true, co, cfe, cfs⟩)) w23) := hide (Blk.below HB22.out hb23 (Blk.lt HB22.out))
                have HRA23 := hide (HRA22.out.up hb23)
                clear hb23
                refine hK _ _ HB23.out ?_
                clear hK K'
                try simp only [Act.put, List.setIfInBounds_toArray, List.set_cons_zero, List.set_cons_succ]
                refine hd_take 10 (o := ⟨some 86, _, _, _, _, _⟩) (.string ⟨([99, 97, 112] ++ lst [ce, cs, ck, cr]).toArray⟩) (by kernel_rfl) (by kernel_rfl) (by kernel_rfl) rfl (by rfl) (fun W hSw => by exact run_cat _ _ rfl rfl rfl rfl (by simp only [List.length_append, List.length_cons, List.length_nil]; omega)) (fun _ _ _ h => h) HB23.out ?_
                simp only [Act.put, List.setIfInBounds_toArray, List.set_cons_zero, List.set_cons_succ]
                refine hd_take 12 (o := ⟨some 88, _, _, _, _, _⟩) (.string ⟨([99, 97, 112] ++ lst [ce, cs, ck, cr] ++ [32, 105, 110]).toArray⟩) (by kernel_rfl) (by kernel_rfl) (by kernel_rfl) rfl (by rfl) (fun W hSw => by exact run_cat _ _ rfl rfl rfl rfl (by simp only [List.length_append, List.length_cons, List.length_nil]; omega)) (fun _ _ _ h => h) HB23.out ?_
                simp only [Act.put, List.setIfInBounds_toArray, List.set_cons_zero, List.set_cons_succ]
                refine hd_call 21 (o := ⟨some 97, _, _, _, _, _⟩) (by kernel_rfl) rfl (by rfl) (fun K' hK => ?_)
                refine wp_row 56 3 _ Tryd.underlying56 info_i1 3 _ rfl [.int .i64 (co), .int .i64 (cfe), .int .i64 (cfs)] rfl (by decide) (by decide) (by simp [Value.oneCell']) (by simp; exact ⟨rfl, rfl, rfl⟩) ?_
                have hA24 : Below w23.heap.size w23 (w23.alloc (.cells #[.int .i64 (co), .int .i64 (cfe), .int .i64 (cfs)] 3)) := (Below.refl _ _).alloc (Nat.le_refl _) _
                have HS24 := hide (HS23.out.up h3' hA24)
                have HB24 : Hid ((fun W : World => Blk W eB 43 (CaG.cells ⟨ce, cs, ck, cr, true, co, cfe, cfs⟩)) (w23.alloc (.cells #[.int .i64 (co), .int .i64 (cfe), .int .i64 (cfs)] 3))) := hide (Blk.below HB23.out hA24 (Blk.lt HB23.out))
                have HRA24 := hide (HRA23.out.up hA24)
                have HRB24 : Hid (RdI (w23.alloc (.cells #[.int .i64 (co), .int .i64 (cfe), .int .i64 (cfs)] 3)) (.slice (some ⟨w23.heap.size, 0, none⟩) 3 3) [co, cfe, cfs]) := hide (by have := RdI.new w23 [co, cfe, cfs] 3 3 rfl (Nat.le_refl _); simpa [In] using this)
                clear hA24
                generalize (w23.alloc (.cells #[.int .i64 (co), .int .i64 (cfe), .int .i64 (cfs)] 3)) = w24 at *
                obtain ⟨gB, hgB⟩ : ∃ g, w23.heap.size = g := ⟨_, rfl⟩
                rw [hgB] at HRB24 ⊢
                clear hgB
                refine hK _ _ HB24.out ?_
                clear hK K'
                try simp only [Act.put, List.setIfInBounds_toArray, List.set_cons_zero, List.set_cons_succ]
                refine hd_call 22 (o := ⟨some 98, _, _, _, _, _⟩) (by kernel_rfl) rfl (by rfl) (fun K' hK => ?_)
                go_wp2_with fail
                refine (list_any w24 [co, cfe, cfs] _ HRB24.out a3 (by have := HS24.out.lo; omega) HS24.out.tb (by simp)).mono ?_
                rintro e w25 ⟨rfl, hb25⟩
                have HS25 := hide (HS24.out.up h3' hb25)
                have HB25 : Hid ((fun W : World => Blk W eB 43 (CaG.cells ⟨ce, cs, ck, cr, true, co, cfe, cfs⟩)) w25) := hide (Blk.below HB24.out hb25 (Blk.lt HB24.out))
                have HRA25 := hide (HRA24.out.up hb25)
                have HRB25 := hide (HRB24.out.up hb25)
                clear hb25
                refine hK _ _ HB25.out ?_
                clear hK K'
                try simp only [Act.put, List.setIfInBounds_toArray, List.set_cons_zero, List.set_cons_succ]
                refine hd_take 23 (o := ⟨some 99, _, _, _, _, _⟩) (.string ⟨([99, 97, 112] ++ lst [ce, cs, ck, cr] ++ [32, 105, 110] ++ lst [co, cfe, cfs]).toArray⟩) (by kernel_rfl) (by kernel_rfl) (by kernel_rfl) rfl (by rfl) (fun W hSw => by exact run_cat _ _ rfl rfl rfl rfl (by simp only [List.length_append, List.length_cons, List.length_nil]; omega)) (fun _ _ _ h => h) HB25.out ?_
                simp only [Act.put, List.setIfInBounds_toArray, List.set_cons_zero, List.set_cons_succ]
                refine hd_take 24 (o := ⟨some 100, _, _, _, _, _⟩) (.string ⟨([99, 97, 112] ++ lst [ce, cs, ck, cr] ++ [32, 105, 110] ++ lst [co, cfe, cfs] ++ [10]).toArray⟩) (by kernel_rfl) (by kernel_rfl) (by kernel_rfl) rfl (by rfl) (fun W hSw => by exact run_cat _ _ rfl rfl rfl rfl (by simp only [List.length_append, List.length_cons, List.length_nil]; omega)) (fun _ _ _ h => h) HB25.out ?_
                simp only [Act.put, List.setIfInBounds_toArray, List.set_cons_zero, List.set_cons_succ]
                refine hd_take 25 (o := ⟨some 10, _, _, _, _, _⟩) (.string ⟨([99, 97, 112] ++ lst [ce, cs, ck, cr] ++ [32, 105, 110] ++ lst [co, cfe, cfs] ++ [10]).toArray⟩) (by kernel_rfl) (by kernel_rfl) (by kernel_rfl) rfl (by rfl) (fun W hSw => by go_simp) (fun _ _ _ h => h) HB25.out ?_
                simp only [Act.put, List.setIfInBounds_toArray, List.set_cons_zero, List.set_cons_succ]
                refine wpAnyH_done (by kernel_rfl) ?_ _
                go_wp2_with (at_builtin; refine app_str rfl _ _ rfl (fb + 1) _ X rfl HS25.out.ow ([99, 97, 112] ++ lst [ce, cs, ck, cr] ++ [32, 105, 110] ++ lst [co, cfe, cfs] ++ [10]) rfl (by have := HLk.out; simp only [List.length_append, List.length_cons, List.length_nil]; omega) HS25.out.lo ?_; intro v9 w9 ho9 hg9)
                have HS9 := hide (HS25.out.app h3' ho9 hg9)
                clear ho9 hg9
                have HN : Hid (Sr w1 (fb + 1) (P1 ++ upT (fun k => capT (C k)) (k + 1)) v9 w9) := hide (by
                  rw [HUp.out]
                  have e : X ++ capT ⟨ce, cs, ck, cr, true, co, cfe, cfs⟩ = X ++ ([99, 97, 112] ++ lst [ce, cs, ck, cr] ++ [32, 105, 110] ++ lst [co, cfe, cfs] ++ [10]) := by simp [capT, whr]
                  rw [e]
                  exact HS9.out)
                try go_wp2
                go_roundw
                case rel => exact ⟨k + 1, by omega, by go_num, HN⟩
                case measure => simp [intOf]; omega
              · refine wp_row 56 3 _ Tryd.underlying56 info_i1 3 _ rfl [.int .i64 (co), .int .i64 (cfe), .int .i64 (cfs)] rfl (by decide) (by decide) (by simp [Value.oneCell']) (by simp; exact ⟨rfl, rfl, rfl⟩) ?_
                have hA26 : Below w22.heap.size w22 (w22.alloc (.cells #[.int .i64 (co), .int .i64 (cfe), .int .i64 (cfs)] 3)) := (Below.refl _ _).alloc (Nat.le_refl _) _
                have HS26 := hide (HS22.out.up h3' hA26)
                have HB26 : Hid ((fun W : World => Blk W eB 43 (CaG.cells ⟨ce, cs, ck, cr, true, co, cfe, cfs⟩)) (w22.alloc (.cells #[.int .i64 (co), .int .i64 (cfe), .int .i64 (cfs)] 3))) := hide (Blk.below HB22.out hA26 (Blk.lt HB22.out))
                have HRA26 := hide (HRA22.out.up hA26)
                have HRB26 : Hid (RdI (w22.alloc (.cells #[.int .i64 (co), .int .i64 (cfe), .int .i64 (cfs)] 3)) (.slice (some ⟨w22.heap.size, 0, none⟩) 3 3) [co, cfe, cfs]) := hide (by have := RdI.new w22 [co, cfe, cfs] 3 3 rfl (Nat.le_refl _); simpa [In] using this)
                clear hA26
                generalize (w22.alloc (.cells #[.int .i64 (co), .int .i64 (cfe), .int .i64 (cfs)] 3)) = w26 at *
                obtain ⟨gB, hgB⟩ : ∃ g, w22.heap.size = g := ⟨_, rfl⟩
                rw [hgB] at HRB26 ⊢
                clear hgB
                refine hK _ _ HB26.out ?_
                clear hK K'
                try simp only [Act.put, List.setIfInBounds_toArray, List.set_cons_zero, List.set_cons_succ]
                refine hd_call 9 (o := ⟨some 85, _, _, _, _, _⟩) (by kernel_rfl) rfl (by rfl) (fun K' hK => ?_)
                go_wp2_with fail
                refine (list_any w26 [ce, cs, ck, cr] _ HRA26.out a4 (by have := HS26.out.lo; omega) HS26.out.tb (by simp)).mono ?_
                rintro e w27 ⟨rfl, hb27⟩
                have HS27 := hide (HS26.out.up h3' hb27)
                have HB27 : Hid ((fun W : World => Blk W eB 43 (CaG.cells ⟨ce, cs, ck, cr, true, co, cfe, cfs⟩)) w27) := hide (Blk.below HB26.out hb27 (Blk.lt HB26.out))
                have HRA27 := hide (HRA26.out.up hb27)
                have HRB27 := hide (HRB26.out.up hb27)
                clear hb27
                refine hK _ _ HB27.out ?_
                clear hK K'
                try simp only [Act.put, List.setIfInBounds_toArray, List.set_cons_zero, List.set_cons_succ]
                refine hd_take 10 (o := ⟨some 86, _, _, _, _, _⟩) (.string ⟨([99, 97, 112] ++ lst [ce, cs, ck, cr]).toArray⟩) (by kernel_rfl) (by kernel_rfl) (by kernel_rfl) rfl (by rfl) (fun W hSw => by exact run_cat _ _ rfl rfl rfl rfl (by simp only [List.length_append, List.length_cons, List.length_nil]; omega)) (fun _ _ _ h => h) HB27.out ?_
                simp only [Act.put, List.setIfInBounds_toArray, List.set_cons_zero, List.set_cons_succ]
                refine hd_take 12 (o := ⟨some 88, _, _, _, _, _⟩) (.string ⟨([99, 97, 112] ++ lst [ce, cs, ck, cr] ++ [32, 105, 110]).toArray⟩) (by kernel_rfl) (by kernel_rfl) (by kernel_rfl) rfl (by rfl) (fun W hSw => by exact run_cat _ _ rfl rfl rfl rfl (by simp only [List.length_append, List.length_cons, List.length_nil]; omega)) (fun _ _ _ h => h) HB27.out ?_
                simp only [Act.put, List.setIfInBounds_toArray, List.set_cons_zero, List.set_cons_succ]
                refine hd_call 22 (o := ⟨some 98, _, _, _, _, _⟩) (by kernel_rfl) rfl (by rfl) (fun K' hK => ?_)
                go_wp2_with fail
                refine (list_any w27 [co, cfe, cfs] _ HRB27.out a3 (by have := HS27.out.lo; omega) HS27.out.tb (by simp)).mono ?_
                rintro e w28 ⟨rfl, hb28⟩
                have HS28 := hide (HS27.out.up h3' hb28)
                have HB28 : Hid ((fun W : World => Blk W eB 43 (CaG.cells ⟨ce, cs, ck, cr, true, co, cfe, cfs⟩)) w28) := hide (Blk.below HB27.out hb28 (Blk.lt HB27.out))
                have HRA28 := hide (HRA27.out.up hb28)
                have HRB28 := hide (HRB27.out.up hb28)
                clear hb28
                refine hK _ _ HB28.out ?_
                clear hK K'
                try simp only [Act.put, List.setIfInBounds_toArray, List.set_cons_zero, List.set_cons_succ]
                refine hd_take 23 (o := ⟨some 99, _, _, _, _, _⟩) (.string ⟨([99, 97, 112] ++ lst [ce, cs, ck, cr] ++ [32, 105, 110] ++ lst [co, cfe, cfs]).toArray⟩) (by kernel_rfl) (by kernel_rfl) (by kernel_rfl) rfl (by rfl) (fun W hSw => by exact run_cat _ _ rfl rfl rfl rfl (by simp only [List.length_append, List.length_cons, List.length_nil]; omega)) (fun _ _ _ h => h) HB28.out ?_
                simp only [Act.put, List.setIfInBounds_toArray, List.set_cons_zero, List.set_cons_succ]
                refine hd_take 24 (o := ⟨some 100, _, _, _, _, _⟩) (.string ⟨([99, 97, 112] ++ lst [ce, cs, ck, cr] ++ [32, 105, 110] ++ lst [co, cfe, cfs] ++ [10]).toArray⟩) (by kernel_rfl) (by kernel_rfl) (by kernel_rfl) rfl (by rfl) (fun W hSw => by exact run_cat _ _ rfl rfl rfl rfl (by simp only [List.length_append, List.length_cons, List.length_nil]; omega)) (fun _ _ _ h => h) HB28.out ?_
                simp only [Act.put, List.setIfInBounds_toArray, List.set_cons_zero, List.set_cons_succ]
                refine hd_take 25 (o := ⟨some 10, _, _, _, _, _⟩) (.string ⟨([99, 97, 112] ++ lst [ce, cs, ck, cr] ++ [32, 105, 110] ++ lst [co, cfe, cfs] ++ [10]).toArray⟩) (by kernel_rfl) (by kernel_rfl) (by kernel_rfl) rfl (by rfl) (fun W hSw => by go_simp) (fun _ _ _ h => h) HB28.out ?_
                simp only [Act.put, List.setIfInBounds_toArray, List.set_cons_zero, List.set_cons_succ]
                refine wpAnyH_done (by kernel_rfl) ?_ _
                go_wp2_with (at_builtin; refine app_str rfl _ _ rfl (fb + 1) _ X rfl HS28.out.ow ([99, 97, 112] ++ lst [ce, cs, ck, cr] ++ [32, 105, 110] ++ lst [co, cfe, cfs] ++ [10]) rfl (by have := HLk.out; simp only [List.length_append, List.length_cons, List.length_nil]; omega) HS28.out.lo ?_; intro v9 w9 ho9 hg9)
                have HS9 := hide (HS28.out.app h3' ho9 hg9)
                clear ho9 hg9
                have HN : Hid (Sr w1 (fb + 1) (P1 ++ upT (fun k => capT (C k)) (k + 1)) v9 w9) := hide (by
                  rw [HUp.out]
                  have e : X ++ capT ⟨ce, cs, ck, cr, true, co, cfe, cfs⟩ = X ++ ([99, 97, 112] ++ lst [ce, cs, ck, cr] ++ [32, 105, 110] ++ lst [co, cfe, cfs] ++ [10]) := by simp [capT, whr]
                  rw [e]
                  exact HS9.out)
                try go_wp2
                go_roundw
                case rel => exact ⟨k + 1, by omega, by go_num, HN⟩
                case measure => simp [intOf]; omega
            · refine wp_row 56 3 _ Tryd.underlying56 info_i1 3 _ rfl [.int .i64 (co), .int .i64 (cfe), .int .i64 (cfs)] rfl (by decide) (by decide) (by simp [Value.oneCell']) (by simp; exact ⟨rfl, rfl, rfl⟩) ?_
              have hA29 : Below w0.heap.size w0 (w0.alloc (.cells #[.int .i64 (co), .int .i64 (cfe), .int .i64 (cfs)] 3)) := (Below.refl _ _).alloc (Nat.le_refl _) _
              have HS29 := hide (HSD.out.up h3' hA29)
              have HB29 : Hid ((fun W : World => Blk W eB 43 (CaG.cells ⟨ce, cs, ck, cr, true, co, cfe, cfs⟩)) (w0.alloc (.cells #[.int .i64 (co), .int .i64 (cfe), .int .i64 (cfs)] 3))) := hide (Blk.below HS0.out hA29 (Blk.lt HS0.out))
              have HRB29 : Hid (RdI (w0.alloc (.cells #[.int .i64 (co), .int .i64 (cfe), .int .i64 (cfs)] 3)) (.slice (some ⟨w0.heap.size, 0, none⟩) 3 3) [co, cfe, cfs]) := hide (by have := RdI.new w0 [co, cfe, cfs] 3 3 rfl (Nat.le_refl _); simpa [In] using this)
              clear hA29
              generalize (w0.alloc (.cells #[.int .i64 (co), .int .i64 (cfe), .int .i64 (cfs)] 3)) = w29 at *
              obtain ⟨gB, hgB⟩ : ∃ g, w0.heap.size = g := ⟨_, rfl⟩
              rw [hgB] at HRB29 ⊢
              clear hgB
              refine hK _ _ HB29.out ?_
              clear hK K'
              try simp only [Act.put, List.setIfInBounds_toArray, List.set_cons_zero, List.set_cons_succ]
              refine hd_call 8 (o := ⟨some 84, _, _, _, _, _⟩) (by kernel_rfl) rfl (by rfl) (fun K' hK => ?_)
              refine wp_row 56 3 _ Tryd.underlying56 info_i1 4 _ rfl [.int .i64 (ce), .int .i64 (cs), .int .i64 (ck), .int .i64 (cr)] rfl (by decide) (by decide) (by simp [Value.oneCell']) (by simp; exact ⟨rfl, rfl, rfl, rfl⟩) ?_
              have hA30 : Below w29.heap.size w29 (w29.alloc (.cells #[.int .i64 (ce), .int .i64 (cs), .int .i64 (ck), .int .i64 (cr)] 3)) := (Below.refl _ _).alloc (Nat.le_refl _) _
              have HS30 := hide (HS29.out.up h3' hA30)
              have HB30 : Hid ((fun W : World => Blk W eB 43 (CaG.cells ⟨ce, cs, ck, cr, true, co, cfe, cfs⟩)) (w29.alloc (.cells #[.int .i64 (ce), .int .i64 (cs), .int .i64 (ck), .int .i64 (cr)] 3))) := hide (Blk.below HB29.out hA30 (Blk.lt HB29.out))
              have HRB30 := hide (HRB29.out.up hA30)
              have HRA30 : Hid (RdI (w29.alloc (.cells #[.int .i64 (ce), .int .i64 (cs), .int .i64 (ck), .int .i64 (cr)] 3)) (.slice (some ⟨w29.heap.size, 0, none⟩) 4 4) [ce, cs, ck, cr]) := hide (by have := RdI.new w29 [ce, cs, ck, cr] 4 4 rfl (Nat.le_refl _); simpa [In] using this)
              clear hA30
              generalize (w29.alloc (.cells #[.int .i64 (ce), .int .i64 (cs), .int .i64 (ck), .int .i64 (cr)] 3)) = w30 at *
              obtain ⟨gA, hgA⟩ : ∃ g, w29.heap.size = g := ⟨_, rfl⟩
              rw [hgA] at HRA30 ⊢
              clear hgA
              refine hK _ _ HB30.out ?_
              clear hK K'
              try simp only [Act.put, List.setIfInBounds_toArray, List.set_cons_zero, List.set_cons_succ]
              refine hd_call 9 (o := ⟨some 85, _, _, _, _, _⟩) (by kernel_rfl) rfl (by rfl) (fun K' hK => ?_)
              go_wp2_with fail
              refine (list_any w30 [ce, cs, ck, cr] _ HRA30.out a4 (by have := HS30.out.lo; omega) HS30.out.tb (by simp)).mono ?_
              rintro e w31 ⟨rfl, hb31⟩
              have HS31 := hide (HS30.out.up h3' hb31)
              have HB31 : Hid ((fun W : World => Blk W eB 43 (CaG.cells ⟨ce, cs, ck, cr, true, co, cfe, cfs⟩)) w31) := hide (Blk.below HB30.out hb31 (Blk.lt HB30.out))
              have HRB31 := hide (HRB30.out.up hb31)
              have HRA31 := hide (HRA30.out.up hb31)
              clear hb31
              refine hK _ _ HB31.out ?_
              clear hK K'
              try simp only [Act.put, List.setIfInBounds_toArray, List.set_cons_zero, List.set_cons_succ]
              refine hd_take 10 (o := ⟨some 86, _, _, _, _, _⟩) (.string ⟨([99, 97, 112] ++ lst [ce, cs, ck, cr]).toArray⟩) (by kernel_rfl) (by kernel_rfl) (by kernel_rfl) rfl (by rfl) (fun W hSw => by exact run_cat _ _ rfl rfl rfl rfl (by simp only [List.length_append, List.length_cons, List.length_nil]; omega)) (fun _ _ _ h => h) HB31.out ?_
              simp only [Act.put, List.setIfInBounds_toArray, List.set_cons_zero, List.set_cons_succ]
              refine hd_take 12 (o := ⟨some 88, _, _, _, _, _⟩) (.string ⟨([99, 97, 112] ++ lst [ce, cs, ck, cr] ++ [32, 105, 110]).toArray⟩) (by kernel_rfl) (by kernel_rfl) (by kernel_rfl) rfl (by rfl) (fun W hSw => by exact run_cat _ _ rfl rfl rfl rfl (by simp only [List.length_append, List.length_cons, List.length_nil]; omega)) (fun _ _ _ h => h) HB31.out ?_
              simp only [Act.put, List.setIfInBounds_toArray, List.set_cons_zero, List.set_cons_succ]
              refine hd_call 22 (o := ⟨some 98, _, _, _, _, _⟩) (by kernel_rfl) rfl (by rfl) (fun K' hK => ?_)
              go_wp2_with fail
              refine (list_any w31 [co, cfe, cfs] _ HRB31.out a3 (by have := HS31.out.lo; omega) HS31.out.tb (by simp)).mono ?_
              rintro e w32 ⟨rfl, hb32⟩
              have HS32 := hide (HS31.out.up h3' hb32)
              have HB32 : Hid ((fun W : World => Blk W eB 43 (CaG.cells ⟨ce, cs, ck, cr, true, co, cfe, cfs⟩)) w32) := hide (Blk.below HB31.out hb32 (Blk.lt HB31.out))
              have HRB32 := hide (HRB31.out.up hb32)
              have HRA32 := hide (HRA31.out.up hb32)
              clear hb32
              refine hK _ _ HB32.out ?_
              clear hK K'
              try simp only [Act.put, List.setIfInBounds_toArray, List.set_cons_zero, List.set_cons_succ]
              refine hd_take 23 (o := ⟨some 99, _, _, _, _, _⟩) (.string ⟨([99, 97, 112] ++ lst [ce, cs, ck, cr] ++ [32, 105, 110] ++ lst [co, cfe, cfs]).toArray⟩) (by kernel_rfl) (by kernel_rfl) (by kernel_rfl) rfl (by rfl) (fun W hSw => by exact run_cat _ _ rfl rfl rfl rfl (by simp only [List.length_append, List.length_cons, List.length_nil]; omega)) (fun _ _ _ h => h) HB32.out ?_
              simp only [Act.put, List.setIfInBounds_toArray, List.set_cons_zero, List.set_cons_succ]
              refine hd_take 24 (o := ⟨some 100, _, _, _, _, _⟩) (.string ⟨([99, 97, 112] ++ lst [ce, cs, ck, cr] ++ [32, 105, 110] ++ lst [co, cfe, cfs] ++ [10]).toArray⟩) (by kernel_rfl) (by kernel_rfl) (by kernel_rfl) rfl (by rfl) (fun W hSw => by exact run_cat _ _ rfl rfl rfl rfl (by simp only [List.length_append, List.length_cons, List.length_nil]; omega)) (fun _ _ _ h => h) HB32.out ?_
              simp only [Act.put, List.setIfInBounds_toArray, List.set_cons_zero, List.set_cons_succ]
              refine hd_take 25 (o := ⟨some 10, _, _, _, _, _⟩) (.string ⟨([99, 97, 112] ++ lst [ce, cs, ck, cr] ++ [32, 105, 110] ++ lst [co, cfe, cfs] ++ [10]).toArray⟩) (by kernel_rfl) (by kernel_rfl) (by kernel_rfl) rfl (by rfl) (fun W hSw => by go_simp) (fun _ _ _ h => h) HB32.out ?_
              simp only [Act.put, List.setIfInBounds_toArray, List.set_cons_zero, List.set_cons_succ]
              refine wpAnyH_done (by kernel_rfl) ?_ _
              go_wp2_with (at_builtin; refine app_str rfl _ _ rfl (fb + 1) _ X rfl HS32.out.ow ([99, 97, 112] ++ lst [ce, cs, ck, cr] ++ [32, 105, 110] ++ lst [co, cfe, cfs] ++ [10]) rfl (by have := HLk.out; simp only [List.length_append, List.length_cons, List.length_nil]; omega) HS32.out.lo ?_; intro v9 w9 ho9 hg9)
              have HS9 := hide (HS32.out.app h3' ho9 hg9)
              clear ho9 hg9
              have HN : Hid (Sr w1 (fb + 1) (P1 ++ upT (fun k => capT (C k)) (k + 1)) v9 w9) := hide (by
                rw [HUp.out]
                have e : X ++ capT ⟨ce, cs, ck, cr, true, co, cfe, cfs⟩ = X ++ ([99, 97, 112] ++ lst [ce, cs, ck, cr] ++ [32, 105, 110] ++ lst [co, cfe, cfs] ++ [10]) := by simp [capT, whr]
                rw [e]
                exact HS9.out)
              try go_wp2
              go_roundw
              case rel => exact ⟨k + 1, by omega, by go_num, HN⟩
              case measure => simp [intOf]; omega
        · have hd : decide ((k : Int) < (nC : Int)) = false := by simp; omega
          obtain rfl : nC = k := by omega
          have H2 := HS
          clear HS hlt hd
          try clear H0
          have HLP2 : Hid ((P1 ++ upT (fun k => capT (C k)) nC).length ≤ 500 * nE + 500 * nC) := hide (by have h1 := HLC.out nC (by omega); have h2 := HLP1.out; rw [List.length_append]; omega)
          obtain ⟨P2, hP2⟩ : ∃ x, P1 ++ upT (fun k => capT (C k)) nC = x := ⟨_, rfl⟩
          rw [hP2] at H2 HLP2
          go_wp2
          go_loopw [11, 3] (fun i s wr => ∃ k : Nat, k ≤ nM ∧ i = .int .i64 (k : Int) ∧ Hid (Sr w1 (fb + 1) (P2 ++ upT (fun k => mapT (M k)) k) s wr)) (fun i _ _ => nM - (intOf i).toNat)
          case atStart => exact ⟨0, by omega, rfl, by simpa [upT] using H2⟩
          case round =>
            obtain ⟨k, hk, rfl, HS⟩ := hrel
            have hcV := (HVk.out _ HS.out.be).get v2
            obtain ⟨sa, sn, sc, hs, hsn, hsc⟩ := HS.out.ow.len2
            subst hs
            by_cases hlt : k < nM
            · have hd : decide ((k : Int) < (nM : Int)) = true := by simp; omega
              have hRow := (HA.out.M.keep HS.out.be) k hlt
              simp only at hRow
              obtain ⟨ad, rfl, hadb, hc⟩ := hRow
              have HC : Hid (∀ (j : Nat) (v : Value), ((M k).cells)[j]? = some v → wr.cell? ((ad.add (k * 4)).add j) = some v) := hide hc
              have HO : Hid ((M k).Ok) := hide (HF.out.M k hlt)
              have HLk : Hid ((P2 ++ upT (fun k => mapT (M k)) k).length + 500 ≤ 600000000) := hide (by have h1 := HLM.out k (by omega); have h2 := HLP2.out; rw [List.length_append]; omega)
              have HUp : Hid (P2 ++ upT (fun k => mapT (M k)) (k + 1) = P2 ++ upT (fun k => mapT (M k)) k ++ mapT (M k)) := hide (by rw [upT_succ, List.append_assoc])
              clear hc
              obtain ⟨⟨me, mv, ms, mw⟩, he⟩ : ∃ c, M k = c := ⟨_, rfl⟩
              rw [he] at HC HO HUp
              clear he
              obtain ⟨X, hX⟩ : ∃ X, P2 ++ upT (fun k => mapT (M k)) k = X := ⟨_, rfl⟩
              rw [hX] at HS HLk HUp
              clear hX
              have HZ : Hid (Blk (wr.alloc (.cells ([.int .i64 0, .int .i64 0, .int .i64 0, .bool false]).toArray 45)) wr.heap.size 45 ([.int .i64 0, .int .i64 0, .int .i64 0, .bool false])) := hide ⟨heap_alloc_last _ _⟩
              go_upto_region 23 with (first | (refine loadT Tryd.underlying45 rfl (MaG.cells ⟨me, mv, ms, mw⟩) (info_ma) (by rfl) _ rfl (ad.add (k * 4)) rfl HC.out ?_) | (refine storeB (MaG.cells ⟨me, mv, ms, mw⟩) (info_ma) rfl rfl _ _ rfl wr.heap.size rfl rfl _ HZ.out (rfl) ?_))
              simp only [Act.put]
              have HS2 := hide (HS.out.up h3' (box_below wr ([.int .i64 0, .int .i64 0, .int .i64 0, .bool false]) (MaG.cells ⟨me, mv, ms, mw⟩) 45))
              have HB2 := hide (box_blk wr ([.int .i64 0, .int .i64 0, .int .i64 0, .bool false]) (MaG.cells ⟨me, mv, ms, mw⟩) 45)
              have hElo : fb + 1 ≤ wr.heap.size := HS.out.lo
              clear HZ HC HS hcV
              generalize putB (wr.alloc (.cells ([.int .i64 0, .int .i64 0, .int .i64 0, .bool false]).toArray 45)) wr.heap.size (MaG.cells ⟨me, mv, ms, mw⟩) 45 = w2 at *
              obtain ⟨eB, hE⟩ : ∃ eB, wr.heap.size = eB := ⟨_, rfl⟩
              rw [hE] at HB2 hElo
              rw [hE]
              clear hE
              have a4 := all_cons HO.out.e (all_cons HO.out.v (all_cons HO.out.s (all_cons (fl64 mw) all_nil)))
              have l4 := lst_len a4
              simp only [List.length_cons, List.length_nil] at l4
              obtain ⟨w0, hwD⟩ : ∃ wD, wD = w2.drew := ⟨_, rfl⟩
              have HSD : Hid (Sr w1 (fb + 1) X (.slice sa sn sc) w0) := by rw [hwD]; exact hide (HS2.out.up h3' (drew_below w2))
              have HS0 : Hid ((fun W : World => Blk W eB 45 (MaG.cells ⟨me, mv, ms, mw⟩)) w0) := by rw [hwD]; exact hide (HB2.out.below (drew_below w2) HB2.out.lt)
              refine wp_region_held_drew (S := fun W : World => Blk W eB 45 (MaG.cells ⟨me, mv, ms, mw⟩)) (by kernel_rfl) (by rw [← hwD]; exact HS0.out) (fun hHeld => ?_)
              rw [← hwD]
              clear hwD hHeld HS2 HB2
              refine hd_take 0 (o := ⟨some 116, _, _, _, _, _⟩) (.slice sa sn sc) (by kernel_rfl) (by kernel_rfl) (by kernel_rfl) rfl (by rfl) (fun W hSw => by go_simp) (fun _ _ _ h => h) HS0.out ?_
              simp only [Act.put, List.setIfInBounds_toArray, List.set_cons_zero, List.set_cons_succ]
              refine hd_take 1 (o := ⟨some 117, _, _, _, _, _⟩) (.pointer (some ⟨eB, 0, none⟩)) (by kernel_rfl) (by kernel_rfl) (by kernel_rfl) rfl (by rfl) (fun W hSw => by go_simp) (fun _ _ _ h => h) HS0.out ?_
              simp only [Act.put, List.setIfInBounds_toArray, List.set_cons_zero, List.set_cons_succ]
              refine hd_take 2 (o := ⟨some 118, _, _, _, _, _⟩) (.int .i64 me) (by kernel_rfl) (by kernel_rfl) (by kernel_rfl) rfl (by rfl) (fun W hSw => by have h9 := Blk.get (show Blk W eB 45 (MaG.cells ⟨me, mv, ms, mw⟩) from hSw) (j := 0) rfl; go_simp) (fun _ _ _ h => h) HS0.out ?_
              simp only [Act.put, List.setIfInBounds_toArray, List.set_cons_zero, List.set_cons_succ]
              refine hd_take 3 (o := ⟨some 119, _, _, _, _, _⟩) (.pointer (some ⟨eB, 1, none⟩)) (by kernel_rfl) (by kernel_rfl) (by kernel_rfl) rfl (by rfl) (fun W hSw => by go_simp) (fun _ _ _ h => h) HS0.out ?_
              simp only [Act.put, List.setIfInBounds_toArray, List.set_cons_zero, List.set_cons_succ]
              refine hd_take 4 (o := ⟨some 120, _, _, _, _, _⟩) (.int .i64 mv) (by kernel_rfl) (by kernel_rfl) (by kernel_rfl) rfl (by rfl) (fun W hSw => by have h9 := Blk.get (show Blk W eB 45 (MaG.cells ⟨me, mv, ms, mw⟩) from hSw) (j := 1) rfl; go_simp) (fun _ _ _ h => h) HS0.out ?_
              simp only [Act.put, List.setIfInBounds_toArray, List.set_cons_zero, List.set_cons_succ]
              refine hd_take 5 (o := ⟨some 121, _, _, _, _, _⟩) (.pointer (some ⟨eB, 2, none⟩)) (by kernel_rfl) (by kernel_rfl) (by kernel_rfl) rfl (by rfl) (fun W hSw => by go_simp) (fun _ _ _ h => h) HS0.out ?_
              simp only [Act.put, List.setIfInBounds_toArray, List.set_cons_zero, List.set_cons_succ]
              refine hd_take 6 (o := ⟨some 122, _, _, _, _, _⟩) (.int .i64 ms) (by kernel_rfl) (by kernel_rfl) (by kernel_rfl) rfl (by rfl) (fun W hSw => by have h9 := Blk.get (show Blk W eB 45 (MaG.cells ⟨me, mv, ms, mw⟩) from hSw) (j := 2) rfl; go_simp) (fun _ _ _ h => h) HS0.out ?_
              simp only [Act.put, List.setIfInBounds_toArray, List.set_cons_zero, List.set_cons_succ]
              refine hd_take 7 (o := ⟨some 123, _, _, _, _, _⟩) (.pointer (some ⟨eB, 3, none⟩)) (by kernel_rfl) (by kernel_rfl) (by kernel_rfl) rfl (by rfl) (fun W hSw => by go_simp) (fun _ _ _ h => h) HS0.out ?_
              simp only [Act.put, List.setIfInBounds_toArray, List.set_cons_zero, List.set_cons_succ]
              refine hd_take 8 (o := ⟨some 124, _, _, _, _, _⟩) (.bool mw) (by kernel_rfl) (by kernel_rfl) (by kernel_rfl) rfl (by rfl) (fun W hSw => by have h9 := Blk.get (show Blk W eB 45 (MaG.cells ⟨me, mv, ms, mw⟩) from hSw) (j := 3) rfl; go_simp) (fun _ _ _ h => h) HS0.out ?_
              simp only [Act.put, List.setIfInBounds_toArray, List.set_cons_zero, List.set_cons_succ]
              refine hd_call 9 (o := ⟨some 125, _, _, _, _, _⟩) (by kernel_rfl) rfl (by rfl) (fun K' hK => ?_)
              go_wp2_with fail
              refine (rflag_any _ mw).mono ?_
              rintro e w8 ⟨rfl, hw8⟩
              obtain rfl : w0 = w8 := hw8.symm
              refine hK _ _ HS0.out ?_
              clear hK K'
              try simp only [Act.put, List.setIfInBounds_toArray, List.set_cons_zero, List.set_cons_succ]
              refine hd_call 10 (o := ⟨some 126, _, _, _, _, _⟩) (by kernel_rfl) rfl (by rfl) (fun K' hK => ?_)
              refine wp_row 56 3 _ Tryd.underlying56 info_i1 4 _ rfl [.int .i64 (me), .int .i64 (mv), .int .i64 (ms), .int .i64 (fl mw)] rfl (by decide) (by decide) (by simp [Value.oneCell']) (by simp; exact ⟨rfl, rfl, rfl, rfl⟩) ?_
              have hA33 : Below w0.heap.size w0 (w0.alloc (.cells #[.int .i64 (me), .int .i64 (mv), .int .i64 (ms), .int .i64 (fl mw)] 3)) := (Below.refl _ _).alloc (Nat.le_refl _) _
              have HS33 := hide (HSD.out.up h3' hA33)
              have HB33 : Hid ((fun W : World => Blk W eB 45 (MaG.cells ⟨me, mv, ms, mw⟩)) (w0.alloc (.cells #[.int .i64 (me), .int .i64 (mv), .int .i64 (ms), .int .i64 (fl mw)] 3))) := hide (Blk.below HS0.out hA33 (Blk.lt HS0.out))
              have HRA33 : Hid (RdI (w0.alloc (.cells #[.int .i64 (me), .int .i64 (mv), .int .i64 (ms), .int .i64 (fl mw)] 3)) (.slice (some ⟨w0.heap.size, 0, none⟩) 4 4) [me, mv, ms, fl mw]) := hide (by have := RdI.new w0 [me, mv, ms, fl mw] 4 4 rfl (Nat.le_refl _); simpa [In] using this)
              clear hA33
              generalize (w0.alloc (.cells #[.int .i64 (me), .int .i64 (mv), .int .i64 (ms), .int .i64 (fl mw)] 3)) = w33 at *
              obtain ⟨gA, hgA⟩ : ∃ g, w0.heap.size = g := ⟨_, rfl⟩
              rw [hgA] at HRA33 ⊢
              clear hgA
              refine hK _ _ HB33.out ?_
              clear hK K'
              try simp only [Act.put, List.setIfInBounds_toArray, List.set_cons_zero, List.set_cons_succ]
              refine hd_call 11 (o := ⟨some 127, _, _, _, _, _⟩) (by kernel_rfl) rfl (by rfl) (fun K' hK => ?_)
              go_wp2_with fail
              refine (rline_any w33 [109, 97, 112] [me, mv, ms, fl mw] _ HRA33.out a4 (by have := HS33.out.lo; omega) HS33.out.tb (by simp)).mono ?_
              rintro e w34 ⟨rfl, hb34⟩
              have HS34 := hide (HS33.out.up h3' hb34)
              have HB34 : Hid ((fun W : World => Blk W eB 45 (MaG.cells ⟨me, mv, ms, mw⟩)) w34) := hide (Blk.below HB33.out hb34 (Blk.lt HB33.out))
              have HRA34 := hide (HRA33.out.up hb34)
              clear hb34
              refine hK _ _ HB34.out ?_
              clear hK K'
              try simp only [Act.put, List.setIfInBounds_toArray, List.set_cons_zero, List.set_cons_succ]
              refine hd_call 12 (o := ⟨some 128, _, _, _, _, _⟩) (by kernel_rfl) rfl (by rfl) (fun K' hK => ?_)
              refine wp_app_str _ _ rfl (fb + 1) _ X rfl HS34.out.ow ([109, 97, 112] ++ lst [me, mv, ms, fl mw] ++ [10]) rfl (by have := HLk.out; simp only [List.length_append, List.length_cons, List.length_nil]; omega) HS34.out.lo ?_
              intro v9 w35 ho9 hg9
              have HS35 := hide (HS34.out.app h3' ho9 hg9)
              have HB35 : Hid ((fun W : World => Blk W eB 45 (MaG.cells ⟨me, mv, ms, mw⟩)) w35) := hide (⟨(OwB.keepB HS34.out.ow hg9 (Blk.out HB34.out) (by decide)).trans (Blk.out HB34.out)⟩)
              clear ho9 hg9
              refine hK _ _ HB35.out ?_
              clear hK K'
              try simp only [Act.put, List.setIfInBounds_toArray, List.set_cons_zero, List.set_cons_succ]
              refine hd_take 13 (o := ⟨some 3, _, _, _, _, _⟩) (v9) (by kernel_rfl) (by kernel_rfl) (by kernel_rfl) rfl (by rfl) (fun W hSw => by go_simp) (fun _ _ _ h => h) HB35.out ?_
              simp only [Act.put, List.setIfInBounds_toArray, List.set_cons_zero, List.set_cons_succ]
              refine wpAnyH_done (by kernel_rfl) ?_ _
              have HN : Hid (Sr w1 (fb + 1) (P2 ++ upT (fun k => mapT (M k)) (k + 1)) v9 w35) := hide (by
                rw [HUp.out]
                exact HS35.out)
              try go_wp2
              go_roundw
              case rel => exact ⟨k + 1, by omega, by go_num, HN⟩
              case measure => simp [intOf]; omega
            · have hd : decide ((k : Int) < (nM : Int)) = false := by simp; omega
              obtain rfl : nM = k := by omega
              have H3 := HS
              clear HS hlt hd
              try clear H0
              have HLP3 : Hid ((P2 ++ upT (fun k => mapT (M k)) nM).length ≤ 500 * nE + 500 * nC + 500 * nM) := hide (by have h1 := HLM.out nM (by omega); have h2 := HLP2.out; rw [List.length_append]; omega)
              obtain ⟨P3, hP3⟩ : ∃ x, P2 ++ upT (fun k => mapT (M k)) nM = x := ⟨_, rfl⟩
              rw [hP3] at H3 HLP3
              go_wp2
              go_loopw [13, 3] (fun i s wr => ∃ k : Nat, k ≤ nP ∧ i = .int .i64 (k : Int) ∧ Hid (Sr w1 (fb + 1) (P3 ++ upT (fun k => pageT k (P k)) k) s wr)) (fun i _ _ => nP - (intOf i).toNat)
              case atStart => exact ⟨0, by omega, rfl, by simpa [upT] using H3⟩
              case round =>
                obtain ⟨k, hk, rfl, HS⟩ := hrel
                have hcV := (HVk.out _ HS.out.be).get v3
                obtain ⟨sa, sn, sc, hs, hsn, hsc⟩ := HS.out.ow.len2
                subst hs
                by_cases hlt : k < nP
                · have hd : decide ((k : Int) < (nP : Int)) = true := by simp; omega
                  have hRow := (HA.out.P.keep HS.out.be) k hlt
                  simp only at hRow
                  obtain ⟨ad, rfl, hadb, hc⟩ := hRow
                  have HC : Hid (∀ (j : Nat) (v : Value), (pgL (P k))[j]? = some v → wr.cell? ((ad.add (k * 32)).add j) = some v) := hide hc
                  have HO : Hid (PgOk (P k)) := hide (HF.out.P k hlt)
                  have HLk : Hid ((P3 ++ upT (fun k => pageT k (P k)) k).length + 500 ≤ 600000000) := hide (by have h1 := HLP.out k (by omega); have h2 := HLP3.out; rw [List.length_append]; omega)
                  have HUp : Hid (P3 ++ upT (fun k => pageT k (P k)) (k + 1) = P3 ++ upT (fun k => pageT k (P k)) k ++ pageT k (P k)) := hide (by rw [upT_succ, List.append_assoc])
                  clear hc
                  obtain ⟨Wp, he⟩ : ∃ Wp, P k = Wp := ⟨_, rfl⟩
                  rw [he] at HC HO HUp
                  clear he
                  have hPl : (pgL Wp).length = 32 := by rw [pgL, List.length_map]; exact HO.out.1
                  obtain ⟨X, hX⟩ : ∃ X, P3 ++ upT (fun k => pageT k (P k)) k = X := ⟨_, rfl⟩
                  rw [hX] at HS HLk HUp
                  clear hX
                  have a1 := all_cons (nat64 (show k ≤ 1048576 by omega)) all_nil
                  have hkl := Lib.itoa_length_le (k : Int) (by omega) (by omega)
                  have hxl := hx_len (bys Wp)
                  rw [bys_len] at hxl
                  have hki : (k : Int) < (nP : Int) := by omega
                  go_upto_region 27 with fail
                  obtain ⟨w0, hwD⟩ : ∃ wD, wD = wr.drew := ⟨_, rfl⟩
                  have HSD : Hid (Sr w1 (fb + 1) X (.slice sa sn sc) w0) := by rw [hwD]; exact hide (HS.out.up h3' (drew_below wr))
                  have HS0 : Hid ((fun W9 : World => SeP fb V (ad.add (k * 32)) (pgL Wp) W9) w0) := by rw [hwD]; exact hide (SeP.up (show SeP fb V (ad.add (k * 32)) (pgL Wp) wr from ⟨HVk.out _ HS.out.be, HC.out⟩) (drew_below wr))
                  refine wp_region_held_drew (S := fun W9 : World => SeP fb V (ad.add (k * 32)) (pgL Wp) W9) (by kernel_rfl) (by rw [← hwD]; exact HS0.out) (fun hHeld => ?_)
                  rw [← hwD]
                  clear hwD hHeld HS hcV
                  refine hd_take 0 (o := ⟨some 136, _, _, _, _, _⟩) (.int .i64 (k : Int)) (by kernel_rfl) (by kernel_rfl) (by kernel_rfl) rfl (by rfl) (fun W hSw => by go_simp) (fun _ _ _ h => h) HS0.out ?_
                  simp only [Act.put, List.setIfInBounds_toArray, List.set_cons_zero, List.set_cons_succ]
                  refine hd_take 4 (o := ⟨some 140, _, _, _, _, _⟩) (.pointer (some ⟨fb, 3, none⟩)) (by kernel_rfl) (by kernel_rfl) (by kernel_rfl) rfl (by rfl) (fun W hSw => by go_simp) (fun _ _ _ h => h) HS0.out ?_
                  simp only [Act.put, List.setIfInBounds_toArray, List.set_cons_zero, List.set_cons_succ]
                  refine hd_take 5 (o := ⟨some 141, _, _, _, _, _⟩) (.slice (some ad) nP cP) (by kernel_rfl) (by kernel_rfl) (by kernel_rfl) rfl (by rfl) (fun W hSw => by have h9 := Blk.get (SeP.b hSw) v3; go_simp) (fun _ _ _ h => h) HS0.out ?_
                  simp only [Act.put, List.setIfInBounds_toArray, List.set_cons_zero, List.set_cons_succ]
                  refine hd_take 6 (o := ⟨some 142, _, _, _, _, _⟩) (.int .i64 (k : Int)) (by kernel_rfl) (by kernel_rfl) (by kernel_rfl) rfl (by rfl) (fun W hSw => by go_simp) (fun _ _ _ h => h) HS0.out ?_
                  simp only [Act.put, List.setIfInBounds_toArray, List.set_cons_zero, List.set_cons_succ]
                  refine hd_take 7 (o := ⟨some 143, _, _, _, _, _⟩) (.pointer (some (ad.add (k * 32)))) (by kernel_rfl) (by kernel_rfl) (by kernel_rfl) rfl (by rfl) (fun W hSw => by go_simp; try omega) (fun _ _ _ h => h) HS0.out ?_
                  simp only [Act.put, List.setIfInBounds_toArray, List.set_cons_zero, List.set_cons_succ]
                  refine hd_take 8 (o := ⟨some 144, _, _, _, _, _⟩) (.agg (pgL Wp).toArray) (by kernel_rfl) (by kernel_rfl) (by kernel_rfl) rfl (by rfl) (fun W hSw => by exact run_loadT Tryd.underlying47 rfl (pgL Wp) (by rw [hPl]; exact info_pg) _ rfl (ad.add (k * 32)) rfl (SeP.c hSw)) (fun _ _ _ h => h) HS0.out ?_
                  simp only [Act.put, List.setIfInBounds_toArray, List.set_cons_zero, List.set_cons_succ]
                  refine hd_call 1 (o := ⟨some 137, _, _, _, _, _⟩) (by kernel_rfl) rfl (by rfl) (fun K' hK => ?_)
                  go_wp2_with fail
                  refine (itoa_any w0 (k : Int) (nat64 (by omega)) HSD.out.tb).mono ?_
                  rintro e w36 ⟨rfl, hb36⟩
                  have HS36 := hide (HSD.out.up h3' hb36)
                  have HB36 : Hid ((fun W9 : World => SeP fb V (ad.add (k * 32)) (pgL Wp) W9) w36) := hide (SeP.up HS0.out hb36)
                  clear hb36
                  refine hK _ _ HB36.out ?_
                  clear hK K'
                  try simp only [Act.put, List.setIfInBounds_toArray, List.set_cons_zero, List.set_cons_succ]
                  refine hd_take 2 (o := ⟨some 138, _, _, _, _, _⟩) (.string ⟨([112, 97, 103, 101, 32] ++ Lib.itoa (k : Int)).toArray⟩) (by kernel_rfl) (by kernel_rfl) (by kernel_rfl) rfl (by rfl) (fun W hSw => by exact run_cat _ _ rfl rfl rfl rfl (by simp only [List.length_append, List.length_cons, List.length_nil]; omega)) (fun _ _ _ h => h) HB36.out ?_
                  simp only [Act.put, List.setIfInBounds_toArray, List.set_cons_zero, List.set_cons_succ]
                  refine hd_take 3 (o := ⟨some 139, _, _, _, _, _⟩) (.string ⟨([112, 97, 103, 101, 32] ++ Lib.itoa (k : Int) ++ [32]).toArray⟩) (by kernel_rfl) (by kernel_rfl) (by kernel_rfl) rfl (by rfl) (fun W hSw => by exact run_cat _ _ rfl rfl rfl rfl (by simp only [List.length_append, List.length_cons, List.length_nil]; omega)) (fun _ _ _ h => h) HB36.out ?_
                  simp only [Act.put, List.setIfInBounds_toArray, List.set_cons_zero, List.set_cons_succ]
                  refine hd_call 9 (o := ⟨some 145, _, _, _, _, _⟩) (by kernel_rfl) rfl (by rfl) (fun K' hK => ?_)
                  go_wp2_with fail
                  refine (rpageHex_any Wp HO.out.1 HO.out.2 w36).mono ?_
                  rintro e w37 ⟨rfl, hb37⟩
                  have HS37 := hide (HS36.out.up h3' hb37)
                  have HB37 : Hid ((fun W9 : World => SeP fb V (ad.add (k * 32)) (pgL Wp) W9) w37) := hide (SeP.up HB36.out hb37)
                  clear hb37
                  refine hK _ _ HB37.out ?_
                  clear hK K'
                  try simp only [Act.put, List.setIfInBounds_toArray, List.set_cons_zero, List.set_cons_succ]
                  refine hd_take 10 (o := ⟨some 146, _, _, _, _, _⟩) (.string ⟨([112, 97, 103, 101, 32] ++ Lib.itoa (k : Int) ++ [32] ++ hx (bys Wp)).toArray⟩) (by kernel_rfl) (by kernel_rfl) (by kernel_rfl) rfl (by rfl) (fun W hSw => by exact run_cat _ _ rfl rfl rfl rfl (by simp only [List.length_append, List.length_cons, List.length_nil]; omega)) (fun _ _ _ h => h) HB37.out ?_
                  simp only [Act.put, List.setIfInBounds_toArray, List.set_cons_zero, List.set_cons_succ]
                  refine hd_take 11 (o := ⟨some 147, _, _, _, _, _⟩) (.string ⟨([112, 97, 103, 101, 32] ++ Lib.itoa (k : Int) ++ [32] ++ hx (bys Wp) ++ [10]).toArray⟩) (by kernel_rfl) (by kernel_rfl) (by kernel_rfl) rfl (by rfl) (fun W hSw => by exact run_cat _ _ rfl rfl rfl rfl (by simp only [List.length_append, List.length_cons, List.length_nil]; omega)) (fun _ _ _ h => h) HB37.out ?_
                  simp only [Act.put, List.setIfInBounds_toArray, List.set_cons_zero, List.set_cons_succ]
                  refine hd_take 12 (o := ⟨some 14, _, _, _, _, _⟩) (.string ⟨([112, 97, 103, 101, 32] ++ Lib.itoa (k : Int) ++ [32] ++ hx (bys Wp) ++ [10]).toArray⟩) (by kernel_rfl) (by kernel_rfl) (by kernel_rfl) rfl (by rfl) (fun W hSw => by go_simp) (fun _ _ _ h => h) HB37.out ?_
                  simp only [Act.put, List.setIfInBounds_toArray, List.set_cons_zero, List.set_cons_succ]
                  refine wpAnyH_done (by kernel_rfl) ?_ _
                  go_wp2_with (at_builtin; refine app_str rfl _ _ rfl (fb + 1) _ X rfl HS37.out.ow ([112, 97, 103, 101, 32] ++ Lib.itoa (k : Int) ++ [32] ++ hx (bys Wp) ++ [10]) rfl (by have := HLk.out; simp only [List.length_append, List.length_cons, List.length_nil]; omega) HS37.out.lo ?_; intro v9 w9 ho9 hg9)
                  have HS9 := hide (HS37.out.app h3' ho9 hg9)
                  clear ho9 hg9
                  have HN : Hid (Sr w1 (fb + 1) (P3 ++ upT (fun k => pageT k (P k)) (k + 1)) v9 w9) := hide (by
                    rw [HUp.out]
                    have e : X ++ pageT k Wp = X ++ ([112, 97, 103, 101, 32] ++ Lib.itoa (k : Int) ++ [32] ++ hx (bys Wp) ++ [10]) := by simp [pageT, lst]
                    rw [e]
                    exact HS9.out)
                  try go_wp2
                  go_roundw
                  case rel => exact ⟨k + 1, by omega, by go_num, HN⟩
                  case measure => simp [intOf]; omega
                · have hd : decide ((k : Int) < (nP : Int)) = false := by simp; omega
                  obtain rfl : nP = k := by omega
                  have H4 := HS
                  clear HS hlt hd
                  try clear H0
                  have HLP4 : Hid ((P3 ++ upT (fun k => pageT k (P k)) nP).length ≤ 500 * nE + 500 * nC + 500 * nM + 500 * nP) := hide (by have h1 := HLP.out nP (by omega); have h2 := HLP3.out; rw [List.length_append]; omega)
                  obtain ⟨P4, hP4⟩ : ∃ x, P3 ++ upT (fun k => pageT k (P k)) nP = x := ⟨_, rfl⟩
                  rw [hP4] at H4 HLP4
                  go_wp2
                  go_loopw [15, 3] (fun i s wr => ∃ k : Nat, k ≤ nO ∧ i = .int .i64 (k : Int) ∧ Hid (Sr w1 (fb + 1) (P4 ++ upT (fun k => outT k (O k)) k) s wr)) (fun i _ _ => nO - (intOf i).toNat)
                  case atStart => exact ⟨0, by omega, rfl, by simpa [upT] using H4⟩
                  case round =>
                    obtain ⟨k, hk, rfl, HS⟩ := hrel
                    have hcV := (HVk.out _ HS.out.be).get v4
                    obtain ⟨sa, sn, sc, hs, hsn, hsc⟩ := HS.out.ow.len2
                    subst hs
                    by_cases hlt : k < nO
                    · have hd : decide ((k : Int) < (nO : Int)) = true := by simp; omega
                      have hRow := (HA.out.O.keep HS.out.be) k hlt
                      simp only at hRow
                      obtain ⟨ad, rfl, hadb, hc⟩ := hRow
                      have HC : Hid (∀ (j : Nat) (v : Value), ((O k).cells)[j]? = some v → wr.cell? ((ad.add (k * 2)).add j) = some v) := hide hc
                      have HO : Hid ((O k).Ok) := hide (HF.out.O k hlt)
                      have HLk : Hid ((P4 ++ upT (fun k => outT k (O k)) k).length + 500 ≤ 600000000) := hide (by have h1 := HLO.out k (by omega); have h2 := HLP4.out; rw [List.length_append]; omega)
                      have HUp : Hid (P4 ++ upT (fun k => outT k (O k)) (k + 1) = P4 ++ upT (fun k => outT k (O k)) k ++ outT k (O k)) := hide (by rw [upT_succ, List.append_assoc])
                      clear hc
                      obtain ⟨⟨ok, os⟩, he⟩ : ∃ c, O k = c := ⟨_, rfl⟩
                      rw [he] at HC HO HUp
                      clear he
                      obtain ⟨X, hX⟩ : ∃ X, P4 ++ upT (fun k => outT k (O k)) k = X := ⟨_, rfl⟩
                      rw [hX] at HS HLk HUp
                      clear hX
                      have a3 := all_cons (nat64 (show k ≤ 1048576 by omega)) (all_cons HO.out.k (all_cons HO.out.s all_nil))
                      have l3 := lst_len a3
                      simp only [List.length_cons, List.length_nil] at l3
                      have hki : (k : Int) < (nO : Int) := by omega
                      go_upto_region 32 with fail
                      obtain ⟨w0, hwD⟩ : ∃ wD, wD = wr.drew := ⟨_, rfl⟩
                      have HSD : Hid (Sr w1 (fb + 1) X (.slice sa sn sc) w0) := by rw [hwD]; exact hide (HS.out.up h3' (drew_below wr))
                      have HS0 : Hid ((fun W9 : World => SeP fb V (ad.add (k * 2)) (OuG.cells ⟨ok, os⟩) W9) w0) := by rw [hwD]; exact hide (SeP.up (show SeP fb V (ad.add (k * 2)) (OuG.cells ⟨ok, os⟩) wr from ⟨HVk.out _ HS.out.be, HC.out⟩) (drew_below wr))
                      refine wp_region_held_drew (S := fun W9 : World => SeP fb V (ad.add (k * 2)) (OuG.cells ⟨ok, os⟩) W9) (by kernel_rfl) (by rw [← hwD]; exact HS0.out) (fun hHeld => ?_)
                      rw [← hwD]
                      clear hwD hHeld HS hcV
                      refine hd_take 0 (o := ⟨some 158, _, _, _, _, _⟩) (.slice sa sn sc) (by kernel_rfl) (by kernel_rfl) (by kernel_rfl) rfl (by rfl) (fun W hSw => by go_simp) (fun _ _ _ h => h) HS0.out ?_
                      simp only [Act.put, List.setIfInBounds_toArray, List.set_cons_zero, List.set_cons_succ]
                      refine hd_take 1 (o := ⟨some 159, _, _, _, _, _⟩) (.int .i64 (k : Int)) (by kernel_rfl) (by kernel_rfl) (by kernel_rfl) rfl (by rfl) (fun W hSw => by go_simp) (fun _ _ _ h => h) HS0.out ?_
                      simp only [Act.put, List.setIfInBounds_toArray, List.set_cons_zero, List.set_cons_succ]
                      refine hd_take 2 (o := ⟨some 160, _, _, _, _, _⟩) (.pointer (some ⟨fb, 4, none⟩)) (by kernel_rfl) (by kernel_rfl) (by kernel_rfl) rfl (by rfl) (fun W hSw => by go_simp) (fun _ _ _ h => h) HS0.out ?_
                      simp only [Act.put, List.setIfInBounds_toArray, List.set_cons_zero, List.set_cons_succ]
                      refine hd_take 3 (o := ⟨some 161, _, _, _, _, _⟩) (.slice (some ad) nO cO) (by kernel_rfl) (by kernel_rfl) (by kernel_rfl) rfl (by rfl) (fun W hSw => by have h9 := Blk.get (SeP.b hSw) v4; go_simp) (fun _ _ _ h => h) HS0.out ?_
                      simp only [Act.put, List.setIfInBounds_toArray, List.set_cons_zero, List.set_cons_succ]
                      refine hd_take 4 (o := ⟨some 162, _, _, _, _, _⟩) (.int .i64 (k : Int)) (by kernel_rfl) (by kernel_rfl) (by kernel_rfl) rfl (by rfl) (fun W hSw => by go_simp) (fun _ _ _ h => h) HS0.out ?_
                      simp only [Act.put, List.setIfInBounds_toArray, List.set_cons_zero, List.set_cons_succ]
                      refine hd_take 5 (o := ⟨some 163, _, _, _, _, _⟩) (.pointer (some (ad.add (k * 2)))) (by kernel_rfl) (by kernel_rfl) (by kernel_rfl) rfl (by rfl) (fun W hSw => by go_simp; try omega) (fun _ _ _ h => h) HS0.out ?_
                      simp only [Act.put, List.setIfInBounds_toArray, List.set_cons_zero, List.set_cons_succ]
                      refine hd_take 6 (o := ⟨some 164, _, _, _, _, _⟩) (.pointer (some (ad.add (k * 2)))) (by kernel_rfl) (by kernel_rfl) (by kernel_rfl) rfl (by rfl) (fun W hSw => by go_simp) (fun _ _ _ h => h) HS0.out ?_
                      simp only [Act.put, List.setIfInBounds_toArray, List.set_cons_zero, List.set_cons_succ]
                      refine hd_take 7 (o := ⟨some 165, _, _, _, _, _⟩) (.int .i64 ok) (by kernel_rfl) (by kernel_rfl) (by kernel_rfl) rfl (by rfl) (fun W hSw => by have h9 := SeP.c hSw 0 _ rfl; rw [Addr.add_zero'] at h9; go_simp) (fun _ _ _ h => h) HS0.out ?_
                      simp only [Act.put, List.setIfInBounds_toArray, List.set_cons_zero, List.set_cons_succ]
                      refine hd_take 8 (o := ⟨some 166, _, _, _, _, _⟩) (.pointer (some ⟨fb, 4, none⟩)) (by kernel_rfl) (by kernel_rfl) (by kernel_rfl) rfl (by rfl) (fun W hSw => by go_simp) (fun _ _ _ h => h) HS0.out ?_
                      simp only [Act.put, List.setIfInBounds_toArray, List.set_cons_zero, List.set_cons_succ]
                      refine hd_take 9 (o := ⟨some 167, _, _, _, _, _⟩) (.slice (some ad) nO cO) (by kernel_rfl) (by kernel_rfl) (by kernel_rfl) rfl (by rfl) (fun W hSw => by have h9 := Blk.get (SeP.b hSw) v4; go_simp) (fun _ _ _ h => h) HS0.out ?_
                      simp only [Act.put, List.setIfInBounds_toArray, List.set_cons_zero, List.set_cons_succ]
                      refine hd_take 10 (o := ⟨some 168, _, _, _, _, _⟩) (.int .i64 (k : Int)) (by kernel_rfl) (by kernel_rfl) (by kernel_rfl) rfl (by rfl) (fun W hSw => by go_simp) (fun _ _ _ h => h) HS0.out ?_
                      simp only [Act.put, List.setIfInBounds_toArray, List.set_cons_zero, List.set_cons_succ]
                      refine hd_take 11 (o := ⟨some 169, _, _, _, _, _⟩) (.pointer (some (ad.add (k * 2)))) (by kernel_rfl) (by kernel_rfl) (by kernel_rfl) rfl (by rfl) (fun W hSw => by go_simp; try omega) (fun _ _ _ h => h) HS0.out ?_
                      simp only [Act.put, List.setIfInBounds_toArray, List.set_cons_zero, List.set_cons_succ]
                      refine hd_take 12 (o := ⟨some 170, _, _, _, _, _⟩) (.pointer (some ((ad.add (k * 2)).add 1))) (by kernel_rfl) (by kernel_rfl) (by kernel_rfl) rfl (by rfl) (fun W hSw => by go_simp) (fun _ _ _ h => h) HS0.out ?_
                      simp only [Act.put, List.setIfInBounds_toArray, List.set_cons_zero, List.set_cons_succ]
                      refine hd_take 13 (o := ⟨some 171, _, _, _, _, _⟩) (.int .i64 os) (by kernel_rfl) (by kernel_rfl) (by kernel_rfl) rfl (by rfl) (fun W hSw => by have h9 := SeP.c hSw 1 _ rfl; rw [Addr.add_succ'] at h9; go_simp) (fun _ _ _ h => h) HS0.out ?_
                      simp only [Act.put, List.setIfInBounds_toArray, List.set_cons_zero, List.set_cons_succ]
                      refine hd_call 14 (o := ⟨some 172, _, _, _, _, _⟩) (by kernel_rfl) rfl (by rfl) (fun K' hK => ?_)
                      refine wp_row 56 3 _ Tryd.underlying56 info_i1 3 _ rfl [.int .i64 ((k : Int)), .int .i64 (ok), .int .i64 (os)] rfl (by decide) (by decide) (by simp [Value.oneCell']) (by simp; exact ⟨rfl, rfl, rfl⟩) ?_
                      have hA38 : Below w0.heap.size w0 (w0.alloc (.cells #[.int .i64 ((k : Int)), .int .i64 (ok), .int .i64 (os)] 3)) := (Below.refl _ _).alloc (Nat.le_refl _) _
                      have HS38 := hide (HSD.out.up h3' hA38)
                      have HB38 : Hid ((fun W9 : World => SeP fb V (ad.add (k * 2)) (OuG.cells ⟨ok, os⟩) W9) (w0.alloc (.cells #[.int .i64 ((k : Int)), .int .i64 (ok), .int .i64 (os)] 3))) := hide (SeP.up HS0.out hA38)
                      have HRA38 : Hid (RdI (w0.alloc (.cells #[.int .i64 ((k : Int)), .int .i64 (ok), .int .i64 (os)] 3)) (.slice (some ⟨w0.heap.size, 0, none⟩) 3 3) [(k : Int), ok, os]) := hide (by have := RdI.new w0 [(k : Int), ok, os] 3 3 rfl (Nat.le_refl _); simpa [In] using this)
                      clear hA38
                      generalize (w0.alloc (.cells #[.int .i64 ((k : Int)), .int .i64 (ok), .int .i64 (os)] 3)) = w38 at *
                      obtain ⟨gA, hgA⟩ : ∃ g, w0.heap.size = g := ⟨_, rfl⟩
                      rw [hgA] at HRA38 ⊢
                      clear hgA
                      refine hK _ _ HB38.out ?_
                      clear hK K'
                      try simp only [Act.put, List.setIfInBounds_toArray, List.set_cons_zero, List.set_cons_succ]
                      refine hd_call 15 (o := ⟨some 173, _, _, _, _, _⟩) (by kernel_rfl) rfl (by rfl) (fun K' hK => ?_)
                      go_wp2_with fail
                      refine (rline_any w38 [111, 117, 116] [(k : Int), ok, os] _ HRA38.out a3 (by have := HS38.out.lo; omega) HS38.out.tb (by simp)).mono ?_
                      rintro e w39 ⟨rfl, hb39⟩
                      have HS39 := hide (HS38.out.up h3' hb39)
                      have HB39 : Hid ((fun W9 : World => SeP fb V (ad.add (k * 2)) (OuG.cells ⟨ok, os⟩) W9) w39) := hide (SeP.up HB38.out hb39)
                      have HRA39 := hide (HRA38.out.up hb39)
                      clear hb39
                      refine hK _ _ HB39.out ?_
                      clear hK K'
                      try simp only [Act.put, List.setIfInBounds_toArray, List.set_cons_zero, List.set_cons_succ]
                      refine hd_call 16 (o := ⟨some 174, _, _, _, _, _⟩) (by kernel_rfl) rfl (by rfl) (fun K' hK => ?_)
                      refine wp_app_str _ _ rfl (fb + 1) _ X rfl HS39.out.ow ([111, 117, 116] ++ lst [(k : Int), ok, os] ++ [10]) rfl (by have := HLk.out; simp only [List.length_append, List.length_cons, List.length_nil]; omega) HS39.out.lo ?_
                      intro v9 w40 ho9 hg9
                      have HS40 := hide (HS39.out.app h3' ho9 hg9)
                      have HB40 : Hid ((fun W9 : World => SeP fb V (ad.add (k * 2)) (OuG.cells ⟨ok, os⟩) W9) w40) := hide (SeP.app HB39.out HS39.out.ow hg9 hadb)
                      clear ho9 hg9
                      refine hK _ _ HB40.out ?_
                      clear hK K'
                      try simp only [Act.put, List.setIfInBounds_toArray, List.set_cons_zero, List.set_cons_succ]
                      refine hd_take 17 (o := ⟨some 3, _, _, _, _, _⟩) (v9) (by kernel_rfl) (by kernel_rfl) (by kernel_rfl) rfl (by rfl) (fun W hSw => by go_simp) (fun _ _ _ h => h) HB40.out ?_
                      simp only [Act.put, List.setIfInBounds_toArray, List.set_cons_zero, List.set_cons_succ]
                      refine wpAnyH_done (by kernel_rfl) ?_ _
                      have HN : Hid (Sr w1 (fb + 1) (P4 ++ upT (fun k => outT k (O k)) (k + 1)) v9 w40) := hide (by
                        rw [HUp.out]
                        exact HS40.out)
                      try go_wp2
                      go_roundw
                      case rel => exact ⟨k + 1, by omega, by go_num, HN⟩
                      case measure => simp [intOf]; omega
                    · have hd : decide ((k : Int) < (nO : Int)) = false := by simp; omega
                      obtain rfl : nO = k := by omega
                      have H5 := HS
                      clear HS hlt hd
                      try clear H0
                      have e : Fo.text ⟨nE, E, nC, C, nM, M, nP, P, nO, O⟩ = P4 ++ upT (fun k => outT k (O k)) nO := by
                        rw [← hP4, ← hP3, ← hP2, ← hP1]; rfl
                      have hst := str_of H5.out.ow
                      obtain ⟨sa, sn, sc, hs, hsn, hsc⟩ := H5.out.ow.len2
                      have HBf := hide (HB0.out.trans (H5.out.be.mono (Nat.le_succ _)))
                      go_wp2
                      go_ret
                      exact ⟨by rw [e]; rfl, by rw [hfb0]; exact HBf.out⟩
end Go.Proofs.YtionncfpcbjchaaDoor
