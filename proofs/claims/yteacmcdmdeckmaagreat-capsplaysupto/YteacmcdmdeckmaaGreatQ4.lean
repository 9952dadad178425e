import Derived.Test.YteacmcdmdeckmaaGreatQ3
namespace Go.Proofs.YteacmcdmdeckmaaGreat
open Go.RowKit Go.Shelf
attribute [local go_sem] Oper.semAt_some

set_option maxRecDepth 100000 in
set_option maxHeartbeats 8000000 in
theorem places_in (n : Nat) (hn : 8 ≤ n) (F : Nat → Prop) (B T : Nat) (G : Nat → Prop) (m : List (Option Nat)) (fs : Nat → Nat → Prop) (bk : List (Option Lst)) (w : World) (hBk : BookAt w F B T G m fs bk) (g bf bv : Nat) (fo vo : Obj) (P : Rc → Bool) (hF : Fits g bf bv fo vo P) (hf : w.heap[bf]? = some fo) (hv : w.heap[bv]? = some vo) :
    CallsIn Fence.wide n Tryz.prog 40 #[.pointer (some ⟨B, 0, none⟩), fv g bf bv] w fun e W' => ∃ v, e = .returned v ∧ W'.ownsRow w.heap.size 48 2 v (pls P bk).length (encPs (pls P bk)) ∧ Below w.heap.size w W' := by
  have h1 : 1 ≤ n := by omega
  obtain ⟨i28, hi, hz, hs, hb⟩ := info28'
  have cB := fun o o' => (hBk.keep (w' := (w.alloc o).alloc o') (by simp; omega) (fun b hb => (Below.heap_alloc _ _ _ (by have := hBk.lt b hb; simp; omega)).trans (Below.heap_alloc _ _ _ (hBk.lt b hb)))).cell
  refine callsIn_of_wp_marks Tryz.func40 rfl trivial ?_ rfl
  simp only [fv, Tryz.ntmps40, List.size_toArray, List.length_cons, List.length_nil, Nat.reduceAdd, Nat.reduceSub, Array.replicate_succ, Array.replicate_zero, List.push_toArray, List.append_toArray, List.nil_append, List.cons_append]
  gi_wp2_with fail
  refine ⟨trivial, (allL_in T (n - 1) _).mono ?_⟩
  rintro e w' ⟨rfl, rfl⟩
  gi_wp2_with fail
  have c0 : Boxed (w.alloc (.cells #[fv g bf bv] 83)) w.heap.size 83 (fv g bf bv) := Boxed.new w 83 (fv g bf bv)
  have c1 := Boxed.new (w.alloc (.cells #[fv g bf bv] 83)) 87 (.slice none 0 0)
  have hbox := heap_alloc_new ((w.alloc (.cells #[fv g bf bv] 83)).alloc (.cells #[.slice none 0 0] 87)) (.cells #[.pointer (some ⟨T, 0, none⟩)] 35)
  simp only [World.size_alloc] at c1 hbox
  have hB0 : Below w.heap.size w (((w.alloc (.cells #[fv g bf bv] 83)).alloc (.cells #[.slice none 0 0] 87)).alloc (.cells #[.pointer (some ⟨T, 0, none⟩)] 35)) := (((Below.refl _ w).alloc (Nat.le_refl _) _).alloc (by simp) _).alloc (by simp; omega) _
  have hsz : (((w.alloc (.cells #[fv g bf bv] 83)).alloc (.cells #[.slice none 0 0] 87)).alloc (.cells #[.pointer (some ⟨T, 0, none⟩)] 35)).heap.size = w.heap.size + 3 := by simp
  have c0' := (c0.alloc (.cells #[.slice none 0 0] 87)).alloc (.cells #[.pointer (some ⟨T, 0, none⟩)] 35)
  have c1' := c1.alloc (.cells #[.pointer (some ⟨T, 0, none⟩)] 35)
  simp only [fv] at hbox hB0 hsz c0' c1'
  generalize ((w.alloc (.cells #[.func (.func g) #[] #[.pointer (some ⟨bf, 0, none⟩), .pointer (some ⟨bv, 0, none⟩)]] 83)).alloc (.cells #[.slice none 0 0] 87)).alloc (.cells #[.pointer (some ⟨T, 0, none⟩)] 35) = W0 at *
  have hT := hBk.tab
  have hG : ∀ b, (G b ∨ b = w.heap.size + 1 + 1) → b < W0.heap.size := by
    rintro b (hb | rfl)
    · have := hT.lt b hb; omega
    · omega
  have hFl : ∀ b, G b → b < w.heap.size := hT.lt
  have hlen : (prs m 0).length ≤ 16 := by rw [prs_len, ← hBk.len]; exact count_le
  clear c0 c1 cB
  refine wpIn_rangeFunc_ownH rfl h1 (gf := 90) (lb := #[.pointer (some ⟨w.heap.size + 1 + 1, 0, none⟩)]) rfl trivial (enters_of Tryz.func90 (by kernel_rfl) rfl)
    (allL_stops (n - 1) (by omega) (w.heap.size + 1 + 1) T G m _ hbox (hT.below hB0)) keepF_t (keepF_b hG) (Below.refl _ _) (fun _ => rfl)
    (fun pre W => ((∃ v, Boxed W (w.heap.size + 1) 87 v ∧ W.ownsRow w.heap.size 48 2 v (plsI P bk (pre.map (fun x => x.1.1))).length (encPs (plsI P bk (pre.map (fun x => x.1.1)))) ∧ True) ∧ Boxed W w.heap.size 83 (fv g bf bv) ∧ Boxed W (w.heap.size + 1 + 1) 35 (.pointer (some ⟨T, 0, none⟩)) ∧ pre.length ≤ (prs m 0).length) ∧ Below w.heap.size w W)
    (fun _ _ _ => False)
    (OwnFrom.and (Own.from (fun s A A' row hs hg hr => ⟨holdsRow_own w.heap.size (w.heap.size + 1) 87 48 2 (fun s : List { x : Nat × Nat // m[x.1]? = some (some x.2) } => (plsI P bk (s.map (fun x => x.1.1))).length) (fun s => encPs (plsI P bk (s.map (fun x => x.1.1)))) (fun _ _ => True) s A A' row hs.1 hg hr,
        hs.2.1.kept hg (fun e => by obtain ⟨o, h1, h2⟩ := hr _ e.symm; rw [show A.heap[w.heap.size]? = _ from hs.2.1] at h1; cases h1; cases h2),
        hs.2.2.1.kept hg (fun e => by obtain ⟨o, h1, h2⟩ := hr _ e.symm; rw [show A.heap[w.heap.size + 1 + 1]? = _ from hs.2.2.1] at h1; cases h1; cases h2), hs.2.2.2⟩) _) (ownFrom_below (Nat.le_refl _) (by omega)))
    (fun _ _ _ _ _ hs _ _ => hs)
    ⟨⟨⟨_, c1', ⟨rfl, .inl ⟨rfl, rfl⟩⟩, trivial⟩, c0', hbox, by simp⟩, hB0⟩
    (fun x a' _ => a' = { tmps := #[.pointer (some ⟨B, 0, none⟩), fv g bf bv, undef, .pointer (some ⟨w.heap.size, 0, none⟩), .slice none 0 0, .pointer (some ⟨w.heap.size + 1, 0, none⟩), .int .i64 (x.1.1 : Nat), .pointer (some ⟨x.1.2, 0, none⟩), undef, undef, .pointer (some ⟨B, 0, none⟩), .pointer (some ⟨B, 0, none⟩), .pointer (some ⟨B, 0, none⟩), .pointer (some ⟨T, 0, none⟩), .func (.func 90) #[] #[.pointer (some ⟨w.heap.size + 1 + 1, 0, none⟩)], .int .i64 (x.1.1 : Nat), .pointer (some ⟨x.1.2, 0, none⟩), undef, undef, undef, undef, undef, undef, undef, undef, undef, undef, undef, undef, undef, undef, undef, undef], defers := [] })
    (fun _ _ _ _ _ _ hs _ _ => hs)
    ?assign ?body ?done ?stop
  case assign =>
    rintro l pre x W K hi' hK
    obtain ⟨⟨xi, xb⟩, hx⟩ := x
    gi_wp2
    exact hK _ _ (KeepsFrom.refl _ _) ⟨Nat.le_refl _, fun _ _ => rfl⟩ hi' rfl
  case body =>
    rintro l pre x a' W hl ⟨r, hr⟩ ⟨⟨⟨v, bS, hown, _⟩, bF, bA, hpl⟩, hB⟩ rfl hlt
    obtain ⟨⟨xi, xb⟩, hx⟩ := x
    obtain ⟨L, hL1, hL2, hL3⟩ := hBk.held xi xb hx
    have cF := bF.cell
    have HC := hide (fitting_any (fs xi) xb L W (hL3.below hB) g bf bv fo vo P hF ((hB.block bf (Array.getElem?_eq_some_iff.1 hf).1).trans hf) ((hB.block bv (Array.getElem?_eq_some_iff.1 hv).1).trans hv))
    simp only [fv] at HC cF ⊢
    gi_wp2_with fail
    refine ⟨trivial, fun _ => by omega, (CallsIn.inRound l (callsIn_wide.2 HC.out)).mono ?_⟩
    rintro e W2 ⟨vv, rfl, hrow, hb2⟩
    have bS2 := boxed_below bS hb2
    have bF2 := boxed_below bF hb2
    have bA2 := boxed_below bA hb2
    have hown2 := own_below hown hb2
    have hB2 := hB.trans (hb2.mono hB.size)
    have hK2 : KeepF (fun b => G b ∨ b = w.heap.size + 1 + 1) W W2 := ⟨hb2.size, fun b hb' => hb2.block b (by rcases hb' with hb' | rfl; have := hFl b hb'; have := hB.size; omega; exact bA.lt)⟩
    have hO2 := (keepsOthers_below hb2).from W0.heap.size
    have hL0 : (plsI P bk (pre.map (fun x => x.1.1))).length ≤ 768 := by
      have h2 := len_flat (one P bk) 48 (pre.map (fun x => x.1.1)) (fun x _ => one_le P bk x (fun l hl => hBk.l48 hl))
      rw [List.length_map] at h2
      unfold plsI
      omega
    have hfl : (fit P (prs L 0)).length ≤ 48 := by
      refine Nat.le_trans (fit_le _ _) ?_
      rw [prs_len, ← hL2]; exact count_le
    have hone : one P bk xi = (fit P (prs L 0)).map (fun s => (xi, s)) := by
      unfold one lf; rw [look_nat, hL1]; rfl
    have hWs := hB.size
    clear HC cF bS bF bA hown hB hb2 hL1 hL2 hL3
    generalize fit P (prs L 0) = fl at *
    have HX : Hid (plsI P bk ((pre ++ [(⟨(xi, xb), hx⟩ : { x : Nat × Nat // m[x.1]? = some (some x.2) })]).map (fun x => x.1.1)) = plsI P bk (pre.map (fun x => x.1.1)) ++ fl.map (fun s => (xi, s))) := by
      show _ = _
      rw [List.map_append, List.map_cons, List.map_nil, plsI_snoc, hone]
    have HPL : Hid ((pre ++ [(⟨(xi, xb), hx⟩ : { x : Nat × Nat // m[x.1]? = some (some x.2) })]).length ≤ (prs m 0).length) := by show _ ≤ _; simp; omega
    clear hone hlt hpl
    generalize plsI P bk (pre.map (fun x => x.1.1)) = L0 at *
    obtain ⟨af, cf, rfl⟩ := own_shape hrow
    gi_wp2_with fail
    gi_loopw [21] (fun i wr => ∃ (k : Nat) (v : Value), k ≤ fl.length ∧ i = .int .i64 (k : Int) ∧ Hid (Boxed wr (w.heap.size + 1) 87 v) ∧ Hid (wr.ownsRow w.heap.size 48 2 v (L0.length + k) (encPs (L0 ++ (fl.take k).map (fun s => (xi, s))))) ∧ Hid (Boxed wr w.heap.size 83 (fv g bf bv)) ∧ Hid (Boxed wr (w.heap.size + 1 + 1) 35 (.pointer (some ⟨T, 0, none⟩))) ∧ Hid (wr.ownsRow W.heap.size 3 1 (.slice af fl.length cf) fl.length (nums fl)) ∧ Hid (Below w.heap.size w wr) ∧ Hid (KeepsFrom W0.heap.size W wr) ∧ Hid (KeepF (fun b => G b ∨ b = w.heap.size + 1 + 1) W wr)) (fun i _ => fl.length - (intOf i).toNat)
    case atStart => exact ⟨0, v, by omega, rfl, bS2, by simpa using hide hown2, bF2, bA2, hrow, hB2, hO2, hK2⟩
    case round =>
    obtain ⟨k, v1, hk, rfl, H1, H2, H3, H4, H5, H6, H7, H8⟩ := hrel
    clear bS2 hown2 bF2 bA2 hrow hB2 hO2 hK2
    by_cases hlt : k < fl.length
    · obtain ⟨ao, co, rfl⟩ := own_shape H2.out
      have cS := H1.out.cell
      obtain ⟨gf, rfl, hcf⟩ : ∃ gf, af = some ⟨gf, 0, none⟩ ∧ wr.cell? ⟨gf, k, none⟩ = some (.int .i64 ((fl[k] : Nat) : Int)) := by
        obtain ⟨_, ⟨h0, h00⟩ | ⟨g0, cap, cur, hv0, _⟩⟩ := H5.out
        · omega
        · cases hv0
          refine ⟨g0, rfl, ?_⟩
          rw [H5.out.cellAt k (by omega)]
          simp [nums, hlt]
      gi_wp2_with (gi_at_builtin; refine wpListIn_append_own_at _ rfl _ _ 87 rfl w.heap.size 48 i28 (.agg #[.int .i64 0, .int .i64 0]) 2 16 Tryz.underlying87 hi hz hs hb rfl (by decide) _ _ _ rfl (H2.out.alloc _) ⟨wr.heap.size, 0, none⟩ 1 1 [.int .i64 (xi : Int), .int .i64 ((fl[k] : Nat) : Int)] rfl rfl (cell_two_new _ _ _ _) (by simp [Value.oneCell']) (by unfold maxLen; omega) (by omega) (by have := H6.out.size; simp; omega) ?_; intro v' w3 hown3 hg3 _ _
                   obtain ⟨gg, cap, rfl⟩ := ownsRow_succ hown3
                   obtain ⟨b1, b2, b3, b4, b5⟩ := Boxed.appended H1.out (by decide) H2.out H6.out.size (by omega) hown3 hg3
                   have b6 := (H3.out.alloc (.cells #[.int .i64 (xi : Int), .int .i64 ((fl[k] : Nat) : Int)] 48)).kept hg3 (H3.out.not_row (by decide) H2.out)
                   have b7 := (H4.out.alloc (.cells #[.int .i64 (xi : Int), .int .i64 ((fl[k] : Nat) : Int)] 48)).kept hg3 (H4.out.not_row (by decide) H2.out)
                   have b8 := (H5.out.alloc (.cells #[.int .i64 (xi : Int), .int .i64 ((fl[k] : Nat) : Int)] 48)).kept hg3 (rows_ne H5.out H2.out (by decide))
                   have cB := b1.cell
                   have fB := b1.frozen)
      have K1 := hide b2
      have K2 : Hid ((w3.setCell ⟨w.heap.size + 1, 0, none⟩ (.slice (some ⟨gg, 0, none⟩) (L0.length + k + 1) cap)).ownsRow w.heap.size 48 2 (.slice (some ⟨gg, 0, none⟩) (L0.length + k + 1) cap) (L0.length + (k + 1)) (encPs (L0 ++ (fl.take (k + 1)).map (fun s => (xi, s))))) := by
        have e : L0 ++ (fl.take (k + 1)).map (fun s => (xi, s)) = (L0 ++ (fl.take k).map (fun s => (xi, s))) ++ [(xi, fl[k])] := by
          rw [List.take_succ_eq_append_getElem hlt, List.map_append, List.map_cons, List.map_nil, List.append_assoc]
        rw [e, encPs_snoc]
        exact b3
      have K3 := hide (b6.other (B' := w.heap.size + 1) (by omega) (.slice (some ⟨gg, 0, none⟩) (L0.length + k + 1) cap))
      have K4 := hide (b7.other (B' := w.heap.size + 1) (by omega) (.slice (some ⟨gg, 0, none⟩) (L0.length + k + 1) cap))
      have K5 := hide (b8.kept (grownBy_setCell' w3 (w.heap.size + 1) (.slice (some ⟨gg, 0, none⟩) (L0.length + k + 1) cap)) (.inr (fun e => b1.not_row (by decide) b8 e.symm)))
      have K6 := hide (H6.out.trans b5)
      have K7 := hide (H7.out.trans (b4.from _))
      have K8 : Hid (KeepF (fun b => G b ∨ b = w.heap.size + 1 + 1) W (w3.setCell ⟨w.heap.size + 1, 0, none⟩ (.slice (some ⟨gg, 0, none⟩) (L0.length + k + 1) cap))) := keepF_t H8.out ⟨b5.size, fun b hb' => by
        rcases hb' with hb' | rfl
        · exact b5.block b (hFl b hb')
        · exact K4.out.trans H4.out.symm⟩
      clear b1 b2 b3 b4 b5 b6 b7 b8 hg3 hown3 cB fB cS hcf H1 H2 H3 H4 H5 H6 H7 H8
      go_roundw
      case rel => exact ⟨k + 1, _, by omega, by go_num, K1, K2, K3, K4, K5, K6, K7, K8⟩
      case measure => simp [intOf]; omega
    · have hd : decide ((k : Int) < (fl.length : Int)) = false := by simp; omega
      have hd2 : decide (k < fl.length) = false := by simp; omega
      gi_wp2
      refine ⟨H7.out, H8.out, ⟨⟨v1, H1.out, ?_, trivial⟩, H3.out, H4.out, HPL.out⟩, H6.out⟩
      rw [HX.out]
      have h2 := H2.out
      have ek : k = fl.length := by omega
      rw [ek, List.take_length] at h2
      rw [List.length_append, List.length_map]
      exact h2
  case done =>
    rintro D ys W hD hys ⟨⟨⟨v, bS, hown, _⟩, bF, bA, hpl⟩, hB⟩ hK
    have e : ys.map (fun x => x.1.1) = idx bk := by
      rw [← hBk.idx]; unfold idx; rw [← hys, List.map_map]; rfl
    rw [e] at hown
    have hown' : W.ownsRow w.heap.size 48 2 v (pls P bk).length (encPs (pls P bk)) := hown
    clear hown
    obtain ⟨ao, co, rfl⟩ := own_shape hown'
    have cS := bS.cell
    gi_wp2
    refine ⟨by simp, .inl ⟨_, _, rfl, run_takeDeferred hK, ?_⟩⟩
    refine ⟨_, results_tmp rfl _ _ _, _, rfl, ?_, hB.trans (belowK_b (w := w) (Nat.le_refl _) W D _ _ (by omega) hK rfl rfl)⟩
    exact ownsRow_putObj hown' _ hK rfl
  case stop =>
    rintro D c pre W _ _ h _
    exact h.elim
theorem places_any (F : Nat → Prop) (B : Nat) (bk : List (Option Lst)) (w : World) (hBk : Book w F B bk) (g bf bv : Nat) (fo vo : Obj) (P : Rc → Bool) (hF : Fits g bf bv fo vo P) (hf : w.heap[bf]? = some fo) (hv : w.heap[bv]? = some vo) :
    Calls Tryz.prog 40 #[.pointer (some ⟨B, 0, none⟩), fv g bf bv] w fun e W' => ∃ v, e = .returned v ∧ W'.ownsRow w.heap.size 48 2 v (pls P bk).length (encPs (pls P bk)) ∧ Below w.heap.size w W' := by
  obtain ⟨T, G, m, fs, h⟩ := hBk
  exact (callsIn_wide (n := 8)).1 (places_in 8 (Nat.le_refl _) F B T G m fs bk w h g bf bv fo vo P hF hf hv)
end Go.Proofs.YteacmcdmdeckmaaGreat
