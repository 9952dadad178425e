import Derived.Test.YtngmnlmagbfijaaTC
namespace Go.Proofs.Ytngmnlmagbfijaa
open Go.RowKit
/-- the last choice, in block L -/
def LsA (w0 w : World) (Z : Nat → Prop) (L : Nat) (c : Int) (R : List Int) : Prop :=
  ∃ u bb, Z L ∧ w0.heap.size ≤ L ∧ w.heap[L]? = some (.cells #[u, .int .i64 c, .bool bb] 30 (0, 0)) ∧ Rd (fun b => Z b ∧ b ≠ L) w u R
theorem LsA.stay {w0 w w' : World} {Z Z' : Nat → Prop} {L : Nat} {c : Int} {R : List Int} (h : LsA w0 w Z L c R) (hk : ∀ b, Z b → w'.heap[b]? = w.heap[b]?) (hZ : ∀ b, Z b → Z' b) : LsA w0 w' Z' L c R := by
  obtain ⟨u, bb, h1, h2, h3, h4⟩ := h
  exact ⟨u, bb, hZ _ h1, h2, by rw [hk _ h1]; exact h3, (h4.keep (fun b hb => hk b hb.1)).mono (fun b hb => ⟨hZ b hb.1, hb.2⟩)⟩
section
variable {w0 w : World} {Z X : Nat → Prop} {g n : Nat} {s : Pl} {vK vW : Value} {K W : List Int}
theorem TlS.start (h : PlAt w X g n s) (hl : ∀ b, X b → w0.heap.size ≤ b) (hb : Below w0.heap.size w0 w) : TlS w0 w (fun b => b < w0.heap.size) X g n s (.slice none 0 0) (.slice none 0 0) [] [] := by
  have hz := hb.size
  refine ⟨h, fun b hx => ⟨hl b hx, by have := hl b hx; omega⟩, hb, ⟨fun b hb => ?_, ⟨rfl, .inl ⟨rfl, rfl⟩⟩, fun b hb => by simp [Value.ownBlock] at hb, ⟨rfl, .inl ⟨rfl, rfl⟩⟩, fun b hb => by simp [Value.ownBlock] at hb, fun b hb => by simp [Value.ownBlock] at hb⟩⟩
  rcases hb with hb | hb
  · omega
  · exact h.lt b hb
/-- a choice is kept as the last one -/
theorem TlS.setL {L : Nat} {c : Int} {R : List Int} (h : TlS w0 w Z X g n s vK vW K W) (hL : LsA w0 w Z L c R) {u' : Value} {R' : List Int} (hR : Rd (fun b => Z b ∧ b ≠ L) w u' R') (c' : Int) (b' : Bool) :
    w.there L 0 3 ∧ TlS w0 (w.setCells L 0 [u', .int .i64 c', .bool b']) Z X g n s vK vW K W ∧ LsA w0 (w.setCells L 0 [u', .int .i64 c', .bool b']) Z L c' R' ∧ ∀ b, b ≠ L → b < w.heap.size → (w.setCells L 0 [u', .int .i64 c', .bool b']).heap[b]? = w.heap[b]? := by
  obtain ⟨u, bb, h1, h2, h3, h4⟩ := hL
  have e1 := h.setZ (j := 0) (v := u') h2 h1
  have e2 := e1.1.setZ (j := 1) (v := .int .i64 c') h2 h1
  have e3 := e2.1.setZ (j := 2) (v := .bool b') h2 h1
  have hlt : L < w.heap.size := h.lt L h1
  have s1 : (w.setCell ⟨L, 0, none⟩ u').heap.size = w.heap.size := by simp [World.setCell]
  have s2 : ((w.setCell ⟨L, 0, none⟩ u').setCell ⟨L, 1, none⟩ (.int .i64 c')).heap.size = w.heap.size := by simp [World.setCell]
  have hk : ∀ b, b ≠ L → b < w.heap.size → (w.setCells L 0 [u', .int .i64 c', .bool b']).heap[b]? = w.heap[b]? := fun b hb hlt => by
    show (((w.setCell ⟨L, 0, none⟩ u').setCell ⟨L, 1, none⟩ (.int .i64 c')).setCell ⟨L, 2, none⟩ (.bool b')).heap[b]? = _
    rw [e3.2 b hb (by omega), e2.2 b hb (by omega), e1.2 b hb hlt]
  refine ⟨fun j hj => ⟨?_, frozen_of_row _ _ _ _ _ h3⟩, e3.1, ⟨u', b', h1, h2, ?_, hR.keep (fun b hb => hk b hb.2 (h.lt b hb.1))⟩, hk⟩
  · rw [cell_of_row _ _ _ _ _ _ h3]
    match j, hj with
    | 0, _ => rfl
    | 1, _ => rfl
    | 2, _ => rfl
  · show (((w.setCell ⟨L, 0, none⟩ u').setCell ⟨L, 1, none⟩ (.int .i64 c')).setCell ⟨L, 2, none⟩ (.bool b')).heap[L]? = _
    rw [heap_setCell_same _ L 2 _ 30 _ (heap_setCell_same _ L 1 _ 30 _ (heap_setCell_same _ L 0 _ 30 _ h3))]
    simp
end
theorem KW.setNew {K W W' : List Int} {f : Int → Option Int} (h : KW K W f) {c m : Int} (hc : c ∉ K) (hl : W'.length = (K ++ [c]).length) (hv : ∀ i, i < (K ++ [c]).length → W'.getD i 0 = if (K ++ [c]).getD i 0 = c then m else (W ++ [1]).getD i 0) : KW (K ++ [c]) W' (upd f c m) := by
  rw [← upd_oneK]
  exact (h.new hc).set (by simp) hl hv
theorem KW.told {K W ks : List Int} {s : Pl} (h : KW K W s.wt) (hp : ks.Pairwise (fun a b => a < b)) (hm : ∀ k, k ∈ ks ↔ (s.wt k).isSome = true) : ks.length = K.length := by
  have n1 : ks.Nodup := hp.imp (fun h => by omega)
  exact ((List.perm_ext_iff_of_nodup n1 h.nd).2 (fun k => (hm k).trans h.mem.symm)).length_eq
theorem getD_set_eq {l : List Int} {i : Nat} {v : Int} (h : i < l.length) : (l.set i v).getD i 0 = v := by rw [List.getD_eq_getElem?_getD, List.getElem?_set_self h]; rfl
theorem getD_set_ne {l : List Int} {i j : Nat} {v : Int} (h : i ≠ j) : (l.set j v).getD i 0 = l.getD i 0 := by rw [List.getD_eq_getElem?_getD, List.getElem?_set_ne (fun e => h e.symm), ← List.getD_eq_getElem?_getD]
section
variable (w : World)
set_option maxRecDepth 100000 in
set_option maxHeartbeats 16000000 in
theorem schedTells_walk (z0 : Int) (v : Value) (os : List Og) (hO : OpR (fun b => b < w.heap.size) w v os) (hF : Fit os) (hc : cost os ≤ 1048576) :
    Calls Try.prog 8 #[.int .i64 z0, v] w fun e w' => e = .returned (.bool true) ∧ Below w.heap.size w w' := by
  obtain ⟨i3, hi, hz3, hs, hb⟩ := info3'
  have HI := hide (And.intro hi (And.intro hz3 (And.intro hs hb)))
  clear hi hz3 hs hb
  have HO := hide hO
  have HF := hide hF
  obtain ⟨ao, cap, rfl, hcap, hops⟩ := hO
  have HH := hide hops
  obtain ⟨m, hm⟩ : ∃ m, os.length = m := ⟨_, rfl⟩
  have HLn := hide hm
  have hcl := cost_len os
  rw [hm] at hcap HO hcl ⊢
  clear hF hm hops
  have HPl : Hid (∀ (z : Nat) (W : World), z ≤ 2 → Calls Try.prog 9 #[.int .i64 (1 + (z : Int))] W fun e w' => ∃ (g : Nat) (X : Nat → Prop), e = .returned (.pointer (some ⟨g, 0, none⟩)) ∧ PlAt w' X g 0 (start (1 + z)) ∧ (∀ b, X b → W.heap.size ≤ b) ∧ Below W.heap.size W w') := hide (fun z W hz => by
    have := plan_any W (1 + z) (by omega)
    rw [show ((1 + z : Nat) : Int) = 1 + (z : Int) by omega] at this
    exact this)
  go_enter Try.func8, Try.ntmps8
  go_wp2_with fail
  refine (rest_any _ z0).mono ?_
  rintro e wx ⟨z, rfl, hz, rfl⟩
  go_wp2_with fail
  refine (HPl.out z _ hz).mono ?_
  rintro e w1 ⟨g, X, rfl, h1, h2, h3⟩
  have HT0 := hide (TlS.start h1 h2 h3)
  obtain ⟨L, hL⟩ : ∃ L, w1.heap.size = L := ⟨_, rfl⟩
  have hLw : wx.heap.size ≤ L := by have := h3.size; omega
  have hb0 : Below w1.heap.size w1 (w1.alloc (.cells #[.slice none 0 0, .int .i64 0, .bool false] 30)) := (Below.refl _ _).alloc (Nat.le_refl _) _
  have HT1 := hide (HT0.out.below hb0)
  have HL1 : Hid (LsA wx (w1.alloc (.cells #[.slice none 0 0, .int .i64 0, .bool false] 30)) (fun b => b < wx.heap.size ∨ (w1.heap.size ≤ b ∧ b < (w1.alloc (.cells #[.slice none 0 0, .int .i64 0, .bool false] 30)).heap.size)) L 0 []) := hide ⟨_, _, .inr ⟨by omega, by simp; omega⟩, hLw, by rw [← hL]; exact heap_alloc_last _ _, .inl ⟨rfl, rfl⟩⟩
  clear h1 h2 h3 HPl hb0 HT0
  go_upto_region 9 with fail
  generalize w1.alloc (.cells #[.slice none 0 0, .int .i64 0, .bool false] 30) = w2 at *
  go_loopw [6, 7, 9] (fun vK vW i wr => ∃ (k n : Nat) (Z X : Nat → Prop) (s : Pl) (K W : List Int) (c : Int) (R : List Int), k ≤ m ∧ i = .int .i64 (k : Nat) ∧ Hid (s.kind = 1 + z) ∧ Hid (n ≤ cost (os.take k) ∧ K.length ≤ cost (os.take k) ∧ R.length ≤ 1048576) ∧ Hid (TlS wx wr Z X g n s vK vW K W) ∧ Hid (KW K W s.wt) ∧ Hid (LsA wx wr Z L c R) ∧ Hid (Lst s c R)) (fun _ _ i _ => m - (RowKit.intOf i).toNat)
  case atStart => exact ⟨0, 0, _, X, start (1 + z), [], [], 0, [], by omega, rfl, hide rfl, hide ⟨by omega, by simp, by simp⟩, hide HT1.out.1, hide KW.nil, HL1, hide (Lst.start _)⟩
  case round =>
    obtain ⟨k, n, Z, X, s, K, W, c, R, hk, rfl, HKd, HBd, HT, HK, HL, HLs⟩ := hrel
    clear HT1 HL1
    by_cases hlt : k < m
    · obtain ⟨o, ho⟩ : ∃ o, os[k]? = some o := ⟨os[k]'(by rw [HLn.out]; exact hlt), List.getElem?_eq_getElem _⟩
      have hcs := cost_succ' ho
      have hct := cost_take os (k + 1)
      have HFo := hide (HF.out o (List.mem_of_getElem? ho))
      obtain ⟨x, u, rfl, hSx, c0, c1, c2, c3, c4, c5⟩ := HH.out k o ho
      have HXx := hide hSx
      have hxk := HT.out.bel.block _ hSx
      have c0 := cell_keep c0 hxk
      have c1 := cell_keep c1 hxk
      have c2 := cell_keep c2 hxk
      have c3 := cell_keep c3 hxk
      have c4 := cell_keep c4 hxk
      have c5 := c5.keep (w' := wr) (fun b hb => HT.out.bel.block b hb)
      have hki : (k : Int) < m := by omega
      obtain ⟨au, cu, rfl, hcu⟩ := c5.len
      have HC5 := hide c5
      clear c5 hxk hSx ho
      obtain ⟨ok, ot, on, om, oR⟩ := o
      dsimp only at c0 c1 c2 c3 c4 hcu hcs
      have ea : ∀ j, x.add (k * 5 + (j + 1)) = (⟨(x.add (k * 5)).block, (x.add (k * 5)).off + (j + 1), none⟩ : Addr) := fun j => by rw [← Addr.add_add]; simp [Addr.add]
      rw [ea 0] at c1
      rw [ea 1] at c2
      rw [ea 2] at c3
      rw [ea 3] at c4
      clear ea
      obtain ⟨zl, hzl⟩ : ∃ zl, oR.length = zl := ⟨_, rfl⟩
      have HZl := hide hzl
      have hRl : zl + 1 ≤ 1048576 := by omega
      rw [hzl] at hcs hcu c4 HC5
      have HCs := hide (And.intro hcs (And.intro hct hc))
      clear hzl hcs hct
      obtain ⟨B, hB⟩ : ∃ B, wr.heap.size = B := ⟨_, rfl⟩
      have hb1 : Below wr.heap.size wr (wr.alloc (.cells #[.int .i64 ok, .int .i64 ot, .int .i64 on, .int .i64 om, .slice au zl cu] 40)) := (Below.refl _ _).alloc (Nat.le_refl _) _
      have hT1 := HT.out.below hb1
      have hbz : (wr.alloc (.cells #[.int .i64 ok, .int .i64 ot, .int .i64 on, .int .i64 om, .slice au zl cu] 40)).heap.size = wr.heap.size + 1 := by simp
      obtain ⟨Z1, hZ1⟩ : ∃ Z1 : Nat → Prop, Z1 = (fun b => Z b ∨ (wr.heap.size ≤ b ∧ b < (wr.alloc (.cells #[.int .i64 ok, .int .i64 ot, .int .i64 on, .int .i64 om, .slice au zl cu] 40)).heap.size)) := ⟨_, rfl⟩
      have HT1 := hide hT1.1
      rw [← hZ1] at HT1
      have HZB : Hid (Z1 B) := hide (by rw [hZ1]; exact .inr ⟨by omega, by omega⟩)
      have HLa1 := hide (HL.out.stay hT1.2 (Z' := Z1) (fun b hb => by rw [hZ1]; exact .inl hb))
      have HRow : Hid ((wr.alloc (.cells #[.int .i64 ok, .int .i64 ot, .int .i64 on, .int .i64 om, .slice au zl cu] 40)).heap[B]? = some (.cells #[.int .i64 ok, .int .i64 ot, .int .i64 on, .int .i64 om, .slice au zl cu] 40 (0, 0))) := hide (by rw [← hB]; exact heap_alloc_last _ _)
      have HC6 := hide (HC5.out.keep (w' := wr.alloc (.cells #[.int .i64 ok, .int .i64 ot, .int .i64 on, .int .i64 om, .slice au zl cu] 40)) (fun b hb => hb1.block b (by have := HT.out.bel.size; omega)))
      clear hT1 hZ1 hb1 HC5 HT HL
      go_upto_region 12 with fail
      generalize wr.alloc (.cells #[.int .i64 ok, .int .i64 ot, .int .i64 on, .int .i64 om, .slice au zl cu] 40) = W1 at *
      clear c0 c1 c2 c3 c4 hbz hB
      have d0 := cell_of_row _ _ 0 _ _ _ HRow.out
      have d1 := cell_of_row _ _ 1 _ _ _ HRow.out
      have d2 := cell_of_row _ _ 2 _ _ _ HRow.out
      have d3 := cell_of_row _ _ 3 _ _ _ HRow.out
      have d4 := cell_of_row _ _ 4 _ _ _ HRow.out
      simp only [List.getElem?_toArray, List.getElem?_cons_zero, List.getElem?_cons_succ] at d0 d1 d2 d3 d4
      go_wp2_with fail
      have hC := chosenT W1 HT1.out ⟨ok, ot, on, om, oR⟩ (.slice au zl cu) HC6.out (fun b hb => hb) HFo.out (by have := HBd.out; have := HCs.out; have := HZl.out; dsimp only; omega) (by have := HZl.out; dsimp only; omega)
      refine hC.mono ?_
      clear hC
      rintro e w3 ⟨r, Z3, X3, rfl, h1, h2, h3, h4⟩
      have HT3 := hide h1
      have HR3 := hide h2
      have HLa3 := hide (HLa1.out.stay h4 h3)
      have HZB3 := hide (h3 _ HZB.out)
      have HRow3 := hide ((h4 _ HZB.out).trans HRow.out)
      have hLt1 := hide (HT1.out.lt)
      have HLlt : Hid (L < W1.heap.size) := hide (by obtain ⟨_, _, h9, _⟩ := HLa1.out; exact hLt1.out L h9)
      have HBL : Hid (B ≠ L) := hide (by
        intro e
        obtain ⟨_, _, _, _, h9, _⟩ := HLa1.out
        have h8 := HRow.out
        rw [e, h9] at h8
        cases h8)
      clear h1 h2 h3 h4 HT1 HLa1 HZB HRow d0 d1 d2 d3 d4 hLt1
      have d0 := cell_of_row _ _ 0 _ _ _ HRow3.out
      have d2 := cell_of_row _ _ 2 _ _ _ HRow3.out
      have d3 := cell_of_row _ _ 3 _ _ _ HRow3.out
      simp only [List.getElem?_toArray, List.getElem?_cons_zero, List.getElem?_cons_succ] at d0 d2 d3
      by_cases hA : ok = 3 ∧ mayF (srt oR) = 0
      · obtain ⟨rfl, hmf⟩ := hA
        have h9 := HR3.out
        rw [oneC_one rfl hmf] at h9
        dsimp only at h9
        obtain ⟨ar, cr, rfl, hcr, hel⟩ := h9
        obtain ⟨y, uf, rfl, hSy, e0, e1, e2, e3⟩ := hel 0 _ rfl
        dsimp only at e1 e2 e3
        obtain ⟨af, cf, rfl, hcf⟩ := e3.len
        rw [HZl.out] at e0 hcf
        have HT3' := HT3.out
        rw [stepS_next rfl hmf] at HT3'
        have HT3 := hide HT3'
        have HFr : Hid (Rd (fun b => Z3 b ∧ b ≠ L) w3 (.slice af zl cf) oR) := hide (by
          have := e3
          rw [HZl.out] at this
          exact this.mono (fun b hb => ⟨hb.1, by have := HLlt.out; omega⟩))
        have ea : ∀ j, y.add j = (⟨y.block, y.off + j, none⟩ : Addr) ∨ True := fun j => .inr trivial
        obtain ⟨cc, hcc⟩ : ∃ cc, pick s (srt oR) = cc := ⟨_, rfl⟩
        have HCc := hide hcc
        rw [hcc] at e1
        have HMf := hide hmf
        clear hel e3 hmf HT3' ea hcc HR3
        go_upto_region 19 with fail
        simp only [Nat.zero_mul, Nat.zero_add, Addr.add, if_pos, Nat.one_ne_zero, if_false, show ¬ (2 : Nat) = 0 by omega] at e0 e1 e2
        obtain ⟨hth, hT4, hL4, hk4⟩ := HT3.out.setL HLa3.out HFr.out cc false
        have HTh := hide hth
        have HRow4 : Hid ((w3.setCells L 0 [.slice af zl cf, .int .i64 cc, .bool false]).heap[B]? = some (.cells #[.int .i64 3, .int .i64 ot, .int .i64 on, .int .i64 om, .slice au zl cu] 40 (0, 0))) := hide (by rw [hk4 B HBL.out (HT3.out.lt B HZB3.out)]; exact HRow3.out)
        have hySz : y.block < w3.heap.size := HT3.out.lt _ hSy.1
        have hyL : y.block ≠ L := by have := hSy.2; have := HLlt.out; omega
        have e0' := cell_keep (x := y) (i := 0) (w' := w3.setCells L 0 [.slice af zl cf, .int .i64 cc, .bool false]) (by simpa [Addr.add] using e0) (hk4 _ hyL hySz)
        have HE4 := hide e0'
        have HFr4 := hide (HFr.out.keep (w' := w3.setCells L 0 [.slice af zl cf, .int .i64 cc, .bool false]) (fun b hb => hk4 b hb.2 (HT3.out.lt b hb.1)))
        have HT4 := hide hT4
        have HL4 := hide hL4
        clear hth hT4 hL4 hk4 HFr e0' HT3 HLa3 HRow3 d2 d3 d0 hySz hyL hSy
        go_upto_region 20 with (refine wpList_store_mid rfl 30 (.tmp 8) (.tmp 73) rfl L 0 #[.slice af zl cf, .int .i64 cc, .bool false] rfl (by simp only [Act.eval]; rfl) HTh.out (by kernel_rfl) (by simp [Value.oneCell']) ?_; generalize w3.setCells L 0 [.slice af zl cf, .int .i64 cc, .bool false] = w4 at *)
        have e0 := HE4.out
        simp only [Addr.add, if_pos] at e0
        have hsz : zl ≤ 1048576 := by omega
        go_upto_region 22 with fail
        clear e0 e1 e2 HE4
        go_loopw [6, 7, 14] (fun vK vW i wq => ∃ (q : Nat) (K2 W2 : List Int), q ≤ zl ∧ i = .int .i64 (q : Nat) ∧ Hid (K2.length ≤ K.length + q) ∧ Hid (TlS wx wq Z3 X3 g (n + (oR.length + 1)) (nextP s (srt oR)) vK vW K2 W2) ∧ Hid (KW K2 W2 (admW s (oR.take q))) ∧ Hid (∀ b, Z3 b → wq.heap[b]? = w4.heap[b]?)) (fun _ _ i _ => zl - (RowKit.intOf i).toNat)
        case atStart => exact ⟨0, K, W, by omega, rfl, hide (by omega), HT4, hide (by rw [List.take_zero, admW_nil]; exact HK.out), hide (fun b _ => rfl)⟩
        case round =>
          obtain ⟨q, K2, W2, hq, rfl, HKl, HTq, HKq, HSq⟩ := hrel
          by_cases hlt2 : q < zl
          · obtain ⟨y2, rfl, _, hcy⟩ := (HFr4.out.keep (w' := wr) (fun b hb => HSq.out b hb.1)).some_of (by rw [HZl.out]; omega)
            have f0 := hcy q (by rw [HZl.out]; exact hlt2)
            have hqi : (q : Int) < zl := by omega
            have hq0 : (0 : Int) ≤ q := by omega
            obtain ⟨b, hb⟩ : ∃ b, oR.getD q 0 = b := ⟨_, rfl⟩
            have HB := hide hb
            rw [hb] at f0
            clear hcy hb
            obtain ⟨kl, hkl⟩ : ∃ kl, K2.length = kl := ⟨_, rfl⟩
            have HKln := hide hkl
            have HKb : Hid (kl ≤ 1048576) := hide (by have := HKl.out; have := HBd.out; have := HCs.out; omega)
            obtain ⟨a6, c6, rfl⟩ : ∃ a c, u6 = .slice a kl c := by
              obtain ⟨a, c, h⟩ := own_shape HTq.out.two.r1
              exact ⟨a, c, by rw [h, hkl]⟩
            obtain ⟨a7, c7, rfl⟩ : ∃ a c, u7 = .slice a kl c := by
              obtain ⟨a, c, h⟩ := own_shape HTq.out.two.r2
              exact ⟨a, c, by rw [h, HKq.out.len, hkl]⟩
            clear hkl
            have HSt := hide (admW_take (s := s) (R := oR) (k := q) (by rw [HZl.out]; exact hlt2))
            rw [HB.out] at HSt
            have hwxr := HTq.out.bel.size
            go_wp2_with fail
            refine (in_any wr _ _ K2 (Oi.rd HTq.out.two.r1) (by rw [HKln.out]; have := HKb.out; omega) b).mono ?_
            cases hd : decide (b ∈ K2) with
            | true =>
              have HMm : Hid (b ∈ K2) := hide (by simpa using hd)
              clear hd
              rintro e w5 ⟨rfl, rfl⟩
              have d0 := cell_of_row _ _ 0 _ _ _ ((HSq.out B HZB3.out).trans HRow4.out)
              simp only [List.getElem?_toArray, List.getElem?_cons_zero] at d0
              go_wp2
              go_roundw
              case rel => exact ⟨q + 1, K2, W2, by omega, by go_num, hide (by have := HKl.out; omega), HTq, hide (by rw [HSt.out]; exact HKq.out.old HMm.out), HSq⟩
              case measure => simp [RowKit.intOf]; omega
            | false =>
              have HMm : Hid (b ∉ K2) := hide (by simpa using hd)
              clear hd
              rintro e w5 ⟨rfl, rfl⟩
              have HR1 : Hid (w5.ownsRow wx.heap.size 3 1 (.slice a6 kl c6) kl (K2.map Zi)) := hide (by have := HTq.out.two.r1; rw [HKln.out] at this; exact this)
              have hkb := HKb.out
              go_upto_region 26 with (refine wpList_append_own_at _ rfl (.tmp 91) (.tmp 96) 28 rfl wx.heap.size 3 i3 (.int .i64 0) 1 8 Try.underlying28 HI.out.1 HI.out.2.1 HI.out.2.2.1 HI.out.2.2.2 rfl (by decide) _ kl _ rfl (World.ownsRow.alloc HR1.out _) (⟨w5.heap.size, 0, none⟩) 1 1 [.int .i64 b] rfl rfl (cell_one_new _ _ _) (by simp [Value.oneCell']) (by unfold maxLen; omega) (by omega) (by simp; omega) ?_; intro v' w6 hown hg6 _ hat)
              have h6 := HTq.out.addK (z := b) (by rw [HKln.out]; exact hown) hg6 hat
              obtain ⟨a8, c8, rfl⟩ := own_shape hown
              have HT6 := hide h6.1
              have HS6 : Hid (∀ b, Z3 b → w6.heap[b]? = w4.heap[b]?) := hide (fun b hb => (h6.2 b hb).trans (HSq.out b hb))
              have HR2 : Hid (w6.ownsRow wx.heap.size 3 1 (.slice a7 kl c7) kl (W2.map Zi)) := hide (by have := HT6.out.two.r2; rw [HKq.out.len, HKln.out] at this; exact this)
              have hwx6 := HT6.out.bel.size
              clear h6 hown hg6 hat HR1 f0 HTq HSq
              go_upto_region 27 with (refine wpList_append_own_at _ rfl (.tmp 98) (.tmp 99) 28 rfl wx.heap.size 3 i3 (.int .i64 0) 1 8 Try.underlying28 HI.out.1 HI.out.2.1 HI.out.2.2.1 HI.out.2.2.2 rfl (by decide) _ kl _ rfl (World.ownsRow.alloc HR2.out _) (⟨w6.heap.size, 0, none⟩) 1 1 [.int .i64 1] rfl rfl (cell_one_new _ _ _) (by simp [Value.oneCell']) (by unfold maxLen; omega) (by omega) (by simp; omega) ?_; intro v' w7 hown hg6 _ hat)
              have h7 := HT6.out.addW (z := 1) (by rw [HKq.out.len, HKln.out]; exact hown) hg6 hat
              obtain ⟨a9, c9, rfl⟩ := own_shape hown
              have HT7 := hide h7.1
              have HS7 : Hid (∀ b, Z3 b → w7.heap[b]? = w4.heap[b]?) := hide (fun b hb => (h7.2 b hb).trans (HS6.out b hb))
              clear h7 hown hg6 hat HR2 HT6 HS6
              have d0 := cell_of_row _ _ 0 _ _ _ ((HS7.out B HZB3.out).trans HRow4.out)
              simp only [List.getElem?_toArray, List.getElem?_cons_zero] at d0
              go_wp2
              go_roundw
              case rel => exact ⟨q + 1, K2 ++ [b], W2 ++ [1], by omega, by go_num, hide (by have := HKl.out; rw [List.length_append]; simp only [List.length_cons, List.length_nil]; omega), HT7, hide (by rw [HSt.out]; exact HKq.out.new HMm.out), HS7⟩
              case measure => simp [RowKit.intOf]; omega
          · obtain rfl : q = zl := by omega
            have HKe : Hid (KW K2 W2 (nextP s (srt oR)).wt) := hide (by rw [nextP_wtR]; have := HKq.out; rw [← HZl.out, List.take_length] at this; exact this)
            have HLe := hide (HL4.out.stay HSq.out (fun b hb => hb))
            go_wp2
            go_roundw
            case rel => exact ⟨k + 1, _, Z3, X3, _, K2, W2, cc, oR, by omega, by go_num, hide (by have h9 := stepS_kind s ⟨3, ot, on, om, oR⟩; rw [stepS_next rfl HMf.out] at h9; exact h9.trans HKd.out), hide (by have := HBd.out; have := HCs.out; have := HKl.out; have := HZl.out; omega), HTq, HKe, HLe, hide (by rw [← HCc.out]; exact Lst.next s oR)⟩
            case measure => simp [RowKit.intOf]; omega
      · have h9 := HR3.out
        rw [oneC_nil' hA] at h9
        obtain ⟨ar, cr, hr, _, _⟩ := h9
        have hr' : r = .slice ar 0 cr := hr
        subst hr'
        clear HR3 hr
        by_cases hk2 : ok = 2
        · subst hk2
          cases hg : goodS ⟨2, ot, on, om, oR⟩ with
          | true =>
            have hgd : (decide (1 ≤ on) && decide (1 ≤ om) && decide (om ≤ 8)) = true := hg
            have q123 : (1 ≤ on ∧ 1 ≤ om) ∧ om ≤ 8 := by simpa using hgd
            obtain ⟨⟨q1, q2⟩, q3⟩ := q123
            have hT3 := HT3.out
            rw [stepS_set rfl hg] at hT3
            have hwz : (w3.alloc (.cells #[.int .i64 on] 3)).heap.size = w3.heap.size + 1 := by simp
            obtain ⟨hT4, hk4⟩ := hT3.below (w' := w3.alloc (.cells #[.int .i64 on] 3)) ((Below.refl _ _).alloc (Nat.le_refl _) _)
            obtain ⟨Z4, hZ4⟩ : ∃ Z4 : Nat → Prop, Z4 = (fun b => Z3 b ∨ (w3.heap.size ≤ b ∧ b < (w3.alloc (.cells #[.int .i64 on] 3)).heap.size)) := ⟨_, rfl⟩
            rw [← hZ4] at hT4
            have HT4 := hide hT4
            have HZ34 : Hid (∀ b, Z3 b → Z4 b) := hide (fun b hb => by rw [hZ4]; exact .inl hb)
            have HL4 := hide (HLa3.out.stay hk4 (fun b hb => HZ34.out b hb))
            have HRow4 := hide ((hk4 B HZB3.out).trans HRow3.out)
            have HFr4 : Hid ((w3.alloc (.cells #[.int .i64 on] 3)).cell? ⟨w3.heap.size, 0, none⟩ = some (.int .i64 on)) := hide (by have := cell_one_new w3 (.int .i64 on) 3 0 _ rfl; rwa [add0] at this)
            have HZf : Hid (Z4 w3.heap.size) := hide (by rw [hZ4]; exact .inr ⟨Nat.le_refl _, by omega⟩)
            clear hT3 hT4 hk4 hZ4 HT3 HLa3 HRow3 hg hgd hA hwz
            go_upto_region 22 with fail
            obtain ⟨Fb, hFb⟩ : ∃ Fb, w3.heap.size = Fb := ⟨_, rfl⟩
            rw [hFb] at HZf HFr4 ⊢
            clear hFb d0 d2 d3
            generalize w3.alloc (.cells #[.int .i64 on] 3) = w4 at *
            go_loopw [6, 7, 14] (fun vK vW i wq => ∃ (q : Nat) (K2 W2 : List Int), q ≤ 1 ∧ i = .int .i64 (q : Nat) ∧ Hid (K2.length ≤ K.length + q) ∧ Hid (TlS wx wq Z4 X3 g (n + (oR.length + 1)) (setP s on om) vK vW K2 W2) ∧ Hid ((q = 0 → KW K2 W2 s.wt) ∧ (q = 1 → KW K2 W2 (upd s.wt on om))) ∧ Hid (∀ b, Z4 b → wq.heap[b]? = w4.heap[b]?)) (fun _ _ i _ => 1 - (RowKit.intOf i).toNat)
            case atStart => exact ⟨0, K, W, by omega, rfl, hide (by omega), HT4, hide ⟨fun _ => HK.out, fun h => by omega⟩, hide (fun b _ => rfl)⟩
            case round =>
              obtain ⟨q, K2, W2, hq, rfl, HKl, HTq, HKq', HSq⟩ := hrel
              by_cases hlt2 : q < 1
              · obtain rfl : q = 0 := by omega
                have HKq := hide (HKq'.out.1 rfl)
                have f0 := cell_keep (x := ⟨Fb, 0, none⟩) (i := 0) (w' := wr) (by rw [add0]; exact HFr4.out) (HSq.out _ HZf.out)
                rw [add0] at f0
                obtain ⟨kl, hkl⟩ : ∃ kl, K2.length = kl := ⟨_, rfl⟩
                have HKln := hide hkl
                have HKb : Hid (kl ≤ 1048576) := hide (by have := HKl.out; have := HBd.out; have := HCs.out; omega)
                obtain ⟨a6, c6, rfl⟩ : ∃ a c, u6 = .slice a kl c := by
                  obtain ⟨a, c, h⟩ := own_shape HTq.out.two.r1
                  exact ⟨a, c, by rw [h, hkl]⟩
                obtain ⟨a7, c7, rfl⟩ : ∃ a c, u7 = .slice a kl c := by
                  obtain ⟨a, c, h⟩ := own_shape HTq.out.two.r2
                  exact ⟨a, c, by rw [h, HKq.out.len, hkl]⟩
                clear hkl HKq'
                have hwxr := HTq.out.bel.size
                go_wp2_with fail
                refine (in_any wr _ _ K2 (Oi.rd HTq.out.two.r1) (by rw [HKln.out]; have := HKb.out; omega) on).mono ?_
                cases hd : decide (on ∈ K2) with
                | true =>
                  have HMm : Hid (on ∈ K2) := hide (by simpa using hd)
                  clear hd
                  rintro e w5 ⟨rfl, rfl⟩
                  have HTT := HTq
                  have HST := HSq
                  have HWL : Hid (W2.length = kl) := hide (by rw [HKq.out.len, HKln.out])
                  clear f0 HTq HSq
                  have HKLB : Hid (kl ≤ 1048577) := hide (by have := HKb.out; omega)
                  have HRow5 := hide ((HST.out B (HZ34.out B HZB3.out)).trans HRow4.out)
                  have d0 := cell_of_row _ _ 0 _ _ _ HRow5.out
                  simp only [List.getElem?_toArray, List.getElem?_cons_zero] at d0
                  go_upto_region 29 with fail
                  clear d0
                  go_loopw [15] (fun i wq => ∃ (j : Nat) (W3 : List Int), j ≤ kl ∧ i = .int .i64 (j : Nat) ∧ Hid (TlS wx wq Z4 X3 g (n + (oR.length + 1)) (setP s on om) (.slice a6 kl c6) (.slice a7 kl c7) K2 W3) ∧ Hid (W3.length = kl ∧ ∀ i, i < kl → W3.getD i 0 = if i < j ∧ K2.getD i 0 = on then om else W2.getD i 0) ∧ Hid (∀ b, Z4 b → wq.heap[b]? = w4.heap[b]?)) (fun i _ => kl - (RowKit.intOf i).toNat)
                  case atStart => exact ⟨0, W2, by omega, rfl, HTT, hide ⟨HWL.out, fun i hi => by rw [if_neg (fun h => by omega)]⟩, HST⟩
                  case round =>
                    obtain ⟨j, W3, hj, rfl, HTj, HWj, HSj⟩ := hrel
                    have hklb := HKLB.out
                    by_cases hlt3 : j < kl
                    · obtain ⟨y3, rfl, _, hcy⟩ := (Oi.rd HTj.out.two.r1).some_of (by rw [HKln.out]; omega)
                      have f0 := hcy j (by rw [HKln.out]; exact hlt3)
                      have hji : (j : Int) < (kl : Nat) := by omega
                      have hj0 : (0 : Int) ≤ j := by omega
                      obtain ⟨kb, hkb⟩ : ∃ kb, K2.getD j 0 = kb := ⟨_, rfl⟩
                      have HKb2 := hide hkb
                      rw [hkb] at f0
                      clear hcy hkb
                      have HRow6 := hide ((HSj.out B (HZ34.out B HZB3.out)).trans HRow4.out)
                      have d2 := cell_of_row _ _ 2 _ _ _ HRow6.out
                      have d3 := cell_of_row _ _ 3 _ _ _ HRow6.out
                      simp only [List.getElem?_toArray, List.getElem?_cons_zero, List.getElem?_cons_succ] at d2 d3
                      by_cases hne : kb = on
                      · have hnb : (kb == on) = true := by simpa using hne
                        have HNe := hide hne
                        clear hne
                        go_upto_region 31 with fail
                        go_quiet (fail)
                        have HTd := hide (HTj.out.drew (w' := wr.drewN nq) ⟨nq, rfl⟩)
                        obtain ⟨gw, rfl⟩ : ∃ gw, a7 = some ⟨gw, 0, none⟩ := by
                          rcases HTd.out.two.r2.2 with ⟨h1, h2⟩ | ⟨gw, cap, cur, h1, _⟩
                          · have := HWj.out.1; rw [h2] at this; omega
                          · cases h1; exact ⟨gw, rfl⟩
                        have hc9 := Oi.cell (j := j) HTd.out.two.r2 (by rw [HWj.out.1]; exact hlt3)
                        obtain ⟨hc9, hf9⟩ := hc9
                        have h9 := HTd.out.setW (j := j) (z := om)
                        have HT9 := hide h9.1
                        have HS9 : Hid (∀ b, Z4 b → ((wr.drewN nq).setCell ⟨gw, j, none⟩ (.int .i64 om)).heap[b]? = w4.heap[b]?) := hide (fun b hb => (h9.2 b hb).trans (HSj.out b hb))
                        have HRow7 := hide ((HS9.out B (HZ34.out B HZB3.out)).trans HRow4.out)
                        have d3 : (wr.drewN nq).cell? ⟨B, 3, none⟩ = some (.int .i64 om) := d3
                        clear h9 f0
                        go_wp2
                        go_roundw
                        case rel =>
                          refine ⟨j + 1, W3.set j om, by omega, by go_num, HT9, hide ⟨by rw [List.length_set]; exact HWj.out.1, fun i hi => ?_⟩, HS9⟩
                          by_cases hij : i = j
                          · subst hij
                            rw [getD_set_eq (by rw [HWj.out.1]; exact hi), if_pos ⟨by omega, HKb2.out.trans HNe.out⟩]
                          · rw [getD_set_ne hij, HWj.out.2 i hi]
                            by_cases h1 : i < j
                            · by_cases h2 : K2.getD i 0 = on
                              · rw [if_pos ⟨h1, h2⟩, if_pos ⟨by omega, h2⟩]
                              · rw [if_neg (fun h => h2 h.2), if_neg (fun h => h2 h.2)]
                            · rw [if_neg (fun h => h1 h.1), if_neg (fun h => by omega)]
                        case measure => simp [RowKit.intOf]; omega
                      · have hnb : (kb == on) = false := by simpa using hne
                        have HNe := hide hne
                        clear hne
                        go_upto_region 31 with fail
                        go_quiet (fail)
                        have HTd := hide (HTj.out.drew (w' := wr.drewN nq) ⟨nq, rfl⟩)
                        have HS9 : Hid (∀ b, Z4 b → (wr.drewN nq).heap[b]? = w4.heap[b]?) := HSj
                        clear f0 d2 d3
                        go_wp2
                        go_roundw
                        case rel =>
                          refine ⟨j + 1, W3, by omega, by go_num, HTd, hide ⟨HWj.out.1, fun i hi => ?_⟩, HS9⟩
                          rw [HWj.out.2 i hi]
                          by_cases hij : i = j
                          · subst hij
                            rw [if_neg (fun h => by omega), if_neg (fun h => HNe.out (HKb2.out.symm.trans h.2))]
                          · by_cases h1 : i < j
                            · by_cases h2 : K2.getD i 0 = on
                              · rw [if_pos ⟨h1, h2⟩, if_pos ⟨by omega, h2⟩]
                              · rw [if_neg (fun h => h2 h.2), if_neg (fun h => h2 h.2)]
                            · rw [if_neg (fun h => h1 h.1), if_neg (fun h => by omega)]
                        case measure => simp [RowKit.intOf]; omega
                    · obtain rfl : j = kl := by omega
                      have HKf : Hid (KW K2 W3 (upd s.wt on om)) := hide (HKq.out.set HMm.out (by rw [HKln.out]; exact HWj.out.1) (fun i hi => by
                        rw [HKln.out] at hi
                        rw [HWj.out.2 i hi]
                        by_cases h2 : K2.getD i 0 = on
                        · rw [if_pos ⟨hi, h2⟩, if_pos h2]
                        · rw [if_neg (fun h => h2 h.2), if_neg h2]))
                      go_wp2
                      go_roundw
                      case rel => exact ⟨1, K2, W3, by omega, by go_num, hide (by have := HKl.out; omega), HTj, hide ⟨fun h => by omega, fun _ => HKf.out⟩, HSj⟩
                      case measure => first | (simp [RowKit.intOf]; done) | (simp [RowKit.intOf]; omega)
                | false =>
                  have HMm : Hid (on ∉ K2) := hide (by simpa using hd)
                  clear hd
                  rintro e w5 ⟨rfl, rfl⟩
                  have HR1 : Hid (w5.ownsRow wx.heap.size 3 1 (.slice a6 kl c6) kl (K2.map Zi)) := hide (by have := HTq.out.two.r1; rw [HKln.out] at this; exact this)
                  have hkb := HKb.out
                  go_upto_region 26 with (refine wpList_append_own_at _ rfl (.tmp 91) (.tmp 96) 28 rfl wx.heap.size 3 i3 (.int .i64 0) 1 8 Try.underlying28 HI.out.1 HI.out.2.1 HI.out.2.2.1 HI.out.2.2.2 rfl (by decide) _ kl _ rfl (World.ownsRow.alloc HR1.out _) (⟨w5.heap.size, 0, none⟩) 1 1 [.int .i64 on] rfl rfl (cell_one_new _ _ _) (by simp [Value.oneCell']) (by unfold maxLen; omega) (by omega) (by simp; omega) ?_; intro v' w6 hown hg6 _ hat)
                  have h6 := HTq.out.addK (z := on) (by rw [HKln.out]; exact hown) hg6 hat
                  obtain ⟨a8, c8, rfl⟩ := own_shape hown
                  have HT6 := hide h6.1
                  have HS6 : Hid (∀ b, Z4 b → w6.heap[b]? = w4.heap[b]?) := hide (fun b hb => (h6.2 b hb).trans (HSq.out b hb))
                  have HR2 : Hid (w6.ownsRow wx.heap.size 3 1 (.slice a7 kl c7) kl (W2.map Zi)) := hide (by have := HT6.out.two.r2; rw [HKq.out.len, HKln.out] at this; exact this)
                  have hwx6 := HT6.out.bel.size
                  clear h6 hown hg6 hat HR1 f0 HTq HSq
                  go_upto_region 27 with (refine wpList_append_own_at _ rfl (.tmp 98) (.tmp 99) 28 rfl wx.heap.size 3 i3 (.int .i64 0) 1 8 Try.underlying28 HI.out.1 HI.out.2.1 HI.out.2.2.1 HI.out.2.2.2 rfl (by decide) _ kl _ rfl (World.ownsRow.alloc HR2.out _) (⟨w6.heap.size, 0, none⟩) 1 1 [.int .i64 1] rfl rfl (cell_one_new _ _ _) (by simp [Value.oneCell']) (by unfold maxLen; omega) (by omega) (by simp; omega) ?_; intro v' w7 hown hg6 _ hat)
                  have h7 := HT6.out.addW (z := 1) (by rw [HKq.out.len, HKln.out]; exact hown) hg6 hat
                  obtain ⟨a9, c9, rfl⟩ := own_shape hown
                  have HTT := hide h7.1
                  have HST : Hid (∀ b, Z4 b → w7.heap[b]? = w4.heap[b]?) := hide (fun b hb => (h7.2 b hb).trans (HS6.out b hb))
                  clear h7 hown hg6 hat HR2 HT6 HS6
                  obtain ⟨kl1, hkl1⟩ : ∃ z, kl + 1 = z := ⟨_, rfl⟩
                  have HKln1 : Hid ((K2 ++ [on]).length = kl1) := hide (by rw [List.length_append, HKln.out]; exact hkl1)
                  have HWL : Hid ((W2 ++ [1]).length = kl1) := hide (by rw [List.length_append, HKq.out.len, HKln.out]; exact hkl1)
                  have HKb1 : Hid (kl1 ≤ 1048577) := hide (by omega)
                  have HLK : Hid (kl1 ≤ K.length + 1) := hide (by have := HKl.out; rw [HKln.out] at this; omega)
                  rw [hkl1] at HTT ⊢
                  clear hkl1
                  have HKLB : Hid (kl1 ≤ 1048577) := hide (HKb1.out)
                  have HRow5 := hide ((HST.out B (HZ34.out B HZB3.out)).trans HRow4.out)
                  have d0 := cell_of_row _ _ 0 _ _ _ HRow5.out
                  simp only [List.getElem?_toArray, List.getElem?_cons_zero] at d0
                  go_upto_region 29 with fail
                  clear d0
                  go_loopw [15] (fun i wq => ∃ (j : Nat) (W3 : List Int), j ≤ kl1 ∧ i = .int .i64 (j : Nat) ∧ Hid (TlS wx wq Z4 X3 g (n + (oR.length + 1)) (setP s on om) (.slice a8 kl1 c8) (.slice a9 kl1 c9) (K2 ++ [on]) W3) ∧ Hid (W3.length = kl1 ∧ ∀ i, i < kl1 → W3.getD i 0 = if i < j ∧ (K2 ++ [on]).getD i 0 = on then om else (W2 ++ [1]).getD i 0) ∧ Hid (∀ b, Z4 b → wq.heap[b]? = w4.heap[b]?)) (fun i _ => kl1 - (RowKit.intOf i).toNat)
                  case atStart => exact ⟨0, (W2 ++ [1]), by omega, rfl, HTT, hide ⟨HWL.out, fun i hi => by rw [if_neg (fun h => by omega)]⟩, HST⟩
                  case round =>
                    obtain ⟨j, W3, hj, rfl, HTj, HWj, HSj⟩ := hrel
                    have hklb := HKLB.out
                    by_cases hlt3 : j < kl1
                    · obtain ⟨y3, rfl, _, hcy⟩ := (Oi.rd HTj.out.two.r1).some_of (by rw [HKln1.out]; omega)
                      have f0 := hcy j (by rw [HKln1.out]; exact hlt3)
                      have hji : (j : Int) < (kl1 : Nat) := by omega
                      have hj0 : (0 : Int) ≤ j := by omega
                      obtain ⟨kb, hkb⟩ : ∃ kb, (K2 ++ [on]).getD j 0 = kb := ⟨_, rfl⟩
                      have HKb2 := hide hkb
                      rw [hkb] at f0
                      clear hcy hkb
                      have HRow6 := hide ((HSj.out B (HZ34.out B HZB3.out)).trans HRow4.out)
                      have d2 := cell_of_row _ _ 2 _ _ _ HRow6.out
                      have d3 := cell_of_row _ _ 3 _ _ _ HRow6.out
                      simp only [List.getElem?_toArray, List.getElem?_cons_zero, List.getElem?_cons_succ] at d2 d3
                      by_cases hne : kb = on
                      · have hnb : (kb == on) = true := by simpa using hne
                        have HNe := hide hne
                        clear hne
                        go_upto_region 31 with fail
                        go_quiet (fail)
                        have HTd := hide (HTj.out.drew (w' := wr.drewN nq) ⟨nq, rfl⟩)
                        obtain ⟨gw, rfl⟩ : ∃ gw, a9 = some ⟨gw, 0, none⟩ := by
                          rcases HTd.out.two.r2.2 with ⟨h1, h2⟩ | ⟨gw, cap, cur, h1, _⟩
                          · have := HWj.out.1; rw [h2] at this; omega
                          · cases h1; exact ⟨gw, rfl⟩
                        have hc9 := Oi.cell (j := j) HTd.out.two.r2 (by rw [HWj.out.1]; exact hlt3)
                        obtain ⟨hc9, hf9⟩ := hc9
                        have h9 := HTd.out.setW (j := j) (z := om)
                        have HT9 := hide h9.1
                        have HS9 : Hid (∀ b, Z4 b → ((wr.drewN nq).setCell ⟨gw, j, none⟩ (.int .i64 om)).heap[b]? = w4.heap[b]?) := hide (fun b hb => (h9.2 b hb).trans (HSj.out b hb))
                        have HRow7 := hide ((HS9.out B (HZ34.out B HZB3.out)).trans HRow4.out)
                        have d3 : (wr.drewN nq).cell? ⟨B, 3, none⟩ = some (.int .i64 om) := d3
                        clear h9 f0
                        go_wp2
                        go_roundw
                        case rel =>
                          refine ⟨j + 1, W3.set j om, by omega, by go_num, HT9, hide ⟨by rw [List.length_set]; exact HWj.out.1, fun i hi => ?_⟩, HS9⟩
                          by_cases hij : i = j
                          · subst hij
                            rw [getD_set_eq (by rw [HWj.out.1]; exact hi), if_pos ⟨by omega, HKb2.out.trans HNe.out⟩]
                          · rw [getD_set_ne hij, HWj.out.2 i hi]
                            by_cases h1 : i < j
                            · by_cases h2 : (K2 ++ [on]).getD i 0 = on
                              · rw [if_pos ⟨h1, h2⟩, if_pos ⟨by omega, h2⟩]
                              · rw [if_neg (fun h => h2 h.2), if_neg (fun h => h2 h.2)]
                            · rw [if_neg (fun h => h1 h.1), if_neg (fun h => by omega)]
                        case measure => simp [RowKit.intOf]; omega
                      · have hnb : (kb == on) = false := by simpa using hne
                        have HNe := hide hne
                        clear hne
                        go_upto_region 31 with fail
                        go_quiet (fail)
                        have HTd := hide (HTj.out.drew (w' := wr.drewN nq) ⟨nq, rfl⟩)
                        have HS9 : Hid (∀ b, Z4 b → (wr.drewN nq).heap[b]? = w4.heap[b]?) := HSj
                        clear f0 d2 d3
                        go_wp2
                        go_roundw
                        case rel =>
                          refine ⟨j + 1, W3, by omega, by go_num, HTd, hide ⟨HWj.out.1, fun i hi => ?_⟩, HS9⟩
                          rw [HWj.out.2 i hi]
                          by_cases hij : i = j
                          · subst hij
                            rw [if_neg (fun h => by omega), if_neg (fun h => HNe.out (HKb2.out.symm.trans h.2))]
                          · by_cases h1 : i < j
                            · by_cases h2 : (K2 ++ [on]).getD i 0 = on
                              · rw [if_pos ⟨h1, h2⟩, if_pos ⟨by omega, h2⟩]
                              · rw [if_neg (fun h => h2 h.2), if_neg (fun h => h2 h.2)]
                            · rw [if_neg (fun h => h1 h.1), if_neg (fun h => by omega)]
                        case measure => simp [RowKit.intOf]; omega
                    · obtain rfl : j = kl1 := by omega
                      have HKf : Hid (KW (K2 ++ [on]) W3 (upd s.wt on om)) := hide (HKq.out.setNew HMm.out (by rw [HKln1.out]; exact HWj.out.1) (fun i hi => by
                        rw [HKln1.out] at hi
                        rw [HWj.out.2 i hi]
                        by_cases h2 : (K2 ++ [on]).getD i 0 = on
                        · rw [if_pos ⟨hi, h2⟩, if_pos h2]
                        · rw [if_neg (fun h => h2 h.2), if_neg h2]))
                      go_wp2
                      go_roundw
                      case rel => exact ⟨1, (K2 ++ [on]), W3, by omega, by go_num, hide (by have h9 := HLK.out; have h8 := HKln1.out; omega), HTj, hide ⟨fun h => by omega, fun _ => HKf.out⟩, HSj⟩
                      case measure => first | (simp [RowKit.intOf]; done) | (simp [RowKit.intOf]; omega)
              · obtain rfl : q = 1 := by omega
                have HKe : Hid (KW K2 W2 (setP s on om).wt) := hide (HKq'.out.2 rfl)
                have HLe := hide (HL4.out.stay HSq.out (fun b hb => hb))
                go_wp2
                go_roundw
                case rel => exact ⟨k + 1, _, Z4, X3, setP s on om, K2, W2, c, R, by omega, by go_num, hide (show (setP s on om).kind = _ from HKd.out), hide (by have := HBd.out; have := HCs.out; have := HKl.out; have := HZl.out; omega), HTq, HKe, HLe, hide (HLs.out.set on om)⟩
                case measure => simp [RowKit.intOf]; omega
          | false =>
            have hT3 := HT3.out
            rw [stepS_bad' rfl hg] at hT3
            have HT4 := hide hT3
            have hgd : (decide (1 ≤ on) && decide (1 ≤ om) && decide (om ≤ 8)) = false := hg
            clear hT3 HT3 hg hA
            by_cases q1 : 1 ≤ on
            · by_cases q2 : 1 ≤ om
              · have q3 : ¬ om ≤ 8 := by simpa [q1, q2] using hgd
                clear hgd
                go_upto_region 22 with fail
                go_loopw [6, 7, 14] (fun vK vW i wq => i = .int .i64 0 ∧ vK = u6 ∧ vW = u7 ∧ wq = w3) (fun _ _ _ _ => 0)
                case atStart => exact ⟨rfl, rfl, rfl, rfl⟩
                case round =>
                  obtain ⟨rfl, rfl, rfl, rfl⟩ := hrel
                  go_wp2
                  go_roundw
                  case rel => exact ⟨k + 1, _, Z3, X3, _, K, W, c, R, by omega, by go_num, HKd, hide (by have := HBd.out; have := HCs.out; have := HZl.out; omega), HT4, HK, HLa3, HLs⟩
                  case measure => simp [RowKit.intOf]; omega
              · clear hgd
                go_upto_region 22 with fail
                go_loopw [6, 7, 14] (fun vK vW i wq => i = .int .i64 0 ∧ vK = u6 ∧ vW = u7 ∧ wq = w3) (fun _ _ _ _ => 0)
                case atStart => exact ⟨rfl, rfl, rfl, rfl⟩
                case round =>
                  obtain ⟨rfl, rfl, rfl, rfl⟩ := hrel
                  go_wp2
                  go_roundw
                  case rel => exact ⟨k + 1, _, Z3, X3, _, K, W, c, R, by omega, by go_num, HKd, hide (by have := HBd.out; have := HCs.out; have := HZl.out; omega), HT4, HK, HLa3, HLs⟩
                  case measure => simp [RowKit.intOf]; omega
            · clear hgd
              go_upto_region 22 with fail
              go_loopw [6, 7, 14] (fun vK vW i wq => i = .int .i64 0 ∧ vK = u6 ∧ vW = u7 ∧ wq = w3) (fun _ _ _ _ => 0)
              case atStart => exact ⟨rfl, rfl, rfl, rfl⟩
              case round =>
                obtain ⟨rfl, rfl, rfl, rfl⟩ := hrel
                go_wp2
                go_roundw
                case rel => exact ⟨k + 1, _, Z3, X3, _, K, W, c, R, by omega, by go_num, HKd, hide (by have := HBd.out; have := HCs.out; have := HZl.out; omega), HT4, HK, HLa3, HLs⟩
                case measure => simp [RowKit.intOf]; omega
        · have hT3 := HT3.out
          rw [stepS_none hk2 hA] at hT3
          have HT4 := hide hT3
          have hk2b : (ok == 2) = false := by simpa using hk2
          clear hT3 HT3 hk2 hA
          go_upto_region 22 with fail
          go_loopw [6, 7, 14] (fun vK vW i wq => i = .int .i64 0 ∧ vK = u6 ∧ vW = u7 ∧ wq = w3) (fun _ _ _ _ => 0)
          case atStart => exact ⟨rfl, rfl, rfl, rfl⟩
          case round =>
            obtain ⟨rfl, rfl, rfl, rfl⟩ := hrel
            go_wp2
            go_roundw
            case rel => exact ⟨k + 1, _, Z3, X3, _, K, W, c, R, by omega, by go_num, HKd, hide (by have := HBd.out; have := HCs.out; have := HZl.out; omega), HT4, HK, HLa3, HLs⟩
            case measure => simp [RowKit.intOf]; omega
    · obtain rfl : k = m := by omega
      have hnk : n ≤ 2097152 := by have := HBd.out; have := cost_take os k; omega
      have hKk : K.length ≤ 1048576 := by have := HBd.out; have := cost_take os k; omega
      have hRr : R.length ≤ 1048576 := HBd.out.2.2
      go_wp2_with fail
      refine (Told_any wr g n X s HT.out.pl (by omega)).mono ?_
      rintro e w3 ⟨vt, ks, rfl, a1, a2, a3, a4, a5⟩
      have hkl := HK.out.told a2 a3
      obtain ⟨kl, hkl2⟩ : ∃ kl, K.length = kl := ⟨_, rfl⟩
      have HKln := hide hkl2
      rw [hkl2] at hkl hKk
      have HKsl := hide hkl
      have HKs := hide (And.intro a2 a3)
      have hT3 := HT.out.below a5
      obtain ⟨Z3, hZ3⟩ : ∃ Z3 : Nat → Prop, Z3 = (fun b => Z b ∨ (wr.heap.size ≤ b ∧ b < w3.heap.size)) := ⟨_, rfl⟩
      have HL3 := hide (HL.out.stay hT3.2 (Z' := Z3) (fun b hb => by rw [hZ3]; exact .inl hb))
      have HT3 := hide hT3.1
      rw [← hZ3] at HT3
      have hTl : (told s ks).length = kl := by unfold told; rw [List.length_map, hkl]
      have HS3 := hide (a1.shr.mono (S' := fun b => b < w3.heap.size) (fun b hb => hb.2))
      obtain ⟨at3, ct3, rfl⟩ : ∃ a c, vt = .slice a kl c := by
        obtain ⟨a, c, h⟩ := own_shape a1
        exact ⟨a, c, by rw [h, hTl]⟩
      obtain ⟨a6, c6, rfl⟩ : ∃ a c, u6 = .slice a kl c := by
        obtain ⟨a, c, h⟩ := own_shape HT3.out.two.r1
        exact ⟨a, c, by rw [h, hkl2]⟩
      obtain ⟨a7, c7, rfl⟩ : ∃ a c, u7 = .slice a kl c := by
        obtain ⟨a, c, h⟩ := own_shape HT3.out.two.r2
        exact ⟨a, c, by rw [h, HK.out.len, hkl2]⟩
      have HTl := hide hTl
      have hLw3 : L < w3.heap.size := by obtain ⟨_, _, h9, _⟩ := HL3.out; exact HT3.out.lt L h9
      have hwx3 := HT3.out.bel.size
      have HKr : Hid (Rd (fun b => b < w3.heap.size) w3 (.slice a6 kl c6) K) := hide ((Oi.rd HT3.out.two.r1).mono (fun b hb => hb.2.1))
      have HWr : Hid (Rd (fun b => b < w3.heap.size) w3 (.slice a7 kl c7) W) := hide ((Oi.rd HT3.out.two.r2).mono (fun b hb => hb.2.1))
      clear a1 a2 a3 a4 a5 hT3 hZ3 hkl hkl2 hTl HL HT
      go_upto_region 37 with fail
      go_loopw [17] (fun i wq => ∃ j : Nat, j ≤ kl ∧ i = .int .i64 (j : Nat) ∧ Hid (Below w3.heap.size w3 wq)) (fun i _ => kl - (RowKit.intOf i).toNat)
      case atStart => exact ⟨0, by omega, rfl, hide (Below.refl _ _)⟩
      case round =>
        obtain ⟨j, hj, rfl, HB⟩ := hrel
        by_cases hlt2 : j < kl
        · have hjk : j < ks.length := by rw [HKsl.out]; exact hlt2
          obtain ⟨kj, hkj⟩ : ∃ kj, ks[j] = kj := ⟨_, rfl⟩
          have HKj := hide hkj
          have hx : (told s ks)[j]? = some ⟨kj, val s.wt kj, psv s kj⟩ := by unfold told; rw [List.getElem?_map, List.getElem?_eq_getElem hjk, hkj]; rfl
          obtain ⟨y, rfl, _, c0, c1, c2⟩ := (HS3.out.keep (w' := wr) (fun b hb => HB.out.block b hb)).at hx
          obtain ⟨xw, hxw⟩ : ∃ xw, val s.wt kj = xw := ⟨_, rfl⟩
          obtain ⟨xp, hxp⟩ : ∃ xp, psv s kj = xp := ⟨_, rfl⟩
          have HXw := hide hxw
          have HXp := hide hxp
          rw [hxw, hxp] at c2 c1 c0
          dsimp only at c0 c1 c2
          have hji : (j : Int) < kl := by omega
          obtain ⟨B, hB⟩ : ∃ B, wr.heap.size = B := ⟨_, rfl⟩
          have HB1 : Hid (Below w3.heap.size w3 (wr.alloc (.cells #[.int .i64 kj, .int .i64 xw, .int .i64 xp] 37))) := hide (HB.out.alloc HB.out.size _)
          have HRow : Hid ((wr.alloc (.cells #[.int .i64 kj, .int .i64 xw, .int .i64 xp] 37)).heap[B]? = some (.cells #[.int .i64 kj, .int .i64 xw, .int .i64 xp] 37 (0, 0))) := hide (by rw [← hB]; exact heap_alloc_last _ _)
          clear hx hkj hxw hxp
          go_upto_region 40 with fail
          generalize wr.alloc (.cells #[.int .i64 kj, .int .i64 xw, .int .i64 xp] 37) = w4 at *
          clear hB c0 c1 c2
          go_cut [151] from 139 to 151 (fun v wz => v = .bool false ∧ ∃ nd, wz = w4.drewN nd)
          case first =>
            cases j with
            | zero =>
              go_quiet (fail)
              go_wp2_with fail
              go_meet
              case rel => exact ⟨rfl, _, rfl⟩
            | succ jj =>
              obtain ⟨kp, hkp⟩ : ∃ kp, ks[jj]'(by omega) = kp := ⟨_, rfl⟩
              have hx : (told s ks)[jj]? = some ⟨kp, val s.wt kp, psv s kp⟩ := by unfold told; rw [List.getElem?_map, List.getElem?_eq_getElem (by omega), hkp]; rfl
              obtain ⟨y2, hy2, _, c0, _, _⟩ := (HS3.out.keep (w' := w4) (fun b hb => HB1.out.block b hb)).at hx
              cases hy2
              have hlt9 : kp < kj := by
                have := List.pairwise_iff_getElem.1 HKs.out.1 jj (jj + 1) (by omega) hjk (by omega)
                rw [hkp, HKj.out] at this
                exact this
              have hge : decide (kj ≤ kp) = false := by simpa using hlt9
              have d0 := cell_of_row _ _ 0 _ _ _ HRow.out
              simp only [List.getElem?_toArray, List.getElem?_cons_zero] at d0
              have hjj : IntKind.i64.wrap (((jj + 1 : Nat) : Int) - 1) = (jj : Nat) := by rw [show ((jj + 1 : Nat) : Int) - 1 = (jj : Int) by omega]; exact wi _ (by omega) (by omega)
              have hj1 : (jj : Int) < kl := by omega
              dsimp only at c0
              clear hx hkp hlt9
              go_quiet (fail)
              go_wp2_with fail
              go_meet
              case rel => exact ⟨rfl, _, rfl⟩
          case rest =>
            obtain ⟨hv, nd, hw⟩ := hcut
            subst hv
            subst hw
            have HB5 : Hid (Below w3.heap.size w3 (w4.drewN nd)) := hide (HB1.out.trans (drewN_below _ _ _))
            have HRow5 : Hid ((w4.drewN nd).heap[B]? = some (.cells #[.int .i64 kj, .int .i64 xw, .int .i64 xp] 37 (0, 0))) := HRow
            clear HB1 HRow
            generalize w4.drewN nd = w5 at *
            obtain ⟨pq, hpq, hpk, hpw⟩ : ∃ pq, pq < kl ∧ K.getD pq 0 = kj ∧ W.getD pq 0 = xw := by
              have hm : kj ∈ K := HK.out.mem.2 ((HKs.out.2 kj).1 (by rw [← HKj.out]; exact List.getElem_mem _))
              obtain ⟨pq, h1, h2⟩ := List.getElem_of_mem hm
              have h3 : K.getD pq 0 = kj := by rw [getD_lt h1]; exact h2
              have h4 := HK.out.val pq h1
              rw [h3] at h4
              refine ⟨pq, by rw [← HKln.out]; exact h1, h3, ?_⟩
              rw [← HXw.out]
              unfold val
              rw [h4]; rfl
            have HPq := hide (And.intro hpq (And.intro hpk hpw))
            clear hpq hpk hpw
            go_upto_region 44 with fail
            go_loopw [19, 20] (fun f i wq => ∃ (q : Nat) (fb : Bool), q ≤ kl ∧ i = .int .i64 (q : Nat) ∧ f = .bool fb ∧ Hid (pq < q → fb = true) ∧ Hid (Drews w5 wq)) (fun _ i _ => kl - (RowKit.intOf i).toNat)
            case atStart => exact ⟨0, false, by omega, rfl, rfl, hide (fun h => by omega), hide (Drews.refl _)⟩
            case round =>
              obtain ⟨q, fb, hq, rfl, rfl, HF9, HD⟩ := hrel
              by_cases hlt3 : q < kl
              · have HBq := hide (HB5.out.trans (HD.out.below _))
                obtain ⟨y6, rfl, _, hc6⟩ := (HKr.out.keep (w' := wr) (fun b hb => HBq.out.block b hb)).some_of (by rw [HKln.out]; omega)
                obtain ⟨y7, rfl, _, hc7⟩ := (HWr.out.keep (w' := wr) (fun b hb => HBq.out.block b hb)).some_of (by rw [HK.out.len, HKln.out]; omega)
                have c6 := hc6 q (by rw [HKln.out]; exact hlt3)
                have c7 := hc7 q (by rw [HK.out.len, HKln.out]; exact hlt3)
                have HRow6 : Hid (wr.heap[B]? = some (.cells #[.int .i64 kj, .int .i64 xw, .int .i64 xp] 37 (0, 0))) := hide (by rw [HD.out.heap]; exact HRow5.out)
                have d0 := cell_of_row _ _ 0 _ _ _ HRow6.out
                have d1 := cell_of_row _ _ 1 _ _ _ HRow6.out
                simp only [List.getElem?_toArray, List.getElem?_cons_zero, List.getElem?_cons_succ] at d0 d1
                obtain ⟨kq, hkq⟩ : ∃ kq, K.getD q 0 = kq := ⟨_, rfl⟩
                obtain ⟨wq, hwq⟩ : ∃ wq, W.getD q 0 = wq := ⟨_, rfl⟩
                rw [hkq] at c6
                rw [hwq] at c7
                have HKq := hide (And.intro hkq hwq)
                have hqi : (q : Int) < kl := by omega
                have hq0 : (0 : Int) ≤ q := by omega
                clear hc6 hc7 hkq hwq
                cases fb with
                | true =>
                  clear c6 c7 d0 d1
                  go_upto_region 46 with fail
                  go_quiet (fail)
                  have HD2 : Hid (Drews w5 (wr.drewN nq)) := hide (HD.out.trans ⟨nq, rfl⟩)
                  go_wp2
                  go_roundw
                  case rel => exact ⟨q + 1, true, by omega, by go_num, rfl, hide (fun _ => rfl), HD2⟩
                  case measure => simp [RowKit.intOf]; omega
                | false =>
                  by_cases hk9 : kq = kj
                  · have hkb : (kq == kj) = true := by simpa using hk9
                    by_cases hw9 : wq = xw
                    · have hwb : (wq == xw) = true := by simpa using hw9
                      clear hk9 hw9
                      go_upto_region 46 with fail
                      go_quiet (fail)
                      have HD2 : Hid (Drews w5 (wr.drewN nq)) := hide (HD.out.trans ⟨nq, rfl⟩)
                      clear c6 c7 d0 d1
                      go_wp2
                      go_roundw
                      case rel => exact ⟨q + 1, true, by omega, by go_num, rfl, hide (fun _ => rfl), HD2⟩
                      case measure => simp [RowKit.intOf]; omega
                    · have hwb : (wq == xw) = false := by simpa using hw9
                      have HNe : Hid (pq < q + 1 → pq < q) := hide (fun h => by
                        rcases Nat.lt_or_ge pq q with h9 | h9
                        · exact h9
                        · obtain rfl : pq = q := by omega
                          exact absurd (HKq.out.2.symm.trans HPq.out.2.2) hw9)
                      clear hk9 hw9
                      go_upto_region 46 with fail
                      go_quiet (fail)
                      have HD2 : Hid (Drews w5 (wr.drewN nq)) := hide (HD.out.trans ⟨nq, rfl⟩)
                      clear c6 c7 d0 d1
                      go_wp2
                      go_roundw
                      case rel => exact ⟨q + 1, false, by omega, by go_num, rfl, hide (fun h => HF9.out (HNe.out h)), HD2⟩
                      case measure => simp [RowKit.intOf]; omega
                  · have hkb : (kq == kj) = false := by simpa using hk9
                    have HNe : Hid (pq < q + 1 → pq < q) := hide (fun h => by
                      rcases Nat.lt_or_ge pq q with h9 | h9
                      · exact h9
                      · obtain rfl : pq = q := by omega
                        exact absurd (HKq.out.1.symm.trans HPq.out.2.1) hk9)
                    clear hk9
                    go_upto_region 46 with fail
                    go_quiet (fail)
                    have HD2 : Hid (Drews w5 (wr.drewN nq)) := hide (HD.out.trans ⟨nq, rfl⟩)
                    clear c6 c7 d0 d1
                    go_wp2
                    go_roundw
                    case rel => exact ⟨q + 1, false, by omega, by go_num, rfl, hide (fun h => HF9.out (HNe.out h)), HD2⟩
                    case measure => simp [RowKit.intOf]; omega
              · obtain rfl : q = kl := by omega
                obtain rfl : fb = true := HF9.out HPq.out.1
                have HBq := hide (HB5.out.trans (HD.out.below _))
                have HRow6 : Hid (wr.heap[B]? = some (.cells #[.int .i64 kj, .int .i64 xw, .int .i64 xp] 37 (0, 0))) := hide (by rw [HD.out.heap]; exact HRow5.out)
                have d0 := cell_of_row _ _ 0 _ _ _ HRow6.out
                have d2 := cell_of_row _ _ 2 _ _ _ HRow6.out
                simp only [List.getElem?_toArray, List.getElem?_cons_zero, List.getElem?_cons_succ] at d0 d2
                obtain ⟨ul, bb, hl1, hl2, hl3, hl4⟩ := HL3.out
                have HRL := hide (((hl4.mono (S' := fun b => b < w3.heap.size) (fun b hb => HT3.out.lt b hb.1)).keep (w' := wr) (fun b hb => HBq.out.block b hb)))
                have HL6 : Hid (wr.heap[L]? = some (.cells #[ul, .int .i64 c, .bool bb] 30 (0, 0))) := hide (by rw [HBq.out.block L hLw3]; exact hl3)
                have g0 := cell_of_row _ _ 0 _ _ _ HL6.out
                have g1 := cell_of_row _ _ 1 _ _ _ HL6.out
                simp only [List.getElem?_toArray, List.getElem?_cons_zero, List.getElem?_cons_succ] at g0 g1
                clear hl1 hl2 hl3 hl4
                have HLs' := HLs.out
                rcases (show z = 0 ∨ z = 1 ∨ z = 2 by omega) with hz0 | hz0 | hz0
                · have hkd : s.kind = 1 := by rw [HKd.out, hz0]
                  have hz1 : ((1 + (z : Int)) == 1) = true := by simp; omega
                  have hz3 : ((1 + (z : Int)) == 3) = false := by simp; omega
                  clear hz0
                  have hp : xp = if kj = c then 1 else 0 := by rw [← HXp.out]; unfold psv; rw [if_pos hkd, HLs'.t hkd]
                  clear HLs' hkd
                  by_cases hkc : kj = c
                  · rw [if_pos hkc] at hp
                    subst hp
                    have hkb : (kj == c) = true := by simpa using hkc
                    clear hkc
                    go_wp2
                    go_roundw
                    case rel => exact ⟨j + 1, by omega, by go_num, HBq⟩
                    case measure => simp [RowKit.intOf]; omega
                  · rw [if_neg hkc] at hp
                    subst hp
                    have hkb : (kj == c) = false := by simpa using hkc
                    clear hkc
                    go_wp2
                    go_roundw
                    case rel => exact ⟨j + 1, by omega, by go_num, HBq⟩
                    case measure => simp [RowKit.intOf]; omega
                · have hz1 : ((1 + (z : Int)) == 1) = false := by simp; omega
                  have hz3 : ((1 + (z : Int)) == 3) = false := by simp; omega
                  clear hz0 HLs' d0 d2 g0 g1
                  go_wp2
                  go_roundw
                  case rel => exact ⟨j + 1, by omega, by go_num, HBq⟩
                  case measure => simp [RowKit.intOf]; omega
                · have hkd : s.kind = 3 := by rw [HKd.out, hz0]
                  have hz1 : ((1 + (z : Int)) == 1) = false := by simp; omega
                  have hz3 : ((1 + (z : Int)) == 3) = true := by simp; omega
                  clear hz0
                  have hp : ∀ x, (x = c ∨ x ∉ R) → val s.ps x = 0 := HLs'.r hkd
                  have hps : psv s kj = val s.ps kj := by unfold psv; rw [if_neg (by omega)]
                  have HP0 : Hid ((kj = c ∨ kj ∉ R) → xp = 0) := hide (fun h => by rw [← HXp.out, hps]; exact hp kj h)
                  clear HLs' hkd hp hps
                  by_cases hkc : kj = c
                  · obtain rfl : xp = 0 := HP0.out (.inl hkc)
                    have hkb : (kj == c) = true := by simpa using hkc
                    clear hkc
                    go_wp2
                    go_roundw
                    case rel => exact ⟨j + 1, by omega, by go_num, HBq⟩
                    case measure => simp [RowKit.intOf]; omega
                  · have hkb : (kj == c) = false := by simpa using hkc
                    clear hkc
                    go_wp2_with fail
                    refine (in_any wr _ _ R HRL.out (by omega) kj).mono ?_
                    cases hd : decide (kj ∈ R) with
                    | true =>
                      clear hd
                      rintro e w8 ⟨rfl, rfl⟩
                      go_wp2
                      go_roundw
                      case rel => exact ⟨j + 1, by omega, by go_num, HBq⟩
                      case measure => simp [RowKit.intOf]; omega
                    | false =>
                      obtain rfl : xp = 0 := HP0.out (.inr (by simpa using hd))
                      clear hd
                      rintro e w8 ⟨rfl, rfl⟩
                      go_wp2
                      go_roundw
                      case rel => exact ⟨j + 1, by omega, by go_num, HBq⟩
                      case measure => simp [RowKit.intOf]; omega
        · obtain rfl : j = kl := by omega
          have HPf := hide (HT3.out.pl.below HB.out)
          have HBf := hide (HT3.out.bel.trans (HB.out.mono hwx3))
          have hwxr := HBf.out.size
          go_wp2_with fail
          refine (apart_any wr g n X s HPf.out hnk).mono ?_
          rintro e w9 ⟨rfl, hb9⟩
          have HB9 := hide (HBf.out.trans (hb9.mono hwxr))
          clear hb9
          go_wp2
          go_ret
          exact ⟨rfl, HB9.out⟩
end
end Go.Proofs.Ytngmnlmagbfijaa
