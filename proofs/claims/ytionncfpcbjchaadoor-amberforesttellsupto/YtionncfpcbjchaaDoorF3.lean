import Derived.Test.YtionncfpcbjchaaDoorF2
namespace Go.Proofs.YtionncfpcbjchaaDoor
open Go.RowKit
def iN (W : List Nat) : List Int := W.map (fun n : Nat => ((n : Nat) : Int))
theorem iN64 {W : List Nat} (h : ∀ n ∈ W, n < 4294967296) : ∀ z ∈ iN W, I64 z := by
  intro z hz
  simp [iN] at hz
  obtain ⟨n, hn, rfl⟩ := hz
  have := h n hn
  constructor <;> omega
theorem iN_len (W : List Nat) : (iN W).length = W.length := by simp [iN]
theorem iN_step {W : List Nat} {k : Nat} {z : Nat} (hz : W[k]? = some z) : iN (W.take k) ++ [(z : Int)] = iN (W.take (k + 1)) := by
  rw [List.take_add_one, hz]
  simp [iN]
set_option maxRecDepth 100000 in
set_option maxHeartbeats 2000000 in
theorem ints_any (w : World) (B n c : Nat) (W : List Nat) (hn : W.length = n) (hnc : n ≤ c) (hc : ∀ (i : Nat) (z : Nat), W[i]? = some z → w.cell? ⟨B, i, none⟩ = some (.int .u32 (z : Nat))) (hW : ∀ n ∈ W, n < 4294967296) (hl : W.length ≤ 1000) :
    Calls Tryd.prog 27 #[.slice (some ⟨B, 0, none⟩) n c] w fun e w' => ∃ v, e = .returned v ∧ OwI w' w.heap.size v (iN W) ∧ Below w.heap.size w w' := by
  have H0 : Hid (OwI w w.heap.size (.slice none 0 0) (iN (W.take 0)) ∧ Below w.heap.size w w) := hide ⟨by simpa [iN] using OwI.nil w w.heap.size, Below.refl _ _⟩
  have HC := hide hc
  have HW := hide hW
  clear hc hW
  go_enter Tryd.func27, Tryd.ntmps27
  go_wp2
  go_loopw [8, 3] (fun i s wr => ∃ k : Nat, k ≤ n ∧ i = .int .i64 (k : Int) ∧ Hid (OwI wr w.heap.size s (iN (W.take k)) ∧ Below w.heap.size w wr)) (fun i _ _ => n - (intOf i).toNat)
  case atStart => exact ⟨0, by omega, rfl, H0⟩
  case round =>
    obtain ⟨k, hk, rfl, HR⟩ := hrel
    by_cases hlt : k < n
    · have hd : decide ((k : Int) < (n : Int)) = true := by simp; omega
      obtain ⟨z, hz⟩ : ∃ z, W[k]? = some z := ⟨W[k], by simp⟩
      have hB : B < w.heap.size := cell_lt (HC.out k z hz)
      have hcl : wr.cell? ⟨B, k, none⟩ = some (.int .u32 (z : Nat)) := by rw [HR.out.2.cell (p := ⟨B, k, none⟩) hB]; exact HC.out k z hz
      have hz4 := HW.out z (List.mem_of_getElem? hz)
      have hwz : IntKind.i64.wrap (z : Int) = (z : Int) := by rw [IntKind.wrap_i64]; omega
      have HZ := hide hz
      obtain ⟨a, m, c1, hs, hml, hmc⟩ := HR.out.1.len2
      subst hs
      have hb1 : Below wr.heap.size wr (wr.alloc (.cells #[.int .i64 (z : Nat)] 3)) := (Below.refl _ _).alloc (Nat.le_refl _) _
      have HO1 := hide (HR.out.1.up hb1)
      have HB1 := hide (HR.out.2.trans (hb1.mono HR.out.2.size))
      have HN1 : Hid (RdI (wr.alloc (.cells #[.int .i64 (z : Nat)] 3)) (.slice (some ⟨wr.heap.size, 0, none⟩) 1 1) [(z : Int)]) := hide (by have := RdI.new wr [(z : Int)] 1 1 rfl (Nat.le_refl _); simpa [In] using this)
      clear hz hb1
      go_wp2_with (at_builtin; refine app_ints rfl _ _ rfl w.heap.size _ (iN (W.take k)) rfl HO1.out [(z : Int)] _ rfl HN1.out (by rw [iN_len, List.length_take]; simp; omega) (by have := HB1.out.size; omega) ?_; intro v1 w1 ho1 hg1; obtain ⟨a1, n1, c2, rfl, hln1, hlc1⟩ := ho1.len2)
      have HN : Hid (OwI w1 w.heap.size (.slice a1 n1 c2) (iN (W.take (k + 1))) ∧ Below w.heap.size w w1) := hide ⟨by rw [← iN_step HZ.out]; exact ho1, HB1.out.trans (below_grown HO1.out hg1 (Nat.le_refl _) HB1.out.size)⟩
      clear ho1 hg1 HO1 HN1 HB1 HR hcl hln1
      go_roundw
      case rel => exact ⟨k + 1, by omega, by go_num, HN⟩
      case measure => simp [intOf]; omega
    · have hd : decide ((k : Int) < (n : Int)) = false := by simp; omega
      obtain rfl : k = n := by omega
      rw [← hn, List.take_length] at HR
      clear H0
      go_wp2
      go_ret
      exact ⟨_, rfl, HR.out.1, HR.out.2⟩
/-- a guest's registers: R0 .. R7, PC -/
def rgL (W : List Nat) : List Value := W.map (fun n : Nat => Value.int .u32 ((n : Nat) : Int))
theorem rgL_get {W : List Nat} {i z : Nat} (h : W[i]? = some z) : (rgL W)[i]? = some (.int .u32 (z : Nat)) := by simp [rgL, h]
theorem info_rg : (Tryd.prog.info? 35).map (·.size) = some 9 := by kernel_rfl
set_option maxRecDepth 100000 in
set_option maxHeartbeats 2000000 in
theorem registers_any (w : World) (b : Nat) (T : Tx) (W : List Nat) (p : Nat) (h3 : 3 ≤ b) (h : Sh w b T) (hF : Opn T) (hn : W.length = 8) (hW : ∀ n ∈ W ++ [p], n < 4294967296) (hT : Tb w) (hl : T.length ≤ 700000000) :
    Calls Tryd.prog 19 #[.pointer (some ⟨b, 0, none⟩), .agg (rgL (W ++ [p])).toArray] w fun e w' => e = .returned (.tuple #[]) ∧ Sh w' b (T ++ lst (iN (W ++ [p]))) ∧ Fr b w w' := by
  have hbl := h.lt
  have hb1 : Below w.heap.size w (w.alloc (.cells (rgL (W ++ [p])).toArray 35)) := (Below.refl _ _).alloc (Nat.le_refl _) _
  have hlen : (rgL (W ++ [p])).length = 9 := by simp [rgL, hn]
  have hcell : ∀ (i : Nat) (z : Nat), (W ++ [p])[i]? = some z → (w.alloc (.cells (rgL (W ++ [p])).toArray 35)).cell? ⟨w.heap.size, i, none⟩ = some (.int .u32 (z : Nat)) := fun i z hz => by
    rw [World.cell?_alloc_new]
    simpa using rgL_get hz
  have hInt := ints_any (w.alloc (.cells (rgL (W ++ [p])).toArray 35)) w.heap.size 8 8 W hn (Nat.le_refl _) (fun i z hz => hcell i z (by rw [List.getElem?_append_left (List.getElem?_eq_some_iff.1 hz).1]; exact hz)) (fun x hx => hW x (by simp [hx])) (by omega)
  have hpc := hcell 8 p (by rw [List.getElem?_append_right (by omega)]; simp [hn])
  have hp4 := hW p (by simp)
  have hwp : IntKind.i64.wrap (p : Int) = (p : Int) := by rw [IntKind.wrap_i64]; omega
  have HX := hide (And.intro h (And.intro hF (And.intro hT (And.intro (fun x hx => hW x (by simp [hx]) : ∀ n ∈ W, n < 4294967296) hb1))))
  have hl1 := iN_len W
  clear h hF hT hcell hW hb1
  go_enter Tryd.func19, Tryd.ntmps19
  go_wp2_with fail
  refine hInt.mono ?_
  rintro e w1 ⟨v, rfl, hO1, hB1⟩
  have hB1' := HX.out.2.2.2.2.trans (hB1.mono HX.out.2.2.2.2.size)
  have hsz := hB1'.size
  have hpc1 : w1.cell? ⟨w.heap.size, 8, none⟩ = some (.int .u32 (p : Nat)) := by rw [hB1.cell (p := ⟨w.heap.size, 8, none⟩) (cell_lt hpc)]; exact hpc
  have hlt0 : w.heap.size < w1.heap.size := cell_lt hpc1
  have hN1 := numbers_any w1 b T (iN W) v h3 (HX.out.1.up hB1') HX.out.2.1 hO1.rd (iN64 HX.out.2.2.2.1) (HX.out.2.2.1.fr h3 (Fr.of hB1' (by omega))) (by omega)
  have HS1 := hide (HX.out.1.up hB1')
  have HF1 := hide (Fr.of (b := b) hB1' (by omega))
  have HA : Hid (w1.heap[w.heap.size]? = some (.cells (rgL (W ++ [p])).toArray 35 (0, 0))) := hide ((hB1.block w.heap.size (cell_lt hpc)).trans (heap_alloc_last _ _))
  obtain ⟨a, n1, c, rfl, hln1, hlc⟩ := hO1.len2
  clear hInt hO1 hB1 hB1' hpc hpc1
  go_wp2_with fail
  refine hN1.mono ?_
  rintro e w2 ⟨rfl, hS2, hF2⟩
  have HF2 := hide (HF1.out.trans hF2)
  have hA2 : w2.heap[w.heap.size]? = some (.cells (rgL (W ++ [p])).toArray 35 (0, 0)) := (hF2.2 _ hlt0 (by omega) (fun cur f e => by rw [HA.out] at e; cases e)).trans HA.out
  have hpc2 : w2.cell? ⟨w.heap.size, 8, none⟩ = some (.int .u32 (p : Nat)) := by
    rw [cell_of_row _ _ _ _ _ _ hA2]
    simp [rgL, hn]
  have HS2 := hide hS2
  have hb2 : Below w2.heap.size w2 (w2.alloc (.cells #[.int .i64 (p : Nat)] 3)) := (Below.refl _ _).alloc (Nat.le_refl _) _
  have hbl2 := hS2.lt
  have hN2 := numbers_any (w2.alloc (.cells #[.int .i64 (p : Nat)] 3)) b (T ++ lst (iN W)) [(p : Int)] (.slice (some ⟨w2.heap.size, 0, none⟩) 1 1) h3 (hS2.up hb2) (HX.out.2.1.lst _) (by have := RdI.new w2 [(p : Int)] 1 1 rfl (Nat.le_refl _); simpa [In] using this)
    (all_cons (by constructor <;> omega) all_nil) (HX.out.2.2.1.fr h3 (HF2.out.trans (Fr.of hb2 (by omega)))) (by have := lst_len (iN64 HX.out.2.2.2.1); rw [List.length_append]; simp; omega)
  have HF3 := hide (HF2.out.trans (Fr.of (b := b) hb2 (by omega)))
  clear hS2 hF2 hN1 hb2 hA2
  go_wp2_with fail
  refine hN2.mono ?_
  rintro e w3 ⟨rfl, hS3, hF3⟩
  have HS3 := hide hS3
  have HF4 := hide (HF3.out.trans hF3)
  clear hS3 hF3 hN2
  go_wp2
  go_end0
  refine ⟨rfl, ?_, HF4.out⟩
  have e : T ++ lst (iN (W ++ [p])) = T ++ lst (iN W) ++ lst [(p : Int)] := by simp [iN, lst_app]
  rw [e]
  exact HS3.out
set_option maxRecDepth 100000 in
set_option maxHeartbeats 2000000 in
theorem regs_any (w : World) (W : List Nat) (p : Nat) (hn : W.length = 8) (hW : ∀ n ∈ W ++ [p], n < 4294967296) :
    Calls Tryd.prog 11 #[.agg (rgL (W ++ [p])).toArray] w fun e w' => ∃ v, e = .returned v ∧ OwI w' w.heap.size v (iN (W ++ [p])) ∧ Below w.heap.size w w' := by
  have hb1 : Below w.heap.size w (w.alloc (.cells (rgL (W ++ [p])).toArray 35)) := (Below.refl _ _).alloc (Nat.le_refl _) _
  have hcell : ∀ (i : Nat) (z : Nat), (W ++ [p])[i]? = some z → (w.alloc (.cells (rgL (W ++ [p])).toArray 35)).cell? ⟨w.heap.size, i, none⟩ = some (.int .u32 (z : Nat)) := fun i z hz => by
    rw [World.cell?_alloc_new]
    simpa using rgL_get hz
  have HC := hide hcell
  have HW := hide hW
  have hwsz : (w.alloc (.cells (rgL (W ++ [p])).toArray 35)).heap.size = w.heap.size + 1 := by simp
  have HB := hide hb1
  have hlen : (rgL (W ++ [p])).length = 9 := by simp [rgL, hn]
  clear hb1 hcell hW
  go_enter Tryd.func11, Tryd.ntmps11
  go_upto_region 2 with fail
  generalize w.alloc (.cells (rgL (W ++ [p])).toArray 35) = w0 at *
  have H0 : Hid (OwI w0 (w.heap.size + 1) (.slice none 0 0) (iN (W.take 0)) ∧ Below (w.heap.size + 1) w0 w0) := hide ⟨by simpa [iN] using OwI.nil w0 (w.heap.size + 1), Below.refl _ _⟩
  go_wp2
  go_loopw [4, 3] (fun i s wr => ∃ k : Nat, k ≤ 8 ∧ i = .int .i64 (k : Int) ∧ Hid (OwI wr (w.heap.size + 1) s (iN (W.take k)) ∧ Below (w.heap.size + 1) w0 wr)) (fun i _ _ => 8 - (intOf i).toNat)
  case atStart => exact ⟨0, by omega, rfl, H0⟩
  case round =>
    obtain ⟨k, hk, rfl, HR⟩ := hrel
    obtain ⟨a, m, c1, hs, hml, hmc⟩ := HR.out.1.len2
    subst hs
    have hsz := HR.out.2.size
    by_cases hlt : k < 8
    · have hd : decide ((k : Int) < 8) = true := by simp; omega
      obtain ⟨z, hz⟩ : ∃ z, W[k]? = some z := ⟨W[k], by simp⟩
      have hcl0 := HC.out k z (by rw [List.getElem?_append_left (by omega)]; exact hz)
      have hcl : wr.cell? ⟨w.heap.size, k, none⟩ = some (.int .u32 (z : Nat)) := by rw [HR.out.2.cell (p := ⟨w.heap.size, k, none⟩) (by show w.heap.size < w.heap.size + 1; omega)]; exact hcl0
      have hz4 := HW.out z (List.mem_append_left _ (List.mem_of_getElem? hz))
      have hwz : IntKind.i64.wrap (z : Int) = (z : Int) := by rw [IntKind.wrap_i64]; omega
      have HZ := hide hz
      have hb1 : Below wr.heap.size wr (wr.alloc (.cells #[.int .i64 (z : Nat)] 3)) := (Below.refl _ _).alloc (Nat.le_refl _) _
      have HO1 := hide (HR.out.1.up hb1)
      have HB1 := hide (HR.out.2.trans (hb1.mono (by omega)))
      have HN1 : Hid (RdI (wr.alloc (.cells #[.int .i64 (z : Nat)] 3)) (.slice (some ⟨wr.heap.size, 0, none⟩) 1 1) [(z : Int)]) := hide (by have := RdI.new wr [(z : Int)] 1 1 rfl (Nat.le_refl _); simpa [In] using this)
      clear hz hb1 hcl0
      go_wp2_with (at_builtin; refine app_ints rfl _ _ rfl (w.heap.size + 1) _ (iN (W.take k)) rfl HO1.out [(z : Int)] _ rfl HN1.out (by rw [iN_len, List.length_take]; simp; omega) (by have := HB1.out.size; omega) ?_; intro v1 w1 ho1 hg1; obtain ⟨a1, n1, c2, rfl, hln1, hlc1⟩ := ho1.len2)
      have HN : Hid (OwI w1 (w.heap.size + 1) (.slice a1 n1 c2) (iN (W.take (k + 1))) ∧ Below (w.heap.size + 1) w0 w1) := hide ⟨by rw [← iN_step HZ.out]; exact ho1, HB1.out.trans (below_grown HO1.out hg1 (Nat.le_refl _) (by have := HB1.out.size; omega))⟩
      clear ho1 hg1 HO1 HN1 HB1 HR hcl hln1
      go_roundw
      case rel => exact ⟨k + 1, by omega, by go_num, HN⟩
      case measure => simp [intOf]; omega
    · have hd : decide ((k : Int) < 8) = false := by simp; omega
      have hcl0 := HC.out 8 p (by rw [List.getElem?_append_right (by omega)]; simp [hn])
      have hcl : wr.cell? ⟨w.heap.size, 8, none⟩ = some (.int .u32 (p : Nat)) := by rw [HR.out.2.cell (p := ⟨w.heap.size, 8, none⟩) (by show w.heap.size < w.heap.size + 1; omega)]; exact hcl0
      have hz4 := HW.out p (by simp)
      have hwz : IntKind.i64.wrap (p : Int) = (p : Int) := by rw [IntKind.wrap_i64]; omega
      have eT : W.take k = W := List.take_of_length_le (by omega)
      rw [eT] at HR
      have hb1 : Below wr.heap.size wr (wr.alloc (.cells #[.int .i64 (p : Nat)] 3)) := (Below.refl _ _).alloc (Nat.le_refl _) _
      have HO1 := hide (HR.out.1.up hb1)
      have HB1 := hide (HR.out.2.trans (hb1.mono (by omega)))
      have HN1 : Hid (RdI (wr.alloc (.cells #[.int .i64 (p : Nat)] 3)) (.slice (some ⟨wr.heap.size, 0, none⟩) 1 1) [(p : Int)]) := hide (by have := RdI.new wr [(p : Int)] 1 1 rfl (Nat.le_refl _); simpa [In] using this)
      clear hb1 hcl0
      go_wp2_with (at_builtin; refine app_ints rfl _ _ rfl (w.heap.size + 1) _ (iN W) rfl HO1.out [(p : Int)] _ rfl HN1.out (by rw [iN_len]; simp; omega) (by have := HB1.out.size; omega) ?_; intro v1 w1 ho1 hg1; obtain ⟨a1, n1, c2, rfl, hln1, hlc1⟩ := ho1.len2)
      go_ret
      have e : iN (W ++ [p]) = iN W ++ [(p : Int)] := by simp [iN]
      refine ⟨_, rfl, ?_, ?_⟩
      · rw [e]
        obtain ⟨h1, h2 | ⟨g, cap, cur, h2, h3, h4⟩⟩ := ho1
        · exact ⟨h1, .inl h2⟩
        · exact ⟨h1, .inr ⟨g, cap, cur, h2, by omega, h4⟩⟩
      · exact HB.out.trans ((HB1.out.trans (below_grown HO1.out hg1 (Nat.le_refl _) (by have := HB1.out.size; omega))).mono (by omega))
end Go.Proofs.YtionncfpcbjchaaDoor
