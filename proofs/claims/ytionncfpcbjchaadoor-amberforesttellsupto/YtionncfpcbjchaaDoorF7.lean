import Derived.Test.YtionncfpcbjchaaDoorF6
namespace Go.Proofs.YtionncfpcbjchaaDoor
open Go.RowKit
theorem toNat_of {n : Nat} (h : n < 256) : ((UInt8.ofNat n).toNat : Int) = (n : Int) := by
  simp; omega
set_option maxRecDepth 100000 in
set_option maxHeartbeats 2000000 in
theorem rpageHex_any (W : List Nat) (hn : W.length = 32) (hp : ∀ n ∈ W, n < 4294967296) (w : World) :
    Calls Tryd.prog 15 #[.agg (pgL W).toArray] w fun e w' => e = .returned (.string ⟨(hx (bys W)).toArray⟩) ∧ Below w.heap.size w w' := by
  have hb0 : Below w.heap.size w (w.alloc (.cells (pgL W).toArray 47)) := (Below.refl _ _).alloc (Nat.le_refl _) _
  have hp0 : (w.alloc (.cells (pgL W).toArray 47)).heap[w.heap.size]? = some (.cells (pgL W).toArray 47 (0, 0)) := heap_alloc_last _ _
  have hs0 : (w.alloc (.cells (pgL W).toArray 47)).heap.size = w.heap.size + 1 := by simp
  have HB0 := hide hb0
  have HP0 := hide hp0
  have hal : Tryd.prog.arrayLen 47 = 32 := by kernel_rfl
  clear hb0 hp0
  go_enter Tryd.func15, Tryd.ntmps15
  go_upto_region 2 with fail
  generalize w.alloc (.cells (pgL W).toArray 47) = w0 at *
  have H0 : Hid (OwB w0 (w.heap.size + 1) (.slice none 0 0) ((bys W).take (4 * 0)) ∧ Below (w.heap.size + 1) w0 w0) := hide ⟨by simpa using OwB.nil w0 (w.heap.size + 1), Below.refl _ _⟩
  go_wp2
  go_loopw [4, 3] (fun i s wr => ∃ k : Nat, k ≤ 32 ∧ i = .int .i64 (k : Int) ∧ Hid (OwB wr (w.heap.size + 1) s ((bys W).take (4 * k)) ∧ Below (w.heap.size + 1) w0 wr)) (fun i _ _ => 32 - (intOf i).toNat)
  case atStart => exact ⟨0, by omega, rfl, H0⟩
  case round =>
    obtain ⟨k, hk, rfl, HR⟩ := hrel
    obtain ⟨a, m, c1, hs, hml, hmc⟩ := HR.out.1.len2
    subst hs
    have hsz := HR.out.2.size
    by_cases hlt : k < 32
    · have hd : decide ((k : Int) < 32) = true := by simp; omega
      obtain ⟨z, hz⟩ : ∃ z, W[k]? = some z := ⟨W[k], by simp⟩
      have hcl : wr.cell? ⟨w.heap.size, k, none⟩ = some (.int .u32 (z : Nat)) := by
        rw [cell_of_row _ _ _ _ _ _ ((HR.out.2.block _ (Nat.lt_succ_self _)).trans HP0.out)]; simpa using pgL_get hz
      have hpk := hp z (List.mem_of_getElem? hz)
      have HST := hide (bys_step hn hz)
      clear hz
      have w0' := wu8 z
      have w1' := wu8 (z / 256)
      have w2' := wu8 (z / 65536)
      have w3' := wu8 (z / 16777216)
      have e1 : (z : Int) / 256 = ((z / 256 : Nat) : Int) := by omega
      have e2 : (z : Int) / 65536 = ((z / 65536 : Nat) : Int) := by omega
      have e3 : (z : Int) / 16777216 = ((z / 16777216 : Nat) : Int) := by omega
      obtain ⟨a0, q0⟩ : ∃ a, z % 256 = a := ⟨_, rfl⟩
      obtain ⟨a1, q1⟩ : ∃ a, z / 256 = a := ⟨_, rfl⟩
      obtain ⟨a2, q2⟩ : ∃ a, z / 65536 = a := ⟨_, rfl⟩
      obtain ⟨a3, q3⟩ : ∃ a, z / 16777216 = a := ⟨_, rfl⟩
      rw [q1, q2, q3, q0] at HST
      rw [q0] at w0'
      rw [q1] at w1' e1
      rw [q2] at w2' e2
      rw [q3] at w3' e3
      have h0 : a0 < 256 := by omega
      clear q0 q1 q2 q3
      obtain ⟨b1, r1⟩ : ∃ b, a1 % 256 = b := ⟨_, rfl⟩
      obtain ⟨b2, r2⟩ : ∃ b, a2 % 256 = b := ⟨_, rfl⟩
      obtain ⟨b3, r3⟩ : ∃ b, a3 % 256 = b := ⟨_, rfl⟩
      rw [r1, r2, r3] at HST
      rw [r1] at w1'
      rw [r2] at w2'
      rw [r3] at w3'
      have h1 : b1 < 256 := by omega
      have h2 : b2 < 256 := by omega
      have h3 : b3 < 256 := by omega
      clear r1 r2 r3
      have hb1 : Below wr.heap.size wr (wr.alloc (.cells #[.int .u8 (a0 : Int), .int .u8 (b1 : Int), .int .u8 (b2 : Int), .int .u8 (b3 : Int)] 5)) := (Below.refl _ _).alloc (Nat.le_refl _) _
      have HO1 := hide (HR.out.1.up hb1)
      have HB1 := hide (HR.out.2.trans (hb1.mono (by omega)))
      have HN1 : Hid (∀ (j : Nat) (u : UInt8), [UInt8.ofNat a0, UInt8.ofNat b1, UInt8.ofNat b2, UInt8.ofNat b3][j]? = some u → (wr.alloc (.cells #[.int .u8 (a0 : Int), .int .u8 (b1 : Int), .int .u8 (b2 : Int), .int .u8 (b3 : Int)] 5)).cell? ⟨wr.heap.size, j, none⟩ = some (By u)) := hide (fun j u hu => by
        rw [World.cell?_alloc_new]
        match j, hu with
        | 0, hu => simp at hu; subst hu; unfold By; rw [toNat_of h0]; rfl
        | 1, hu => simp at hu; subst hu; unfold By; rw [toNat_of h1]; rfl
        | 2, hu => simp at hu; subst hu; unfold By; rw [toNat_of h2]; rfl
        | 3, hu => simp at hu; subst hu; unfold By; rw [toNat_of h3]; rfl
        | k + 4, hu => simp at hu)
      clear hb1
      go_wp2_with (at_builtin; refine app_bys rfl _ _ rfl (w.heap.size + 1) _ ((bys W).take (4 * k)) rfl HO1.out [UInt8.ofNat a0, UInt8.ofNat b1, UInt8.ofNat b2, UInt8.ofNat b3] wr.heap.size 4 4 rfl rfl HN1.out (by rw [List.length_take]; simp; omega) (by have := HB1.out.size; omega) ?_; intro v1 w1 ho1 hg1; obtain ⟨a1, n1, c2, rfl, hln1, hlc1⟩ := ho1.len2)
      have HN : Hid (OwB w1 (w.heap.size + 1) (.slice a1 n1 c2) ((bys W).take (4 * (k + 1))) ∧ Below (w.heap.size + 1) w0 w1) := hide ⟨by rw [← HST.out]; exact ho1, HB1.out.trans (below_grown HO1.out hg1 (Nat.le_refl _) (by have := HB1.out.size; omega))⟩
      clear ho1 hg1 HO1 HN1 HB1 HR hcl hln1
      go_roundw
      case rel => exact ⟨k + 1, by omega, by go_num, HN⟩
      case measure => simp [intOf]; omega
    · have hd : decide ((k : Int) < 32) = false := by simp; omega
      have eT : (bys W).take (4 * k) = bys W := List.take_of_length_le (by rw [bys_len]; omega)
      rw [eT] at HR hml
      clear H0
      have hl128 := bys_len W
      obtain ⟨h1, h2 | ⟨g, cap, cur, h2, h3, h4⟩⟩ := HR.out.1
      · have := h2.2
        omega
      · have hgt : ∀ (i : Nat) (u : UInt8), (bys W)[i]? = some u → ∃ g' cap', Value.slice a m c1 = .slice (some ⟨g', 0, none⟩) (bys W).length cap' ∧ wr.cell? ⟨g', i, none⟩ = some (By u) := fun i u hu => HR.out.1.get hu
        have hml' : m = 128 := by have := hml.out; omega
        subst hml'
        cases h2
        have hH := rhex_any wr g 128 c1 (bys W) hl128 hmc (fun i u hu => by
          obtain ⟨g', cap', e1, e2⟩ := hgt _ _ hu
          cases e1; exact e2) (by omega)
        have HBf := hide (HB0.out.trans (HR.out.2.mono (Nat.le_succ _)))
        clear hgt h1 h3 h4 HR
        go_wp2_with fail
        refine hH.mono ?_
        rintro e w2 ⟨rfl, hb2⟩
        have HB2 := hide (HBf.out.trans (hb2.mono HBf.out.size))
        clear hb2 hH
        go_wp2
        go_ret
        exact ⟨rfl, HB2.out⟩
end Go.Proofs.YtionncfpcbjchaaDoor
