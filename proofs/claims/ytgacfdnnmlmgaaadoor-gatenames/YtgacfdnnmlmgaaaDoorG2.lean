import Derived.Test.YtgacfdnnmlmgaaaDoorG1
import Derived.Deep.RegionHeld
import Derived.BigQuiet
import Derived.Deep.Cut
import Derived.Deep.DeepCutAuto
import Derived.WalkSmall
import Derived.Great.Walk
import Derived.Great.BuildSlice
import Derived.Deep.WholeRow
namespace Go.Proofs.YtgacfdnnmlmgaaaDoor
open Go.RowKit Go.Great
def gA : Array Value := #[.string ⟨#[121, 105, 101, 108, 100]⟩, .string ⟨#[101, 120, 105, 116]⟩, .string ⟨#[97, 108, 108, 111, 99]⟩, .string ⟨#[109, 97, 112]⟩, .string ⟨#[117, 110, 109, 97, 112]⟩, .string ⟨#[100, 101, 114, 105, 118, 101]⟩, .string ⟨#[103, 114, 97, 110, 116]⟩, .string ⟨#[100, 114, 111, 112]⟩, .string ⟨#[114, 101, 118, 111, 107, 101]⟩, .string ⟨#[115, 112, 97, 119, 110]⟩, .string ⟨#[115, 116, 97, 114, 116]⟩, .string ⟨#[110, 111, 116, 105, 102, 121]⟩, .string ⟨#[119, 97, 105, 116]⟩, .string ⟨#[107, 105, 108, 108]⟩, .string ⟨#[101, 109, 105, 116]⟩, .string ⟨#[105, 110, 102, 111]⟩, .string ⟨#[114, 101, 97, 100]⟩, .string ⟨#[119, 114, 105, 116, 101]⟩, .string ⟨#[112, 114, 111, 116, 101, 99, 116]⟩, .string ⟨#[109, 97, 112, 105, 110]⟩, .string ⟨#[108, 101, 102, 116]⟩, .string ⟨#[115, 116, 97, 116, 117, 115]⟩, .string ⟨#[115, 101, 116, 114, 101, 103]⟩, .string ⟨#[103, 101, 116, 114, 101, 103]⟩, .string ⟨#[97, 115, 107]⟩]
def gB : Array Value := #[.string ⟨#[99, 111, 117, 110, 116]⟩, .string ⟨#[101, 110, 118]⟩, .string ⟨#[99, 97, 112, 115]⟩, .string ⟨#[109, 97, 112, 115]⟩, .string ⟨#[112, 97, 103, 101]⟩, .string ⟨#[99, 108, 101, 97, 110]⟩, .string ⟨#[102, 114, 101, 101, 122, 101]⟩, .string ⟨#[110, 101, 119]⟩, .string ⟨#[115, 101, 116]⟩, .string ⟨#[102, 105, 108, 108]⟩, .string ⟨#[112, 108, 97, 99, 101]⟩, .string ⟨#[99, 111, 112, 121]⟩, .string ⟨#[115, 101, 108, 102]⟩, .string ⟨#[110, 97, 116, 109, 97, 112, 105, 110]⟩, .string ⟨#[99, 108, 97, 105, 109]⟩, .string ⟨#[110, 97, 116, 114, 101, 97, 100]⟩, .string ⟨#[110, 97, 116, 119, 114, 105, 116, 101]⟩, .string ⟨#[102, 108, 117, 115, 104]⟩, .string ⟨#[110, 97, 116, 108, 101, 102, 116]⟩]
def zA : Array Value := #[.string ⟨#[]⟩, .string ⟨#[]⟩, .string ⟨#[]⟩, .string ⟨#[]⟩, .string ⟨#[]⟩, .string ⟨#[]⟩, .string ⟨#[]⟩, .string ⟨#[]⟩, .string ⟨#[]⟩, .string ⟨#[]⟩, .string ⟨#[]⟩, .string ⟨#[]⟩, .string ⟨#[]⟩, .string ⟨#[]⟩, .string ⟨#[]⟩, .string ⟨#[]⟩, .string ⟨#[]⟩, .string ⟨#[]⟩, .string ⟨#[]⟩, .string ⟨#[]⟩, .string ⟨#[]⟩, .string ⟨#[]⟩, .string ⟨#[]⟩, .string ⟨#[]⟩, .string ⟨#[]⟩]
def zB : Array Value := #[.string ⟨#[]⟩, .string ⟨#[]⟩, .string ⟨#[]⟩, .string ⟨#[]⟩, .string ⟨#[]⟩, .string ⟨#[]⟩, .string ⟨#[]⟩, .string ⟨#[]⟩, .string ⟨#[]⟩, .string ⟨#[]⟩, .string ⟨#[]⟩, .string ⟨#[]⟩, .string ⟨#[]⟩, .string ⟨#[]⟩, .string ⟨#[]⟩, .string ⟨#[]⟩, .string ⟨#[]⟩, .string ⟨#[]⟩, .string ⟨#[]⟩]
theorem gA_at : ∀ k, k < 25 → gA[k]? = some (.string (nmB k)) := nmB_lo
theorem gB_at : ∀ k, k < 19 → gB[k]? = some (.string (nmB (32 + k))) := nmB_hi
section
variable (w : World)
set_option maxRecDepth 100000 in
set_option maxHeartbeats 3200000 in
theorem nameR_any (z : Int) (hz : -9223372036854775808 ≤ z ∧ z ≤ 9223372036854775807) : Calls Tryd.prog 5 #[.int .i64 z] w fun e w' => e = .returned (.string (nmv z)) ∧ Below w.heap.size w w' := by
  go_enter Tryd.func5, Tryd.ntmps5
  go_upto_region 1 with fail
  apply wp_region_lit
  refine wpList_buildTo rfl 25 _ rfl (some 5) rfl gA (by as_aux_lemma => kernel_rfl) ?_
  refine wpList_allocTo rfl (some 3) rfl (.pointer (some ⟨w.heap.size, 0, none⟩)) (.cells zA 25) (by as_aux_lemma => kernel_rfl) ?_
  refine wpList_store_rowTo rfl 25 _ _ rfl rfl w.heap.size gA rfl rfl 25 zA (heap_alloc_new w _) (by as_aux_lemma => kernel_rfl) rfl (by as_aux_lemma => kernel_rfl) ?_
  apply wpList_nil
  rw [World.setRow_alloc_new]
  rename_i K hK
  refine hK _ _ ?_
  clear hK K
  simp only [Act.put, List.setIfInBounds_toArray, List.set_cons_zero, List.set_cons_succ]
  go_upto_region 2 with fail
  apply wp_region_lit
  refine wpList_buildTo rfl 26 _ rfl (some 6) rfl gB (by as_aux_lemma => kernel_rfl) ?_
  refine wpList_allocTo rfl (some 4) rfl (.pointer (some ⟨(w.alloc (.cells gA 25)).heap.size, 0, none⟩)) (.cells zB 26) (by as_aux_lemma => kernel_rfl) ?_
  refine wpList_store_rowTo rfl 26 _ _ rfl rfl (w.alloc (.cells gA 25)).heap.size gB rfl rfl 26 zB (heap_alloc_new _ _) (by as_aux_lemma => kernel_rfl) rfl (by as_aux_lemma => kernel_rfl) ?_
  apply wpList_nil
  rw [World.setRow_alloc_new]
  rename_i K hK
  refine hK _ _ ?_
  clear hK K
  simp only [Act.put, List.setIfInBounds_toArray, List.set_cons_zero, List.set_cons_succ]
  have HB : Hid (Below w.heap.size w ((w.alloc (.cells gA 25)).alloc (.cells gB 26))) := by
    have hb1 := (Below.refl w.heap.size w).alloc (Nat.le_refl _) (.cells gA 25)
    exact hide (hb1.alloc hb1.size _)
  have HL : Hid (∀ k, k < 25 → ((w.alloc (.cells gA 25)).alloc (.cells gB 26)).cell? ⟨w.heap.size, k, none⟩ = some (.string (nmB k))) := hide (fun k hk => by
    have a1 : ((w.alloc (.cells gA 25)).alloc (.cells gB 26)).heap[w.heap.size]? = some (.cells gA 25 (0, 0)) := by
      rw [Below.heap_alloc _ _ _ (by simp)]; exact heap_alloc_new w _
    rw [cell_of_row _ _ _ _ _ _ a1]; exact gA_at k hk)
  have HH : Hid (∀ k, k < 19 → ((w.alloc (.cells gA 25)).alloc (.cells gB 26)).cell? ⟨(w.alloc (.cells gA 25)).heap.size, k, none⟩ = some (.string (nmB (32 + k)))) := hide (fun k hk => by
    rw [cell_of_row _ _ _ _ _ _ (heap_alloc_new _ _)]; exact gB_at k hk)
  generalize (w.alloc (.cells gA 25)).heap.size = g2 at *
  generalize (w.alloc (.cells gA 25)).alloc (.cells gB 26) = w2 at *
  generalize gA = xA at *
  generalize gB = xB at *
  by_cases h1 : 0 ≤ z ∧ z < 25
  · obtain ⟨k, hk0⟩ := Int.eq_ofNat_of_zero_le h1.1
    have hk : k < 25 := by omega
    have e : nmv z = nmB k := by unfold nmv; rw [if_pos (by omega), hk0]; rfl
    have c := HL.out k hk
    generalize nmB k = s at *
    have HE := hide e
    have h2 := h1.1
    have h3 := h1.2
    clear e HL HH h1 hz
    subst hk0
    go_wp2
    go_ret
    exact ⟨by rw [HE.out]; rfl, HB.out⟩
  by_cases h2 : 32 ≤ z ∧ z < 51
  · obtain ⟨k, hk0⟩ := Int.eq_ofNat_of_zero_le (show 0 ≤ z - 32 by omega)
    have hk : k < 19 := by omega
    have e : nmv z = nmB (32 + k) := by unfold nmv; rw [if_pos (by omega), show z.toNat = 32 + k by omega]
    have c := HH.out k hk
    have hk2 : ¬ z < 25 := by omega
    have hk3 : z < 51 := by omega
    have hk4 : IntKind.i64.wrap (z - 32) = (k : Int) := by
      rw [hk0]; simp [IntKind.wrap, IntKind.signed, IntKind.bits]; omega
    have hk5 : 32 ≤ z := by omega
    have hk6 : 0 ≤ z := by omega
    generalize nmB (32 + k) = s at *
    have hk7 : (k : Int) < 19 := by omega
    have HE := hide e
    clear e HL HH h1 h2 hk0 hz
    go_wp2
    go_ret
    exact ⟨by rw [HE.out]; rfl, HB.out⟩
  have e : nmv z = ⟨#[]⟩ := by
    unfold nmv
    by_cases h3 : 0 ≤ z ∧ z < 51
    · rw [if_pos h3]; exact nmB_no _ (by omega) (by omega)
    · rw [if_neg h3]
  have HE := hide e
  clear e HL HH
  by_cases h3 : z < 0
  · have h4 : ¬ 0 ≤ z := by omega
    have h5 : ¬ 32 ≤ z := by omega
    go_wp2
    go_ret
    exact ⟨by rw [HE.out]; rfl, HB.out⟩
  have h4 : ¬ z < 25 := by omega
  have h6 : 0 ≤ z := by omega
  by_cases h5 : 32 ≤ z
  · have h6 : ¬ z < 51 := by omega
    go_wp2
    go_ret
    exact ⟨by rw [HE.out]; rfl, HB.out⟩
  · go_wp2
    go_ret
    exact ⟨by rw [HE.out]; rfl, HB.out⟩
set_option maxRecDepth 100000 in
set_option maxHeartbeats 3200000 in
theorem names_walk (z : Int) (hz : -9223372036854775808 ≤ z ∧ z ≤ 9223372036854775807) (h : Nms w) : Calls Tryd.prog 3 #[.int .i64 z] w fun e w' => e = .returned (.bool true) ∧ Below w.heap.size w w' := by
  have HN : Hid (∀ w', Below w.heap.size w w' → ∀ z, Calls Tryd.prog 4 #[.int .i64 z] w' fun e w'' => e = .returned (.string (nmv z)) ∧ w'' = w') := hide (fun w' hb z => name_any w' z (fun n hn => by
    have h1 := h n hn
    have h2 := World.block_lt_of_cell? w _ h1
    rw [hb.cell (by omega)]; exact h1))
  clear h
  go_enter Tryd.func3, Tryd.ntmps3
  go_upto_region 2 with fail
  go_loopw [3] (fun x wr => ∃ k : Nat, k ≤ 62 ∧ x = .int .i64 ((k : Int) - 2) ∧ Hid (Below w.heap.size w wr)) (fun x _ => (60 - intOf x).toNat)
  case atStart => exact ⟨0, by omega, rfl, Below.refl _ _⟩
  case round =>
  obtain ⟨k, hk, rfl, KB⟩ := hrel
  by_cases hlt : k < 62
  · have hd : decide ((k : Int) - 2 < 60) = true := by simp; omega
    go_wp2_with fail
    refine (HN.out _ KB.out _).mono ?_
    rintro e w1 ⟨rfl, rfl⟩
    go_wp2_with fail
    refine (nameR_any _ _ (by omega)).mono ?_
    rintro e w2 ⟨rfl, hb⟩
    have HB := hide (KB.out.trans (hb.mono KB.out.size))
    clear hb KB
    go_wp2
    go_roundw
    case rel =>
      first
        | exact ⟨k + 1, by omega, by go_num, HB⟩
        | ((repeat apply Exists.intro); refine ⟨?_, rfl⟩; exact ⟨k + 1, by omega, by go_num, HB⟩)
    case measure => simp [intOf]; omega
  · obtain rfl : k = 62 := by omega
    go_wp2_with fail
    refine (HN.out _ KB.out _).mono ?_
    rintro e w1 ⟨rfl, rfl⟩
    go_wp2_with fail
    refine (nameR_any _ _ hz).mono ?_
    rintro e w2 ⟨rfl, hb⟩
    have HB := hide (KB.out.trans (hb.mono KB.out.size))
    clear hb KB
    go_wp2
    go_ret
    exact ⟨by simp, HB.out⟩
end
end Go.Proofs.YtgacfdnnmlmgaaaDoor
