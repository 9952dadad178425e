import Derived.Test.YtooikfmebjohfaaS3
import Derived.Deep.CutRange
namespace Go.Proofs.Ytooikfmebjohfaa
open Go.RowKit

theorem look_ff {α : Type} {m : List (Option α)} {k : Nat} (h : k < ff m) : ∃ x, look m (k : Int) = some x := by
  obtain ⟨x, hx⟩ := ff_held h
  exact ⟨x, by rw [look_nat, hx]; rfl⟩
theorem look_ffree {α : Type} {m : List (Option α)} (h : ff m < m.length) : look m (ff m : Int) = none := by
  rw [look_nat, ff_free h]; rfl
set_option maxRecDepth 8000 in
set_option maxHeartbeats 1600000 in
theorem lowest_full (w wa : World) (B : Nat) (m : List (Option Cl)) (h : St w wa B m) (hf : ff m = m.length) (o0 o1 i o3 : Int) :
    Calls Try.prog 46 #[.pointer (some ⟨B, 0, none⟩), .int .i64 (m.length : Nat), .agg #[.int .i64 o0, .int .i64 o1, .int .i64 i, .int .i64 o3]] wa fun x w' => x = .returned (.bool true) ∧ ∃ m', St w w' B m' ∧ m'.length = m.length := by
  have HS := hide (h.sb.alloc (.cells #[.int .i64 o0, .int .i64 o1, .int .i64 i, .int .i64 o3] 61))
  have hcap := h.cap
  have HL := hide (fun k (hk : k < m.length) => look_ff (m := m) (k := k) (by omega))
  have HF := hide hf
  clear h hf
  obtain ⟨n, hn⟩ : ∃ n, m.length = n := ⟨_, rfl⟩
  have HN := hide hn
  rw [hn] at hcap HL ⊢
  clear hn
  go_enter Try.func46, Try.ntmps46
  go_wp2
  go_loopw [7] (fun i' wx => ∃ k : Nat, k ≤ n ∧ i' = .int .i64 k ∧ Sb w wx B m [(wa.heap.size, .cells #[.int .i64 o0, .int .i64 o1, .int .i64 i, .int .i64 o3] 61)]) (fun i _ => n - (intOf i).toNat)
  case atStart => exact ⟨0, by omega, rfl, HS.out⟩
  case round =>
    obtain ⟨k, hk, rfl, hS⟩ := hrel
    have HS1 := hide hS
    obtain ⟨l1, _, _, _, k1⟩ := row4 (hS.mem (b := wa.heap.size) (.head _))
    clear hS HS
    by_cases hlt : k < n
    · obtain ⟨x, hx⟩ := HL.out k hlt
      have HX := hide hx
      clear hx k1
      go_wp2_with fail
      refine (HS1.out.st.get k).mono ?_
      rintro e w4 ⟨rfl, hb4⟩
      have HS4 := hide ((HS1.out.below hb4).below ((Below.refl _ _).alloc (Nat.le_refl _) (.cells #[.string x.s, .int .i64 x.a, .int .i64 x.b] 28)))
      clear hb4
      rw [HX.out]
      simp only [Cl.val, Option.getD_some, Option.isSome_some]
      go_wp2
      go_roundw
      case rel =>
        first
          | exact ⟨k + 1, by omega, by go_num, HS4.out⟩
          | ((repeat apply Exists.intro); refine ⟨?_, rfl⟩; exact ⟨k + 1, by omega, by go_num, HS4.out⟩)
      case measure => simp [intOf]; omega
    · obtain rfl : k = n := by omega
      go_wp2_with fail
      refine (HS1.out.st.len).mono ?_
      rintro e w4 ⟨rfl, rfl⟩
      go_wp2_with fail
      refine (cell_any _ _).mono ?_
      rintro e w5 ⟨rfl, hb5⟩
      have HS5 := hide (HS1.out.below hb5)
      clear hb5
      go_wp2_with fail
      refine (HS5.out.put _).mono ?_
      rintro e w6 ⟨-, h6⟩
      obtain ⟨rfl, hS6⟩ := h6 HF.out
      have HS6 := hide hS6
      clear h6 hS6
      go_wp2_with fail
      refine (HS6.out.st.len).mono ?_
      rintro e w7 ⟨rfl, rfl⟩
      go_wp2
      go_ret
      exact ⟨rfl, m, HS6.out.st, HN.out⟩
set_option maxRecDepth 8000 in
set_option maxHeartbeats 1600000 in
theorem lowest_free (w wa : World) (B : Nat) (m : List (Option Cl)) (h : St w wa B m) (hf : ff m < m.length) (o0 o1 i o3 : Int) :
    Calls Try.prog 46 #[.pointer (some ⟨B, 0, none⟩), .int .i64 (m.length : Nat), .agg #[.int .i64 o0, .int .i64 o1, .int .i64 i, .int .i64 o3]] wa fun x w' => x = .returned (.bool true) ∧ ∃ m', St w w' B m' ∧ m'.length = m.length := by
  have HS := hide (h.sb.alloc (.cells #[.int .i64 o0, .int .i64 o1, .int .i64 i, .int .i64 o3] 61))
  have hcap := h.cap
  have HL := hide (fun k (hk : k < ff m) => look_ff hk)
  have HE := hide (look_ffree hf)
  have HG := hide (look_some_set m (ff m) (cl o3) hf)
  have HC := hide (fun w => cell_any w o3)
  have HK := hide (count_lay (ff_free hf) (cl o3))
  have hcnt : m.countP Option.isSome ≤ 4096 := Nat.le_trans count_le h.cap
  have HP := hide (fun (wr : World) (bs : List (Nat × Obj)) (h : Sb w wr B m bs) => (h.put (cl o3)).mono (fun x w' (h : _ ∧ _) => h.1 hf))
  have h26 := eq26
  have HN := hide (show (m.set (ff m) (some (cl o3))).length = m.length by simp)
  clear h
  generalize hcc : m.countP Option.isSome = cnt at *
  have HCC := hide hcc
  clear hcc
  generalize m.set (ff m) (some (cl o3)) = m1 at *
  generalize cl o3 = c at *
  generalize ff m = f at *
  generalize m.length = n at *
  simp only [Cl.val] at *
  go_enter Try.func46, Try.ntmps46
  go_wp2
  go_loopw [7] (fun i' wx => ∃ k : Nat, k ≤ f ∧ i' = .int .i64 k ∧ Sb w wx B m [(wa.heap.size, .cells #[.int .i64 o0, .int .i64 o1, .int .i64 i, .int .i64 o3] 61)]) (fun i _ => n - (intOf i).toNat)
  case atStart => exact ⟨0, by omega, rfl, HS.out⟩
  case round =>
    obtain ⟨k, hk, rfl, hS⟩ := hrel
    have HS1 := hide hS
    clear hS HS
    have hkn : k < n := by omega
    by_cases hlt : k < f
    · obtain ⟨x, hx⟩ := HL.out k hlt
      have HX := hide hx
      clear hx
      go_wp2_with fail
      refine (HS1.out.st.get k).mono ?_
      rintro e w4 ⟨rfl, hb4⟩
      have HS4 := hide ((HS1.out.below hb4).below ((Below.refl _ _).alloc (Nat.le_refl _) (.cells #[.string x.s, .int .i64 x.a, .int .i64 x.b] 28)))
      clear hb4
      rw [HX.out]
      simp only [Cl.val, Option.getD_some, Option.isSome_some]
      go_wp2
      go_roundw
      case rel =>
        first
          | exact ⟨k + 1, by omega, by go_num, HS4.out⟩
          | ((repeat apply Exists.intro); refine ⟨?_, rfl⟩; exact ⟨k + 1, by omega, by go_num, HS4.out⟩)
      case measure => simp [intOf]; omega
    · obtain rfl : k = f := by omega
      go_wp2_with fail
      refine (HS1.out.st.get k).mono ?_
      rintro e w4 ⟨rfl, hb4⟩
      have HS4 := hide ((HS1.out.below hb4).below ((Below.refl _ _).alloc (Nat.le_refl _) (.cells #[.string ByteArray.empty, .int .i64 0, .int .i64 0] 28)))
      clear hb4
      rw [HE.out]
      simp only [Cl.val, Cl.zero, Option.getD_none, Option.isSome_none]
      go_wp2_with fail
      refine (HS4.out.st.len).mono ?_
      rintro e w5 ⟨rfl, rfl⟩
      rw [HCC.out]
      obtain ⟨l1, _, _, _, k1⟩ := row4 (HS4.out.mem (b := wa.heap.size) (.head _))
      go_wp2_with fail
      refine (HC.out _).mono ?_
      rintro e w6 ⟨rfl, hb6⟩
      have HS6 := hide (HS4.out.below hb6)
      clear hb6
      go_wp2_with fail
      refine (HP.out _ _ HS6.out).mono ?_
      rintro e w7 ⟨rfl, hS7⟩
      have HS7 := hide hS7
      clear hS7
      go_wp2_with fail
      refine (HS7.out.st.get k).mono ?_
      rintro e w8 ⟨rfl, hb8⟩
      have HS8 := hide ((HS7.out.below hb8).alloc (.cells #[.string c.s, .int .i64 c.a, .int .i64 c.b] 28))
      obtain ⟨l2, _, _, _, k2⟩ := row4 ((HS7.out.below hb8).mem (b := wa.heap.size) (.head _))
      obtain ⟨l3, k3, k4, k5⟩ := row3 (HS8.out.mem (b := w8.heap.size) (.head _))
      clear hb8
      rw [HG.out]
      simp only [Cl.val, Option.getD_some, Option.isSome_some]
      go_wp2_with fail
      obtain ⟨l4, _, _, _, k2⟩ := row4 (HS8.out.mem (b := wa.heap.size) (.tail _ (.head _)))
      generalize hW : w8.alloc (.cells #[.string c.s, .int .i64 c.a, .int .i64 c.b] 28) = W at *
      refine region_below (by kernel_rfl) (by kernel_rfl) ?_
      have hwr : IntKind.i64.wrap ((cnt : Int) + 1) = (cnt : Int) + 1 := by rw [IntKind.wrap_i64]; omega
      iterate 11 (refine wpQuiet_step (fun K hK => ?_); go_simp; refine ⟨_, fun _ _ => rfl, hK _ ?_⟩; clear hK K)
      refine wpQuiet_step (fun K hK => ?_)
      go_simp
      refine ⟨.agg #[.string c.s, .int .i64 c.a, .int .i64 c.b], fun w' hw' => ?_, hK _ ?_⟩
      · have c3 := (hw'.cell (p := ⟨w8.heap.size, 0, none⟩) l3).trans k3
        have c4 := (hw'.cell (p := ⟨w8.heap.size, 1, none⟩) l3).trans k4
        have c5 := (hw'.cell (p := ⟨w8.heap.size, 2, none⟩) l3).trans k5
        go_simp
      clear hK K
      refine wpQuiet_step (fun K hK => ?_); go_simp; refine ⟨_, fun _ _ => rfl, hK _ ?_⟩; clear hK K
      refine wpQuiet_step (fun K hK => ?_)
      go_simp
      refine ⟨.int .i64 o3, fun w' hw' => ?_, hK _ ?_⟩
      · have c3 := (hw'.cell (p := ⟨wa.heap.size, 3, none⟩) l4).trans k2
        go_simp
      clear hK K
      refine wpQuiet_step (fun K hK => ?_)
      go_simp
      refine ⟨.agg #[.string c.s, .int .i64 c.a, .int .i64 c.b], fun w' hw' => calls_below hw' (HC.out w'), hK _ ?_⟩
      clear hK K
      iterate 4 (refine wpQuiet_step (fun K hK => ?_); go_simp; refine ⟨_, fun _ _ => rfl, hK _ ?_⟩; clear hK K)
      refine wpQuiet_step (fun K hK => ?_)
      go_simp
      refine ⟨.int .i64 ((cnt + 1 : Nat) : Int), fun w' hw' => ?_, hK _ ?_⟩
      · refine ((HS8.out.below hw').st.len).mono ?_
        rintro e w'' ⟨rfl, rfl⟩
        rw [HK.out]
        exact ⟨rfl, hw'⟩
      clear hK K
      iterate 5 (refine wpQuiet_step (fun K hK => ?_); go_simp; refine ⟨_, fun _ _ => rfl, hK _ ?_⟩; clear hK K)
      refine wpQuiet_nil ?_
      intro w' hw'
      have HS9 := hide ((HS8.out.below hw').st)
      clear hw'
      go_wp2
      go_ret
      exact ⟨rfl, m1, HS9.out, HN.out⟩
theorem lowest_any (w wa : World) (B : Nat) (m : List (Option Cl)) (h : St w wa B m) (o0 o1 i o3 : Int) :
    Calls Try.prog 46 #[.pointer (some ⟨B, 0, none⟩), .int .i64 (m.length : Nat), .agg #[.int .i64 o0, .int .i64 o1, .int .i64 i, .int .i64 o3]] wa fun x w' => x = .returned (.bool true) ∧ ∃ m', St w w' B m' ∧ m'.length = m.length := by
  rcases Nat.lt_or_eq_of_le (ff_le m) with hf | hf
  · exact lowest_free w wa B m h hf o0 o1 i o3
  · exact lowest_full w wa B m h hf o0 o1 i o3
end Go.Proofs.Ytooikfmebjohfaa
