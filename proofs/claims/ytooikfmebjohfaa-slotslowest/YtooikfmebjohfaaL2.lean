import Derived.Test.YtooikfmebjohfaaL1
import Derived.Test.YtooikfmebjohfaaS3
import Derived.Deep.CutRange
namespace Go.Proofs.Ytooikfmebjohfaa
open Go.RowKit

/-- what PutAt leaves, beside what Get told ahead of it -/
def Put1 (m m' : List (Option Cl)) (i v : Int) (c : Cl) : Prop :=
  ((i < 0 ∨ (m.length : Int) ≤ i) ∧ v = 30 ∧ m' = m) ∨ (∃ (k : Nat) (x : Cl), i = k ∧ m[k]? = some (some x) ∧ v = 31 ∧ m' = m) ∨ ∃ k : Nat, i = k ∧ m[k]? = some none ∧ v = 0 ∧ m' = m.set k (some c)
set_option maxRecDepth 8000 in
set_option maxHeartbeats 1600000 in
theorem exactly_any (w wr : World) (B : Nat) (m : List (Option Cl)) (h : St w wr B m) (o0 o1 i o3 : Int) :
    Calls Try.prog 47 #[.pointer (some ⟨B, 0, none⟩), .int .i64 (m.length : Nat), .agg #[.int .i64 o0, .int .i64 o1, .int .i64 i, .int .i64 o3]] wr fun x w' => x = .returned (.bool true) ∧ ∃ m', St w w' B m' ∧ m'.length = m.length := by
  have HS := hide (fun o => h.sb.alloc o)
  have h26 := eq26
  have HG := hide (fun o => (HS.out o).st.get i)
  have HC := hide (fun w => cell_any w o3)
  obtain ⟨x, hx⟩ : ∃ x, (look m i).getD Cl.zero = x := ⟨_, rfl⟩
  obtain ⟨bb, hbb⟩ : ∃ bb, (look m i).isSome = bb := ⟨_, rfl⟩
  obtain ⟨c, hc⟩ : ∃ c, cl o3 = c := ⟨_, rfl⟩
  rw [hx, hbb] at HG
  rw [hc] at HC
  have HX := hide hx
  have HBB := hide hbb
  clear h hx hbb
  simp only [Cl.val] at *
  go_enter Try.func47, Try.ntmps47
  go_wp2_with fail
  refine (HG.out _).mono ?_
  rintro e w1 ⟨rfl, hb1⟩
  have HS1 := hide (((HS.out _).below hb1).alloc (.cells #[.string x.s, .int .i64 x.a, .int .i64 x.b] 28))
  clear hb1 HG HS
  obtain ⟨l1, _, _, k1, k1'⟩ := row4 (HS1.out.mem (b := wr.heap.size) (.tail _ (.head _)))
  go_wp2_with fail
  go_cut [9] from 19 to 76 (fun e wx => ∃ (v : Int) (m' : List (Option Cl)), e = .int .i64 v ∧ Sb w wx B m' [(w1.heap.size, .cells #[.string x.s, .int .i64 x.a, .int .i64 x.b] 28), (wr.heap.size, .cells #[.int .i64 o0, .int .i64 o1, .int .i64 i, .int .i64 o3] 61)] ∧ Put1 m m' i v c)
  case first =>
    go_region_with (first | (go_at_call 12; refine (HC.out _).mono ?_; rintro e w2 ⟨rfl, hb2⟩; have hS2 := (HS1.out.below (Below.refl _ _).drew).below (w' := w2) hb2; obtain ⟨l1, _, _, k1, k1'⟩ := row4 (hS2.mem (b := wr.heap.size) (.tail _ (.head _))); have HS2 := hide hS2; clear hS2 hb2) | (go_at_call 64; refine (HS2.out.putAt i c).mono ?_; rintro e w3 ⟨v, m', rfl, hS3, h3⟩; have HS3 := hide hS3; have H3 := hide h3; clear hS3 h3))
    all_goals (try go_wp2_with fail)
    all_goals go_meet
    all_goals exact ⟨v, m', rfl, HS3.out, H3.out⟩
  case rest =>
    obtain ⟨v, m', rfl, hS3, h3⟩ := hcut
    have HS3 := hide hS3
    obtain ⟨l1, _, _, k1, k1'⟩ := row4 (hS3.mem (b := wr.heap.size) (.tail _ (.head _)))
    clear hS3 HS1
    rcases h3 with ⟨h1, rfl, rfl⟩ | ⟨k, y, rfl, hm, rfl, rfl⟩ | ⟨k, rfl, hm, rfl, rfl⟩
    · have e := look_out m' i h1
      have e1 := HX.out
      have e2 := HBB.out
      rw [e] at e1 e2
      have HE := hide e
      simp only [Option.isSome_none] at e2
      subst e2
      have H1 := hide h1
      clear h1 e e1
      go_wp2_with fail
      refine (HS3.out.st.get i).mono ?_
      rintro e w4 ⟨rfl, hb4⟩
      have HS4 := hide (HS3.out.below hb4)
      obtain ⟨q1, _, _, k1, _⟩ := row4 (HS4.out.mem (b := wr.heap.size) (.tail _ (.head _)))
      clear hb4
      rw [HE.out]
      simp only [Cl.val, Cl.zero, Option.getD_none, Option.isSome_none]
      rcases H1.out with h1 | h1
      · go_wp2
        go_ret
        exact ⟨rfl, m', (HS4.out.alloc _).st, rfl⟩
      · by_cases h0 : i < 0
        · exfalso; omega
        · have hd : decide ((m'.length : Int) ≤ i) = true := by simpa using h1
          clear h1
          generalize m'.length = n at *
          go_wp2
          go_ret
          exact ⟨rfl, m', (HS4.out.alloc _).st, rfl⟩
    · have e : look m' (k : Int) = some y := by rw [look_nat, hm]; rfl
      have hk := (List.getElem?_eq_some_iff.1 hm).1
      have e1 := HX.out
      have e2 := HBB.out
      rw [e] at e1 e2
      have HE := hide e
      simp only [Option.isSome_some, Option.getD_some] at e1 e2
      subst e2 e1
      have hd : decide (m'.length ≤ k) = false := by simp; omega
      have hd0 : decide ((k : Int) < 0) = false := by simp
      clear e hm hk
      go_wp2_with fail
      refine (HS3.out.st.get k).mono ?_
      rintro e w4 ⟨rfl, hb4⟩
      have HS4 := hide (HS3.out.below hb4)
      obtain ⟨q1, _, _, k1, _⟩ := row4 (HS4.out.mem (b := wr.heap.size) (.tail _ (.head _)))
      obtain ⟨q2, k2, k3, k4⟩ := row3 (HS4.out.mem (b := w1.heap.size) (.head _))
      clear hb4
      rw [HE.out]
      simp only [Cl.val, Option.getD_some, Option.isSome_some]
      generalize m'.length = n at *
      go_wp2
      go_ret
      exact ⟨rfl, m', (HS4.out.alloc _).st, rfl⟩
    · have hk := (List.getElem?_eq_some_iff.1 hm).1
      have e : look m (k : Int) = none := by rw [look_nat, hm]; rfl
      have HE := hide (look_some_set m k c hk)
      have e1 := HX.out
      have e2 := HBB.out
      rw [e] at e1 e2
      simp only [Option.isSome_none, Option.getD_none] at e1 e2
      subst e2 e1
      have hd : decide (m.length ≤ k) = false := by simp; omega
      have hd0 : decide ((k : Int) < 0) = false := by simp
      clear e hm hk
      go_wp2_with fail
      refine (HS3.out.st.get k).mono ?_
      rintro e w4 ⟨rfl, hb4⟩
      have HS4 := hide ((HS3.out.below hb4).alloc (.cells #[.string c.s, .int .i64 c.a, .int .i64 c.b] 28))
      obtain ⟨q1, _, _, k1, k1'⟩ := row4 ((HS3.out.below hb4).mem (b := wr.heap.size) (.tail _ (.head _)))
      clear hb4
      rw [HE.out]
      simp only [Cl.val, Option.getD_some, Option.isSome_some]
      have HN := hide (show (m.set k (some c)).length = m.length by simp)
      generalize m.length = n at hd ⊢
      go_wp2_with fail
      obtain ⟨l3, k3, k4, k5⟩ := row3 (HS4.out.mem (b := w4.heap.size) (.head _))
      obtain ⟨l4, _, _, _, k2⟩ := row4 (HS4.out.mem (b := wr.heap.size) (.tail _ (.tail _ (.head _))))
      generalize hW : w4.alloc (.cells #[.string c.s, .int .i64 c.a, .int .i64 c.b] 28) = W at *
      refine region_below (by kernel_rfl) (by kernel_rfl) ?_
      iterate 6 (refine wpQuiet_step (fun K hK => ?_); go_simp; refine ⟨_, fun _ _ => rfl, hK _ ?_⟩; clear hK K)
      refine wpQuiet_step (fun K hK => ?_)
      go_simp
      refine ⟨.agg #[.string c.s, .int .i64 c.a, .int .i64 c.b], fun w' hw' => ?_, hK _ ?_⟩
      · have c3 := (hw'.cell (p := ⟨w4.heap.size, 0, none⟩) l3).trans k3
        have c4 := (hw'.cell (p := ⟨w4.heap.size, 1, none⟩) l3).trans k4
        have c5 := (hw'.cell (p := ⟨w4.heap.size, 2, none⟩) l3).trans k5
        go_simp
      clear hK K
      refine wpQuiet_step (fun K hK => ?_); go_simp; refine ⟨_, fun _ _ => rfl, hK _ ?_⟩; clear hK K
      refine wpQuiet_step (fun K hK => ?_)
      go_simp
      refine ⟨.int .i64 o3, fun w' hw' => ?_, hK _ ?_⟩
      · have c3 := (hw'.cell (p := ⟨wr.heap.size, 3, none⟩) l4).trans k2
        go_simp
      clear hK K
      refine wpQuiet_step (fun K hK => ?_)
      go_simp
      refine ⟨.agg #[.string c.s, .int .i64 c.a, .int .i64 c.b], fun w' hw' => calls_below hw' (HC.out w'), hK _ ?_⟩
      clear hK K
      iterate 3 (refine wpQuiet_step (fun K hK => ?_); go_simp; refine ⟨_, fun _ _ => rfl, hK _ ?_⟩; clear hK K)
      refine wpQuiet_nil ?_
      intro w' hw'
      have HS6 := hide ((HS4.out.below hw').st)
      clear hw'
      go_wp2
      go_ret
      exact ⟨rfl, _, HS6.out, HN.out⟩
end Go.Proofs.Ytooikfmebjohfaa
