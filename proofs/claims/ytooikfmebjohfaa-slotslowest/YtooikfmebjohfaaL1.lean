import Derived.Test.YtooikfmebjohfaaS2
namespace Go.Proofs.Ytooikfmebjohfaa
open Go.RowKit

/-- Drop, in one form -/
theorem Sb.dropF {w wr : World} {B : Nat} {m : List (Option Cl)} {bs : List (Nat × Obj)} (h : Sb w wr B m bs) (i : Int) :
    Calls Try.prog 33 #[.pointer (some ⟨B, 0, none⟩), .int .i64 i] wr fun e w' => e = .returned (.tuple #[((look m i).getD Cl.zero).val, .bool (look m i).isSome]) ∧
      ∃ m', Sb w w' B m' bs ∧ look m' i = none ∧ m'.length = m.length ∧ m.countP Option.isSome = m'.countP Option.isSome + (look m i).isSome.toNat := by
  refine (h.drop i).mono ?_
  rintro _ w' ⟨v, m', rfl, hS, ⟨h1, rfl, rfl⟩ | ⟨k, x, rfl, hx, rfl, rfl⟩⟩
  · rw [h1]; exact ⟨rfl, m', hS, h1, rfl, rfl⟩
  · have e : look m (k : Int) = some x := by rw [look_nat, hx]; rfl
    rw [e]
    exact ⟨rfl, _, hS, look_none_set m k, by simp, (count_drop hx).symm⟩
set_option maxRecDepth 8000 in
set_option maxHeartbeats 1600000 in
theorem out_any (w wr : World) (B : Nat) (m : List (Option Cl)) (h : St w wr B m) (o0 o1 i o3 : Int) :
    Calls Try.prog 48 #[.pointer (some ⟨B, 0, none⟩), .agg #[.int .i64 o0, .int .i64 o1, .int .i64 i, .int .i64 o3]] wr fun x w' => x = .returned (.bool true) ∧ ∃ m', St w w' B m' ∧ m'.length = m.length := by
  have HS := hide (fun o => h.sb.alloc o)
  have hcnt : m.countP Option.isSome ≤ 4096 := Nat.le_trans count_le h.cap
  have h26 := eq26
  have HG := hide (fun o => (HS.out o).st.get i)
  have HD := hide (fun (wr' : World) (bs : List (Nat × Obj)) (h : Sb w wr' B m bs) => h.dropF i)
  generalize (look m i).getD Cl.zero = c at *
  generalize (look m i).isSome = bb at *
  clear h
  simp only [Cl.val] at *
  generalize hcc : m.countP Option.isSome = cnt at *
  have HC := hide hcc
  clear hcc
  go_enter Try.func48, Try.ntmps48
  go_wp2_with fail
  refine (HG.out _).mono ?_
  rintro e w1 ⟨rfl, hb1⟩
  have HS1 := hide (((HS.out _).below hb1).alloc (.cells #[.string c.s, .int .i64 c.a, .int .i64 c.b] 28))
  clear hb1
  go_wp2_with fail
  refine HS1.out.st.len.mono ?_
  rintro e w2 ⟨rfl, rfl⟩
  rw [HC.out]
  obtain ⟨l1, _, _, k1, _⟩ := row4 (HS1.out.mem (b := wr.heap.size) (.tail _ (.head _)))
  obtain ⟨l2, k2, k3, k4⟩ := row3 (HS1.out.mem (b := w1.heap.size) (.head _))
  go_wp2_with fail
  refine (HD.out _ _ HS1.out).mono ?_
  rintro e w3 ⟨rfl, m', hS3, hn3, hl3, hc3⟩
  have HS3 := hide (hS3.alloc (.cells #[.string c.s, .int .i64 c.a, .int .i64 c.b] 28))
  have HL3 := hide hl3
  have HN3 := hide hn3
  obtain ⟨q1, _, _, k1, _⟩ := row4 (hS3.mem (b := wr.heap.size) (.tail _ (.head _)))
  obtain ⟨q2, k2, k3, k4⟩ := row3 (hS3.mem (b := w1.heap.size) (.head _))
  clear hS3 hl3 hn3 HD HG HS
  go_wp2_with fail
  refine (HS3.out.st.get i).mono ?_
  rintro e w4 ⟨rfl, hb4⟩
  have HS4 := hide (HS3.out.below hb4)
  obtain ⟨q1, _, _, k1, _⟩ := row4 (HS4.out.mem (b := wr.heap.size) (.tail _ (.tail _ (.head _))))
  obtain ⟨q2, k2, k3, k4⟩ := row3 (HS4.out.mem (b := w1.heap.size) (.tail _ (.head _)))
  obtain ⟨q3, k5, k6, k7⟩ := row3 (HS4.out.mem (b := w3.heap.size) (.head _))
  clear hb4
  rw [HN3.out]
  simp only [Cl.val, Cl.zero, Option.getD_none, Option.isSome_none]
  cases bb
  · simp only [Bool.toNat_false, Nat.add_zero] at hc3
    have HC3 := hide hc3
    clear hc3
    go_wp2_with fail
    refine ((HS4.out.alloc _).st.len).mono ?_
    rintro e w5 ⟨rfl, rfl⟩
    rw [← HC3.out]
    go_wp2
    go_ret
    exact ⟨rfl, m', (HS4.out.alloc _).st, HL3.out⟩
  · simp only [Bool.toNat_true] at hc3
    go_wp2_with fail
    refine ((HS4.out.alloc _).st.len).mono ?_
    rintro e w5 ⟨rfl, rfl⟩
    generalize m'.countP Option.isSome = cnt' at *
    subst hc3
    go_wp2
    go_ret
    exact ⟨rfl, m', (HS4.out.alloc _).st, HL3.out⟩
end Go.Proofs.Ytooikfmebjohfaa
