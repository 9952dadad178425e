import Derived.Test.YtimfgjndgfjjgaaRB
import Derived.BigQuiet
import Derived.WalkSmall
namespace Go.Proofs.Ytimfgjndgfjjgaa
open Go.RowKit Go.Shelf

/-- a row of places, with room behind it or not -/
def PR (wr : World) (v : Value) (M : List (Nat × Nat)) : Prop :=
  (v = .slice none 0 0 ∧ M = []) ∨ ∃ g cap cur, v = .slice (some ⟨g, 0, none⟩) M.length cap ∧ wr.heap[g]? = some (.cells cur 28 (0, 0)) ∧ M.length ≤ cap ∧ cap ≤ maxLen ∧ cap * 2 ≤ cur.size ∧
    ∀ k (hk : k < M.length), cur[k * 2]? = some (.int .i64 (M[k].1 : Int)) ∧ cur[k * 2 + 1]? = some (.int .i64 (M[k].2 : Int))
theorem PR.len {wr : World} {v : Value} {M : List (Nat × Nat)} (h : PR wr v M) : ∃ a c, v = .slice a M.length c := by
  rcases h with ⟨rfl, rfl⟩ | ⟨g, cap, cur, rfl, _⟩
  · exact ⟨_, _, rfl⟩
  · exact ⟨_, _, rfl⟩
theorem PR.keep {w w' : World} {v : Value} {M : List (Nat × Nat)} (h : PR w v M) (hk : ∀ g, v.ownBlock = some g → w'.heap[g]? = w.heap[g]?) : PR w' v M := by
  rcases h with h | ⟨g, cap, cur, rfl, h1, h2⟩
  · exact .inl h
  · exact .inr ⟨g, cap, cur, rfl, (hk g rfl).trans h1, h2⟩
theorem PR.lt {w : World} {v : Value} {M : List (Nat × Nat)} (h : PR w v M) : ∀ g, v.ownBlock = some g → g < w.heap.size := by
  rcases h with ⟨rfl, _⟩ | ⟨g, cap, cur, rfl, h1, _⟩
  · intro g hg; cases hg
  · intro g' hg; cases hg; exact (Array.getElem?_eq_some_iff.1 h1).1
def ixM (M : List (Nat × Nat)) (e s : Int) : Int := match M.findIdx? (isP e s) with
  | some i => (i : Int)
  | none => -1
theorem isP_val {e s : Int} {q : Nat × Nat} : isP e s q = (decide ((q.1 : Int) = e) && decide ((q.2 : Int) = s)) := rfl
set_option maxRecDepth 8000 in
set_option maxHeartbeats 4000000 in
theorem at_any (w : World) (Mb : Nat) (v : Value) (M : List (Nat × Nat)) (hm : w.heap[Mb]? = some (.cells #[v] 65 (0, 0))) (hp : PR w v M) (hn : M.length ≤ 2000) (e s : Int) :
    Calls Try.prog 27 #[.pointer (some ⟨Mb, 0, none⟩), .agg #[.int .i64 e, .int .i64 s]] w fun x w' => x = .returned (.int .i64 (ixM M e s)) ∧ Below w.heap.size w w' := by
  obtain ⟨L, hL⟩ : ∃ L, M.length = L := ⟨_, rfl⟩
  obtain ⟨a, c, rfl⟩ := hp.len
  obtain ⟨W, hW⟩ : ∃ W, W = w.alloc (.cells #[.int .i64 e, .int .i64 s] 28) := ⟨_, rfl⟩
  have hb0 := ((Below.refl w.heap.size w).alloc (Nat.le_refl _) (.cells #[.int .i64 e, .int .i64 s] 28))
  have hp0 := heap_alloc_new w (.cells #[.int .i64 e, .int .i64 s] 28)
  rw [← hW] at hb0 hp0
  have HW := hide hW
  have HC : Hid (∀ wr, Below W.heap.size W wr → Below w.heap.size w wr ∧ wr.heap[w.heap.size]? = some (.cells #[.int .i64 e, .int .i64 s] 28 (0, 0)) ∧ wr.cell? ⟨Mb, 0, none⟩ = some (.slice a L c) ∧ ∀ k (hk : k < M.length), ∃ g, a = some ⟨g, 0, none⟩ ∧ wr.cell? ⟨g, k * 2, none⟩ = some (.int .i64 (M[k].1 : Int)) ∧ wr.cell? ⟨g, k * 2 + 1, none⟩ = some (.int .i64 (M[k].2 : Int))) := by
    refine hide fun wr hbr => ?_
    have hbw := hb0.trans (hbr.mono hb0.size)
    refine ⟨hbw, (hbr.block _ (Array.getElem?_eq_some_iff.1 hp0).1).trans hp0, ?_, fun k hk => ?_⟩
    · rw [cell_of_row _ _ _ _ _ _ ((hbw.block Mb (Array.getElem?_eq_some_iff.1 hm).1).trans hm), ← hL]; rfl
    · rcases hp with ⟨_, rfl⟩ | ⟨g, cap, cur, hv, h1, _, _, _, h5⟩
      · cases hk
      · cases hv
        have hg := (hbw.block g (Array.getElem?_eq_some_iff.1 h1).1).trans h1
        exact ⟨g, rfl, by rw [cell_of_row _ _ _ _ _ _ hg]; exact (h5 k hk).1, by rw [cell_of_row _ _ _ _ _ _ hg]; exact (h5 k hk).2⟩
  clear hm hp hb0 hp0 hW
  rw [hL] at hn
  have HL := hide hL
  clear hL
  go_enter Try.func27, Try.ntmps27
  go_upto_region 1 with fail
  rw [← HW.out]
  go_wp2_with fail
  go_loopw [5] (fun x wr => ∃ k : Nat, k ≤ L ∧ x = .int .i64 (k : Int) ∧ Hid (∀ j (hj : j < M.length), j < k → isP e s M[j] = false) ∧ Hid (Below W.heap.size W wr)) (fun x _ => L - (intOf x).toNat)
  case atStart => exact ⟨0, by omega, rfl, hide (fun j hj h => by omega), Below.refl _ _⟩
  case round =>
  obtain ⟨k, hk, rfl, K1, K2⟩ := hrel
  obtain ⟨hbw, hp, hmc, hq⟩ := HC.out wr K2.out
  have HB := hide hbw
  have p0 : wr.cell? ⟨w.heap.size, 0, none⟩ = some (.int .i64 e) := by rw [cell_of_row _ _ _ _ _ _ hp]; rfl
  have p1 : wr.cell? ⟨w.heap.size, 1, none⟩ = some (.int .i64 s) := by rw [cell_of_row _ _ _ _ _ _ hp]; rfl
  clear hp hbw
  by_cases hlt : k < L
  · have hlt' : k < M.length := by rw [HL.out]; exact hlt
    obtain ⟨g, rfl, q0, q1⟩ := hq k (by first | exact hlt | exact hlt')
    clear hq
    have hkl : (k : Int) < (L : Int) := by omega
    have hwk : k * 2 + 1 < L * 2 := by omega
    have L2' := hide (fun n => below_drewN K2.out n)
    have HB2 := hide (fun n => below_drewN HB.out n)
    by_cases hP : isP e s M[k] = true
    · have HF : Hid (ixM M e s = (k : Int)) := by
        refine hide ?_
        unfold ixM
        rw [List.findIdx?_eq_some_iff_getElem.2 ⟨hlt', hP, fun j hj => by simp [K1.out j (by omega) hj]⟩]
      have hPP := isP_iff.1 hP
      rw [hPP.1] at q0
      rw [hPP.2] at q1
      clear hP hPP K1 K2 HC HL
      go_upto_region 4 with fail
      go_quiet (fail)
      go_wp2
      go_ret
      exact ⟨by rw [HF.out]; rfl, HB2.out _⟩
    · have L1 : Hid (∀ j (hj : j < M.length), j < k + 1 → isP e s M[j] = false) := by
        refine hide fun j hj hjk => ?_
        rcases Nat.lt_or_ge j k with h | h
        · exact K1.out j hj h
        · obtain rfl : j = k := by omega
          simpa using hP
      have hne : (M[k].1 : Int) = e → ¬ (M[k].2 : Int) = s := fun h1 h2 => hP (isP_iff.2 ⟨h1, h2⟩)
      generalize (M[k].1 : Int) = z1 at *
      generalize (M[k].2 : Int) = z2 at *
      clear hP K1 K2 HC HL
      by_cases hz : z1 = e
      · have hz2 := hne hz
        subst hz
        clear hne
        have hd2 : decide (z2 = s) = false := by simp [hz2]
        go_upto_region 4 with fail
        go_quiet (fail)
        have L2 := hide (L2'.out nq)
        go_wp2
        go_roundw
        case rel => exact ⟨k + 1, by omega, by go_num, L1, L2⟩
        case measure => simp [intOf]; omega
      · clear hne
        have hd2 : decide (z1 = e) = false := by simp [hz]
        go_upto_region 4 with fail
        go_quiet (fail)
        have L2 := hide (L2'.out nq)
        go_wp2
        go_roundw
        case rel => exact ⟨k + 1, by omega, by go_num, L1, L2⟩
        case measure => simp [intOf]; omega
  · have hd : decide ((k : Int) < (L : Int)) = false := by simp; omega
    have HF : Hid (ixM M e s = -1) := by
      refine hide ?_
      unfold ixM
      rw [List.findIdx?_eq_none_iff.2 fun x hx => ?_]
      obtain ⟨j, hj, rfl⟩ := List.getElem_of_mem hx
      exact K1.out j hj (by have := HL.out; omega)
    clear K1 HC HL hq
    go_wp2
    go_ret
    exact ⟨by rw [HF.out]; rfl, HB.out⟩
end Go.Proofs.Ytimfgjndgfjjgaa
