import Derived.Test.YtcbfolpeglfbcaaG4
import Derived.Deep.Cut
namespace Go.Proofs.Ytcbfolpeglfbcaa
open Go.RowKit
section
variable (w : World) (B : Nat) (m : Nat → E)
/-- the first k as m tells, the others absent -/
def upto (m : Nat → E) (k : Nat) : Nat → E := fun v => if v < k then m v else none
theorem sc_nil : sc nil = [.bool false, .int .i64 0, .bool false, .bool false, .int .i64 0, .bool false, .bool false, .int .i64 0, .bool false, .bool false, .int .i64 0, .bool false, .bool false, .int .i64 0, .bool false, .bool false, .int .i64 0, .bool false, .bool false, .int .i64 0, .bool false, .bool false, .int .i64 0, .bool false, .bool false, .int .i64 0, .bool false, .bool false, .int .i64 0, .bool false, .bool false, .int .i64 0, .bool false, .bool false, .int .i64 0, .bool false, .bool false, .int .i64 0, .bool false, .bool false, .int .i64 0, .bool false, .bool false, .int .i64 0, .bool false, .bool false, .int .i64 0, .bool false] := rfl
set_option maxRecDepth 100000 in
set_option maxHeartbeats 1600000 in
theorem seen_any (h : Tb w B m) :
    Calls Try.prog 12 #[.pointer (some ⟨B, 0, none⟩)] w fun e w' => e = .returned (.agg (sc m).toArray) ∧ Below w.heap.size w w' := by
  go_enter Try.func12, Try.ntmps12
  go_upto_region 2 with fail
  have hb1 : Below w.heap.size w (w.alloc (.cells (sc nil).toArray 35)) := (Below.refl _ _).alloc (Nat.le_refl _) _
  have hn1 := Sn.new w nil
  have hs1 : (w.alloc (.cells (sc nil).toArray 35)).heap.size = w.heap.size + 1 := by simp
  have hb2 := hb1.alloc hb1.size (.cells (sc nil).toArray 35)
  have hn2 := Sn.new (w.alloc (.cells (sc nil).toArray 35)) nil
  have hn1' := hn1.below ((Below.refl _ _).alloc (Nat.le_refl _) (.cells (sc nil).toArray 35))
  have ht := h.below hb2
  rw [hs1] at hn2
  rw [sc_nil] at hb2
  rw [sc_nil] at ht
  have hsz : w.heap.size + 1 < ((w.alloc (.cells (sc nil).toArray 35)).alloc (.cells (sc nil).toArray 35)).heap.size := hn2.lt
  rw [sc_nil] at hn2 hn1' hsz
  generalize (w.alloc (.cells _ 35)).alloc (.cells _ 35) = w2 at *
  have HS := hide hsz
  have HX := hide (And.intro ht (And.intro hn1' (And.intro hn2 hb2)))
  clear hb1 hn1 hs1 hb2 hn2 hn1' ht hsz h
  obtain ⟨N, hN⟩ : ∃ N, w.heap.size = N := ⟨_, rfl⟩
  rw [hN]
  rw [hN] at HX HS
  go_wp2
  go_loopw [4] (fun i wr => ∃ k : Nat, k ≤ 16 ∧ i = .int .i64 (k : Int) ∧ Tb wr B m ∧ Sn wr N nil ∧ Sn wr (N + 1) (upto m k) ∧ Below N w wr) (fun i _ => 16 - (intOf i).toNat)
  case atStart => exact ⟨0, by omega, rfl, HX.out.1, HX.out.2.1, HX.out.2.2.1.congr (fun v _ => by simp [upto, nil]), HX.out.2.2.2⟩
  case round =>
    obtain ⟨k, hk, rfl, hT, hA, hS, hB⟩ := hrel
    clear HX
    by_cases hlt : k < 16
    · have hd : decide ((k : Int) < 16) = true := by simp; omega
      go_wp2_with fail
      have HE : Calls Try.prog 25 #[.pointer (some ⟨B, 0, none⟩), .int .i64 (k : Int)] wr fun e w' => e = .returned (.tuple #[.agg #[.bool (m k).isSome, .int .i64 (sl (m k) : Nat), .bool (wb (m k))], .int .i64 0]) ∧ Below wr.heap.size wr w' := entry_ok wr B m k hT hlt
      refine HE.mono ?_
      rintro e w1 ⟨rfl, hb⟩
      have hS1 := hS.below hb
      have hne : B ≠ N + 1 := fun e => by
        have h1 := hT.out; have h2 := hS.out; rw [e, h2] at h1; simp at h1
      have h1 : Tb (w1.setCells (N + 1) (k * 3) (ent (m k))) B m := (hT.below hb).keep (heap_setCells_other _ _ hne _ _ _)
      have h2 : Sn (w1.setCells (N + 1) (k * 3) (ent (m k))) N nil := (hA.below hb).keep (heap_setCells_other _ _ (by omega) _ _ _)
      have h3 : Sn (w1.setCells (N + 1) (k * 3) (ent (m k))) (N + 1) (upto m (k + 1)) := (hS1.set hlt (m k)).congr (fun v _ => by
        simp only [upd, upto]
        by_cases e : v = k
        · subst e; simp
        · by_cases e2 : v < k
          · simp [e, e2, Nat.lt_succ_of_lt e2]
          · simp [e, e2, show ¬ v < k + 1 by omega])
      have h4 : Below N w (w1.setCells (N + 1) (k * 3) (ent (m k))) := by
        have hB1 := hB.trans (hb.mono (by rw [← hN]; exact hB.size))
        refine hB1.trans (((Mod.refl (fun b => b = N + 1) w1).setCells (b := N + 1) (.inl rfl) (k * 3) (ent (m k))).below (fun b hb => by omega) (by rw [← hN]; exact hB1.size))
      have HY := hide (And.intro h1 (And.intro h2 (And.intro h3 h4)))
      obtain ⟨c0, c1, c2⟩ := hS1.c hlt
      have f0 := frozen_of_row _ _ (k * 3) _ _ hS1.out
      have f1 := frozen_of_row _ _ (k * 3 + 1) _ _ hS1.out
      have f2 := frozen_of_row _ _ (k * 3 + 2) _ _ hS1.out
      have e0 : ent (m k) = [.bool (m k).isSome, .int .i64 (sl (m k) : Nat), .bool (wb (m k))] := rfl
      rw [e0] at HY
      clear h1 h2 h3 h4 hS1 hS hA hT hB HE hb e0
      generalize (upto m k k).isSome = o0 at *
      generalize ((sl (upto m k k) : Nat) : Int) = o1 at *
      generalize wb (upto m k k) = o2 at *
      generalize (m k).isSome = p0 at *
      generalize ((sl (m k) : Nat) : Int) = p1 at *
      generalize wb (m k) = p2 at *
      go_wp2
      go_roundw
      case rel => exact ⟨k + 1, by omega, by go_num, HY.out⟩
      case measure => simp [intOf]; omega
    · have hd : decide ((k : Int) < 16) = false := by simp; omega
      have hS' : Sn wr (N + 1) m := hS.congr (fun v hv => by simp [upto, show v < k by omega])
      have HY := hide (And.intro hA (And.intro hS' hB))
      clear hT hA hS hB hS'
      go_wp2_with (first
        | refine wpList_load_row rfl 35 _ rfl (N + 1) rfl 35 (sc m).toArray (0, 0) _ HY.out.2.1.out Try.underlying35 rfl (by simp only [List.size_toArray, sc_len]; exact info35) ?_
        | refine wpList_store_row rfl 35 _ _ rfl N (sc m).toArray rfl rfl 35 _ HY.out.1.out (by simp only [List.size_toArray, sc_len]; exact info35) (by simp only [List.size_toArray, sc_len]) (all_oneCell_toArray (sc_one m)) ?_)
      refine bodyPost_ret (results_cell_row rfl _ _ N 35 (sc m).toArray (0, 0) _ rfl (setRow_heap _ _ _ _ _ _ HY.out.1.out) Try.underlying35 rfl (by simp only [List.size_toArray, sc_len]; exact info35)) rfl ?_
      subst hN
      exact ⟨rfl, below_setRow HY.out.2.2 (Nat.le_refl _) _⟩
end
end Go.Proofs.Ytcbfolpeglfbcaa
