import Derived.Test.YtmdcmpkjhflgpaaRD
namespace Go.Proofs.Ytmdcmpkjhflgpaa
open Go.RowKit

theorem load42 {ops : Array Oper} {rest : List Oper} {op : Oper} {a : Act} {w : World} {Q : Exit → Act → World → Prop} (hw : Region.wanted op (yielded ops a.tmps) = true) (x : Operand) (ho : op.op = .load 42 x) (b o : Nat)
    (hx : a.eval x = .pointer (some ⟨b, o, none⟩)) (f : Fr) (hc : w.rangeAt b o f.rc) (h : wpList Try.prog ops Q rest (a.put op.dst (.agg f.rc.toArray)) w) : wpList Try.prog ops Q (op :: rest) a w :=
  BigFrame.wpList_want hw fun _ hK => wp_load_mid 42 x ho b o hx f.rc _ hc Try.underlying42 rfl infoC (hK _ _ h)
theorem store42 {ops : Array Oper} {rest : List Oper} {op : Oper} {a : Act} {w : World} {Q : Exit → Act → World → Prop} (hw : Region.wanted op (yielded ops a.tmps) = true) (x y : Operand) (ho : op.op = .store 42 x y) (N : Nat) (f g : Fr)
    (hx : a.eval x = .pointer (some ⟨N, 0, none⟩)) (hy : a.eval y = .agg f.rc.toArray) (hc : w.heap[N]? = some (.cells g.rc.toArray 42 (0, 0))) (h : wpList Try.prog ops Q rest (a.put op.dst undef) (w.setCells N 0 f.rc)) : wpList Try.prog ops Q (op :: rest) a w :=
  BigFrame.wpList_want hw fun _ hK => wp_store_mid 42 x y ho N 0 f.rc.toArray hx hy (fun j hj => by
    rw [List.size_toArray, rc_len] at hj
    refine ⟨?_, frozen_of_row _ _ _ _ _ hc⟩
    rw [Nat.zero_add, cell_of_row _ _ _ _ _ _ hc]
    have : j < g.rc.length := by rw [rc_len]; exact hj
    simp [this]) infoC (all_oneCell_toArray (rc_one f)) (hK _ _ h)
/-- a new cell, and a frame laid into it -/
def freshC (w : World) (f : Fr) : World := (w.alloc (.cells Fr.nil.rc.toArray 42)).setCells w.heap.size 0 f.rc
theorem freshC_row (w : World) (f : Fr) : (freshC w f).rangeAt w.heap.size 0 f.rc := by
  obtain ⟨cs', h1, h2, h3⟩ := heap_setCells w.heap.size 42 f.rc 0 _ _ (heap_alloc_last w (.cells Fr.nil.rc.toArray 42))
  intro j v hv
  have hj : j < 36 := by have := (List.getElem?_eq_some_iff.1 hv).1; rwa [rc_len] at this
  unfold freshC
  rw [Nat.zero_add, cell_of_row _ _ _ _ _ _ h1, h3 j (by simp [rc_len]; omega), if_pos (by rw [rc_len]; omega)]
  exact hv
theorem freshC_below (w : World) (f : Fr) : Below w.heap.size w (freshC w f) := by
  have h := (Mod.refl (fun _ => False) w).alloc (.cells Fr.nil.rc.toArray 42)
  exact (h.setCells (b := w.heap.size) (.inr (Nat.le_refl _)) 0 f.rc).below (fun b hb => hb.elim) (Nat.le_refl _)
section
variable (w : World) (B G n c : Nat) (a : Option Addr) (m : Nat → Fr)
set_option maxHeartbeats 400000 in
theorem rinfo_off (f : Int) (h : RfAt w B G n c a m) (hu : Off m n f) :
    Calls Try.prog 15 #[.pointer (some ⟨B, 0, none⟩), .int .i64 f] w fun e w' => e = .returned (.tuple #[.agg Fr.nil.head.toArray, .int .i64 50]) ∧ Below w.heap.size w w' := by
  go_enter Try.func15, Try.ntmps15
  go_wp2_with fail
  refine (used_no _ B G n c a m f (h.alloc _) hu).mono ?_
  rintro e w1 ⟨rfl, rfl⟩
  clear h hu
  have hz := heap_alloc_last w (.cells Fr.nil.head.toArray 51)
  go_wp2_with (refine wpList_store_row rfl 51 _ _ rfl w.heap.size Fr.nil.head.toArray rfl rfl 51 _ (heap_alloc_last w _) info42 rfl rfl ?_)
  refine bodyPost_ret (results_row2 rfl _ _ w.heap.size 51 Fr.nil.head.toArray (0, 0) _ rfl hz Try.underlying51 rfl info42) rfl ?_
  exact ⟨rfl, (Below.refl _ _).alloc (Nat.le_refl _) _⟩
set_option maxHeartbeats 800000 in
theorem rinfo_on (k : Nat) (h : RfAt w B G n c a m) (hu : On m n k) :
    Calls Try.prog 15 #[.pointer (some ⟨B, 0, none⟩), .int .i64 (k : Int)] w fun e w' => e = .returned (.tuple #[.agg (m k).head.toArray, .int .i64 0]) ∧ Below w.heap.size w w' := by
  go_enter Try.func15, Try.ntmps15
  go_wp2_with fail
  refine (used_yes _ B G n c a m k (h.alloc _) hu).mono ?_
  rintro e w1 ⟨rfl, hw1⟩
  have h1 : RfAt w1 B G n c a m := by rw [hw1]; exact h.alloc _
  have hz : w1.heap[w.heap.size]? = some (.cells Fr.nil.head.toArray 51 (0, 0)) := by rw [hw1]; exact heap_alloc_last w _
  have hb1 : Below w.heap.size w w1 := by rw [hw1]; exact (Below.refl _ _).alloc (Nat.le_refl _) _
  have hs1 : w.heap.size < w1.heap.size := by rw [hw1]; simp
  clear hw1 h
  have hk := hu.1
  have c0 := h1.hds hk
  have r1 := h1.fr hk
  clear h1 hu
  have hn : (w1.alloc (.cells Fr.nil.rc.toArray 42)).heap[w1.heap.size]? = some (.cells Fr.nil.rc.toArray 42 (0, 0)) := heap_alloc_last w1 _
  have r2 := freshC_row w1 (m k)
  have hb2 := hb1.trans ((freshC_below w1 (m k)).mono hb1.size)
  have hz2 : (freshC w1 (m k)).heap[w.heap.size]? = some (.cells Fr.nil.head.toArray 51 (0, 0)) := by rw [(freshC_below w1 (m k)).block _ hs1]; exact hz
  go_upto_region 4 with (first | refine load42 rfl _ rfl G (k * 36) rfl (m k) r1 ?_ | refine store42 ?hw _ _ rfl w1.heap.size (m k) Fr.nil ?hx ?hy ?hz ?_)
  case hx => rfl
  case hy => rfl
  case hz => exact hn
  show Code.wp _ _ _ _ (freshC w1 (m k))
  clear hn r1 c0 hz hb1 hs1
  generalize freshC w1 (m k) = w2 at *
  generalize w1.heap.size = N5 at *
  have c1 : w2.cell? ⟨N5, 0, none⟩ = some (.int .i64 ((m k).h : Nat)) := r2 0 _ rfl
  have c2 : w2.cell? ⟨N5, 1, none⟩ = some (.int .i64 (m k).s) := r2 1 _ rfl
  have c3 : w2.cell? ⟨N5, 2, none⟩ = some (.int .i64 (m k).k) := r2 2 _ rfl
  have c4 : w2.cell? ⟨N5, 3, none⟩ = some (.bool (m k).d) := r2 3 _ rfl
  have HB := hide hb2
  clear r2 hb2
  go_wp2_with (refine wpList_store_row rfl 51 _ _ rfl w.heap.size (m k).head.toArray rfl rfl 51 _ hz2 info42 rfl (head_one _) ?_)
  refine bodyPost_ret (results_row2 rfl _ _ w.heap.size 51 (m k).head.toArray (0, 0) _ rfl (setRow_heap _ _ _ _ _ _ hz2) Try.underlying51 rfl info42) rfl ?_
  exact ⟨rfl, below_setRow HB.out (Nat.le_refl _) _⟩
set_option maxHeartbeats 800000 in
theorem rlive_any (h : RfAt w B G n c a m) (hn : n ≤ 64) :
    Calls Try.prog 20 #[.pointer (some ⟨B, 0, none⟩)] w fun e w' => ∃ r, e = .returned r ∧ OwI w' w.heap.size r (lives m n) ∧ Below w.heap.size w w' := by
  obtain ⟨i3, hi, hz, hs, hb⟩ := info3'
  have HH := hide h
  clear h
  go_enter Try.func20, Try.ntmps20
  go_wp2
  go_loopw [3, 4] (fun v i wr => ∃ k : Nat, k ≤ n ∧ i = .int .i64 (k : Int) ∧ OwI wr w.heap.size v (lives m k) ∧ Below w.heap.size w wr) (fun _ i _ => 64 - (intOf i).toNat)
  case atStart => exact ⟨0, by omega, rfl, World.ownsRow_nil _ _ _ _, Below.refl _ _⟩
  case round =>
    obtain ⟨k, hk, rfl, hO, hbel⟩ := hrel
    have hM := HH.out.below hbel
    by_cases hlt : k < n
    · have hd : decide (k < n) = true := by simp; omega
      have c0 := hM.hds hlt
      obtain ⟨c1, _, _, _⟩ := hM.cc hlt
      have HB := hide hbel
      have HO := hide hO
      have hll := lives_len m k
      obtain ⟨a2, c2, rfl⟩ := hO.len
      clear hbel hO hM
      rcases Nat.eq_zero_or_pos (m k).h with h0 | h0
      · rw [h0] at c1
        go_wp2
        go_roundw
        case rel => exact ⟨k + 1, by omega, by go_num, by rw [lives_no h0]; exact HO.out, HB.out⟩
        case measure => simp [intOf]; omega
      · obtain ⟨L, hL⟩ : ∃ L, (lives m k).length = L := ⟨_, rfl⟩
        have HO2 : Hid (wr.ownsRow w.heap.size 3 1 (.slice a2 L c2) L ((lives m k).map In)) := hide (by have := HO.out; unfold OwI at this; rw [hL] at this; exact this)
        rw [hL] at hll ⊢
        have hd2 : decide ((0 : Int) < ((m k).h : Int)) = true := by simp; omega
        go_wp2_with (at_builtin; refine wpList_append_own _ rfl _ _ 56 rfl w.heap.size 3 i3 (.int .i64 0) 1 8 Try.underlying56 hi hz hs hb rfl (by decide) _ L ((lives m k).map In) rfl (HO2.out.alloc _) ⟨wr.heap.size, 0, none⟩ 1 1 [In k] rfl rfl ?c1 ?c2 ?c3 ?c4 ?c5 ?_)
        case c1 => exact cell_one_new _ _ _
        case c2 => simp [In, Value.oneCell']
        case c3 => unfold maxLen; omega
        case c4 => omega
        case c5 => simp; have := HB.out.size; omega
        intro r2 w2 hown hg _
        have h2 : OwI w2 w.heap.size r2 (lives m (k + 1)) := by
          unfold OwI
          rw [lives_yes h0, List.length_append, hL, List.map_append]; exact hown
        have H2 := hide h2
        have HB2 := hide (below_own HB.out HO2.out hg HB.out.size)
        clear hown h2
        go_wp2
        go_roundw
        case rel => exact ⟨k + 1, by omega, by go_num, H2.out, HB2.out⟩
        case measure => simp [intOf]; omega
    · obtain rfl : k = n := by omega
      have hd : decide (k < k) = false := by simp
      have c0 := hM.hd
      have HR := hide (And.intro hO hbel)
      clear hO hbel hM
      go_wp2
      go_ret
      exact ⟨_, rfl, HR.out⟩
set_option maxHeartbeats 800000 in
theorem rfree_any (h : RfAt w B G n c a m) (hn : n ≤ 64) :
    Calls Try.prog 17 #[.pointer (some ⟨B, 0, none⟩)] w fun e w' => e = .returned (.int .i64 ((n - (lives m n).length : Nat) : Int)) ∧ Below w.heap.size w w' := by
  have hll := lives_len m n
  go_enter Try.func17, Try.ntmps17
  go_wp2_with fail
  refine (rlive_any w B G n c a m h hn).mono ?_
  rintro e w1 ⟨r, rfl, hr, hb1⟩
  obtain ⟨a1, c1, rfl⟩ := hr.len
  have c0 := (h.below hb1).hd
  have HB := hide hb1
  clear hb1 hr h
  go_wp2
  go_ret
  refine ⟨?_, HB.out⟩
  simp
  omega
end
end Go.Proofs.Ytmdcmpkjhflgpaa
