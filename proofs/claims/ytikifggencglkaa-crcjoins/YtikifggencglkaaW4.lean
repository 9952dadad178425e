import Derived.Test.YtikifggencglkaaW2
import Derived.Laws.Rows
import Derived.Laws.Tables
import Derived.Deep.WholeRow
import Derived.Laws.CopyOwn
import Derived.Deep.RegionHeld
namespace Go.Proofs.Ytikifggencglkaa
open Go.RowKit

theorem arr_set (m : Nat → Nat) (k v : Nat) : (arr m).setIfInBounds k (.int .u32 (v : Nat)) = arr (fun i => if i = k then v else m i) := by
  apply Array.ext_getElem?
  intro j
  by_cases hj : j < 32
  · by_cases e : k = j
    · subst e; simp [arr, hj]
    · simp [arr, hj, e, Ne.symm e]
  · simp [arr, hj]
theorem arr_zero : (#[Value.int .u32 0, .int .u32 0, .int .u32 0, .int .u32 0, .int .u32 0, .int .u32 0, .int .u32 0, .int .u32 0, .int .u32 0, .int .u32 0, .int .u32 0, .int .u32 0, .int .u32 0, .int .u32 0, .int .u32 0, .int .u32 0, .int .u32 0, .int .u32 0, .int .u32 0, .int .u32 0, .int .u32 0, .int .u32 0, .int .u32 0, .int .u32 0, .int .u32 0, .int .u32 0, .int .u32 0, .int .u32 0, .int .u32 0, .int .u32 0, .int .u32 0, .int .u32 0] : Array Value) = arr (fun _ => 0) := rfl
theorem arr_congr {m m' : Nat → Nat} (h : ∀ i, i < 32 → m i = m' i) : arr m = arr m' := by
  unfold arr; congr 1; apply List.map_congr_left; intro i hi; rw [h i (by simpa using hi)]
theorem arr_one (m : Nat → Nat) : (arr m).all (·.oneCell') = true := by
  rw [Array.all_eq_true_iff_forall_mem]; intro v hv; simp [arr] at hv; obtain ⟨i, _, rfl⟩ := hv; rfl
theorem info35 : (Try.prog.info? 35).map (·.size) = some 32 := by kernel_rfl

/-- block g of W holds the row m -/
def Holds (W : World) (g : Nat) (m : Nat → Nat) : Prop := W.heap[g]? = some (.cells (arr m) 35 (0, 0))
theorem Holds.cell {W : World} {g : Nat} {m : Nat → Nat} (h : Holds W g m) {i : Nat} (hi : i < 32) : W.cell? ⟨g, i, none⟩ = some (.int .u32 (m i : Nat)) := by
  rw [cell_of_row W g i _ _ _ h, arr_get m i hi]
theorem Holds.frozen {W : World} {g : Nat} {m : Nat → Nat} (h : Holds W g m) (i : Nat) : W.frozen? ⟨g, i, none⟩ = false := frozen_of_row W g i _ _ h
theorem Holds.set {W : World} {g : Nat} {m : Nat → Nat} (h : Holds W g m) (k v : Nat) : Holds (W.setCell ⟨g, k, none⟩ (.int .u32 (v : Nat))) g (fun i => if i = k then v else m i) := by
  unfold Holds; rw [heap_setCell_same W g k _ _ _ h, arr_set]
theorem Holds.setOther {W : World} {g : Nat} {m : Nat → Nat} (h : Holds W g m) (a : Addr) (v : Value) (hne : g ≠ a.block) : Holds (W.setCell a v) g m := by
  unfold Holds; rw [heap_setCell_other W a g v hne]; exact h
theorem Holds.setRow {W : World} {g : Nat} {m : Nat → Nat} (h : Holds W g m) (m' : Nat → Nat) : Holds (W.setRow g (arr m')) g m' := setRow_heap W g _ _ _ _ h
theorem Holds.congr {W : World} {g : Nat} {m m' : Nat → Nat} (h : Holds W g m) (e : ∀ i, i < 32 → m i = m' i) : Holds W g m' := by
  unfold Holds; rw [← arr_congr e]; exact h

theorem Holds.range {W : World} {g : Nat} {m : Nat → Nat} (h : Holds W g m) : W.rangeAt g 0 (arr m).toList := by
  intro j v hv
  rw [Nat.zero_add, cell_of_row W g j (arr m) 35 (0, 0) h]
  simpa using hv
theorem Holds.drew {W : World} {g : Nat} {m : Nat → Nat} (h : Holds W g m) : Holds W.drew g m := h
theorem Holds.below {W W' : World} {g B : Nat} {m : Nat → Nat} (h : Holds W g m) (hb : Below B W W') (hg : g < B) : Holds W' g m := by
  have := hb.block g hg
  unfold Holds; rw [this]; exact h
theorem World.heap_alloc_lt' (w : World) (o : Obj) (i : Nat) (h : i < w.heap.size) : (w.alloc o).heap[i]? = w.heap[i]? := by
  show (w.heap.push o)[i]? = w.heap[i]?
  rw [Array.getElem?_push, if_neg (Nat.ne_of_lt h)]
theorem ne11 (N : Nat) : N + 1 + 1 ≠ N := by omega
theorem range_set {W : World} {g : Nat} {cs : List Value} (h : W.rangeAt g 0 cs) (p : Addr) (v : Value) (hne : p.block ≠ g) : (W.setCell p v).rangeAt g 0 cs := by
  intro j u hu
  rw [World.cell?_setCell_far _ _ _ _ hne]; exact h j u hu
theorem load_arr {ops : Array Oper} {rest : List Oper} {o : Oper} {a : Act} {w : World} {Q : Exit → Act → World → Prop} (hgd : o.guard = none) (x : Operand) (ho : o.op = .load 35 x)
    (g : Nat) (hx : a.eval x = .pointer (some ⟨g, 0, none⟩)) (m : Nat → Nat) (hg : Holds w g m) (h : wpList Try.prog ops Q rest (a.put o.dst (.agg (arr m))) w) : wpList Try.prog ops Q (o :: rest) a w :=
  wpList_load_row hgd 35 x ho g hx 35 (arr m) (0, 0) _ hg Try.underlying35 rfl (by rw [arr_size]; exact info35) h
theorem store_arr {ops : Array Oper} {rest : List Oper} {o : Oper} {a : Act} {w : World} {Q : Exit → Act → World → Prop} (hgd : o.guard = none) (x y : Operand) (ho : o.op = .store 35 x y)
    (g : Nat) (m' : Nat → Nat) (hx : a.eval x = .pointer (some ⟨g, 0, none⟩)) (hy : a.eval y = .agg (arr m')) (m : Nat → Nat) (hg : Holds w g m)
    (h : wpList Try.prog ops Q rest (a.put o.dst undef) (w.setRow g (arr m'))) : wpList Try.prog ops Q (o :: rest) a w :=
  wpList_store_row hgd 35 x y ho g (arr m') hx hy 35 (arr m) hg (by rw [arr_size]; exact info35) (by rw [arr_size, arr_size]) (arr_one _) h
theorem result_arr {fn : Func} {p : Tmp} (h : fn.results = #[.cell p 35]) (tmps : Array Value) (w : World) (g : Nat) (m : Nat → Nat)
    (hp : tmps.getD p undef = .pointer (some ⟨g, 0, none⟩)) (hg : Holds w g m) : (results fn tmps).run Try.prog w = .ok (.agg (arr m)) w :=
  results_cell_row h tmps w g 35 (arr m) (0, 0) _ hp hg Try.underlying35 rfl (by rw [arr_size]; exact info35)

def f8 (k i : Nat) : Nat := if i < k then M.fk 8 (2 ^ i) else 0

theorem pow_lt32 (k : Nat) (hk : k < 32) : 2 ^ k < 4294967296 := Nat.pow_lt_pow_of_lt (a := 2) (n := k) (m := 32) (by decide) hk
theorem shl1 (k : Nat) (hk : k < 32) : (1 : Int) * 2 ^ k % 4294967296 = ((2 ^ k : Nat) : Int) := by
  have h := pow_lt32 k hk
  have e : (1 : Int) * 2 ^ k = ((2 ^ k : Nat) : Int) := by simp
  rw [e]
  generalize 2 ^ k = q at *
  omega
theorem shl1' (k : Nat) (hk : k < 32) : (2 : Int) ^ k % 4294967296 = ((2 ^ k : Nat) : Int) := by
  have := shl1 k hk; rwa [Int.one_mul] at this
def FR (k j S : Nat) : Prop := S = M.fk j (2 ^ k)
theorem FR_lt {k j S : Nat} (h : FR k j S) (hk : k < 32) : S < 4294967296 := by subst h; exact M.fk_lt _ (pow_lt32 k hk)
theorem FR_step {k j S : Nat} (h : FR k j S) : FR k (j + 1) (M.fb S) := by subst h; rfl
theorem FR_0 (k : Nat) : FR k 0 (2 ^ k) := rfl

set_option maxHeartbeats 400000 in
theorem eight_any (w : World) :
    Calls Try.prog 13 #[.func (.func 14) #[] #[]] w fun e w' => e = .returned (.agg (arr fun i => M.fk 8 (2 ^ i))) ∧ Below w.heap.size w w' := by
  go_enter Try.func13, Try.ntmps13
  go_wp2
  simp only [arr_zero]
  go_loopw [6] (fun i wr => ∃ k : Nat, k ≤ 32 ∧ i = .int .i64 k ∧ Holds wr w.heap.size (fun _ => 0) ∧ Holds wr (w.heap.size + 1) (f8 k) ∧ Below w.heap.size w wr) (fun i _ => 32 - (intOf i).toNat)
  case atStart => exact ⟨0, by omega, rfl, heap_alloc2_old _ _ _, heap_alloc2_new _ _ _, ((Below.refl _ _).alloc (Nat.le_refl _) _).alloc (by simp) _⟩
  case round =>
    obtain ⟨k, hk, rfl, hA, hB, hbel⟩ := hrel
    by_cases hlt : k < 32
    · obtain ⟨q, hq⟩ : ∃ q, 2 ^ k = q := ⟨_, rfl⟩
      have hsh : (2 : Int) ^ k % 4294967296 = (q : Int) := by rw [shl1' k hlt, hq]
      have hF0 : FR k 0 q := hq.symm
      clear hq
      have hd : decide ((k : Int) < 32) = true := by simp; omega
      go_wp2
      have HSH := hide hsh
      clear hsh
      go_loop [5, 11] (fun s j => ∃ J S : Nat, J ≤ 8 ∧ j = .int .i64 J ∧ s = .int .u32 S ∧ FR k J S) (fun _ j => 8 - (intOf j).toNat)
      case atStart => exact ⟨0, q, by omega, rfl, by rw [unhide HSH], hF0⟩
      case round =>
        obtain ⟨J, S, hJ, rfl, rfl, hS⟩ := hrel
        have hSl := FR_lt hS hlt
        have HS := hide hS
        clear hS
        by_cases hj : J < 8
        · go_wp2_with (go_at_call 14; refine (forth_any S _ (by omega) (by omega)).mono ?_; rintro e w' ⟨rfl, rfl⟩)
          go_round
          case rel => exact ⟨J + 1, M.fb S, by omega, by go_num, rfl, FR_step (unhide HS)⟩
          case measure => simp [intOf]; omega
        · have hc := hB.cell hlt
          have hf := hB.frozen k
          have HA := hide hA
          have HB := hide hB
          clear hA hB
          go_wp2
          go_roundw
          case rel =>
            refine ⟨k + 1, by omega, by go_num, (unhide HA).setOther _ _ (by simp), ((unhide HB).set k S).congr ?_, hbel.setCell (by simp) _⟩
            intro i hi
            have hS8 : S = M.fk 8 (2 ^ k) := by have := unhide HS; rw [show J = 8 by omega] at this; exact this
            unfold f8
            by_cases e : i = k
            · subst e; simp [hS8]
            · rw [if_neg e]
              by_cases e' : i < k
              · rw [if_pos e', if_pos (by omega)]
              · rw [if_neg e', if_neg (by omega)]
          case measure => simp [intOf]; omega
    · obtain rfl : k = 32 := by omega
      have hB' : Holds wr (w.heap.size + 1) (fun i => M.fk 8 (2 ^ i)) := hB.congr fun i hi => by simp [f8, hi]
      have HA := hide hA
      have HB := hide hB'
      clear hA hB hB'
      go_wp2_with (first | (refine load_arr rfl _ rfl _ rfl _ (unhide HB) ?_) | (refine store_arr rfl _ _ rfl _ _ rfl rfl _ (unhide HA) ?_))
      exact bodyPost_ret (v := .agg (arr fun i => M.fk 8 (2 ^ i))) (result_arr Try.results13 _ _ w.heap.size _ rfl ((unhide HA).setRow _)) rfl ⟨rfl, below_setRow hbel (Nat.le_refl _) _⟩

def dbl (m : Nat → Nat) (k i : Nat) : Nat := if i < k then M.linAll m (m i) else 0
theorem dbl_after {N k : Nat} {wr w1 : World} {m : Nat → Nat} (hM : Holds wr N m) (hA : Holds wr (N + 1) fun _ => 0) (hB : Holds wr (N + 2) (dbl m k)) (hsz : N + 3 ≤ wr.heap.size) (hlt : k < 32)
    (hb : Below wr.drew.heap.size wr.drew w1) :
    w1.rangeAt N 0 (arr m).toList ∧ w1.cell? ⟨N, k, none⟩ = some (.int .u32 (m k : Nat)) ∧ w1.cell? ⟨N + 1 + 1, k, none⟩ = some (.int .u32 (dbl m k k : Nat)) ∧ w1.frozen? ⟨N + 1 + 1, k, none⟩ = false ∧
    Hid (Holds w1 N m ∧ Holds w1 (N + 1) (fun _ => 0) ∧ Holds w1 (N + 2) (dbl m k) ∧ Below wr.heap.size wr w1) := by
  have hs : wr.drew.heap.size = wr.heap.size := rfl
  have a := (hM.drew).below hb (by omega)
  have b := (hA.drew).below hb (by omega)
  have c := (hB.drew).below hb (by omega)
  exact ⟨a.range, a.cell hlt, c.cell hlt, c.frozen k, a, b, c, ⟨hb.os, hb.tape, hb.output, hb.size, hb.block⟩⟩

set_option maxHeartbeats 400000 in
theorem doubled_any (m : Nat → Nat) (w : World) (hm : ∀ i, i < 32 → m i < 4294967296) :
    Calls Try.prog 20 #[.agg (arr m)] w fun e w' => e = .returned (.agg (arr fun i => M.linAll m (m i))) ∧ Below w.heap.size w w' := by
  go_enter Try.func20, Try.ntmps20
  go_wp2
  simp only [arr_zero]
  go_loopw [5] (fun i wr => ∃ k : Nat, k ≤ 32 ∧ i = .int .i64 k ∧ w.heap.size + 3 ≤ wr.heap.size ∧ Holds wr w.heap.size m ∧ Holds wr (w.heap.size + 1) (fun _ => 0) ∧ Holds wr (w.heap.size + 2) (dbl m k) ∧ Below w.heap.size w wr) (fun i _ => 32 - (intOf i).toNat)
  case atStart =>
    refine ⟨0, by omega, rfl, by simp, ?_, ?_, ?_, (((Below.refl _ _).alloc (Nat.le_refl _) _).alloc (by simp) _).alloc (by simp; omega) _⟩
    · unfold Holds
      rw [World.heap_alloc_lt' _ _ _ (by simp; omega), heap_alloc2_old]
    · have h := heap_alloc2_old (w.alloc (Obj.cells (arr m) 35)) (Obj.cells (arr fun _ => 0) 35) (Obj.cells (arr fun _ => 0) 35)
      rwa [World.size_alloc] at h
    · have h := heap_alloc2_new (w.alloc (Obj.cells (arr m) 35)) (Obj.cells (arr fun _ => 0) 35) (Obj.cells (arr fun _ => 0) 35)
      rwa [World.size_alloc] at h
  case round =>
    obtain ⟨k, hk, rfl, hsz, hM, hA, hB, hbel⟩ := hrel
    by_cases hlt : k < 32
    · have hmk := hm k hlt
      have hc := hM.cell hlt
      have hd : decide ((k : Int) < 32) = true := by simp; omega
      have hr := hM.range
      have hi35 : (Try.prog.info? 35).map (·.size) = some (arr m).toList.length := by rw [Array.length_toList, arr_size]; exact info35
      have hu35 := Try.underlying35
      have hc2 := hB.cell hlt
      have hf2 := hB.frozen k
      have HM := hide hM
      have HA := hide hA
      have HB := hide hB
      clear hM hA hB
      go_wp2
      go_region_held (fun w' => w'.rangeAt w.heap.size 0 (arr m).toList ∧ w'.cell? ⟨w.heap.size, k, none⟩ = some (.int .u32 (m k : Nat)))
        (first | go_keep | exact ⟨q1, q2⟩ | exact ⟨range_set q1 _ _ (ne11 _), by rw [World.cell?_setCell_far _ _ _ _ (ne11 _)]; exact q2⟩)
        ((go_at_call 19; refine (of_any m (m k) _ hm hmk).mono ?_; rintro e w1 ⟨rfl, hb⟩
          have q0 := dbl_after (unhide HM) (unhide HA) (unhide HB) hsz hlt hb
          obtain ⟨q1, q2, q3, q4, Q⟩ := q0))
      obtain ⟨rM, rA, rB, rb⟩ := unhide Q
      have HMA := hide (And.intro rM (And.intro rA rB))
      clear rM rA rB Q q1 q2 q3 q4 hr hc hc2 hf2 HM HA HB
      go_wp2
      go_roundw
      case rel =>
        obtain ⟨rM, rA, rB⟩ := unhide HMA
        have hss := rb.size
        refine ⟨k + 1, by omega, by go_num, by simp; omega, rM.setOther _ _ (Ne.symm (ne11 _)), rA.setOther _ _ (by simp), (rB.set k _).congr ?_, (hbel.trans (rb.mono (by omega))).setCell (by simp; omega) _⟩
        intro i hi
        unfold dbl
        by_cases e : i = k
        · subst e; simp
        · rw [if_neg e]
          by_cases e' : i < k
          · rw [if_pos e', if_pos (by omega)]
          · rw [if_neg e', if_neg (by omega)]
      case measure => simp [intOf]; omega
    · obtain rfl : k = 32 := by omega
      have hB' : Holds wr (w.heap.size + 1 + 1) (fun i => M.linAll m (m i)) := hB.congr fun i hi => by simp [dbl, hi]
      have HA := hide hA
      have HB := hide hB'
      clear hA hB hB' hM
      go_wp2_with (first | (refine load_arr rfl _ rfl _ rfl _ (unhide HB) ?_) | (refine store_arr rfl _ _ rfl _ _ rfl rfl _ (unhide HA) ?_))
      exact bodyPost_ret (v := .agg (arr fun i => M.linAll m (m i))) (result_arr Try.results20 _ _ (w.heap.size + 1) _ rfl ((unhide HA).setRow _)) rfl ⟨rfl, below_setRow hbel (by omega) _⟩
end Go.Proofs.Ytikifggencglkaa
