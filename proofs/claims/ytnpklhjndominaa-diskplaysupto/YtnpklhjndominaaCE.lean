import Derived.Test.YtnpklhjndominaaCC
namespace Go.Proofs.Ytnpklhjndominaa
open Go.RowKit

def IV (s : Nat) : Value := .int .i64 (s : Int)
/-- the first k of n numbers are laid -/
def prow (l : List Nat) (k n : Nat) : List Value := (l.take k).map IV ++ List.replicate (n - k) (IV 0)
theorem prow_0 (l : List Nat) (n : Nat) : prow l 0 n = List.replicate n (IV 0) := by simp [prow]
theorem prow_all (l : List Nat) (n : Nat) (h : l.length = n) : prow l n n = l.map IV := by
  simp [prow, ← h]
theorem prow_set (l : List Nat) (k n x : Nat) (h : l.length = n) (hk : k < n) (hx : l[k]? = some x) : (prow l k n).set k (IV x) = prow l (k + 1) n := by
  unfold prow
  have hl : ((l.take k).map IV).length = k := by simp; omega
  rw [List.set_append_right _ _ (by omega), hl, Nat.sub_self, show n - k = (n - (k + 1)) + 1 by omega, List.replicate_succ, List.set_cons_zero]
  have e : l.take (k + 1) = l.take k ++ [x] := by
    obtain ⟨h1, h2⟩ := List.getElem?_eq_some_iff.1 hx
    rw [List.take_succ_eq_append_getElem h1, h2]
  rw [e]; simp
theorem prow_len (l : List Nat) (k n : Nat) (h : l.length = n) (hk : k ≤ n) : (prow l k n).length = n := by simp [prow]; omega
theorem info3' : ∃ i, Try.prog.info? 3 = some i ∧ i.zero = some (.int .i64 0) ∧ i.size = 1 ∧ i.bytes = 8 := info_parts (by kernel_rfl)
/-- an own row of numbers -/
def OwI (w : World) (base : Nat) (v : Value) (l : List Nat) : Prop := w.ownsRow base 3 1 v l.length (l.map IV)
theorem pend_len (D : Dsk) : (D.c.map (·.1)).length = D.c.length := by simp
set_option maxRecDepth 100000 in
set_option maxHeartbeats 400000 in
theorem pending_any {B : Nat} {D : Dsk} {w : World} {F : Nat → Prop} (hd : DkA B D w F) (hc : D.c.length ≤ 1000000000) :
    Calls Try.prog 40 #[dp B] w fun e w' => ∃ r, e = .returned r ∧ OwI w' w.heap.size r (D.c.map (·.1)) ∧ Below w.heap.size w w' := by
  obtain ⟨cs, cv, h, he⟩ := hd
  obtain ⟨ao, cap, hcv⟩ := h.len
  obtain ⟨n, hn⟩ : ∃ n, D.c.length = n := ⟨_, rfl⟩
  obtain ⟨i3, hi, hz, hs, hb⟩ := info3'
  rw [hn] at hcv hc
  have hmk := run_make (P := Try.prog) w 67 3 i3 (.int .i64 0) Try.underlying67 hi hz .i64 .i64 n n (by omega) (Int.le_refl _) (by rw [hb]; omega) (by omega)
  rw [hs] at hmk
  obtain ⟨Z, hZ⟩ : ∃ Z, madeCells (Value.int .i64 0).cells ((n : Int).toNat * 1) = Z := ⟨_, rfl⟩
  rw [hZ] at hmk
  have hZe : Z = (prow (D.c.map (·.1)) 0 n).toArray := by
    rw [prow_0, ← hZ, ← Array.toArray_toList (xs := madeCells _ _)]
    simp [Value.cells, toList_madeCells_one, IV]
  have h1 := h.cch
  have ha1 := ((h.below ((Below.refl _ _).alloc (Nat.le_refl _) (Obj.cells Z 3)))).cch
  rw [hcv] at h1 ha1
  have HH := hide h
  have HN := hide hn
  have HZ := hide hZe
  clear h hn hZ hZe hi hz hs hb
  go_enter Try.func40, Try.ntmps40
  go_wp2
  go_loopw [16] (fun i wr => ∃ k : Nat, k ≤ n ∧ i = .int .i64 (k : Int) ∧ wr.heap[w.heap.size]? = some (.cells (prow (D.c.map (·.1)) k n).toArray 3 (0, 0)) ∧ Below w.heap.size w wr) (fun i _ => n - (intOf i).toNat)
  case atStart => exact ⟨0, Nat.zero_le _, rfl, by rw [← HZ.out]; exact heap_alloc_last _ _, (Below.refl _ _).alloc (Nat.le_refl _) _⟩
  case round =>
    obtain ⟨k, hk, rfl, hrow, hbel⟩ := hrel
    have hD := HH.out.below hbel
    by_cases hlt : k < n
    · have hd1 : decide (k < n) = true := by simp; omega
      have hkl : k < D.c.length := by rw [HN.out]; omega
      obtain ⟨x, hx⟩ : ∃ x, D.c[k]? = some x := ⟨_, List.getElem?_eq_getElem hkl⟩
      obtain ⟨g, cp, hcv', hgB, hsec, _⟩ := hD.entry hx
      rw [HN.out, hcv] at hcv'
      simp at hcv'
      obtain ⟨rfl, rfl⟩ := hcv'
      have h5 := hD.cch
      rw [hcv] at h5
      obtain ⟨t, ht⟩ : ∃ t, x.1 = t := ⟨_, rfl⟩
      rw [ht] at hsec
      have hpl := prow_len (D.c.map (·.1)) k n (by rw [pend_len, HN.out]) hk
      have c1 : ∃ u, wr.cell? ⟨w.heap.size, k, none⟩ = some u := by
        refine ⟨_, by rw [cell_of_row _ _ _ _ _ _ hrow, List.getElem?_toArray]; exact List.getElem?_eq_getElem (by rw [hpl]; exact hlt)⟩
      obtain ⟨u, hu⟩ := c1
      have f1 := frozen_of_row wr w.heap.size k _ _ hrow
      have hset := heap_setCell_same wr w.heap.size k _ _ (IV t) hrow
      have HS : Hid ((wr.setCell ⟨w.heap.size, k, none⟩ (.int .i64 (t : Int))).heap[w.heap.size]? = some (.cells (prow (D.c.map (·.1)) (k + 1) n).toArray 3 (0, 0))) := by
        show (wr.setCell ⟨w.heap.size, k, none⟩ (IV t)).heap[w.heap.size]? = _
        rw [← prow_set (D.c.map (·.1)) k n t (by rw [pend_len, HN.out]) hlt (by rw [List.getElem?_map, hx]; simp [ht])]
        simpa using hset
      have HB := hide hbel
      clear hset hrow hD hx ht hpl
      go_wp2
      go_roundw
      case rel => exact ⟨k + 1, by omega, by go_num, HS.out, HB.out.setCell (Nat.le_refl _) _⟩
      case measure => simp [intOf]; omega
    · obtain rfl : k = n := by omega
      rw [prow_all _ _ (by rw [pend_len, HN.out])] at hrow
      have HR := hide hrow
      clear hrow hD
      go_wp2
      go_ret
      refine ⟨_, rfl, ⟨by simp, .inr ⟨w.heap.size, k, _, by rw [pend_len, HN.out]; rfl, Nat.le_refl _, HR.out, by rw [pend_len, HN.out]; exact Nat.le_refl _, by unfold maxLen; omega, by simp [HN.out], by rw [Nat.mul_one]; exact List.take_of_length_le (by simp)⟩⟩, hbel⟩
end Go.Proofs.Ytnpklhjndominaa
