import Derived.Test.YtooikfmebjohfaaM6
import Derived.Deep.Slices
namespace Go.Proofs.Ytooikfmebjohfaa
open Go.RowKit

/-- has y come among the first i? -/
def sn (A : Nat → Int) (i : Nat) (y : Int) : Bool := (List.range i).any (fun k => A k == y)
theorem sn_succ (A : Nat → Int) (i : Nat) (y : Int) : sn A (i + 1) y = (sn A i y || A i == y) := by
  simp [sn, List.range_succ]
theorem sn_iff (A : Nat → Int) (i : Nat) (y : Int) : sn A i y = true ↔ ∃ k, k < i ∧ A k = y := by
  simp [sn]
theorem sn_hit {Z : Nat → Int × Int × Int × Int} {k i : Nat} (hk : k < i) {y : Int} (h : (Z k).2.2.1 = y) : sn (fun k => (Z k).2.2.1) i y = true := (sn_iff _ _ _).2 ⟨k, hk, h⟩
theorem sn_hitB {Z : Nat → Int × Int × Int × Int} {k i : Nat} (hk : k < i) {y : Int} (h : (Z k).2.2.2 = y) : sn (fun k => (Z k).2.2.2) i y = true := (sn_iff _ _ _).2 ⟨k, hk, h⟩
theorem count_step (A : Nat → Int) (i : Nat) : ∀ (ks : List Int), ks.Nodup → ks.countP (sn A (i + 1)) = ks.countP (sn A i) + (if A i ∈ ks ∧ sn A i (A i) = false then 1 else 0)
  | [], _ => by simp
  | k :: ks, hn => by
    have ih := count_step A i ks (List.nodup_cons.1 hn).2
    have hk := (List.nodup_cons.1 hn).1
    rw [List.countP_cons, List.countP_cons, ih, sn_succ]
    by_cases he : A i = k
    · subst he
      cases hs : sn A i (A i) with
      | true => simp
      | false => simp [hk]
    · have h1 : (A i == k) = false := by simpa using he
      rw [h1, Bool.or_false]
      simp only [List.mem_cons, he, false_or]
      omega
theorem count_all (A : Nat → Int) (n : Nat) (ks : List Int) (h : ∀ k ∈ ks, sn A n k = true) : ks.countP (sn A n) = ks.length := List.countP_eq_length.2 h
theorem count_zero (A : Nat → Int) (ks : List Int) : ks.countP (sn A 0) = 0 := List.countP_eq_zero.2 (fun _ _ => by simp [sn])

/-- a slice of structs of four numbers, as it came in -/
def Quads (w : World) (a1 : Option Addr) (len : Nat) (Z : Nat → Int × Int × Int × Int) : Prop :=
  ∀ k, k < len → ∃ x, a1 = some x ∧ w.cell? (x.add (k * 4)) = some (.int .i64 (Z k).1) ∧ w.cell? (x.add (k * 4 + 1)) = some (.int .i64 (Z k).2.1) ∧
    w.cell? (x.add (k * 4 + 2)) = some (.int .i64 (Z k).2.2.1) ∧ w.cell? (x.add (k * 4 + 3)) = some (.int .i64 (Z k).2.2.2)
theorem add_pos (a : Addr) (i : Nat) (h : i ≠ 0) : a.add i = ⟨a.block, a.off + i, none⟩ := by
  unfold Addr.add; split <;> simp_all
theorem quad_cell {w wr : World} {x : Addr} {n i : Nat} {v : Value} (hb : Below w.heap.size w wr) (hi : i ≠ 0) (h : w.cell? (x.add (n + i)) = some v) : wr.cell? ⟨(x.add n).block, (x.add n).off + i, none⟩ = some v := by
  have e : (x.add n).add i = x.add (n + i) := Deep.add_add x n i
  rw [← add_pos _ i hi, e, hb.cell (World.block_lt_of_cell? w _ h)]
  exact h
theorem Quads.at {w wr : World} {a1 : Option Addr} {len : Nat} {Z : Nat → Int × Int × Int × Int} (h : Quads w a1 len Z) (hb : Below w.heap.size w wr) {k : Nat} (hk : k < len) :
    ∃ x : Addr, a1 = some x ∧ wr.cell? (x.add (k * 4)) = some (.int .i64 (Z k).1) ∧ wr.cell? ⟨(x.add (k * 4)).block, (x.add (k * 4)).off + 1, none⟩ = some (.int .i64 (Z k).2.1) ∧
      wr.cell? ⟨(x.add (k * 4)).block, (x.add (k * 4)).off + 2, none⟩ = some (.int .i64 (Z k).2.2.1) ∧ wr.cell? ⟨(x.add (k * 4)).block, (x.add (k * 4)).off + 3, none⟩ = some (.int .i64 (Z k).2.2.2) := by
  obtain ⟨x, hx, h0, h1, h2, h3⟩ := h k hk
  exact ⟨x, hx, (by rw [hb.cell (World.block_lt_of_cell? w _ h0)]; exact h0), quad_cell hb (by decide) h1, quad_cell hb (by decide) h2, quad_cell hb (by decide) h3⟩

set_option maxRecDepth 8000 in
set_option maxHeartbeats 1600000 in
theorem firstA_any (w wa : World) (a1 : Option Addr) (len cap : Nat) (Z : Nat → Int × Int × Int × Int) (hlen : len ≤ maxLen) (hv : Quads w a1 len Z) (hb : Below w.heap.size w wa) (i : Nat) (hi : i < len) :
    Calls Try.prog 56 #[.slice a1 len cap, .int .i64 i] wa fun e w' => e = .returned (.bool (!(sn (fun k => (Z k).2.2.1) i (Z i).2.2.1))) ∧ Below wa.heap.size wa w' := by
  have hl2 : len ≤ 9223372036854775807 := by unfold maxLen at hlen; omega
  have HV := hide hv
  have HB := hide hb
  obtain ⟨x, rfl, _⟩ := hv.at hb hi
  clear hv hb hlen
  go_enter Try.func56, Try.ntmps56
  go_wp2
  go_loopw [5] (fun v wr => ∃ k : Nat, k ≤ i ∧ v = .int .i64 k ∧ Hid (sn (fun k => (Z k).2.2.1) k (Z i).2.2.1 = false) ∧ Below wa.heap.size wa wr) (fun v _ => i - (intOf v).toNat)
  case atStart => exact ⟨0, by omega, rfl, by simp [sn, Hid], Below.refl _ _⟩
  case round =>
    obtain ⟨k, hk, rfl, HN, hbr⟩ := hrel
    by_cases hki : k < i
    · have hbw := HB.out.trans (hbr.mono HB.out.size)
      obtain ⟨x1, hx1, _, _, e1, _⟩ := HV.out.at hbw (show k < len by omega)
      obtain ⟨x2, hx2, _, _, e2, _⟩ := HV.out.at hbw hi
      cases hx1
      cases hx2
      have l1 := World.block_lt_of_cell? _ _ e1
      have l2 := World.block_lt_of_cell? _ _ e2
      have hkl : (k : Int) < (len : Int) := by omega
      have hil : (i : Int) < (len : Int) := by omega
      generalize hy1 : (Z k).2.2.1 = y1 at *
      have HY := hide hy1
      clear hy1
      go_wp2_with fail
      refine region_below (by kernel_rfl) (by kernel_rfl) ?_
      iterate 4 (refine wpQuiet_step (fun K hK => ?_); go_simp; refine ⟨_, fun _ _ => rfl, hK _ ?_⟩; clear hK K)
      refine wpQuiet_step (fun K hK => ?_)
      go_simp
      refine ⟨.int .i64 y1, fun w' hw' => ?_, hK _ ?_⟩
      · have c3 := (hw'.cell (p := ⟨(x.add (k * 4)).block, (x.add (k * 4)).off + 2, none⟩) l1).trans e1
        go_simp
      clear hK K
      iterate 4 (refine wpQuiet_step (fun K hK => ?_); go_simp; refine ⟨_, fun _ _ => rfl, hK _ ?_⟩; clear hK K)
      refine wpQuiet_step (fun K hK => ?_)
      go_simp
      refine ⟨.int .i64 (Z i).2.2.1, fun w' hw' => ?_, hK _ ?_⟩
      · have c3 := (hw'.cell (p := ⟨(x.add (i * 4)).block, (x.add (i * 4)).off + 2, none⟩) l2).trans e2
        go_simp
      clear hK K
      refine wpQuiet_step (fun K hK => ?_); go_simp; refine ⟨_, fun _ _ => rfl, hK _ ?_⟩; clear hK K
      refine wpQuiet_nil ?_
      intro w5 hw5
      have Hb5 := hide (hbr.trans (hw5.mono hbr.size))
      clear hw5 e1 e2 l1 l2 hbr
      cases hq : (y1 == (Z i).2.2.1) with
      | true =>
        go_wp2
        go_ret
        refine ⟨?_, Hb5.out⟩
        rw [sn_hit hki (show (Z k).2.2.1 = (Z i).2.2.1 from HY.out.trans (by simpa using hq))]
        rfl
      | false =>
        have HN2 := hide (show sn (fun k => (Z k).2.2.1) (k + 1) (Z i).2.2.1 = false by rw [sn_succ, HN.out, HY.out, hq]; rfl)
        go_wp2
        go_roundw
        case rel =>
          first
            | exact ⟨k + 1, by omega, by go_num, HN2, Hb5.out⟩
            | ((repeat apply Exists.intro); refine ⟨?_, rfl⟩; exact ⟨k + 1, by omega, by go_num, HN2, Hb5.out⟩)
        case measure => simp [intOf]; omega
    · obtain rfl : k = i := by omega
      go_wp2
      go_ret
      exact ⟨by rw [HN.out]; rfl, hbr⟩
set_option maxRecDepth 8000 in
set_option maxHeartbeats 1600000 in
theorem firstB_any (w wa : World) (a1 : Option Addr) (len cap : Nat) (Z : Nat → Int × Int × Int × Int) (hlen : len ≤ maxLen) (hv : Quads w a1 len Z) (hb : Below w.heap.size w wa) (i : Nat) (hi : i < len) :
    Calls Try.prog 57 #[.slice a1 len cap, .int .i64 i] wa fun e w' => e = .returned (.bool (!(sn (fun k => (Z k).2.2.2) i (Z i).2.2.2))) ∧ Below wa.heap.size wa w' := by
  have hl2 : len ≤ 9223372036854775807 := by unfold maxLen at hlen; omega
  have HV := hide hv
  have HB := hide hb
  obtain ⟨x, rfl, _⟩ := hv.at hb hi
  clear hv hb hlen
  go_enter Try.func57, Try.ntmps57
  go_wp2
  go_loopw [5] (fun v wr => ∃ k : Nat, k ≤ i ∧ v = .int .i64 k ∧ Hid (sn (fun k => (Z k).2.2.2) k (Z i).2.2.2 = false) ∧ Below wa.heap.size wa wr) (fun v _ => i - (intOf v).toNat)
  case atStart => exact ⟨0, by omega, rfl, by simp [sn, Hid], Below.refl _ _⟩
  case round =>
    obtain ⟨k, hk, rfl, HN, hbr⟩ := hrel
    by_cases hki : k < i
    · have hbw := HB.out.trans (hbr.mono HB.out.size)
      obtain ⟨x1, hx1, _, _, _, e1⟩ := HV.out.at hbw (show k < len by omega)
      obtain ⟨x2, hx2, _, _, _, e2⟩ := HV.out.at hbw hi
      cases hx1
      cases hx2
      have l1 := World.block_lt_of_cell? _ _ e1
      have l2 := World.block_lt_of_cell? _ _ e2
      have hkl : (k : Int) < (len : Int) := by omega
      have hil : (i : Int) < (len : Int) := by omega
      generalize hy1 : (Z k).2.2.2 = y1 at *
      have HY := hide hy1
      clear hy1
      go_wp2_with fail
      refine region_below (by kernel_rfl) (by kernel_rfl) ?_
      iterate 4 (refine wpQuiet_step (fun K hK => ?_); go_simp; refine ⟨_, fun _ _ => rfl, hK _ ?_⟩; clear hK K)
      refine wpQuiet_step (fun K hK => ?_)
      go_simp
      refine ⟨.int .i64 y1, fun w' hw' => ?_, hK _ ?_⟩
      · have c3 := (hw'.cell (p := ⟨(x.add (k * 4)).block, (x.add (k * 4)).off + 3, none⟩) l1).trans e1
        go_simp
      clear hK K
      iterate 4 (refine wpQuiet_step (fun K hK => ?_); go_simp; refine ⟨_, fun _ _ => rfl, hK _ ?_⟩; clear hK K)
      refine wpQuiet_step (fun K hK => ?_)
      go_simp
      refine ⟨.int .i64 (Z i).2.2.2, fun w' hw' => ?_, hK _ ?_⟩
      · have c3 := (hw'.cell (p := ⟨(x.add (i * 4)).block, (x.add (i * 4)).off + 3, none⟩) l2).trans e2
        go_simp
      clear hK K
      refine wpQuiet_step (fun K hK => ?_); go_simp; refine ⟨_, fun _ _ => rfl, hK _ ?_⟩; clear hK K
      refine wpQuiet_nil ?_
      intro w5 hw5
      have Hb5 := hide (hbr.trans (hw5.mono hbr.size))
      clear hw5 e1 e2 l1 l2 hbr
      cases hq : (y1 == (Z i).2.2.2) with
      | true =>
        go_wp2
        go_ret
        refine ⟨?_, Hb5.out⟩
        rw [sn_hitB hki (show (Z k).2.2.2 = (Z i).2.2.2 from HY.out.trans (by simpa using hq))]
        rfl
      | false =>
        have HN2 := hide (show sn (fun k => (Z k).2.2.2) (k + 1) (Z i).2.2.2 = false by rw [sn_succ, HN.out, HY.out, hq]; rfl)
        go_wp2
        go_roundw
        case rel =>
          first
            | exact ⟨k + 1, by omega, by go_num, HN2, Hb5.out⟩
            | ((repeat apply Exists.intro); refine ⟨?_, rfl⟩; exact ⟨k + 1, by omega, by go_num, HN2, Hb5.out⟩)
        case measure => simp [intOf]; omega
    · obtain rfl : k = i := by omega
      go_wp2
      go_ret
      exact ⟨by rw [HN.out]; rfl, hbr⟩
end Go.Proofs.Ytooikfmebjohfaa
