import Derived.Test.YtihkkbbphdgagaaH6
import Derived.Deep.Cut
namespace Go.Proofs.Ytihkkbbphdgagaa
open Go.RowKit

/-- a page of the call's own -/
structure Pg (w : World) (N : Nat) (p : Nat → Nat) : Prop where
  out : w.heap[N]? = some (.cells (page p).toArray 24 (0, 0))
theorem Pg.range {w : World} {N : Nat} {p : Nat → Nat} (h : Pg w N p) : w.rangeAt N 0 (page p) := fun j v hv => by rw [cell_of_row _ _ _ _ _ _ h.out, Nat.zero_add]; simpa using hv
theorem Pg.cell {w : World} {N i : Nat} {p : Nat → Nat} (h : Pg w N p) (hi : i < 32) : w.cell? ⟨N, i, none⟩ = some (.int .u32 (p i : Nat)) := by
  have := h.range i _ (page_get p hi); rwa [Nat.zero_add] at this
theorem Pg.lt {w : World} {N : Nat} {p : Nat → Nat} (h : Pg w N p) : N < w.heap.size := (Array.getElem?_eq_some_iff.1 h.out).1
theorem Pg.mod {w w' : World} {N : Nat} {p : Nat → Nat} (h : Pg w N p) {F : Nat → Prop} (hm : Mod F w w') (hF : ¬ F N) : Pg w' N p := by
  exact ⟨by rw [hm.block N h.lt hF]; exact h.out⟩
theorem Pg.below {w w' : World} {N : Nat} {p : Nat → Nat} (h : Pg w N p) {B : Nat} (hm : Below B w w') (hF : N < B) : Pg w' N p := by
  exact ⟨by rw [hm.block N hF]; exact h.out⟩

theorem load24 {ops : Array Oper} {rest : List Oper} {op : Oper} {a : Act} {w : World} {Q : Exit → Act → World → Prop} (hw : Region.wanted op (yielded ops a.tmps) = true) (x : Operand) (ho : op.op = .load 24 x) (b o : Nat)
    (hx : a.eval x = .pointer (some ⟨b, o, none⟩)) (p : Nat → Nat) (hc : w.rangeAt b o (page p)) (h : wpList Try.prog ops Q rest (a.put op.dst (.agg (page p).toArray)) w) : wpList Try.prog ops Q (op :: rest) a w :=
  BigFrame.wpList_want hw fun _ hK => wp_load_mid 24 x ho b o hx (page p) _ hc Try.underlying24 rfl info24 (hK _ _ h)
theorem store24 {ops : Array Oper} {rest : List Oper} {op : Oper} {a : Act} {w : World} {Q : Exit → Act → World → Prop} (hw : Region.wanted op (yielded ops a.tmps) = true) (x y : Operand) (ho : op.op = .store 24 x y) (N : Nat) (p q : Nat → Nat)
    (hx : a.eval x = .pointer (some ⟨N, 0, none⟩)) (hy : a.eval y = .agg (page p).toArray) (hc : Pg w N q) (h : wpList Try.prog ops Q rest (a.put op.dst undef) (w.setCells N 0 (page p))) : wpList Try.prog ops Q (op :: rest) a w :=
  BigFrame.wpList_want hw fun _ hK => wp_store_mid 24 x y ho N 0 (page p).toArray hx hy (fun j hj => by
    rw [List.size_toArray, page_len] at hj
    exact ⟨by rw [Nat.zero_add, hc.cell hj]; rfl, frozen_of_row _ _ _ _ _ hc.out⟩) info24 (page_all p) (hK _ _ h)
/-- a memory that the call made, behind the base w -/
structure Sx (w wr : World) (B G n : Nat) (m : Nat → Fr) : Prop where
  mem : MemAt wr B G n m
  b : w.heap.size ≤ B
  g : w.heap.size ≤ G
  bel : Below w.heap.size w wr
section
variable {w wr w' : World} {B G n N : Nat} {m m' : Nat → Fr} {p : Nat → Nat}
theorem Sx.go (h : Sx w wr B G n m) (hg : MGo wr w' B G n m') : Sx w w' B G n m' :=
  ⟨hg.1, h.b, h.g, h.bel.trans (hg.2.below (fun b hb => by rw [hb]; exact h.g) h.bel.size)⟩
theorem Sx.below (h : Sx w wr B G n m) (hb : Below wr.heap.size wr w') : Sx w w' B G n m :=
  ⟨h.mem.below hb, h.b, h.g, h.bel.trans (hb.mono h.bel.size)⟩
/-- a new page, and words laid into it -/
def fresh (w : World) (p : Nat → Nat) : World := (w.alloc (.cells (page (fun _ => 0)).toArray 24)).setCells w.heap.size 0 (page p)
theorem fresh_pg (w : World) (p : Nat → Nat) : Pg (fresh w p) w.heap.size p := by
  obtain ⟨cs', h1, h2, h3⟩ := heap_setCells w.heap.size 24 (page p) 0 _ _ (heap_alloc_last w (.cells (page (fun _ => 0)).toArray 24))
  have hs : (page (fun _ => 0)).toArray.size = 32 := by simp [page_len]
  have hc : cs' = (page p).toArray := by
    apply Array.ext_getElem?
    intro j
    by_cases hj : j < 32
    · rw [h3 j (by rw [hs]; exact hj), if_pos (by rw [page_len]; omega)]; simp
    · rw [Array.getElem?_eq_none (by rw [h2, hs]; omega), Array.getElem?_eq_none (by simp [page_len]; omega)]
  unfold fresh
  exact ⟨by rw [h1, hc]⟩
theorem fresh_below (w : World) (p : Nat → Nat) : Below w.heap.size w (fresh w p) := by
  have h := (Mod.refl (fun _ => False) w).alloc (.cells (page (fun _ => 0)).toArray 24)
  exact (h.setCells (b := w.heap.size) (.inr (Nat.le_refl _)) 0 (page p)).below (fun b hb => hb.elim) (Nat.le_refl _)
theorem Pg.go (h : Pg wr N p) (hg : MGo wr w' B G n m') (hN : N ≠ G) : Pg w' N p := h.mod hg.2 hN
theorem Pg.up (h : Pg wr N p) (hb : Below wr.heap.size wr w') : Pg w' N p := h.below hb h.lt
end
theorem eqP_setW (p : Nat → Nat) {k : Nat} (hk : k < 32) (v : Nat) : eqP (setW p k v) p = decide (p k = v) := by
  rw [Bool.eq_iff_iff, eqP_iff]
  simp only [decide_eq_true_eq]
  constructor
  · intro h; have := h k hk; simp [setW] at this; exact this.symm
  · intro h j _; unfold setW; split
    · rename_i e; subst e; exact h.symm
    · rfl
set_option maxRecDepth 10000 in
set_option maxHeartbeats 1000000 in
theorem copies_walk (p : Nat → Nat) (i : Int) (v : Nat) (w : World) :
    Calls Try.prog 7 #[.agg (page p).toArray, .int .i64 i, .int .u32 (v : Int)] w fun e w' => e = .returned (.bool true) ∧ Below w.heap.size w w' := by
  go_enter Try.func7, Try.ntmps7
  by_cases h0 : i < 0 ∨ 32 ≤ i
  · by_cases h1 : i < 0
    · go_wp2
      go_ret
      exact ⟨rfl, (Below.refl _ _).alloc (Nat.le_refl _) _⟩
    · have h2 : 32 ≤ i := by omega
      go_wp2
      go_ret
      exact ⟨rfl, (Below.refl _ _).alloc (Nat.le_refl _) _⟩
  · obtain ⟨k, rfl⟩ := Int.eq_ofNat_of_zero_le (show 0 ≤ i by omega)
    have hk : k < 32 := by omega
    clear h0
    have hd1 : decide ((k : Int) < 0) = false := by simp
    have hd2 : decide (32 ≤ (k : Int)) = false := by simp; omega
    have hp0 : Pg (w.alloc (.cells (page p).toArray 24)) w.heap.size p := ⟨heap_alloc_last _ _⟩
    have hb0 : Below w.heap.size w (w.alloc (.cells (page p).toArray 24)) := (Below.refl _ _).alloc (Nat.le_refl _) _
    go_wp2_with fail
    generalize w.alloc (.cells (page p).toArray 24) = w0 at *
    refine (two_any w0 2 (by omega) (by omega)).mono ?_
    rintro e w1 ⟨B, G, rfl, hM, hB, hG, hb1⟩
    have hp1 := hp0.up hb1
    have hNG : w.heap.size ≠ G := by have := hp0.lt; omega
    have h1 : Sx w w1 B G 2 two := ⟨hM, Nat.le_trans hb0.size hB, Nat.le_trans hb0.size hG, hb0.trans (hb1.mono hb0.size)⟩
    clear hM hB hG hb1 hp0 hb0
    have r1 := hp1.range
    go_wp2_with (refine load24 rfl _ rfl w.heap.size 0 rfl _ r1 ?_)
    refine (setPage_on w1 B G 2 two 0 p h1.mem ⟨by omega, by simp [two, upd, Fr.new]⟩).mono ?_
    rintro e w2 ⟨rfl, hg⟩
    have h2 := h1.go hg
    have hp2 := hp1.go hg hNG
    clear h1 hp1 hg r1
    generalize hm1 : upd two 0 { two 0 with d := true, w := p } = m1 at *
    have q1 : (m1 0).w = p ∧ 0 < (m1 0).h ∧ 0 < (m1 1).h := by rw [← hm1]; simp [two, upd, Fr.new]
    clear hm1
    go_wp2_with fail
    refine (copy_on w2 B G 2 m1 0 1 h2.mem ⟨by omega, q1.2.1⟩ ⟨by omega, q1.2.2⟩).mono ?_
    rintro e w3 ⟨rfl, hg⟩
    have h3 := h2.go hg
    have hp3 := hp2.go hg hNG
    clear h2 hp2 hg
    generalize hm2 : upd m1 1 { m1 1 with d := true, w := (m1 0).w } = m2 at *
    have q2 : (m2 0).w = p ∧ (m2 1).w = p ∧ 0 < (m2 0).h ∧ 0 < (m2 1).h := by rw [← hm2]; simp [upd, q1]
    clear hm2 q1
    go_wp2_with fail
    refine (same_on w3 B G 2 m2 0 1 h3.mem ⟨by omega, q2.2.2.1⟩ ⟨by omega, q2.2.2.2⟩).mono ?_
    rintro e w4 ⟨rfl, hb⟩
    have h4 := h3.below hb
    have hp4 := hp3.up hb
    clear h3 hp3 hb
    rw [q2.1, q2.2.1, eqP_refl]
    go_wp2_with fail
    refine (page_on w4 B G 2 m2 1 h4.mem ⟨by omega, q2.2.2.2⟩).mono ?_
    rintro e w5 ⟨rfl, hb⟩
    have h5 := h4.below hb
    have hp5 := hp4.up hb
    clear h4 hp4 hb
    rw [q2.2.1]
    have he := eq24 p p
    rw [eqP_refl] at he
    have h6 := h5.below (fresh_below w5 p)
    have hp6 := hp5.up (fresh_below w5 p)
    have hq6 := fresh_pg w5 p
    have r1 := hp6.range
    have r2 := hq6.range
    clear h5 hp5
    have hz : Pg (w5.alloc (.cells (page (fun _ => 0)).toArray 24)) w5.heap.size (fun _ => 0) := ⟨heap_alloc_last _ _⟩
    rw [← page_zero] at hz
    go_upto_region 8 with (refine store24 ?hw _ _ rfl w5.heap.size p (fun _ => 0) ?hx ?hy ?hz ?_)
    case hx => rfl
    case hy => rfl
    case hz => exact hz
    simp only [page_zero]
    show Code.wp _ _ _ _ (fresh w5 p)
    clear hz
    generalize fresh w5 p = w6 at *
    generalize w5.heap.size = N5 at *
    go_wp2_with (first | refine load24 rfl _ rfl N5 0 rfl _ r2 ?_ | refine load24 rfl _ rfl w.heap.size 0 rfl _ r1 ?_)
    refine (store_ok w6 B G 2 m2 1 k v h6.mem ⟨by omega, q2.2.2.2⟩ hk).mono ?_
    rintro e w7 ⟨rfl, hg⟩
    have h7 := h6.go hg
    have hp7 := hp6.go hg hNG
    clear h6 hp6 hq6 hg r1 r2
    generalize hm3 : upd m2 1 { m2 1 with d := true, w := setW (m2 1).w k v } = m3 at *
    have q3 : (m3 0).w = p ∧ (m3 1).w = setW p k v ∧ 0 < (m3 0).h ∧ 0 < (m3 1).h := by rw [← hm3]; simp [upd, q2]
    clear hm3 q2
    go_wp2_with fail
    refine (same_on w7 B G 2 m3 1 0 h7.mem ⟨by omega, q3.2.2.2⟩ ⟨by omega, q3.2.2.1⟩).mono ?_
    rintro e w8 ⟨rfl, hb⟩
    have h8 := h7.below hb
    have hp8 := hp7.up hb
    clear h7 hp7 hb
    rw [q3.1, q3.2.1, eqP_setW p hk v]
    go_wp2_with fail
    refine (load_ok w8 B G 2 m3 0 k h8.mem ⟨by omega, q3.2.2.1⟩ hk).mono ?_
    rintro e w9 ⟨rfl, rfl⟩
    rw [q3.1]
    go_wp2_with fail
    refine (load_ok w9 B G 2 m3 1 k h8.mem ⟨by omega, q3.2.2.2⟩ hk).mono ?_
    rintro e w10 ⟨rfl, rfl⟩
    rw [q3.2.1, show setW p k v k = v by simp [setW]]
    have cp := hp8.cell hk
    have HB := hide h8.bel
    clear h8 hp8 q3 he
    by_cases hv : p k = v
    · subst hv
      simp only [decide_true]
      go_wp2
      go_ret
      exact ⟨rfl, HB.out⟩
    · have hd : decide ((p k : Int) = (v : Int)) = false := by simp; omega
      simp only [hv, decide_false]
      go_wp2
      go_ret
      refine ⟨?_, HB.out⟩
      simp
      omega
end Go.Proofs.Ytihkkbbphdgagaa
