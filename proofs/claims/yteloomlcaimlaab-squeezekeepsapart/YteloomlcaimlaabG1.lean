import Derived.Test.YteloomlcaimlaabAE
import Derived.Laws.Cover3
namespace Go.Proofs.Yteloomlcaimlaab
open Go.RowKit
theorem i64_and65535 (n : Int) : bits .and .i64 n 65535 = n % 65536 := by
  have h127 : (BitVec.ofInt 64 65535).toNat = 2 ^ 16 - 1 := by decide
  have key : (BitVec.ofInt 64 n &&& BitVec.ofInt 64 65535).toNat = (n % ((2 ^ 64 : Nat) : Int)).toNat % 2 ^ 16 := by
    rw [BitVec.toNat_and, BitVec.toNat_ofInt, h127, Nat.and_two_pow_sub_one_eq_mod]
  show IntKind.i64.wrap ((BitVec.ofInt 64 n &&& BitVec.ofInt 64 65535).toNat : Nat) = n % 65536
  rw [key, IntKind.wrap_i64]
  omega
theorem pkd_small {b : List Nat} (h : b.length ≤ 65536) : (pkd b).length ≤ 70000 := by have := pkd_len b; omega
theorem pkd_four (b : List Nat) : 4 ≤ (pkd b).length := by unfold pkd; rw [List.length_append]; simp [hd]
theorem Ow.set {w : World} {base g n cap j z : Nat} {zs : List Nat} (h : Ow w base (.slice (some ⟨g, 0, none⟩) n cap) zs) :
    Ow (w.setCell ⟨g, j, none⟩ (.int .u8 (z : Nat))) base (.slice (some ⟨g, 0, none⟩) n cap) (zs.set j z) := by
  obtain ⟨hl, ⟨h0, _⟩ | ⟨g', cap', cur, hv, hb, hg, hn, hm, hs, ht⟩⟩ := h
  · cases h0
  · cases hv
    refine ⟨by simp, .inr ⟨g, cap, cur.setIfInBounds j (By z), by simp, hb, heap_setCell_same w g j cur 5 (By z) hg, by simpa using hn, hm, by simpa using hs, ?_⟩⟩
    rw [List.map_set, ← ht, Array.toList_setIfInBounds]
    rw [List.length_set, List.take_set]
theorem Ow.cell {w : World} {base g n cap j : Nat} {zs : List Nat} (h : Ow w base (.slice (some ⟨g, 0, none⟩) n cap) zs) (hj : j < zs.length) :
    w.cell? ⟨g, j, none⟩ = some (.int .u8 (zs.getD j 0 : Nat)) ∧ w.frozen? ⟨g, j, none⟩ = false := by
  have hc := World.ownsRow.cells h rfl j (By (zs.getD j 0)) (by simp [List.getD, List.getElem?_eq_getElem hj])
  rw [add0] at hc
  obtain ⟨hl, ⟨h0, _⟩ | ⟨g', cap', cur, hv, hb, hg, hn, hm, hs, ht⟩⟩ := h
  · cases h0
  · cases hv
    exact ⟨hc, frozen_of_row w g j cur 5 hg⟩
theorem Ow.some_of {w : World} {base : Nat} {ao : Option Addr} {n cap : Nat} {zs : List Nat} (h : Ow w base (.slice ao n cap) zs) (hp : 0 < zs.length) : ∃ g, ao = some ⟨g, 0, none⟩ ∧ base ≤ g ∧ g < w.heap.size := by
  have h' := h
  obtain ⟨hl, ⟨_, h0⟩ | ⟨g, cap', cur, hv, hb, hg, hn, hm, hs, ht⟩⟩ := h
  · omega
  · simp at hv
    exact ⟨g, hv.1, hb, (Array.getElem?_eq_some_iff.1 hg).1⟩
theorem xor_ne {c x : Nat} (hx : x ≠ 0) : c ^^^ x ≠ c := by
  intro h
  have h2 : (c ^^^ x) ^^^ c = c ^^^ c := by rw [h]
  rw [Nat.xor_comm c x, Nat.xor_assoc, Nat.xor_self, Nat.xor_zero] at h2
  exact hx h2
theorem xor_lt8 {c x : Nat} (hc : c < 256) (hx : x < 256) : c ^^^ x < 256 := Nat.xor_lt_two_pow (n := 8) hc hx
theorem set_ne {l : List Nat} {i z : Nat} (hi : i < l.length) (hz : z ≠ l.getD i 0) : l.set i z ≠ l := by
  intro h
  have := congrArg (fun l => l.getD i 0) h
  simp [List.getD_eq_getElem?_getD, List.getElem?_set_self hi] at this
  rw [List.getD_eq_getElem?_getD, List.getElem?_eq_getElem hi] at hz
  rw [List.getElem?_eq_getElem hi] at this
  exact hz this
theorem set_self {l : List Nat} {i : Nat} : l.set i (l.getD i 0) = l := by
  apply List.ext_getElem?
  intro j
  rw [List.getElem?_set]
  by_cases h : i = j
  · subst h
    by_cases hl : i < l.length
    · simp [hl, List.getD_eq_getElem?_getD]
    · simp [hl]
  · simp [h]
theorem bys_set {l : List Nat} {i z : Nat} (h : Bys l) (hz : z < 256) : Bys (l.set i z) := by
  intro c hc
  rcases List.mem_or_eq_of_mem_set hc with h1 | h1
  · exact h c h1
  · omega
theorem eq_nil (P : Program) (w : World) (a : Option Addr) (l c : Nat) (t e : TypeId) (h : P.underlying t = some (.slice e)) : (binOp .eql t (.slice a l c) (.slice none 0 0)).run P w = .ok (.bool a.isNone) w := by
  simp [binOp, run_equal_slice_nil w t e a l c h]
theorem un_bys {p : List Nat} (hp : Bys p) : Bys (un p).2.1 := by
  unfold un
  split
  · exact Bys.nil
  split
  · exact Bys.nil
  split
  · exact Bys.nil
  split
  · exact Bys.nil
  · exact (dc_fits _ _ (hp.drop 4)).2
section
variable (w : World)
theorem Unpack_pkd (v : Value) (b : List Nat) (hv : Rb w w.heap.size v (pkd b)) (hy : Bys b) (hl : b.length ≤ 65536) :
    Calls Try.prog 10 #[v] w fun e w' => ∃ r, e = .returned (.tuple #[r, .int .i64 0]) ∧ Ow w' w.heap.size r b ∧ Below w.heap.size w w' := by
  refine (Unpack_any w v (pkd b) hv (pkd_bys hy) (by have := pkd_small hl; omega)).mono ?_
  rintro e w' ⟨r, rfl, h1, _, h3⟩
  rw [un_pkd hl] at h1 ⊢
  exact ⟨r, rfl, h1, h3⟩
theorem Size_pkd (v : Value) (b : List Nat) (hv : Rb w w.heap.size v (pkd b)) (hy : Bys b) (hl : b.length ≤ 65536) :
    Calls Try.prog 11 #[v] w fun e w' => e = .returned (.tuple #[.int .i64 (b.length : Nat), .int .i64 0]) ∧ Below w.heap.size w w' := by
  refine (Size_any w v (pkd b) hv (pkd_bys hy) (by have := pkd_small hl; omega)).mono ?_
  rintro e w' ⟨rfl, h3⟩
  rw [un_pkd hl]
  exact ⟨rfl, h3⟩
theorem Tokens_pkd (v : Value) (b : List Nat) (hv : Rb w w.heap.size v (pkd b)) (hy : Bys b) (hl : b.length ≤ 65536) :
    Calls Try.prog 12 #[v] w fun e w' => e = .returned (.tuple #[.int .i64 ((tks b 0 0).length : Nat), .int .i64 0]) ∧ Below w.heap.size w w' := by
  refine (Tokens_any w v (pkd b) hv (pkd_bys hy) (by have := pkd_small hl; omega)).mono ?_
  rintro e w' ⟨rfl, h3⟩
  rw [un_pkd hl]
  exact ⟨rfl, h3⟩
theorem same_true (v u : Value) (xs : List Nat) (B B' : Nat) (h1 : Rb w B v xs) (h2 : Rb w B' u xs) (hl : xs.length ≤ 140737488351232) :
    Calls Try.prog 7 #[v, u] w fun e w' => e = .returned (.bool true) ∧ Below w.heap.size w w' := by
  have := same_any w v u xs xs B B' h1 h2 hl
  rwa [decide_eq_true (rfl : xs = xs)] at this
end
end Go.Proofs.Yteloomlcaimlaab
