import Derived.Test.YtngmnlmagbfijabB4
namespace Go.Proofs.Ytngmnlmagbfijab
open Go.RowKit Go.Maps Go.Sort Go.Shelf Go.Proofs
theorem sortsA (m : Nat) : AnyZI.SortsIn Try.prog Try.sortedA_ren Fence.wide m :=
  ⟨fun blk off cap ss W hH hblk hsz => callsIn_wide.2 (AnyM.slices_Sort_int Try.sortA blk off cap ss W hH hblk hsz),
   fun p cap W => callsIn_wide.2 (AnyM.slices_Sort_int_none Try.sortA p cap W)⟩
theorem Zi_eq : Zi = encZ := rfl
/-- sorted -/
def srt (zs : List Int) : List Int := zs.mergeSort (fun x y => decide (x ≤ y))
theorem collect_in (n : Nat) (hn : 4 ≤ n) (w : World) (Bn : Nat) (S : Nat → Prop) (v : Value) (zs : List Int) (hlen : zs.length ≤ 1048576) (hBn : w.heap[Bn]? = some (.cells #[v] 31 (0, 0))) (hR : Rd S w v zs) (hS : ∀ b, S b → b < w.heap.size) :
    CallsIn Fence.wide n Try.prog 30 #[.func (.func 32) #[] #[.pointer (some ⟨Bn, 0, none⟩)]] w fun x W' => ∃ r, x = .returned r ∧ Oi W' w.heap.size r zs ∧ Below w.heap.size w W' := by
  refine callsIn_of_wp Try.func30 rfl trivial ?_ rfl
  simp only [Try.ntmps30, List.size_toArray, List.length_cons, List.length_nil, Nat.reduceAdd, Nat.reduceSub, Array.replicate_succ, Array.replicate_zero, List.push_toArray, List.append_toArray, List.nil_append, List.cons_append]
  gi_wp2_with fail
  refine ⟨trivial, fun _ => (by omega), (appendSeq_in (n - 1) (by omega) w Bn S v zs hlen hBn hR hS).mono ?_⟩
  rintro e w' ⟨r, rfl, h1, h2⟩
  gi_wp2
  go_ret
  exact ⟨_, rfl, h1, h2⟩
set_option maxHeartbeats 2000000 in
theorem sortedV_in (n : Nat) (hn : 5 ≤ n) (w : World) (Bn : Nat) (S : Nat → Prop) (v : Value) (zs : List Int) (hlen : zs.length ≤ 1048576) (hBn : w.heap[Bn]? = some (.cells #[v] 31 (0, 0))) (hR : Rd S w v zs) (hS : ∀ b, S b → b < w.heap.size) :
    CallsIn Fence.wide n Try.prog 21 #[.func (.func 32) #[] #[.pointer (some ⟨Bn, 0, none⟩)]] w fun x W' => ∃ r, x = .returned r ∧ Oi W' w.heap.size r (srt zs) ∧ Below w.heap.size w W' := by
  refine callsIn_of_wp Try.func21 rfl trivial ?_ rfl
  simp only [Try.ntmps21, List.size_toArray, List.length_cons, List.length_nil, Nat.reduceAdd, Nat.reduceSub, Array.replicate_succ, Array.replicate_zero, List.push_toArray, List.append_toArray, List.nil_append, List.cons_append]
  gi_wp2_with fail
  refine ⟨trivial, fun _ => (by omega), (collect_in (n - 1) (by omega) w Bn S v zs hlen hBn hR hS).mono ?_⟩
  rintro e w1 ⟨r, rfl, h1, h2⟩
  have h1' := h1
  unfold Oi at h1
  rw [Zi_eq] at h1
  obtain ⟨hl, ⟨rfl, h0⟩ | ⟨g, cap, cur, rfl, hb, hg, hn', hm, hs, ht⟩⟩ := h1
  · have hz : zs = [] := List.eq_nil_of_length_eq_zero h0
    subst hz
    gi_wp2_with fail
    refine ⟨trivial, fun _ => (by omega), (callsIn_wide.2 (AnyM.slices_Sort_int_none Try.sortA none 0 w1)).mono ?_⟩
    rintro e w2 ⟨rfl, rfl⟩
    gi_wp2
    go_ret
    exact ⟨_, rfl, by simpa [srt] using h1', h2⟩
  · have hH : Holds encZ w1 g 0 zs.toArray := holds_of_block_i hg (by rw [Nat.mul_one] at ht; simpa using ht)
    have hgl : g < w1.heap.size := (Array.getElem?_eq_some_iff.1 hg).1
    gi_wp2_with fail
    refine ⟨trivial, fun _ => (by omega), (callsIn_wide.2 (AnyM.slices_Sort_int Try.sortA g 0 cap zs w1 hH hgl (by omega))).mono ?_⟩
    rintro e w2 ⟨rfl, nn, os, rfl⟩
    gi_wp2
    go_ret
    refine ⟨_, rfl, ?_, h2.grown (grownBy_sorted_i _) h2.size (fun j hj => by cases hj; exact hb)⟩
    unfold Oi srt
    rw [List.length_mergeSort]
    exact ownsRow_sorted_i (ss := zs) (by simp) hb hg hn' hm hs
end Go.Proofs.Ytngmnlmagbfijab
