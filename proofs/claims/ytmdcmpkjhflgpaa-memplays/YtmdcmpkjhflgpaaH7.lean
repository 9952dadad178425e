import Derived.Test.YtmdcmpkjhflgpaaJ1
namespace Go.Proofs.Ytmdcmpkjhflgpaa
open Go.RowKit

/-- numbers -/
def In (z : Nat) : Value := .int .i64 (z : Int)
def OwI (w : World) (base : Nat) (v : Value) (zs : List Nat) : Prop := w.ownsRow base 3 1 v zs.length (zs.map In)
def lives (m : Nat → Fr) (k : Nat) : List Nat := (List.range k).filter fun j => decide (0 < (m j).h)
theorem lives_yes {m : Nat → Fr} {k : Nat} (h : 0 < (m k).h) : lives m (k + 1) = lives m k ++ [k] := by
  unfold lives; rw [List.range_succ, List.filter_append]; simp [h]
theorem lives_no {m : Nat → Fr} {k : Nat} (h : (m k).h = 0) : lives m (k + 1) = lives m k := by
  unfold lives; rw [List.range_succ, List.filter_append]; simp [h]
theorem lives_len (m : Nat → Fr) (k : Nat) : (lives m k).length ≤ k := by
  unfold lives; have := List.length_filter_le (fun j => decide (0 < (m j).h)) (List.range k); simpa using this
theorem info3' : ∃ i, Try.prog.info? 3 = some i ∧ i.zero = some (.int .i64 0) ∧ i.size = 1 ∧ i.bytes = 8 := info_parts (by kernel_rfl)
theorem cell_one_new (w : World) (t : TypeId) (u : Value) : ∀ j v, [u][j]? = some v → (w.alloc (.cells #[u] t)).cell? ((⟨w.heap.size, 0, none⟩ : Addr).add j) = some v := by
  intro j v hv
  match j, hv with
  | 0, hv =>
    rw [add0]
    have := heap_alloc_last w (.cells #[u] t)
    rw [cell_of_row _ _ _ _ _ _ this]
    simpa using hv
theorem below_own {w wr w2 : World} {e size n : Nat} {v : Value} {xs : List Value} {o : Obj} (hb : Below w.heap.size w wr) (ho : wr.ownsRow w.heap.size e size v n xs) (hg : (wr.alloc o).grownBy w2 v.ownBlock) (hs : w.heap.size ≤ wr.heap.size) : Below w.heap.size w w2 :=
  (hb.alloc hs o).grown hg (by simp; omega) (fun k e => (World.ownsRow.lt ho k e).1)
theorem OwI.len {w : World} {base : Nat} {v : Value} {zs : List Nat} (h : OwI w base v zs) : ∃ ao cap, v = .slice ao zs.length cap := by
  obtain ⟨hl, ⟨rfl, h0⟩ | ⟨g, cap, cur, rfl, _⟩⟩ := h
  · exact ⟨none, 0, by rw [h0]⟩
  · exact ⟨_, _, rfl⟩

set_option maxHeartbeats 800000 in
theorem live_any (w : World) (B G n : Nat) (m : Nat → Fr) (h : MemAt w B G n m) (hn : n ≤ 64) :
    Calls Try.prog 19 #[.pointer (some ⟨B, 0, none⟩)] w fun e w' => ∃ r, e = .returned r ∧ OwI w' w.heap.size r (lives m n) ∧ Below w.heap.size w w' := by
  obtain ⟨i3, hi, hz, hs, hb⟩ := info3'
  have c0 := h.hd
  have HH := hide h
  clear h
  go_enter Try.func19, Try.ntmps19
  go_wp2
  go_loopw [10, 3, 4] (fun i v _ wr => ∃ k : Nat, k ≤ n ∧ i = .int .i64 (k : Int) ∧ OwI wr w.heap.size v (lives m k) ∧ Below w.heap.size w wr) (fun i _ _ _ => 64 - (intOf i).toNat)
  case atStart => exact ⟨0, by omega, rfl, World.ownsRow_nil _ _ _ _, Below.refl _ _⟩
  case round =>
    obtain ⟨k, hk, rfl, hO, hbel⟩ := hrel
    by_cases hlt : k < n
    · have hd : decide (k < n) = true := by simp; omega
      have HM := hide (HH.out.below hbel)
      have HB := hide hbel
      have HO := hide hO
      have hll := lives_len m k
      obtain ⟨a2, c2, rfl⟩ := hO.len
      clear hbel hO
      rcases Nat.eq_zero_or_pos (m k).h with h0 | h0
      · go_wp2_with fail
        refine (inUse_no _ B G n m (k : Int) HM.out (fun j hj _ => by have : j = k := by omega
                                                                      subst this; exact h0)).mono ?_
        rintro e w1 ⟨rfl, rfl⟩
        go_wp2
        go_roundw
        case rel => exact ⟨k + 1, by omega, by go_num, by rw [lives_no h0]; exact HO.out, HB.out⟩
        case measure => simp [intOf]; omega
      · go_wp2_with fail
        refine (inUse_yes _ B G n m k HM.out hlt h0).mono ?_
        rintro e w1 ⟨rfl, rfl⟩
        obtain ⟨L, hL⟩ : ∃ L, (lives m k).length = L := ⟨_, rfl⟩
        have HO2 : Hid (w1.ownsRow w.heap.size 3 1 (.slice a2 L c2) L ((lives m k).map In)) := hide (by have := HO.out; unfold OwI at this; rw [hL] at this; exact this)
        rw [hL] at hll ⊢
        go_wp2_with (at_builtin; refine wpList_append_own _ rfl _ _ 56 rfl w.heap.size 3 i3 (.int .i64 0) 1 8 Try.underlying56 hi hz hs hb rfl (by decide) _ L ((lives m k).map In) rfl (HO2.out.alloc _) ⟨w1.heap.size, 0, none⟩ 1 1 [In k] rfl rfl ?c1 ?c2 ?c3 ?c4 ?c5 ?_)
        case c1 => exact cell_one_new _ _ _
        case c2 => simp [In, Value.oneCell']
        case c3 => unfold maxLen; omega
        case c4 => omega
        case c5 => simp; have := HB.out.size; omega
        intro r2 w2 hown hg _
        have h2 : OwI w2 w.heap.size r2 (lives m (k + 1)) := by
          unfold OwI
          rw [lives_yes h0, List.length_append, hL, List.map_append]; exact hown
        have H2 := hide h2
        have HB2 := hide (below_own HB.out HO2.out hg HB.out.size)
        clear hown h2
        go_wp2
        go_roundw
        case rel => exact ⟨k + 1, by omega, by go_num, H2.out, HB2.out⟩
        case measure => simp [intOf]; omega
    · obtain rfl : k = n := by omega
      have hd : decide (k < k) = false := by simp
      have HR := hide (And.intro hO hbel)
      clear hO hbel
      go_wp2
      go_ret
      exact ⟨_, rfl, HR.out⟩
set_option maxHeartbeats 800000 in
theorem free_any (w : World) (B G n : Nat) (m : Nat → Fr) (h : MemAt w B G n m) (hn : n ≤ 64) :
    Calls Try.prog 16 #[.pointer (some ⟨B, 0, none⟩)] w fun e w' => e = .returned (.int .i64 ((n - (lives m n).length : Nat) : Int)) ∧ Below w.heap.size w w' := by
  have c0 := h.hd
  have hll := lives_len m n
  go_enter Try.func16, Try.ntmps16
  go_wp2
  have HH := hide h.drew
  clear h
  go_region_held (fun W => W.cell? ⟨B, 0, none⟩ = some (.slice (some ⟨G, 0, none⟩) n n))
    (first | exact c0 | exact (HH.out.below hb1).hd)
    ((refine (live_any _ B G n m HH.out hn).mono ?_; rintro e w1 ⟨r, rfl, hr, hb1⟩; obtain ⟨a1, c1, rfl⟩ := hr.len))
  have HB := hide ((Below.refl w.heap.size w).drew.trans hb1)
  clear hb1 hr
  go_wp2
  go_ret
  refine ⟨?_, HB.out⟩
  simp
  rw [IntKind.wrap_i64]
  omega
end Go.Proofs.Ytmdcmpkjhflgpaa
