import Derived.Test.YtnpklhjndominaaU0
namespace Go.Proofs.Ytnpklhjndominaa
open Go.RowKit

theorem wrap_mul (k o : Nat) (h : k < 1024) (ho : k * 128 = o) : IntKind.i64.wrap ((k : Int) * 128) = (o : Int) := by
  simp [IntKind.wrap, IntKind.signed, IntKind.bits]
  split <;> omega
/-- what is known of the bytes of a medium whose first k sectors are copied -/
structure MRow (M : Nat → List Nat) (k : Nat) (cur : List Value) : Prop where
  len : cur.length = 131072
  at' : ∀ s, s < k → ∀ (j : Nat) (v : Value), ((M s).map By)[j]? = some v → cur[s * 128 + j]? = some v
theorem MRow.next {M : Nat → List Nat} {k : Nat} {cur : List Value} (h : MRow M k cur) (hk : k < 1024) (hM : ∀ s, s < 1024 → Sec (M s)) : MRow M (k + 1) (splice cur (k * 128) ((M k).map By)) := by
  have hl : ((M k).map By).length = 128 := by rw [List.length_map]; exact (hM k hk).1
  have hfit : k * 128 + ((M k).map By).length ≤ cur.length := by rw [hl, h.len]; omega
  refine ⟨by rw [length_splice _ _ _ hfit]; exact h.len, fun s hs j v hv => ?_⟩
  unfold splice
  rw [splice_get cur _ _ _ hfit]
  have hj : j < 128 := by have := (List.getElem?_eq_some_iff.1 hv).1; rw [List.length_map, (hM s (by omega)).1] at this; exact this
  by_cases e : s = k
  · subst e
    rw [if_pos (by rw [hl]; omega), Nat.add_sub_cancel_left]; exact hv
  · rw [if_neg (by rw [hl]; omega)]
    exact h.at' s (by omega) j v hv
def room1 (i : Value) : Nat := 1024 - (intOf i).toNat
theorem min_fit2 {M : List Nat} {q : Nat} (h : M.length = 128) (hk : 128 ≤ q) : (M.map By).length = Nat.min 128 q := by
  rw [List.length_map, h]; exact (Nat.min_eq_left hk).symm
theorem fit_mid {M : List Nat} {cur : List Value} {k : Nat} (hc : cur.length = 131072) (h : M.length = 128) (hk : k < 1024) : k * 128 + (M.map By).length ≤ cur.length := by
  rw [List.length_map, h, hc]; omega
set_option maxRecDepth 100000 in
set_option maxHeartbeats 1000000 in
theorem medium_any {B : Nat} {D : Dsk} {w : World} {F : Nat → Prop} (hd : DkA B D w F) :
    Calls Try.prog 7 #[dp B] w fun e w' => ∃ r cur, e = .returned r ∧ w'.ownsRow w.heap.size 5 1 r 131072 cur ∧ MRow D.M 1024 cur ∧ Below w.heap.size w w' := by
  obtain ⟨cs, cv, h, he⟩ := hd
  obtain ⟨i5, hi, hz, hs, hb⟩ := info5'
  have hmk : ∃ Z : List Value, Z.length = 131072 ∧ (Instr.makeSlice 27 (.int .i64 131072) (.int .i64 131072)).run Try.prog w = .ok (.slice (some ⟨w.heap.size, 0, none⟩) 131072 131072) (w.alloc (.cells Z.toArray 5)) := by
    have hm := run_make (P := Try.prog) w 27 5 i5 (.int .u8 0) Try.underlying27 hi hz .i64 .i64 131072 131072 (by omega) (Int.le_refl _) (by rw [hb]; omega) (by omega)
    rw [hs] at hm
    refine ⟨(madeCells (Value.int .u8 0).cells ((131072 : Int).toNat * 1)).toList, ?_, ?_⟩
    · rw [Array.length_toList, size_madeCells]; rfl
    · rw [Array.toArray_toList]; exact hm
  obtain ⟨Z, hZl, hmk⟩ := hmk
  have HH := hide h
  have HZ := hide hZl
  have hlt := h.lt
  have HBT := hide hlt
  clear h hZl hlt hi hz hs hb
  go_enter Try.func7, Try.ntmps7
  go_wp2
  go_loopw [6] (fun i wr => ∃ (k : Nat) (cur : List Value), k ≤ 1024 ∧ i = .int .i64 (k : Int) ∧ wr.heap[w.heap.size]? = some (.cells cur.toArray 5 (0, 0)) ∧ MRow D.M k cur ∧ Below w.heap.size w wr) (fun i _ => room1 i)
  case atStart => exact ⟨0, Z, by omega, rfl, heap_alloc_last _ _, ⟨HZ.out, fun s hs => by omega⟩, (Below.refl _ _).alloc (Nat.le_refl _) _⟩
  case round =>
    obtain ⟨k, cur, hk, rfl, hrow, hM, hbel⟩ := hrel
    clear hmk
    by_cases hlt : k < 1024
    · have hd1 : decide (k < 1024) = true := by simp; omega
      have hd2 : decide ((k : Int) < 1024) = true := by simp; omega
      obtain ⟨o, ho⟩ : ∃ o, k * 128 = o := ⟨_, rfl⟩
      have hwm := wrap_mul k o hlt ho
      have hno : ¬ 131072 = o := by omega
      have hle : (o : Int) ≤ 131072 := by omega
      have hki : (k : Int) < 1024 := by omega
      obtain ⟨q, hq⟩ : ∃ q, 131072 - o = q := ⟨_, rfl⟩
      have HQ0 : Hid (128 ≤ q) := by show _ ≤ _; omega
      have hD := HH.out.below hbel
      have HME := hide (hD.med hlt)
      have HMN := hide (hM.next hlt HH.out.ok.m)
      have HRW := hide hrow
      have HBE := hide hbel
      have HML := hide (And.intro hM.len (HH.out.ok.m k hlt).1)
      have HO := hide ho
      clear hrow hM hbel hD ho
      go_wp2
      go_region_law (refine step_copy_splice rfl (.tmp 12) (.tmp 18) 27 27 rfl 5 Try.underlying27 size5 (some ⟨w.heap.size, o, none⟩) (some ⟨B, k * 128, none⟩) q q 128 128 (by simp [Act.eval, Act.put]) (by simp [Act.eval, Act.put]) w.heap.size o cur 5 HRW.out ((D.M k).map By) (min_fit2 HML.out.2 HQ0.out) (fun _ => ⟨rfl, _, rfl, fun j v hv => by rw [Addr.add_mid]; exact HME.out j v hv⟩) (by rw [← HO.out]; exact fit_mid HML.out.1 HML.out.2 hlt) (By_one _) w.heap.size w HBE.out.drew (Nat.le_refl _) ?_; intro w4 hg4 hb4)
      all_goals
        have HG : Hid (w4.heap[w.heap.size]? = some (.cells (splice cur (k * 128) ((D.M k).map By)).toArray 5 (0, 0))) := by have := hg4.out; rw [← HO.out] at this; exact this
      all_goals clear hwm hno hle hq hg4
      all_goals go_wp2
      all_goals go_roundw
      all_goals first
        | exact ⟨k + 1, _, by omega, by go_num, HG.out, HMN.out, hb4⟩
        | (simp [room1, intOf]; omega)
    · obtain rfl : k = 1024 := by omega
      have hd1 : decide ((1024 : Int) < 1024) = false := by simp
      have HRW := hide (And.intro hrow (And.intro hM hbel))
      clear hrow hM hbel
      go_wp2
      go_ret
      refine ⟨_, cur, rfl, ⟨by rw [HRW.out.2.1.len], .inr ⟨w.heap.size, 131072, cur.toArray, rfl, Nat.le_refl _, HRW.out.1, Nat.le_refl _, by unfold maxLen; omega, by simp [HRW.out.2.1.len], ?_⟩⟩, HRW.out.2.1, HRW.out.2.2⟩
      rw [List.take_of_length_le (by simp [HRW.out.2.1.len])]
end Go.Proofs.Ytnpklhjndominaa
