import Derived.Test.YtngmnlmagbfijabBJ
namespace Go.Proofs.Ytngmnlmagbfijab
open Go.RowKit
section
variable (w : World)
set_option maxRecDepth 100000 in
set_option maxHeartbeats 1000000 in
theorem ownInts_any (S : Nat → Prop) (v : Value) (R : List Int) (hR : Rd S w v R) (hS : ∀ b, S b → b < w.heap.size) (hl : R.length ≤ 1048576) : Calls Try.prog 15 #[v] w fun e w' => ∃ r, e = .returned r ∧ Oi w' w.heap.size r R ∧ Below w.heap.size w w' := by
  obtain ⟨i3, hi, hz, hs, hb⟩ := info3'
  have HR := hide hR
  have HS := hide hS
  obtain ⟨ao, cap, rfl, hcap⟩ := hR.len
  obtain ⟨m, hm⟩ : ∃ m, R.length = m := ⟨_, rfl⟩
  have HLn := hide hm
  have HT : Hid (R.take m = R) := hide (by rw [← hm]; exact List.take_length)
  have HN : Hid (∀ k, k < m → R.take k ++ [R.getD k 0] = R.take (k + 1)) := hide (by
    intro k hk
    have hk' : k < R.length := by omega
    rw [List.getD_eq_getElem?_getD, List.getElem?_eq_getElem hk', Option.getD_some, List.take_succ_eq_append_getElem hk'])
  rw [hm] at hl hcap HR ⊢
  clear hR hm hS
  go_enter Try.func15, Try.ntmps15
  go_upto_region 3 with fail
  go_loopw [3, 4] (fun v i wr => ∃ k : Nat, k ≤ m ∧ i = .int .i64 (k : Nat) ∧ Hid (Oi wr w.heap.size v (R.take k)) ∧ Hid (Below w.heap.size w wr)) (fun _ i _ => m - (RowKit.intOf i).toNat)
  case atStart => exact ⟨0, by omega, rfl, hide ⟨by simp, .inl ⟨rfl, rfl⟩⟩, hide (Below.refl _ _)⟩
  case round =>
    obtain ⟨k, hk, rfl, HO, HB⟩ := hrel
    by_cases hlt : k < m
    · have HRk := HR.out.keep (w' := wr) (fun b hb => HB.out.block b (HS.out b hb))
      obtain ⟨x, rfl, _, hc⟩ := HRk.some_of (by rw [HLn.out]; omega)
      have d0 := hc k (by rw [HLn.out]; omega)
      have hki : (k : Int) < m := by omega
      have hN := HN.out k hlt
      have hlk : (R.take k).length = k := by rw [List.length_take, HLn.out]; omega
      have HO2 : Hid (wr.ownsRow w.heap.size 3 1 _ k ((R.take k).map Zi)) := hide (by have := HO.out; unfold Oi at this; rw [hlk] at this; exact this)
      obtain ⟨av, cv, rfl⟩ := own_shape HO2.out
      have hLk := hide hlk
      have HNk := hide hN
      have HRk := hide HRk
      clear hc hN hlk HO
      generalize R.getD k 0 = a at *
      go_wp2_with (refine wpList_append_own _ rfl (.tmp 11) (.tmp 16) 31 rfl w.heap.size 3 i3 (.int .i64 0) 1 8 Try.underlying31 hi hz hs hb rfl (by decide) _ k _ rfl (World.ownsRow.alloc HO2.out _) (⟨wr.heap.size, 0, none⟩) 1 1 [.int .i64 a] rfl rfl (cell_one_new _ _ _) (by simp [Value.oneCell']) (by unfold maxLen; omega) (by omega) (by have := HB.out.size; simp; omega) ?_; intro v' w6 hown hg6 _)
      have HB6 : Hid (Below w.heap.size w w6) := hide ((HB.out.alloc HB.out.size _).grown hg6 (by have := HB.out.size; simp; omega) (fun j hj => (World.ownsRow.lt HO2.out j hj).1))
      have HO6 := hide hown
      clear hg6 hown
      go_roundw
      case rel =>
        refine ⟨k + 1, by omega, by go_num, hide ?_, HB6⟩
        have h9 := HO6.out
        unfold Oi
        rw [← HNk.out, List.map_append, List.length_append, hLk.out]
        exact h9
      case measure => simp [RowKit.intOf]; omega
    · obtain rfl : k = m := by omega
      go_wp2
      go_ret
      have := HO.out
      rw [HT.out] at this
      exact ⟨_, rfl, this, HB.out⟩
/-- a list that may be handed to Next, but for none -/
def prB (R : List Int) : Bool := R.all (fun z => decide (1 ≤ z)) && decide R.Nodup
theorem prB_take {R : List Int} {k : Nat} (hk : k < R.length) : (R.getD k 0 < 1 ∨ R.getD k 0 ∈ R.take k) → prB R = false := by
  have hg : R.getD k 0 = R[k] := by rw [List.getD_eq_getElem?_getD, List.getElem?_eq_getElem hk, Option.getD_some]
  rw [hg]
  unfold prB
  rintro (h | h)
  · have : R.all (fun z => decide (1 ≤ z)) = false := by
      rw [List.all_eq_false]
      exact ⟨R[k], List.getElem_mem _, by simp; omega⟩
    rw [this]; rfl
  · have : ¬ R.Nodup := fun hn => by
      rw [← List.take_append_drop k R, List.drop_eq_getElem_cons hk, List.nodup_append] at hn
      exact hn.2.2 _ h _ (List.mem_cons_self ..) rfl
    simp [this]
theorem prB_all {R : List Int} (h : ∀ k, k < R.length → 1 ≤ R.getD k 0 ∧ R.getD k 0 ∉ R.take k) : prB R = true := by
  unfold prB
  rw [Bool.and_eq_true, List.all_eq_true, decide_eq_true_iff]
  refine ⟨fun x hx => ?_, ?_⟩
  · obtain ⟨i, hi, rfl⟩ := List.getElem_of_mem hx
    have := (h i hi).1
    rw [List.getD_eq_getElem?_getD, List.getElem?_eq_getElem hi, Option.getD_some] at this
    simpa using this
  · rw [List.Nodup, List.pairwise_iff_getElem]
    intro i j hi hj hij e
    have := (h j hj).2
    rw [List.getD_eq_getElem?_getD, List.getElem?_eq_getElem hj, Option.getD_some] at this
    apply this
    rw [← e, List.mem_take_iff_getElem]
    exact ⟨i, by omega, rfl⟩
end
end Go.Proofs.Ytngmnlmagbfijab
