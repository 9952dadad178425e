import Derived.Test.YtncbbllmhohnkaaDoorUE
import Derived.Laws.DeepStrings4
import Derived.Laws.Strings3
namespace Go.Proofs.YtncbbllmhohnkaaDoor
open Go.RowKit
/-- a text as a value -/
abbrev St' (l : Tx) : Value := .string ⟨l.toArray⟩
theorem ext_mk (l : Tx) (a b : Nat) : (⟨l.toArray⟩ : ByteArray).extract a b = ⟨((l.take b).drop a).toArray⟩ := by
  apply ByteArray.ext
  simp [ByteArray.data_extract, List.drop_take]
section
variable (w : World)
set_option maxRecDepth 100000 in
set_option maxHeartbeats 1000000 in
theorem cutAt_any (ms l : Tx) (hm : ms.length ≤ 2) (ha : ∀ c ∈ ms, c.toNat < 128) (hl : l.length ≤ 16384) : Calls Tryd.prog 53 #[.string ⟨l.toArray⟩, .string ⟨ms.toArray⟩] w fun e w' => e = .returned (.tuple #[.string ⟨((cutT ms l).getD (l, [])).1.toArray⟩, .string ⟨((cutT ms l).getD (l, [])).2.toArray⟩, .bool (cutT ms l).isSome]) ∧ Below w.heap.size w w' := by
  go_enter Tryd.func53, Tryd.ntmps53
  go_upto_region 2 with fail
  go_loopw [4, 5, 6] (fun u v x wr => ∃ pos : Nat, u = .string ⟨#[]⟩ ∧ v = .string ⟨#[]⟩ ∧ x = .bool false ∧ pos ≤ l.length ∧ (∀ j (hj : j < l.length), j < pos → ms.contains l[j] = false) ∧ It wr w.heap.size ⟨l.toArray⟩ pos ∧ Below w.heap.size w wr) (fun _ _ _ wr => l.length - itPos wr w.heap.size)
  case atStart => exact ⟨0, rfl, rfl, rfl, by omega, fun j _ h => by omega, heap_alloc_last _ _, bel1 _ _⟩
  case round =>
  obtain ⟨pos, rfl, rfl, rfl, hp, hno, hI, hB⟩ := hrel
  by_cases hlt : pos < l.length
  · obtain ⟨c, q, nx, hq, hql, hc⟩ := it_step (P := Tryd.prog) hI hlt
    have HI := hide (it_to hI q)
    have HB := hide (it_below (s := ⟨l.toArray⟩) hB (Nat.le_refl _) q)
    have HP := hide (it_pos hI)
    have hc1 : c ≤ 1114111 := by rcases hc with ⟨h, _⟩ | ⟨_, h, _⟩ <;> omega
    have HC := hide hc
    have HN := hide hno
    clear hc hI hB hno
    go_wp2_with fail
    refine (cont_any _ ms hm ha c hc1).mono ?_
    rintro e w1 ⟨rfl, hb⟩
    have HI1 := hide (it_kept HI.out hb)
    have HB1 := hide (HB.out.trans (hb.mono (by have := HB.out.size; exact this)))
    clear hb HI HB
    cases hx : (decide (c < 128) && ms.contains (UInt8.ofNat c)) with
    | true =>
      simp only [Bool.and_eq_true, decide_eq_true_eq] at hx
      obtain ⟨hx1, hx2⟩ := hx
      have HE : Hid (cutT ms l = some (l.take pos, l.drop (pos + 1))) := hide (by
        rcases HC.out with ⟨_, e, _⟩ | ⟨h, _⟩
        · refine cut_at ms l pos hlt (fun j hj => HN.out j (by omega) hj) ?_
          rw [e] at hx2
          simpa using hx2
        · omega)
      have e1 := ext_mk l 0 pos
      have e2 := ext_mk l (pos + 1) l.length
      rw [List.drop_zero] at e1
      rw [List.take_length] at e2
      clear HC HN hx1 hx2 nx
      go_upto_region 5 with fail
      go_region
      go_wp2
      go_ret3
      exact ⟨by rw [HE.out]; rfl, HB1.out.trans ⟨rfl, rfl, rfl, Nat.le_refl _, fun _ _ => rfl⟩⟩
    | false =>
      go_wp2
      refine ⟨⟨q, rfl, rfl, rfl, hql, fun j hj hjq => ?_, HI1.out, HB1.out⟩, ?_⟩
      · by_cases hjp : j < pos
        · exact HN.out j hj hjp
        · rcases HC.out with ⟨h1, h2, h3⟩ | ⟨_, _, h⟩
          · obtain rfl : j = pos := by omega
            simp only [Bool.and_eq_false_iff, decide_eq_false_iff_not] at hx
            rcases hx with hx | hx
            · omega
            · rw [h2] at hx
              simpa using hx
          · have h3 := h j hj (by omega) hjq
            cases hm2 : ms.contains l[j] with
            | false => rfl
            | true =>
              have := ha l[j] (by simpa using hm2)
              omega
      · rw [it_pos HI1.out, HP.out]
        omega
  · have nx := it_stop (P := Tryd.prog) hI hlt
    have HN : Hid (cutT ms l = none) := hide (cut_none ms l fun j hj => hno j hj (by omega))
    have HB := hide hB
    clear hI hB hno
    go_wp2
    go_ret3
    exact ⟨by rw [HN.out]; rfl, HB.out⟩
end
end Go.Proofs.YtncbbllmhohnkaaDoor
