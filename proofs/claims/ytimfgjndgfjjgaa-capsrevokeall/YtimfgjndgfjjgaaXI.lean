import Derived.Test.YtimfgjndgfjjgaaXH
namespace Go.Proofs.Ytimfgjndgfjjgaa
open Go.RowKit Go.Shelf

set_option maxRecDepth 8000 in
set_option maxHeartbeats 3200000 in
theorem all_any (w : World) (F : Nat → Prop) (B : Nat) (bk : List (Option Lst)) (h : Book w F B bk) :
    Calls Try.prog 20 #[.pointer (some ⟨B, 0, none⟩)] w fun e w' => ∃ v, e = .returned v ∧ w'.ownsRow w.heap.size 54 6 v (hl bk 16).length (encA (hl bk 16)) ∧ Below w.heap.size w w' := by
  obtain ⟨i54, hi, hz, hs, hb⟩ := info54'
  have HBk := hide h
  clear h
  go_enter Try.func20, Try.ntmps20
  go_wp2_with fail
  go_loopw [3, 4] (fun u x wr => ∃ (k : Nat), k ≤ 16 ∧ x = .int .i64 (k : Int) ∧ Hid (wr.ownsRow w.heap.size 54 6 u (hl bk k).length (encA (hl bk k))) ∧ Hid (Below w.heap.size w wr)) (fun _ x _ => 16 - (intOf x).toNat)
  case atStart => exact ⟨0, by omega, rfl, ⟨rfl, .inl ⟨rfl, rfl⟩⟩, Below.refl _ _⟩
  case round =>
  obtain ⟨k, hk, rfl, K1, K2⟩ := hrel
  have hlen := hl_len HBk.out k
  have hpl := lf_len HBk.out k
  by_cases hlt : k < 16
  · have hd : decide ((k : Int) < 16) = true := by simp; omega
    have HBr := hide (HBk.out.below K2.out)
    have HL := hide (list_all wr F B bk HBr.out k)
    have HN : Hid ((hl bk (k + 1)).length = (hl bk k).length + (prs (lf bk k) 0).length ∧ encA (hl bk (k + 1)) = encA (hl bk k) ++ encHs (k : Int) (prs (lf bk k) 0)) := hide ⟨by rw [hl_succ]; simp, by rw [hl_succ, encA_add]⟩
    generalize hLn : (hl bk k).length = L at *
    clear hLn
    generalize hl bk k = A at *
    generalize hms : prs (lf bk k) 0 = ms at *
    clear hms
    obtain ⟨au, cu, rfl⟩ := own_shape K1.out
    go_wp2_with fail
    refine HL.out.mono ?_
    rintro e1 w1 ⟨v, c, rfl, hrow, hb1⟩
    have hkz := K2.out.size
    have HO := hide (own_below K1.out hb1)
    have HB1 := hide (K2.out.trans (hb1.mono hkz))
    rcases hrow.2 with ⟨hnil, h0⟩ | ⟨g, cap, cur, rfl, hbase, hbk, h1, h2, h3, h4⟩
    · obtain rfl : ms = [] := List.length_eq_zero_iff.1 h0
      subst hnil
      have HF : Hid (w1.ownsRow w.heap.size 54 6 (.slice au L cu) (hl bk (k + 1)).length (encA (hl bk (k + 1)))) := by
        refine hide ?_
        rw [HN.out.1, HN.out.2]
        have h9 := HO.out
        simpa [encHs] using h9
      go_wp2_with (at_builtin; refine wpList_append_own_none rfl _ _ 51 rfl w.heap.size 54 i54 6 Try.underlying51 hi (.slice au L cu) L (encA A) rfl HO.out rfl ?_)
      go_roundw
      case rel =>
        first
          | exact ⟨k + 1, by omega, by go_num, HF, HB1⟩
          | ((repeat apply Exists.intro); refine ⟨?_, rfl⟩; exact ⟨k + 1, by omega, by go_num, HF, HB1⟩)
      case measure => simp [intOf]; omega
    · have hcells : ∀ (j : Nat) (y : Value), (encHs (k : Int) ms)[j]? = some y → w1.cell? ((⟨g, 0, none⟩ : Addr).add j) = some y := by
        intro j y hy
        have hj : j < ms.length * 6 := by have := (List.getElem?_eq_some_iff.1 hy).1; rw [encHs_len] at this; exact this
        rw [add0, hrow.cellAt j hj]; exact hy
      have HC := hide hcells
      have hone : ∀ y ∈ encHs (k : Int) ms, y.oneCell' = true := by
        intro y hy
        obtain ⟨x, _, hx⟩ := List.mem_flatMap.1 hy
        simp [encH] at hx
        rcases hx with rfl | rfl | rfl | rfl | rfl | rfl <;> rfl
      have HOne := hide hone
      clear hcells hone hrow hb1 HL
      go_wp2_with (at_builtin; refine wpList_append_own_at _ rfl _ _ 51 rfl w.heap.size 54 i54 (.agg #[.int .i64 0, .int .i64 0, .int .i64 0, .int .i64 0, .int .i64 0, .int .i64 0]) 6 48 Try.underlying51 hi hz hs hb rfl (by decide) (.slice au L cu) L (encA A) rfl HO.out ⟨g, 0, none⟩ ms.length cap (encHs (k : Int) ms) rfl (encHs_len _ _) HC.out HOne.out (by unfold maxLen; omega) (by omega) (by have := HB1.out.size; omega) ?_; intro v2 w2 ho2 hg2 _ _)
      have HF : Hid (w2.ownsRow w.heap.size 54 6 v2 (hl bk (k + 1)).length (encA (hl bk (k + 1)))) := by
        refine hide ?_
        rw [HN.out.1, HN.out.2]
        exact ho2
      have HB2 : Hid (Below w.heap.size w w2) := hide (HB1.out.grown hg2 HB1.out.size (fun j hj => (HO.out.lt j hj).1))
      clear ho2 hg2
      go_wp2
      go_roundw
      case rel =>
        first
          | exact ⟨k + 1, by omega, by go_num, HF, HB2⟩
          | ((repeat apply Exists.intro); refine ⟨?_, rfl⟩; exact ⟨k + 1, by omega, by go_num, HF, HB2⟩)
      case measure => simp [intOf]; omega
  · have hd : decide ((k : Int) < 16) = false := by simp; omega
    obtain rfl : k = 16 := by omega
    go_wp2
    go_ret
    exact ⟨_, rfl, K1.out, K2.out⟩
end Go.Proofs.Ytimfgjndgfjjgaa
