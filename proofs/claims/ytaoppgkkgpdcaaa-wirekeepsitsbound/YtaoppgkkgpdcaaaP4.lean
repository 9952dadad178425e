import Derived.Test.YtaoppgkkgpdcaaaP3
namespace Go.Proofs.Ytaoppgkkgpdcaaa
open Go.RowKit

set_option maxHeartbeats 400000 in
theorem u8_no (w : World) (B : Nat) (L : Nat) (h : St w B L L 0) (hL : L ≤ 4096) :
    Calls Try.prog 8 #[.pointer (some ⟨B, 0, none⟩), .int .i64 0] w fun e w' => e = .returned (.tuple #[]) ∧ St w' B L L 2 ∧ Below B w w' := by
  obtain ⟨v, hw, xs, hown, h1⟩ := h
  have HK := hide (show St (w.setCell ⟨B, 3, none⟩ (.int .i64 2)).drew B L L 2 from ⟨v, hw.set3 2, xs, ownsRow_setCell_below hown (a := ⟨B, 3, none⟩) (by show B < B + 1; omega) _, h1⟩)
  have HT := hide (takes_no w B v L 1 L hw ⟨xs, hown, h1⟩ hL (Nat.le_refl _) (by omega) (by omega))
  clear hw hown h1
  have h14 : Calls Try.prog 14 #[.pointer (some ⟨B, 0, none⟩), .int .u64 0, .int .i64 1] w fun e w' => e = .returned (.tuple #[]) ∧ w' = (w.setCell ⟨B, 3, none⟩ (.int .i64 2)).drew := by
    go_enter Try.func14, Try.ntmps14
    go_wp2_with fail
    refine HT.out.mono ?_
    rintro e w' ⟨rfl, rfl⟩
    go_wp2
    refine bodyPost_ret (results_none rfl _ _ _) rfl ?_
    exact ⟨rfl, rfl⟩
  have H14 := hide h14
  clear h14
  have h11 : Calls Try.prog 11 #[.pointer (some ⟨B, 0, none⟩), .int .i64 0, .int .i64 1] w fun e w' => e = .returned (.tuple #[]) ∧ w' = (w.setCell ⟨B, 3, none⟩ (.int .i64 2)).drew := by
    go_enter Try.func11, Try.ntmps11
    go_wp2_with fail
    refine H14.out.mono ?_
    rintro e w' ⟨rfl, rfl⟩
    go_wp2
    go_end0
    exact ⟨rfl, rfl⟩
  have H11 := hide h11
  clear h11
  go_enter Try.func8, Try.ntmps8
  go_wp2_with fail
  refine H11.out.mono ?_
  rintro e w' ⟨rfl, rfl⟩
  go_wp2
  go_end0
  exact ⟨rfl, HK.out, ((Below.refl B w).setCell (Nat.le_refl B) _).drew⟩

/-- a slice of m bytes that can be read, none of it in the writer's block -/
def Src (w : World) (g m : Nat) (zs : List Value) : Prop := zs.length = m ∧ (∀ u ∈ zs, u.oneCell' = true) ∧ ∀ j u, zs[j]? = some u → w.cell? ((⟨g, 0, none⟩ : Addr).add j) = some u
set_option maxHeartbeats 400000 in
theorem block_yes (w : World) (B g m n L : Nat) (zs : List Value) (h : St w B n L 0) (hL : L ≤ 4096) (hn : n + m ≤ L) (hs : Src w g m zs) :
    Calls Try.prog 5 #[.pointer (some ⟨B, 0, none⟩), .slice (some ⟨g, 0, none⟩) m m] w fun e w' => e = .returned (.tuple #[]) ∧ St w' B (n + m) L 0 ∧ Below B w w' := by
  obtain ⟨i5, hi, hz, hsz, hb⟩ := info5'
  obtain ⟨v, hw, xs, hown, h1⟩ := h
  have H1 := hide h1
  obtain ⟨c0, c1, c2, c3, f0, f3⟩ := hw.cells
  have HT := hide (takes_yes w B v n m L hw ⟨xs, hown, h1⟩ hL hn)
  have HW := hide hw
  have HO := hide hown
  have HZ := hide hs
  clear hw hown hs h1
  go_enter Try.func5, Try.ntmps5
  go_wp2_with fail
  refine HT.out.mono ?_
  rintro e w' ⟨rfl, rfl⟩
  clear HT
  go_wp2_with (at_builtin; refine wpList_append_own _ rfl (.tmp 12) (.tmp 13) 26 rfl (B + 1) 5 i5 (.int .u8 0) 1 1 Try.underlying26 hi hz hsz hb rfl (by decide) v n xs rfl HO.out ⟨g, 0, none⟩ m m zs rfl (by rw [HZ.out.1, Nat.mul_one]) HZ.out.2.2 HZ.out.2.1 (by unfold maxLen; omega) (by omega) HW.out.lt ?_)
  intro v' w1 hown' hgrow _
  obtain ⟨r1, r2⟩ := grown_wr (w := w.drew) HW.out HO.out hgrow
  have KW := hide r1
  have KB := hide r2
  obtain ⟨k0, _, _, _, kf, _⟩ := r1.cells
  obtain ⟨ao', cap', rfl⟩ := Ow.len ⟨_, hown', one_more H1.out HZ.out.2.1⟩
  have KO := hide hown'
  clear r1 r2 hown' hgrow
  go_wp2
  go_end0
  exact ⟨rfl, put_st KW.out KO.out (one_more H1.out HZ.out.2.1), (((Below.refl B w).drew).trans KB.out).setCell (Nat.le_refl B) _⟩
end Go.Proofs.Ytaoppgkkgpdcaaa
