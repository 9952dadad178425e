import Derived.Test.YtaoppgkkgpdcaaaP4
import Derived.Lib.SliceRun
namespace Go.Proofs.Ytaoppgkkgpdcaaa
open Go.RowKit

theorem Ow.below {w w' : World} {B n : Nat} {v : Value} (h : Ow w B v n) (hb : Below w.heap.size w w') : Ow w' B v n := by
  obtain ⟨xs, hown, h1⟩ := h
  have hown' := hown
  obtain ⟨hl, ⟨rfl, h0⟩ | ⟨g, cap, cur, rfl, hbs, hg, hn, hm, hs, ht⟩⟩ := hown
  · exact ⟨xs, ⟨hl, .inl ⟨rfl, h0⟩⟩, h1⟩
  · have hlt := (World.ownsRow.lt hown' g rfl).2
    exact ⟨xs, ⟨hl, .inr ⟨g, cap, cur, rfl, hbs, by rw [hb.block g (by omega)]; exact hg, hn, hm, hs, ht⟩⟩, h1⟩
set_option maxHeartbeats 400000 in
theorem clone_any (w : World) (B n : Nat) (v : Value) (hv : Ow w B v n) (hn : n ≤ 4096) :
    Calls Try.prog 12 #[v] w fun e w' => ∃ ao cap, e = .returned (.slice ao n cap) ∧ Below w.heap.size w w' := by
  obtain ⟨i5, hi, hz, hsz, hb⟩ := info5'
  obtain ⟨xs, hown, h1⟩ := hv
  have HO := hide hown
  obtain ⟨hl, ⟨rfl, rfl⟩ | ⟨g, cap, cur, rfl, hbs, hg, hnc, hm, hs, ht⟩⟩ := hown
  · clear hl HO h1
    have q : ∀ (w : World), (binOp .eql 26 (.slice none 0 0) (.slice none 0 0)).run Try.prog w = .ok (.bool true) w := fun w => Lib.run_eql_slice_nil w _ _ none 0 0 0 0 Try.underlying26
    go_enter Try.func12, Try.ntmps12
    go_wp2
    go_ret
    exact ⟨_, _, rfl, Below.refl _ _⟩
  · have hc := World.ownsRow.cells HO.out rfl
    have hc' : ∀ (o : Obj) j u, xs[j]? = some u → (w.alloc o).cell? ((⟨g, 0, none⟩ : Addr).add j) = some u := by
      intro o j u hu
      have h := hc j u hu
      rw [((Below.refl _ _).alloc (Nat.le_refl _) _).cell (World.block_lt_of_cell? w _ h)]; exact h
    have q : ∀ (w : World), (binOp .eql 26 (.slice (some ⟨g, 0, none⟩) n cap) (.slice none 0 0)).run Try.prog w = .ok (.bool false) w := fun w => Lib.run_eql_slice_nil w _ _ (some _) n cap 0 0 Try.underlying26
    have HC := hide hc'
    have HL := hide hl
    have H1 := hide h1
    clear hl hbs hg hnc hm hs ht hc hc' h1
    go_enter Try.func12, Try.ntmps12
    go_wp2_with (at_builtin; refine wpList_append_own _ rfl (.tmp 5) (.tmp 6) 26 rfl w.heap.size 5 i5 (.int .u8 0) 1 1 Try.underlying26 hi hz hsz hb rfl (by decide) _ 0 [] rfl (World.ownsRow_made w #[] 0 (Nat.le_refl _) (by simp [maxLen]) (by simp)) ⟨g, 0, none⟩ n cap xs rfl HL.out (HC.out _) H1.out (by unfold maxLen; omega) (by omega) (by simp) ?_)
    intro v' w1 hown' hgrow _
    have KB := hide (((Below.refl w.heap.size w).alloc (Nat.le_refl _) _).grown hgrow (by simp) (fun k hk => by simp [Value.ownBlock] at hk; omega))
    have hv' : ∃ ao cap, v' = .slice ao n cap := by
      obtain ⟨_, ⟨rfl, h0⟩ | ⟨g, cap, cur, rfl, _⟩⟩ := hown'
      · exact ⟨none, 0, by rw [show n = 0 by omega]⟩
      · exact ⟨_, _, rfl⟩
    obtain ⟨ao', cap', rfl⟩ := hv'
    clear hown' hgrow
    go_wp2
    go_ret
    exact ⟨_, _, rfl, KB.out⟩

set_option maxHeartbeats 400000 in
theorem out_yes (w : World) (B n L : Nat) (h : St w B n L 0) (hn : n ≤ 4096) :
    Calls Try.prog 9 #[.pointer (some ⟨B, 0, none⟩)] w fun e w' => ∃ ao cap, e = .returned (.tuple #[.slice ao n cap, .int .i64 0]) ∧ St w' B n L 0 ∧ Below B w w' := by
  obtain ⟨v, hw, hv⟩ := h
  obtain ⟨c0, c1, c2, c3, f0, f3⟩ := hw.cells
  have HC := hide (clone_any w B n v hv hn)
  have HW := hide hw
  have HV := hide hv
  clear hw hv
  go_enter Try.func9, Try.ntmps9
  go_wp2_with fail
  refine HC.out.mono ?_
  rintro e w1 ⟨ao, cap, rfl, hb⟩
  have HB := hide hb
  clear hb HC
  go_wp2
  go_ret2
  exact ⟨_, _, rfl, ⟨v, HW.out.at (HB.out.block B HW.out.lt), HV.out.below HB.out⟩, HB.out.mono (Nat.le_of_lt HW.out.lt)⟩
set_option maxHeartbeats 400000 in
theorem out_no (w : World) (B n L : Nat) (h : St w B n L 2) :
    Calls Try.prog 9 #[.pointer (some ⟨B, 0, none⟩)] w fun e w' => e = .returned (.tuple #[.slice none 0 0, .int .i64 2]) ∧ w' = w.drew := by
  obtain ⟨v, hw, hv⟩ := h
  obtain ⟨c0, c1, c2, c3, f0, f3⟩ := hw.cells
  clear hw hv
  go_enter Try.func9, Try.ntmps9
  go_wp2
  go_region
  go_wp2
  go_ret2
  exact ⟨rfl, rfl⟩
end Go.Proofs.Ytaoppgkkgpdcaaa
