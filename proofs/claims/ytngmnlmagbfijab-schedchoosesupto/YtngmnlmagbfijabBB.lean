import Derived.Test.YtngmnlmagbfijabBA
namespace Go.Proofs.Ytngmnlmagbfijab
open Go.RowKit
theorem pickT_at {R : List Int} {l i : Int} (h : IxF R l i) (hne : R ≠ []) : ∃ k : Nat, k < R.length ∧ (i = k ∨ (i = -1 ∧ k = 0)) ∧ R.getD k 0 = pickT l R := by
  have hl : 0 < R.length := List.length_pos_iff.2 hne
  rcases h with ⟨rfl, h2⟩ | ⟨k, rfl, h1, h2, h3⟩
  · refine ⟨0, hl, .inr ⟨rfl, rfl⟩, ?_⟩
    unfold pickT
    have : R.find? (fun x => decide (l < x)) = none := by
      rw [List.find?_eq_none]
      intro x hx
      have := h2 x hx
      simp; omega
    rw [this]
    cases R with
    | nil => exact absurd rfl hne
    | cons a t => rfl
  · refine ⟨k, h1, .inl rfl, ?_⟩
    unfold pickT
    have hg : R.getD k 0 = R[k] := by rw [List.getD_eq_getElem?_getD, List.getElem?_eq_getElem h1, Option.getD_some]
    have : R.find? (fun x => decide (l < x)) = some R[k] := by
      rw [List.find?_eq_some_iff_getElem]
      refine ⟨by rw [← hg]; simpa using h2, k, h1, rfl, fun j hj => ?_⟩
      have := h3 j hj
      rw [List.getD_eq_getElem?_getD, List.getElem?_eq_getElem (by omega), Option.getD_some] at this
      simpa using this
    rw [this, Option.getD_some, hg]
theorem pmin_snoc (f : Int → Int) : ∀ (l : List Int) (m x : Int), pmin f m (l ++ [x]) = if f x < f (pmin f m l) then x else pmin f m l
  | [], m, x => rfl
  | y :: t, m, x => by rw [List.cons_append, pmin, pmin, pmin_snoc f t]
theorem pmax_snoc (f : Int → Int) : ∀ (l : List Int) (m x : Int), pmax f m (l ++ [x]) = if f (pmax f m l) < f x then x else pmax f m l
  | [], m, x => rfl
  | y :: t, m, x => by rw [List.cons_append, pmax, pmax, pmax_snoc f t]
section
variable (w : World)
set_option maxRecDepth 100000 in
set_option maxHeartbeats 1000000 in
theorem tchoose_any (S : Nat → Prop) (v : Value) (R : List Int) (hR : Rd S w v R) (hS : ∀ b, S b → b < w.heap.size) (hl : R.length ≤ 1048576) (hne : R ≠ []) (q : Nat) (l : Int) (mv : Option Nat) (hq : w.heap[q]? = some (.cells #[.int .i64 l] 78 (0, 0))) :
    Calls Try.prog 71 #[.pointer (some ⟨q, 0, none⟩), v, .map mv] w fun e w' => e = .returned (.int .i64 (pickT l R)) ∧ w'.heap[q]? = some (.cells #[.int .i64 (pickT l R)] 78 (0, 0)) ∧ Mod (fun b => b = q) w w' := by
  have HR := hide (hR.keep (w' := w.alloc (.cells #[.pointer (some ⟨q, 0, none⟩)] 76)) (fun b hb => Below.heap_alloc _ _ _ (hS b hb)))
  have hqlt : q < w.heap.size := (Array.getElem?_eq_some_iff.1 hq).1
  have HB := hide (Bx.new w 76 (.pointer (some ⟨q, 0, none⟩)))
  have HQ : Hid ((w.alloc (.cells #[.pointer (some ⟨q, 0, none⟩)] 76)).heap[q]? = some (.cells #[.int .i64 l] 78 (0, 0))) := hide (by rw [Below.heap_alloc _ _ _ hqlt]; exact hq)
  have HM : Hid (Mod (fun b => b = q) w (w.alloc (.cells #[.pointer (some ⟨q, 0, none⟩)] 76))) := hide ((Mod.refl _ _).alloc _)
  obtain ⟨ao, cap, rfl, hcap⟩ := hR.len
  obtain ⟨m, hm⟩ : ∃ m, R.length = m := ⟨_, rfl⟩
  have HLn := hide hm
  have HNe := hide hne
  rw [hm] at hl hcap HR ⊢
  obtain ⟨p, hp⟩ : ∃ p, pickT l R = p := ⟨_, rfl⟩
  have HP := hide hp
  rw [hp]
  clear hR hq hm hne hp
  go_enter Try.func71, Try.ntmps71
  go_wp2_with fail
  generalize w.alloc (.cells #[.pointer (some ⟨q, 0, none⟩)] 76) = w1 at *
  refine (index_any w1 S _ R HR.out (by rw [HLn.out]; exact hl) w.heap.size q l HB.out HQ.out).mono ?_
  rintro e w2 ⟨⟨i, rfl, hi⟩, rfl⟩
  obtain ⟨k, hk, hki, hpk⟩ := pickT_at hi HNe.out
  obtain ⟨x, rfl, hSx, hc⟩ := HR.out.some_of (by omega)
  have d0 := hc k hk
  rw [hpk, HP.out] at d0
  rw [HLn.out] at hk
  have b0 := HB.out.cell
  have c0 := cell_of_row _ _ 0 _ _ _ HQ.out
  have f0 := frozen_of_row w2 q 0 _ _ HQ.out
  simp only [List.getElem?_toArray, List.getElem?_cons_zero] at c0
  have hkm : (k : Int) < m := by omega
  have hst := heap_setCell_same w2 q 0 _ _ (.int .i64 p) HQ.out
  have HST := hide hst
  have HMS := hide (HM.out.setCell (p := ⟨q, 0, none⟩) (.inl rfl) (.int .i64 p))
  have c1 := cell_of_row _ _ 0 _ _ _ hst
  simp at c1
  have hb1 : (w2.setCell ⟨q, 0, none⟩ (.int .i64 p)).cell? ⟨w.heap.size, 0, none⟩ = some (.pointer (some ⟨q, 0, none⟩)) := by
    have := HB.out.keep (w' := w2.setCell ⟨q, 0, none⟩ (.int .i64 p)) (heap_setCell_other w2 ⟨q, 0, none⟩ _ _ (by show w.heap.size ≠ q; omega))
    exact this.cell
  clear hi hpk hst hc hSx
  rcases hki with rfl | ⟨rfl, rfl⟩
  · have hmx : max (k : Int) 0 = (k : Int) := by omega
    go_wp2_with fail
    go_region
    go_wp2
    go_ret
    exact ⟨rfl, (show (w2.setCell ⟨q, 0, none⟩ (.int .i64 p)).heap[q]? = _ by have := HST.out; simpa using this), HMS.out.drew⟩
  · have hmx : max (-1 : Int) 0 = 0 := by decide
    simp only [Addr.add, if_true] at d0
    go_wp2_with fail
    go_region
    go_wp2
    go_ret
    exact ⟨rfl, (show (w2.setCell ⟨q, 0, none⟩ (.int .i64 p)).heap[q]? = _ by have := HST.out; simpa using this), HMS.out.drew⟩
end
end Go.Proofs.Ytngmnlmagbfijab
