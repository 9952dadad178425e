import Derived.Test.YteacmcdmdeckmaaGreatX2
namespace Go.Proofs.YteacmcdmdeckmaaGreat
open Go.RowKit Go.Shelf

def PLt (p q : Nat × Nat) : Prop := p.1 < q.1 ∨ (p.1 = q.1 ∧ p.2 < q.2)
theorem pls_sorted (P : Rc → Bool) (bk : List (Option Lst)) : (pls P bk).Pairwise PLt := by
  unfold pls plsI
  rw [List.pairwise_flatMap]
  constructor
  · intro i _
    unfold one fit
    rw [List.pairwise_map, List.pairwise_map]
    exact ((prsL_sorted (lf bk i) 0).filter _).imp (fun h => .inr ⟨rfl, h⟩)
  · unfold idx
    rw [List.pairwise_map]
    refine (prsL_sorted bk 0).imp (fun {a b} h => ?_)
    intro x hx y hy
    obtain ⟨s, _, rfl⟩ := List.mem_map.1 hx
    obtain ⟨t, _, rfl⟩ := List.mem_map.1 hy
    exact .inl h
theorem PLt.ne {p q : Nat × Nat} (h : PLt p q) : p ≠ q := by
  rintro rfl
  rcases h with h | ⟨_, h⟩ <;> omega
theorem pls_nodup (P : Rc → Bool) (bk : List (Option Lst)) : (pls P bk).Nodup := (pls_sorted P bk).imp PLt.ne
theorem own_base {w : World} {b b' : Nat} {e : TypeId} {s n : Nat} {v : Value} {xs : List Value} (h : w.ownsRow b' e s v n xs) (hb : b ≤ b') : w.ownsRow b e s v n xs := by
  obtain ⟨h1, h2 | ⟨g, cap, cur, h2, h3, h4⟩⟩ := h
  · exact ⟨h1, .inl h2⟩
  · exact ⟨h1, .inr ⟨g, cap, cur, h2, by omega, h4⟩⟩
set_option maxHeartbeats 1600000 in
theorem purge_any (w : World) (F : Nat → Prop) (B : Nat) (bk : List (Option Lst)) (h : Book w F B bk) (k o : Int) :
    Calls Tryz.prog 61 #[.pointer (some ⟨B, 0, none⟩), .int .i64 k, .int .i64 o] w fun x w' => ∃ v', x = .returned v' ∧ w'.ownsRow w.heap.size 78 6 v' (pls (fun r => decide (r.k = k) && decide (r.o = o)) bk).length (encT bk (pls (fun r => decide (r.k = k) && decide (r.o = o)) bk)) ∧ Book w' F B (rmv bk (pls (fun r => decide (r.k = k) && decide (r.o = o)) bk)) ∧ Ext F w F w' := by
  have H := hide h
  clear h
  go_enter Tryz.func61, Tryz.ntmps61
  go_wp2_with fail
  refine (same_object w k o).mono ?_
  rintro e w4 ⟨rfl, hf4, hv4, hb4⟩
  have H4 := hide (H.out.below hb4)
  go_wp2_with fail
  refine (places_any F B bk w4 H4.out 69 w.heap.size (w.heap.size + 1) _ _ _ (fits_object _ _ k o) hf4 hv4).mono ?_
  rintro e w5 ⟨v5, rfl, hrow, hb5⟩
  have HB := hide (hb4.trans (hb5.mono hb4.size))
  have H5 := hide (H4.out.below hb5)
  have hle := pls_le H5.out (fun r => decide (r.k = k) && decide (r.o = o))
  have HN := hide (pls_nodup (fun r => decide (r.k = k) && decide (r.o = o)) bk)
  have HM : Hid (∀ p ∈ pls (fun r => decide (r.k = k) && decide (r.o = o)) bk, ∃ r, atB bk (p.1 : Int) (p.2 : Int) = some r) := hide (fun p hp => by
    obtain ⟨r, hr, _⟩ := mem_pls.1 (show (p.1, p.2) ∈ _ from hp)
    exact ⟨r, hr⟩)
  generalize hps : pls (fun r => decide (r.k = k) && decide (r.o = o)) bk = ps at *
  replace hps := hide hps
  have HRow := hide hrow
  have HF : Hid (∀ x, F x → x < w4.heap.size) := hide H4.out.lt
  clear hrow hb5 hb4 hf4 hv4
  go_wp2_with fail
  refine (take_any w5 F B bk H5.out ps HN.out HM.out hle w4.heap.size v5 HRow.out HF.out).mono ?_
  rintro e w6 ⟨v6, rfl, ho6, hB6, hE6⟩
  have K1 := hide (own_base ho6 HB.out.size)
  have K2 := hide hB6
  have K3 := hide ((Ext.of_below HB.out).trans hE6)
  clear ho6 hB6 hE6
  go_wp2
  go_ret
  have e := hps.out
  subst e
  exact ⟨_, rfl, K1.out, K2.out, K3.out⟩
end Go.Proofs.YteacmcdmdeckmaaGreat
