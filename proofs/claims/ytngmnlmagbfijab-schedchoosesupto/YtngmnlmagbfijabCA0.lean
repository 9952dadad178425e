import Derived.Test.YtngmnlmagbfijabLB
namespace Go.Proofs.Ytngmnlmagbfijab
open Go.RowKit
theorem cell_keep {w w' : World} {x : Addr} {i : Nat} {v : Value} (h : w.cell? (x.add i) = some v) (hb : w'.heap[x.block]? = w.heap[x.block]?) : w'.cell? (x.add i) = some v := by
  unfold World.cell? at h ⊢
  rw [blk_add] at h ⊢
  rw [hb]; exact h
section
variable {w w' : World} {base : Nat}
theorem ownsRow_keepB {w w' : World} {base e size n : Nat} {v : Value} {xs : List Value} (h : w.ownsRow base e size v n xs) (hk : ∀ b, v.ownBlock = some b → w'.heap[b]? = w.heap[b]?) : w'.ownsRow base e size v n xs := by
  obtain ⟨hl, ⟨rfl, h0⟩ | ⟨g, cap, cur, rfl, hb, hg, r⟩⟩ := h
  · exact ⟨hl, .inl ⟨rfl, h0⟩⟩
  · exact ⟨hl, .inr ⟨g, cap, cur, rfl, hb, by rw [hk g rfl]; exact hg, r⟩⟩
end
/-- v is a slice of shares, in blocks of S -/
def ShR (S : Nat → Prop) (w : World) (v : Value) (l : List Sh) : Prop :=
  ∃ ao cap, v = .slice ao l.length cap ∧ l.length ≤ cap ∧ ∀ i x, l[i]? = some x → ∃ a, ao = some a ∧ S a.block ∧ w.cell? (a.add (i * 3)) = some (.int .i64 x.s) ∧ w.cell? (a.add (i * 3 + 1)) = some (.int .i64 x.w) ∧ w.cell? (a.add (i * 3 + 2)) = some (.int .i64 x.p)
theorem shs_get : ∀ (l : List Sh) (i : Nat) (x : Sh), l[i]? = some x → (shs l)[i * 3]? = some (.int .i64 x.s) ∧ (shs l)[i * 3 + 1]? = some (.int .i64 x.w) ∧ (shs l)[i * 3 + 2]? = some (.int .i64 x.p)
  | [], _, _, h => by simp at h
  | b :: cs, 0, x, h => by simp at h; subst h; exact ⟨rfl, rfl, rfl⟩
  | b :: cs, i + 1, x, h => by
    have := shs_get cs i x (by simpa using h)
    rw [show (i + 1) * 3 = i * 3 + 3 by omega, show i * 3 + 3 + 1 = i * 3 + 1 + 3 by omega, show i * 3 + 3 + 2 = i * 3 + 2 + 3 by omega]
    simpa [shs, shL] using this
theorem Os.shr {w : World} {base : Nat} {v : Value} {l : List Sh} (h : Os w base v l) : ShR (fun b => base ≤ b ∧ b < w.heap.size) w v l := by
  have h' := h
  obtain ⟨hl, ⟨rfl, h0⟩ | ⟨g, cap, cur, rfl, hb, hg, hn, hm, hs, ht⟩⟩ := h
  · have : l = [] := List.eq_nil_of_length_eq_zero h0
    subst this
    exact ⟨none, 0, rfl, Nat.le_refl _, fun i c hc => by simp at hc⟩
  · refine ⟨_, cap, rfl, hn, fun i x hx => ?_⟩
    obtain ⟨d0, d1, d2⟩ := shs_get l i x hx
    exact ⟨_, rfl, ⟨(World.ownsRow.lt h' g rfl).1, (World.ownsRow.lt h' g rfl).2⟩, World.ownsRow.cells h' rfl _ _ d0, World.ownsRow.cells h' rfl _ _ d1, World.ownsRow.cells h' rfl _ _ d2⟩
theorem ShR.keep {S : Nat → Prop} {w w' : World} {v : Value} {l : List Sh} (h : ShR S w v l) (hb : ∀ b, S b → w'.heap[b]? = w.heap[b]?) : ShR S w' v l := by
  obtain ⟨ao, cap, h1, h2, h3⟩ := h
  refine ⟨ao, cap, h1, h2, fun i x hx => ?_⟩
  obtain ⟨a, e, hS, c0, c1, c2⟩ := h3 i x hx
  have hk := hb _ hS
  exact ⟨a, e, hS, cell_keep c0 hk, cell_keep c1 hk, cell_keep c2 hk⟩
theorem ShR.mono {S S' : Nat → Prop} {w : World} {v : Value} {l : List Sh} (h : ShR S w v l) (hb : ∀ b, S b → S' b) : ShR S' w v l := by
  obtain ⟨ao, cap, h1, h2, h3⟩ := h
  refine ⟨ao, cap, h1, h2, fun i x hx => ?_⟩
  obtain ⟨a, e, hS, c⟩ := h3 i x hx
  exact ⟨a, e, hb _ hS, c⟩
theorem ShR.at {S : Nat → Prop} {w : World} {ao : Option Addr} {n cap : Nat} {l : List Sh} (h : ShR S w (.slice ao n cap) l) {i : Nat} {x : Sh} (hx : l[i]? = some x) :
    ∃ a, ao = some a ∧ S a.block ∧ w.cell? (a.add (i * 3)) = some (.int .i64 x.s) ∧ w.cell? ⟨(a.add (i * 3)).block, (a.add (i * 3)).off + 1, none⟩ = some (.int .i64 x.w) ∧ w.cell? ⟨(a.add (i * 3)).block, (a.add (i * 3)).off + 2, none⟩ = some (.int .i64 x.p) := by
  obtain ⟨ao', cap', h1, h2, h3⟩ := h
  cases h1
  obtain ⟨a, e, hS, c0, c1, c2⟩ := h3 i x hx
  have ea : ∀ j, a.add (i * 3 + (j + 1)) = (⟨(a.add (i * 3)).block, (a.add (i * 3)).off + (j + 1), none⟩ : Addr) := fun j => by rw [← Addr.add_add]; simp [Addr.add]
  rw [ea 0] at c1
  rw [ea 1] at c2
  exact ⟨a, e, hS, c0, c1, c2⟩
section
variable (w : World)
set_option maxRecDepth 100000 in
set_option maxHeartbeats 1000000 in
theorem rest_any (x : Int) : Calls Try.prog 6 #[.int .i64 x, .int .i64 3] w fun e w' => ∃ z : Nat, e = .returned (.int .i64 (z : Nat)) ∧ z ≤ 2 ∧ w' = w := by
  have h1 := Int.lt_tmod_of_pos x (b := 3) (by omega)
  have h2 := Int.tmod_lt_of_pos x (b := 3) (by omega)
  go_enter Try.func6, Try.ntmps6
  have hw1 : IntKind.i64.wrap (Int.tmod x 3) = Int.tmod x 3 := wi _ (by omega) (by omega)
  have hw2 : IntKind.i64.wrap (Int.tmod x 3 + 3) = Int.tmod x 3 + 3 := wi _ (by omega) (by omega)
  by_cases h : Int.tmod x 3 < 0
  · go_wp2
    go_ret
    exact ⟨(Int.tmod x 3 + 3).toNat, by rw [show (((Int.tmod x 3 + 3).toNat : Nat) : Int) = Int.tmod x 3 + 3 by omega]; rfl, by omega, rfl⟩
  · go_wp2
    go_ret
    exact ⟨(Int.tmod x 3).toNat, by rw [show (((Int.tmod x 3).toNat : Nat) : Int) = Int.tmod x 3 by omega]; rfl, by omega, rfl⟩
set_option maxRecDepth 100000 in
set_option maxHeartbeats 4000000 in
theorem sameShares_any (S : Nat → Prop) (v v2 : Value) (l : List Sh) (hO : ShR S w v l) (hO2 : ShR S w v2 l) (hl : l.length ≤ 4194304) :
    Calls Try.prog 17 #[v, v2] w fun e w' => e = .returned (.bool true) ∧ Drews w w' := by
  have HO := hide hO
  have HO2 := hide hO2
  obtain ⟨ao, cap, rfl, hcap, _⟩ := hO
  obtain ⟨ao2, cap2, rfl, hcap2, _⟩ := hO2
  obtain ⟨m, hm⟩ : ∃ m, l.length = m := ⟨_, rfl⟩
  have HLn := hide hm
  rw [hm] at hcap hcap2 HO HO2 hl ⊢
  clear hm
  go_enter Try.func17, Try.ntmps17
  go_upto_region 4 with fail
  go_loopw [5] (fun i wr => ∃ k : Nat, k ≤ m ∧ i = .int .i64 (k : Nat) ∧ Hid (Drews w wr)) (fun i _ => m - (RowKit.intOf i).toNat)
  case atStart => exact ⟨0, by omega, rfl, hide (Drews.refl _)⟩
  case round =>
    obtain ⟨k, hk, rfl, HD⟩ := hrel
    by_cases hlt : k < m
    · obtain ⟨x, hx⟩ : ∃ x, l[k]? = some x := ⟨l[k]'(by rw [HLn.out]; exact hlt), List.getElem?_eq_getElem _⟩
      obtain ⟨y, rfl, _, c0, c1, c2⟩ := (HO.out.keep (w' := wr) (fun b _ => by rw [HD.out.heap])).at hx
      obtain ⟨y2, rfl, _, d0, d1, d2⟩ := (HO2.out.keep (w' := wr) (fun b _ => by rw [HD.out.heap])).at hx
      have hki : (k : Int) < m := by omega
      obtain ⟨xs, xw, xp⟩ := x
      dsimp only at c0 c1 c2 d0 d1 d2
      clear hx
      go_upto_region 6 with fail
      go_quiet (fail)
      have HD2 : Hid (Drews w (wr.drewN nq)) := hide (HD.out.trans ⟨nq, rfl⟩)
      go_wp2
      go_roundw
      case rel => exact ⟨k + 1, by omega, by go_num, HD2⟩
      case measure => simp [RowKit.intOf]; omega
    · obtain rfl : k = m := by omega
      go_wp2
      go_ret
      exact ⟨rfl, HD.out⟩
end
theorem getD_lt {l : List Int} {i : Nat} (h : i < l.length) : l.getD i 0 = l[i] := by rw [List.getD_eq_getElem?_getD, List.getElem?_eq_getElem h, Option.getD_some]
theorem told_uniq {s : Pl} {k1 k2 : List Int} (h1 : k1.Pairwise (fun a b => a < b)) (h2 : k2.Pairwise (fun a b => a < b)) (m1 : ∀ k, k ∈ k1 ↔ (s.wt k).isSome = true) (m2 : ∀ k, k ∈ k2 ↔ (s.wt k).isSome = true) : k1 = k2 := by
  have n1 : k1.Nodup := h1.imp (fun h => by omega)
  have n2 : k2.Nodup := h2.imp (fun h => by omega)
  exact List.Perm.eq_of_pairwise (le := fun a b : Int => a < b) (fun a b _ _ h1 h2 => by omega) h1 h2 ((List.perm_ext_iff_of_nodup n1 n2).2 (fun k => (m1 k).trans (m2 k).symm))
end Go.Proofs.Ytngmnlmagbfijab
