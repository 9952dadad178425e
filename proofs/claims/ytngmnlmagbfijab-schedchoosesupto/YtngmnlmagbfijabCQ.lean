import Derived.Test.YtngmnlmagbfijabCN0
namespace Go.Proofs.Ytngmnlmagbfijab
open Go.RowKit
def zq (s : Pl) (R : List Int) : Int := if mayF (srt R) = 0 then pick s (srt R) else 0
def sq (s : Pl) (R : List Int) : Pl := if mayF (srt R) = 0 then nextP s (srt R) else s
theorem Rd.takeN {S : Nat → Prop} {w : World} {x : Addr} {n k cap : Nat} {zs : List Int} (h : Rd S w (.slice (some x) n cap) zs) (hk : k ≤ zs.length) : Rd S w (.slice (some x) k cap) (zs.take k) := by
  rcases h with ⟨h0, _⟩ | ⟨x', cap', h0, h1, h2⟩
  · cases h0
  · cases h0
    refine .inr ⟨x, cap, by rw [List.length_take, Nat.min_eq_left hk], by rw [List.length_take]; omega, fun i u hu => h2 i u ?_⟩
    rw [List.map_take] at hu
    exact List.getElem?_take_of_lt (by
      rcases Nat.lt_or_ge i k with h | h
      · exact h
      · rw [List.getElem?_take_eq_none (by omega)] at hu; cases hu) ▸ hu
theorem agf_told {s : Pl} {f : Int → Option Kp} {last : Int} (h : AgF s f last) {n : Nat} (ho : Okp n s) {L : List Rw} (hr : RelR L f) {ks : List Int} (hp : ks.Pairwise (fun a b => a < b)) (hm : ∀ k, k ∈ ks ↔ (s.wt k).isSome = true) : told s ks = L.map (shD s.kind last) := by
  have hk : ks = L.map (·.se) := rise_uniq hp (by rw [List.pairwise_map]; exact hr.rise) (fun k => by
    rw [hm k, h.kn k, Option.isSome_map, List.mem_map]
    constructor
    · intro hf
      obtain ⟨r, h1, h2⟩ := hr.all k hf
      exact ⟨r, h1, h2⟩
    · rintro ⟨r, h1, rfl⟩
      rw [hr.val r h1]; rfl)
  rw [hk]
  unfold told
  rw [List.map_map]
  apply List.map_congr_left
  intro r hr2
  have hv := hr.val r hr2
  show Sh.mk r.se (val s.wt r.se) (psv s r.se) = shD s.kind last r
  unfold shD
  have hw : val s.wt r.se = r.wt := by unfold val; rw [h.kn, hv]; rfl
  have hp2 : psv s r.se = psD s.kind last r := by
    unfold psv psD
    rcases ho.kind with e | e | e
    · rw [if_pos e, (h.ft e).1]
      by_cases hs : r.se = last
      · rw [if_pos hs, if_pos ⟨e, hs⟩]
      · rw [if_neg hs, if_neg (fun h9 => hs h9.2)]
        exact ((h.ft e).2 _ _ hv).symm
    · rw [if_neg (by omega), if_neg (fun h9 => by omega)]
      unfold val
      rw [((h.fs e).2 _ _ hv).1]; rfl
    · rw [if_neg (by omega), if_neg (fun h9 => by omega)]
      exact ((h.fr e).1 _ _ hv).1
  rw [hw, hp2]
section
variable (w : World)
theorem nextU (g n : Nat) (X S : Nat → Prop) (s : Pl) (hP : PlAt w X g n s) (v : Value) (R : List Int) (hR : Rd S w v R) (hS : ∀ b, S b → b < w.heap.size) (hl : R.length ≤ 1048576) (hz : ∀ z ∈ R, I64 z) (hn : n ≤ 2097152) :
    Calls Try.prog 9 #[.pointer (some ⟨g, 0, none⟩), v] w fun e w' => e = .returned (.tuple #[.int .i64 (zq s R), .int .i64 (mayF (srt R))]) ∧ ∃ X', PlAt w' X' g (n + R.length) (sq s R) ∧ Ext X w X' w' := by
  refine (Next_any w g n X S s hP v R hR hS hl hz hn).mono ?_
  unfold zq sq
  rintro e w' (⟨h1, h2, h3⟩ | ⟨h1, h2, h3⟩)
  · rw [if_neg h1, if_neg h1]
    exact ⟨h2, X, (hP.below h3).mono' (by omega), Mod.of_below h3, fun b hb => .inl hb⟩
  · rw [if_pos h1, if_pos h1]
    exact ⟨by rw [h2, h1], h3⟩
theorem rnextU (g n : Nat) (Y S : Nat → Prop) (s : Pl) (f : Int → Option Kp) (last : Int) (hP : RfF w Y g s.kind f last n) (hA : AgF s f last) (ho : Okp n s) (v : Value) (R : List Int) (hR : Rd S w v R) (hS : ∀ b, S b → ¬ Y b ∧ b < w.heap.size) (hl : R.length ≤ 1048576) (hn : n ≤ 2097152) (hla : s.kind = 2 → 0 ≤ last ∧ last ≤ 1152921504606846976) :
    Calls Try.prog 14 #[.pointer (some ⟨g, 0, none⟩), v] w fun e w' => e = .returned (.tuple #[.int .i64 (zq s R), .int .i64 (mayF (srt R))]) ∧ ∃ Y' f' last', RfF w' Y' g (sq s R).kind f' last' (n + R.length) ∧ AgF (sq s R) f' last' ∧ Ext Y w Y' w' := by
  refine (rnext_any w g s.kind n Y S f last hP ho.kind v R hR hS hl hn (hA.bounds ho hn) hla).mono ?_
  have hm := mayF_prB R
  rintro e w' (⟨h1, h2, h3⟩ | ⟨⟨h1, h2⟩, h3, h4⟩ | ⟨⟨h1, h2⟩, L1, b, x, Y', h3, h4, h5, h6, h7, h8, h9⟩)
  · rw [if_pos h1] at hm
    unfold zq sq
    rw [hm, if_neg (by omega), if_neg (by omega)]
    exact ⟨h2, Y, f, last, (hP.below h3).mono (by omega), hA, Mod.of_below h3, fun b hb => .inl hb⟩
  · rw [if_neg (by rw [h1]; simp), if_pos h2] at hm
    unfold zq sq
    rw [hm, if_neg (by omega), if_neg (by omega)]
    exact ⟨h3, Y, f, last, (hP.below h4).mono (by omega), hA, Mod.of_below h4, fun b hb => .inl hb⟩
  · rw [if_neg (by rw [h1]; simp), if_neg h2] at hm
    have hx := hA.who ho h1 h2 h4 h6 h7
    have hn2 := agf_next hA ho h1 h2 h4 h6 h7
    unfold zq sq
    rw [hm, if_pos rfl, if_pos rfl]
    refine ⟨by rw [h3, hx.1], Y', nextF s.kind last f R x, lastD s.kind last x, ⟨_, ?_, hn2.1, ?_⟩, hn2.2, h9⟩
    · have hk : (nextP s (srt R)).kind = s.kind := by unfold nextP; split <;> (try split) <;> rfl
      rw [hk]; exact h8
    · rw [List.length_set]
      split <;> simpa using h5
end
end Go.Proofs.Ytngmnlmagbfijab
