import Derived.Test.YteacmcdmdeckmaaGreatB3
import Derived.Deep.RegionHeld
import Derived.Deep.DeepHandedRow
namespace Go.Proofs.YteacmcdmdeckmaaGreat
open Go.RowKit

theorem blk1 {w1 : World} {b : Nat} {x0 : Value} {t : TypeId} (h : w1.heap[b]? = some (.cells #[x0] t (0, 0))) : w1.cell? ⟨b, 0, none⟩ = some x0 := by rw [cell_of_row _ _ _ _ _ _ h]; rfl
theorem BookAt.tabs {w : World} {F : Nat → Prop} {B T : Nat} {G : Nat → Prop} {m : List (Option Nat)} {fs : Nat → Nat → Prop} {bk : List (Option Lst)} (h : BookAt w F B T G m fs bk) {w1 w2 : World} {G' : Nat → Prop} (hb : Below w.heap.size w w1) (hL : Tab KL w2 G' T m) (hx : Ext G w1 G' w2) :
    BookAt w2 (fun x => F x ∨ G' x) B T G' m fs bk ∧ Ext F w (fun x => F x ∨ G' x) w2 := by
  have hg' : ∀ x, G' x → G x ∨ w1.heap.size ≤ x := hx.new
  have old : ∀ c, c < w.heap.size → ¬ G c → w2.heap[c]? = w.heap[c]? := fun c hc hg => (hx.mod.block c (Nat.lt_of_lt_of_le hc hb.size) hg).trans (hb.block c hc)
  refine ⟨⟨?_, hL, h.len, h.blen, h.free, ?_, .inl h.fB, ?_, ?_, h.dis, ?_⟩, ⟨?_, ?_⟩⟩
  · rw [old B (h.lt B h.fB) (fun hg => (h.fG B hg).2 rfl)]; exact h.top
  · intro j c hj
    obtain ⟨l, h1, h2, h3⟩ := h.held j c hj
    exact ⟨l, h1, h2, h3.keep (Nat.le_trans hb.size hx.mod.size) (fun d hd => old d (h3.lt d hd) (h.own j c d hj hd).2.2)⟩
  · intro c hc
    refine ⟨.inr hc, fun e => ?_⟩
    subst e
    rcases hg' c hc with h1 | h1
    · exact (h.fG c h1).2 rfl
    · have := h.lt c h.fB; have := hb.size; omega
  · intro j c d hj hd
    have h1 := h.own j c d hj hd
    refine ⟨.inl h1.1, h1.2.1, fun hg => ?_⟩
    rcases hg' d hg with h3 | h3
    · exact h1.2.2 h3
    · have := h.lt d h1.1; have := hb.size; omega
  · intro c hc
    rcases hc with hc | hc
    · exact Nat.lt_of_lt_of_le (h.lt c hc) (Nat.le_trans hb.size hx.mod.size)
    · exact hL.lt c hc
  · exact ⟨hx.mod.os.trans hb.os, hx.mod.tape.trans hb.tape, hx.mod.output.trans hb.output, Nat.le_trans hb.size hx.mod.size, fun c hc hf => old c hc (fun hg => hf (h.fG c hg).1)⟩
  · intro c hc
    rcases hc with hc | hc
    · exact .inl hc
    · rcases hg' c hc with h1 | h1
      · exact .inl (h.fG c h1).1
      · exact .inr (Nat.le_trans hb.size h1)
/-- what Open does -/
def OpenR (bk : List (Option Lst)) (e c : Int) (bk' : List (Option Lst)) : Prop :=
  (∃ k : Nat, e = k ∧ bk[k]? = some none ∧ c = 0 ∧ bk' = bk.set k (some (List.replicate 48 none))) ∨ (c = 83 ∧ bk' = bk ∧ ∀ k : Nat, e = k → bk[k]? ≠ some none)
theorem BookAt.free' {w : World} {F : Nat → Prop} {B T : Nat} {G : Nat → Prop} {m : List (Option Nat)} {fs : Nat → Nat → Prop} {bk : List (Option Lst)} (h : BookAt w F B T G m fs bk) {k : Nat} (hk : bk[k]? = some none) : m[k]? = some none := by
  have hi : k < m.length := by rw [h.len, ← h.blen]; exact (List.getElem?_eq_some_iff.1 hk).1
  cases hm : m[k] with
  | none => rw [List.getElem?_eq_getElem hi, hm]
  | some b => obtain ⟨l, h1, _⟩ := h.held k b (by rw [List.getElem?_eq_getElem hi, hm]); rw [hk] at h1; cases h1
set_option maxHeartbeats 1600000 in
theorem open_any (w : World) (F : Nat → Prop) (B : Nat) (bk : List (Option Lst)) (h : Book w F B bk) (e : Int) :
    Calls Tryz.prog 49 #[.pointer (some ⟨B, 0, none⟩), .int .i64 e] w fun x w' => ∃ (c : Int) (bk' : List (Option Lst)) (F' : Nat → Prop), x = .returned (.int .i64 c) ∧ Book w' F' B bk' ∧ Ext F w F' w' ∧ OpenR bk e c bk' := by
  obtain ⟨T, G, m, fs, h⟩ := h
  have c0 := h.cell
  have hd0 : Below w.heap.size w w.drew := (Below.refl _ _).drew
  have hd : BookAt w.drew F B T G m fs bk := h.keep (Nat.le_refl _) (fun _ _ => rfl)
  have c1 : w.drew.cell? ⟨B, 0, none⟩ = some (.pointer (some ⟨T, 0, none⟩)) := hd.cell
  have H := hide h
  have hs : w.drew.heap.size = w.heap.size := rfl
  clear h hd
  go_enter Tryz.func49, Tryz.ntmps49
  go_wp2_with fail
  go_region_held (fun W => W.cell? ⟨B, 0, none⟩ = some (.pointer (some ⟨T, 0, none⟩)))
    (first | assumption | exact q2 | exact q1 | exact c1)
    (first
      | (go_at_call 71; refine (newR_any _).mono ?_; rintro e1 w1 ⟨rfl, hT1, hb1⟩
         have q1 := (H.out.keep (Nat.le_trans (Nat.le_refl _) hb1.size) (fun b hb => hb1.block b (H.out.lt b hb))).cell
         have HT1 := hide hT1
         have HB1 := hide hb1
         clear hT1 hb1)
      | (go_at_call 70; refine (putAtL_any _ G T m (H.out.tab.keep (Nat.le_trans (Nat.le_refl _) HB1.out.size) (fun b hb => HB1.out.block b (H.out.tab.lt b hb))) e _).mono ?_; rintro e2 w2 ⟨v, m', G', rfl, hT2, hE2, h3⟩
         have q2 := blk1 ((hE2.mod.block B (Nat.lt_of_lt_of_le (H.out.lt B H.out.fB) HB1.out.size) (fun hg => (H.out.fG B hg).2 rfl)).trans ((HB1.out.block B (H.out.lt B H.out.fB)).trans H.out.top))
         have HT2 := hide hT2
         have HE2 := hide hE2
         have H3 := hide h3
         clear hT2 hE2 h3))
  have hb1 : Below w.heap.size w w1 := hd0.trans HB1.out
  have e30 : ((30 : Int) != 0) = true := by decide
  have e31 : ((31 : Int) != 0) = true := by decide
  rcases H3.out with ⟨h4, rfl, rfl⟩ | ⟨k, x, rfl, h4, rfl, rfl⟩ | ⟨k, rfl, h4, rfl, rfl⟩
  · have K1 := hide h4
    have K2 := hide (H.out.tabs hb1 HT2.out HE2.out)
    have K3 : Hid (∀ k : Nat, e = k → bk[k]? ≠ some none) := by
      intro k hk hn
      have h6 := (List.getElem?_eq_some_iff.1 (H.out.free' hn)).1
      have := K1.out
      omega
    clear h4 H3 H HT1 HT2 HE2 HB1 hb1
    go_wp2
    go_ret
    exact ⟨83, bk, _, rfl, ⟨_, _, _, _, K2.out.1⟩, K2.out.2, .inr ⟨rfl, rfl, K3.out⟩⟩
  · have K2 := hide (H.out.tabs hb1 HT2.out HE2.out)
    have K3 : Hid (∀ k' : Nat, (k : Int) = k' → bk[k']? ≠ some none) := by
      intro k' hk hn
      have h6 := H.out.free' hn
      obtain rfl : k = k' := by omega
      rw [h4] at h6; cases h6
    clear h4 H3 H HT1 HT2 HE2 HB1 hb1
    go_wp2
    go_ret
    exact ⟨83, bk, _, rfl, ⟨_, _, _, _, K2.out.1⟩, K2.out.2, .inr ⟨rfl, rfl, K3.out⟩⟩
  · have K2 := hide (H.out.opn h4 (N := fun b => b = w.heap.size ∨ b = w.heap.size + 1) (fun x hx => by omega) hb1 HT1.out HT2.out HE2.out)
    have K3 := hide (H.out.free k h4)
    clear h4 H3 H HT1 HT2 HE2 HB1 hb1
    go_wp2
    go_ret
    exact ⟨0, _, _, rfl, ⟨_, _, _, _, K2.out.1⟩, K2.out.2, .inl ⟨k, rfl, K3.out, rfl, rfl⟩⟩
end Go.Proofs.YteacmcdmdeckmaaGreat
