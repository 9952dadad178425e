import Derived.Deep.RegionHeld
import Derived.Deep.DeepHandedRow
import Derived.RangeFuncNested
import Derived.RangeFuncBound
import Derived.RangeFuncCalls
import Derived.RangeFuncLeaves
import Derived.RangeFuncBox
import Derived.Shelf.Abstract
import Derived.Shelf.RegionOpen
import Derived.OwnWalkIn
import Derived.TacticsInMore
import Derived.LoopNIn
import Derived.LoopIn
import Derived.Maps.OwnIn
import Derived.BigQuiet
import Derived.Deep.QuietTactic
import Derived.Test.YtimfgjndgfjjgaaMA
namespace Go.Proofs.Ytimfgjndgfjjgaa
open Go.RowKit

theorem blk1 {w1 : World} {b : Nat} {x0 : Value} {t : TypeId} (h : w1.heap[b]? = some (.cells #[x0] t (0, 0))) : w1.cell? ⟨b, 0, none⟩ = some x0 := by rw [cell_of_row _ _ _ _ _ _ h]; rfl
theorem BookAt.tabs {w : World} {F : Nat → Prop} {B T : Nat} {G : Nat → Prop} {m : List (Option Nat)} {fs : Nat → Nat → Prop} {bk : List (Option Lst)} (h : BookAt w F B T G m fs bk) {w1 w2 : World} {G' : Nat → Prop} (hb : Below w.heap.size w w1) (hL : Tab KL w2 G' T m) (hx : Ext G w1 G' w2) :
    BookAt w2 (fun x => F x ∨ G' x) B T G' m fs bk ∧ Ext F w (fun x => F x ∨ G' x) w2 := by
  have hg' : ∀ x, G' x → G x ∨ w1.heap.size ≤ x := hx.new
  have old : ∀ c, c < w.heap.size → ¬ G c → w2.heap[c]? = w.heap[c]? := fun c hc hg => (hx.mod.block c (Nat.lt_of_lt_of_le hc hb.size) hg).trans (hb.block c hc)
  refine ⟨⟨?_, hL, h.len, h.blen, h.free, ?_, .inl h.fB, ?_, ?_, h.dis, ?_⟩, ⟨?_, ?_⟩⟩
  · rw [old B (h.lt B h.fB) (fun hg => (h.fG B hg).2 rfl)]; exact h.top
  · intro j c hj
    obtain ⟨l, h1, h2, h3⟩ := h.held j c hj
    exact ⟨l, h1, h2, h3.keep (Nat.le_trans hb.size hx.mod.size) (fun d hd => old d (h3.lt d hd) (h.own j c d hj hd).2.2)⟩
  · intro c hc
    refine ⟨.inr hc, fun e => ?_⟩
    subst e
    rcases hg' c hc with h1 | h1
    · exact (h.fG c h1).2 rfl
    · have := h.lt c h.fB; have := hb.size; omega
  · intro j c d hj hd
    have h1 := h.own j c d hj hd
    refine ⟨.inl h1.1, h1.2.1, fun hg => ?_⟩
    rcases hg' d hg with h3 | h3
    · exact h1.2.2 h3
    · have := h.lt d h1.1; have := hb.size; omega
  · intro c hc
    rcases hc with hc | hc
    · exact Nat.lt_of_lt_of_le (h.lt c hc) (Nat.le_trans hb.size hx.mod.size)
    · exact hL.lt c hc
  · exact ⟨hx.mod.os.trans hb.os, hx.mod.tape.trans hb.tape, hx.mod.output.trans hb.output, Nat.le_trans hb.size hx.mod.size, fun c hc hf => old c hc (fun hg => hf (h.fG c hg).1)⟩
  · intro c hc
    rcases hc with hc | hc
    · exact .inl hc
    · rcases hg' c hc with h1 | h1
      · exact .inl (h.fG c h1).1
      · exact .inr (Nat.le_trans hb.size h1)
/-- what Open does -/
def OpenR (bk : List (Option Lst)) (e c : Int) (bk' : List (Option Lst)) : Prop :=
  (∃ k : Nat, e = k ∧ bk[k]? = some none ∧ c = 0 ∧ bk' = bk.set k (some (List.replicate 48 none))) ∨ (c = 83 ∧ bk' = bk ∧ ∀ k : Nat, e = k → bk[k]? ≠ some none)
theorem BookAt.free' {w : World} {F : Nat → Prop} {B T : Nat} {G : Nat → Prop} {m : List (Option Nat)} {fs : Nat → Nat → Prop} {bk : List (Option Lst)} (h : BookAt w F B T G m fs bk) {k : Nat} (hk : bk[k]? = some none) : m[k]? = some none := by
  have hi : k < m.length := by rw [h.len, ← h.blen]; exact (List.getElem?_eq_some_iff.1 hk).1
  cases hm : m[k] with
  | none => rw [List.getElem?_eq_getElem hi, hm]
  | some b => obtain ⟨l, h1, _⟩ := h.held k b (by rw [List.getElem?_eq_getElem hi, hm]); rw [hk] at h1; cases h1
set_option maxHeartbeats 1600000 in
theorem open_any (w : World) (F : Nat → Prop) (B : Nat) (bk : List (Option Lst)) (h : Book w F B bk) (e : Int) :
    Calls Try.prog 15 #[.pointer (some ⟨B, 0, none⟩), .int .i64 e] w fun x w' => ∃ (c : Int) (bk' : List (Option Lst)) (F' : Nat → Prop), x = .returned (.int .i64 c) ∧ Book w' F' B bk' ∧ Ext F w F' w' ∧ OpenR bk e c bk' := by
  obtain ⟨T, G, m, fs, h⟩ := h
  have c0 := h.cell
  have hd0 : Below w.heap.size w w.drew := (Below.refl _ _).drew
  have hd : BookAt w.drew F B T G m fs bk := h.keep (Nat.le_refl _) (fun _ _ => rfl)
  have c1 : w.drew.cell? ⟨B, 0, none⟩ = some (.pointer (some ⟨T, 0, none⟩)) := hd.cell
  have H := hide h
  have hs : w.drew.heap.size = w.heap.size := rfl
  clear h hd
  go_enter Try.func15, Try.ntmps15
  go_wp2_with fail
  go_region_held (fun W => W.cell? ⟨B, 0, none⟩ = some (.pointer (some ⟨T, 0, none⟩)))
    (first | assumption | exact q2 | exact q1 | exact c1)
    (first
      | (go_at_call 40; refine (newR_any _).mono ?_; rintro e1 w1 ⟨rfl, hT1, hb1⟩
         have q1 := (H.out.keep (Nat.le_trans (Nat.le_refl _) hb1.size) (fun b hb => hb1.block b (H.out.lt b hb))).cell
         have HT1 := hide hT1
         have HB1 := hide hb1
         clear hT1 hb1)
      | (go_at_call 39; refine (putAtL_any _ G T m (H.out.tab.keep (Nat.le_trans (Nat.le_refl _) HB1.out.size) (fun b hb => HB1.out.block b (H.out.tab.lt b hb))) e _).mono ?_; rintro e2 w2 ⟨v, m', G', rfl, hT2, hE2, h3⟩
         have q2 := blk1 ((hE2.mod.block B (Nat.lt_of_lt_of_le (H.out.lt B H.out.fB) HB1.out.size) (fun hg => (H.out.fG B hg).2 rfl)).trans ((HB1.out.block B (H.out.lt B H.out.fB)).trans H.out.top))
         have HT2 := hide hT2
         have HE2 := hide hE2
         have H3 := hide h3
         clear hT2 hE2 h3))
  have hb1 : Below w.heap.size w w1 := hd0.trans HB1.out
  have e30 : ((30 : Int) != 0) = true := by decide
  have e31 : ((31 : Int) != 0) = true := by decide
  rcases H3.out with ⟨h4, rfl, rfl⟩ | ⟨k, x, rfl, h4, rfl, rfl⟩ | ⟨k, rfl, h4, rfl, rfl⟩
  · have K1 := hide h4
    have K2 := hide (H.out.tabs hb1 HT2.out HE2.out)
    have K3 : Hid (∀ k : Nat, e = k → bk[k]? ≠ some none) := by
      intro k hk hn
      have h6 := (List.getElem?_eq_some_iff.1 (H.out.free' hn)).1
      have := K1.out
      omega
    clear h4 H3 H HT1 HT2 HE2 HB1 hb1
    go_wp2
    go_ret
    exact ⟨83, bk, _, rfl, ⟨_, _, _, _, K2.out.1⟩, K2.out.2, .inr ⟨rfl, rfl, K3.out⟩⟩
  · have K2 := hide (H.out.tabs hb1 HT2.out HE2.out)
    have K3 : Hid (∀ k' : Nat, (k : Int) = k' → bk[k']? ≠ some none) := by
      intro k' hk hn
      have h6 := H.out.free' hn
      obtain rfl : k = k' := by omega
      rw [h4] at h6; cases h6
    clear h4 H3 H HT1 HT2 HE2 HB1 hb1
    go_wp2
    go_ret
    exact ⟨83, bk, _, rfl, ⟨_, _, _, _, K2.out.1⟩, K2.out.2, .inr ⟨rfl, rfl, K3.out⟩⟩
  · have K2 := hide (H.out.opn h4 (N := fun b => b = w.heap.size ∨ b = w.heap.size + 1) (fun x hx => by omega) hb1 HT1.out HT2.out HE2.out)
    have K3 := hide (H.out.free k h4)
    clear h4 H3 H HT1 HT2 HE2 HB1 hb1
    go_wp2
    go_ret
    exact ⟨0, _, _, rfl, ⟨_, _, _, _, K2.out.1⟩, K2.out.2, .inl ⟨k, rfl, K3.out, rfl, rfl⟩⟩
end Go.Proofs.Ytimfgjndgfjjgaa

namespace Go.Proofs.Ytimfgjndgfjjgaa
open Go.RowKit

theorem blk4 {w1 : World} {b : Nat} {x0 x1 x2 x3 : Value} {t : TypeId} (h : w1.heap[b]? = some (.cells #[x0, x1, x2, x3] t (0, 0))) :
    w1.cell? ⟨b, 0, none⟩ = some x0 ∧ w1.cell? ⟨b, 1, none⟩ = some x1 ∧ w1.cell? ⟨b, 2, none⟩ = some x2 ∧ w1.cell? ⟨b, 3, none⟩ = some x3 :=
  ⟨by rw [cell_of_row _ _ _ _ _ _ h]; rfl, by rw [cell_of_row _ _ _ _ _ _ h]; rfl, by rw [cell_of_row _ _ _ _ _ _ h]; rfl, by rw [cell_of_row _ _ _ _ _ _ h]; rfl⟩
theorem Ext.of_below {F : Nat → Prop} {a w : World} (h : Below a.heap.size a w) : Ext F a F w := ⟨Mod.of_below h, fun _ h => .inl h⟩
/-- what Mint does -/
def MintR (bk : List (Option Lst)) (e a : Int) (k o s r : Int) (v c : Int) (bk' : List (Option Lst)) : Prop :=
  (look bk e = none ∧ v = -1 ∧ c = 83 ∧ bk' = bk) ∨
  ((∃ l, look bk e = some l) ∧ (¬ (-1 ≤ a ∧ a < 48) ∨ ¬ mb k o s r) ∧ v = -1 ∧ c = 1 ∧ bk' = bk) ∨
  (∃ (i : Nat) (l l' : Lst), e = i ∧ bk[i]? = some (some l) ∧ (-1 ≤ a ∧ a < 48) ∧ mb k o s r ∧ LayR l a ⟨k, o, s, r, -1, -1⟩ v c l' ∧ bk' = bk.set i (some l'))
set_option maxHeartbeats 3200000 in
theorem mint_any (w : World) (F : Nat → Prop) (B : Nat) (bk : List (Option Lst)) (h : Book w F B bk) (e a k o s r : Int) :
    Calls Try.prog 16 #[.pointer (some ⟨B, 0, none⟩), .int .i64 e, .int .i64 a, .agg #[.int .i64 k, .int .i64 o, .int .i64 s, .int .i64 r]] w fun x w' => ∃ (v c : Int) (bk' : List (Option Lst)) (F' : Nat → Prop), x = .returned (.tuple #[.int .i64 v, .int .i64 c]) ∧ Book w' F' B bk' ∧ Ext F w F' w' ∧ MintR bk e a k o s r v c bk' := by
  have hb0 := (Below.refl w.heap.size w).alloc (Nat.le_refl _) (.cells #[.int .i64 k, .int .i64 o, .int .i64 s, .int .i64 r] 26)
  have hE0 : Ext F w F (w.alloc (.cells #[.int .i64 k, .int .i64 o, .int .i64 s, .int .i64 r] 26)) := ⟨(Mod.refl F w).alloc _, fun _ h => .inl h⟩
  have hk := h.below hb0
  have hR := heap_alloc_new w (.cells #[.int .i64 k, .int .i64 o, .int .i64 s, .int .i64 r] 26)
  have hFn : ¬ F w.heap.size := fun hf => by have := h.lt _ hf; omega
  obtain ⟨T, G, m, fs, hA⟩ := hk
  have c0 := hA.cell
  have HG := hide (getL_any _ G T m hA.tab e)
  have HE0 := hide hE0
  clear h hb0 hE0
  rcases hA.cases e with ⟨h1, h2⟩ | ⟨i, b, l, rfl, h1, h2, h3, h4, h5, h6⟩
  · rw [h1] at HG
    simp only [ptr, Option.isSome_none] at HG
    have HA := hide hA
    have H2 := hide h2
    clear hA h1 h2
    go_enter Try.func16, Try.ntmps16
    go_wp2_with fail
    refine HG.out.mono ?_
    rintro e1 w1 ⟨rfl, rfl⟩
    go_wp2
    go_ret2
    exact ⟨_, _, bk, F, rfl, ⟨_, _, _, _, HA.out⟩, HE0.out, .inl ⟨H2.out, rfl, rfl, rfl⟩⟩
  · rw [h3] at HG
    simp only [ptr, Option.isSome_some] at HG
    have HA := hide hA
    have H1 := hide h1
    have H2 := hide h2
    have H4 := hide h4
    have H5 := hide h5
    have H6 := hide h6
    have HI := hide (fun W => isAim_any W a)
    have HM := hide (fun W => mayBe_any W k o s r)
    clear hA h1 h2 h3 h4 h5 h6
    by_cases h7 : -1 ≤ a ∧ a < 48
    · rw [show decide (-1 ≤ a ∧ a < 48) = true by simpa using h7] at HI
      by_cases h8 : mb k o s r
      · rw [show decide (mb k o s r) = true by simpa using h8] at HM
        have H7 := hide h7
        have H8 := hide h8
        clear h7 h8
        go_enter Try.func16, Try.ntmps16
        go_wp2_with fail
        have hn0 : w.heap.size < (w.alloc (.cells #[.int .i64 k, .int .i64 o, .int .i64 s, .int .i64 r] 26)).heap.size := by simp
        generalize w.alloc (.cells #[.int .i64 k, .int .i64 o, .int .i64 s, .int .i64 r] 26) = w0 at *
        generalize w.heap.size = n0 at *
        refine HG.out.mono ?_
        rintro e1 w1 ⟨rfl, rfl⟩
        go_wp2_with fail
        refine (HI.out _).mono ?_
        rintro e1 w1 ⟨rfl, rfl⟩
        obtain ⟨d0, d1, d2, d3⟩ := blk4 hR
        go_wp2_with fail
        refine (HM.out _).mono ?_
        rintro e1 w2 ⟨rfl, hb2⟩
        have q0 := blk4 ((hb2.block n0 hn0).trans hR)
        have HB2 := hide hb2
        have HRR := hide hR
        clear d0 d1 d2 d3 hb2 hR HM HI HG c0
        go_wp2_with fail
        go_region_held (fun W => W.cell? ⟨n0, 0, none⟩ = some (.int .i64 k) ∧ W.cell? ⟨n0, 1, none⟩ = some (.int .i64 o) ∧ W.cell? ⟨n0, 2, none⟩ = some (.int .i64 s) ∧ W.cell? ⟨n0, 3, none⟩ = some (.int .i64 r))
          (first | assumption | exact q2 | exact q1 | exact q0)
          (first
            | (go_at_call 36; refine (nowhere_any _).mono ?_; rintro e1 w3 ⟨rfl, hb3⟩
               have hb3' := HB2.out.drew.trans (hb3.mono (Nat.le_trans HB2.out.size (Nat.le_refl _)))
               have q1 := blk4 ((hb3'.block n0 hn0).trans HRR.out)
               have HB3 := hide hb3'
               clear hb3 hb3')
            | (go_at_call 34; refine (lay_any _ (fs i) b l (H6.out.below HB3.out) a ⟨k, o, s, r, -1, -1⟩).mono ?_; rintro e2 w4 ⟨v, c, l', F', rfl, hT4, hE4, hL4⟩
               have q2 := blk4 ((hE4.mod.block n0 (Nat.lt_of_lt_of_le hn0 HB3.out.size) (fun hf => hFn (HA.out.own i b n0 H1.out hf).1)).trans ((HB3.out.block n0 hn0).trans HRR.out))
               have HT4 := hide hT4
               have HE4 := hide hE4
               have HL4 := hide hL4
               clear hT4 hE4 hL4))
        have K1 := hide ((HA.out.keep HB3.out.size (fun b hb => HB3.out.block b (HA.out.lt b hb))).upd H1.out (HL4.out.len.trans H5.out) HT4.out HE4.out)
        have K2 := hide ((HE0.out.trans (Ext.of_below HB3.out)).trans K1.out.2)
        clear HT4 HE4 q2 q1 q0 HB2 HB3 HA HRR
        go_wp2
        go_ret2
        exact ⟨v, c, _, _, rfl, ⟨_, _, _, _, K1.out.1⟩, K2.out, .inr (.inr ⟨i, l, l', rfl, H2.out, H7.out, H8.out, HL4.out, rfl⟩)⟩
      · rw [show decide (mb k o s r) = false by simpa using h8] at HM
        have H8 := hide h8
        clear h7 h8
        go_enter Try.func16, Try.ntmps16
        go_wp2_with fail
        generalize w.alloc (.cells #[.int .i64 k, .int .i64 o, .int .i64 s, .int .i64 r] 26) = w0 at *
        refine HG.out.mono ?_
        rintro e1 w1 ⟨rfl, rfl⟩
        go_wp2_with fail
        refine (HI.out _).mono ?_
        rintro e1 w1 ⟨rfl, rfl⟩
        obtain ⟨d0, d1, d2, d3⟩ := blk4 hR
        go_wp2_with fail
        refine (HM.out _).mono ?_
        rintro e1 w2 ⟨rfl, hb2⟩
        have HB2 := hide hb2
        clear hb2
        go_wp2
        go_ret2
        exact ⟨_, _, bk, F, rfl, Book.below ⟨_, _, _, _, HA.out⟩ HB2.out, HE0.out.trans (Ext.of_below HB2.out), .inr (.inl ⟨⟨l, H4.out⟩, .inr H8.out, rfl, rfl, rfl⟩)⟩
    · rw [show decide (-1 ≤ a ∧ a < 48) = false by simpa using h7] at HI
      have H7 := hide h7
      clear h7
      go_enter Try.func16, Try.ntmps16
      go_wp2_with fail
      generalize w.alloc (.cells #[.int .i64 k, .int .i64 o, .int .i64 s, .int .i64 r] 26) = w0 at *
      refine HG.out.mono ?_
      rintro e1 w1 ⟨rfl, rfl⟩
      go_wp2_with fail
      refine (HI.out _).mono ?_
      rintro e1 w1 ⟨rfl, rfl⟩
      go_wp2
      go_ret2
      exact ⟨_, _, bk, F, rfl, ⟨_, _, _, _, HA.out⟩, HE0.out, .inr (.inl ⟨⟨l, H4.out⟩, .inl H7.out, rfl, rfl, rfl⟩)⟩
end Go.Proofs.Ytimfgjndgfjjgaa

namespace Go.Proofs.Ytimfgjndgfjjgaa
open Go.RowKit Go.Shelf
attribute [local go_sem] Oper.semAt_some

/-- the taken places from s on, rising, with their values -/
def prsL {α : Type} (s : Nat) : List (Option α) → List (Nat × α)
  | [] => []
  | none :: t => prsL (s + 1) t
  | some x :: t => (s, x) :: prsL (s + 1) t
def prs {α : Type} (m : List (Option α)) (s : Nat) : List (Nat × α) := prsL s (m.drop s)
theorem prs_none {α : Type} {m : List (Option α)} {s : Nat} (h : look m (s : Int) = none) : prs m s = prs m (s + 1) := by
  unfold prs
  rcases Nat.lt_or_ge s m.length with hs | hs
  · rw [List.drop_eq_getElem_cons hs]
    rw [look_nat, List.getElem?_eq_getElem hs] at h
    cases hm : m[s] with
    | none => rfl
    | some x => rw [hm] at h; cases h
  · rw [List.drop_eq_nil_of_le hs, List.drop_eq_nil_of_le (by omega)]; rfl
theorem prs_some {α : Type} {m : List (Option α)} {s : Nat} {x : α} (h : m[s]? = some (some x)) : prs m s = (s, x) :: prs m (s + 1) := by
  unfold prs
  obtain ⟨hs, e⟩ := List.getElem?_eq_some_iff.1 h
  rw [List.drop_eq_getElem_cons hs, e]; rfl
theorem prs_skip {α : Type} {m : List (Option α)} {s : Nat} : ∀ (d : Nat), (∀ j : Nat, s ≤ j → j < s + d → look m (j : Int) = none) → prs m s = prs m (s + d)
  | 0, _ => rfl
  | d + 1, h => by
    rw [prs_skip d (fun j h1 h2 => h j h1 (by omega))]
    exact prs_none (h (s + d) (by omega) (by omega))
theorem prs_next {α : Type} {m : List (Option α)} {s k : Nat} {x : α} (h : IsNext m s k) (hx : m[k]? = some (some x)) : prs m s = (k, x) :: prs m (k + 1) := by
  have e := prs_skip (m := m) (s := s) (k - s) (fun j h1 h2 => h.2.2 j h1 (by omega))
  rw [e, show s + (k - s) = k by have := h.1; omega, prs_some hx]
theorem prs_end {α : Type} {m : List (Option α)} {s : Nat} (h : NoNext m s) : prs m s = [] := by
  have e := prs_skip (m := m) (s := s) m.length (fun j h1 _ => h j h1)
  rw [e]; unfold prs
  rw [List.drop_eq_nil_of_le (by omega)]; rfl
theorem prsL_mem {α : Type} : ∀ (l : List (Option α)) (s k : Nat) (x : α), (k, x) ∈ prsL s l ↔ s ≤ k ∧ l[k - s]? = some (some x)
  | [], s, k, x => by simp [prsL]
  | none :: t, s, k, x => by
    rw [prsL, prsL_mem t (s + 1) k x]
    constructor
    · rintro ⟨h1, h2⟩
      refine ⟨by omega, ?_⟩
      rw [show k - s = (k - (s + 1)) + 1 by omega]; exact h2
    · rintro ⟨h1, h2⟩
      rcases Nat.eq_or_lt_of_le h1 with rfl | h3
      · simp at h2
      · refine ⟨by omega, ?_⟩
        rw [show k - s = (k - (s + 1)) + 1 by omega] at h2; exact h2
  | some y :: t, s, k, x => by
    rw [prsL, List.mem_cons, prsL_mem t (s + 1) k x]
    constructor
    · rintro (h | ⟨h1, h2⟩)
      · cases h; simp
      · refine ⟨by omega, ?_⟩
        rw [show k - s = (k - (s + 1)) + 1 by omega]; exact h2
    · rintro ⟨h1, h2⟩
      rcases Nat.eq_or_lt_of_le h1 with rfl | h3
      · simp at h2; subst h2; exact .inl rfl
      · refine .inr ⟨by omega, ?_⟩
        rw [show k - s = (k - (s + 1)) + 1 by omega] at h2; exact h2
theorem prs_mem {α : Type} {m : List (Option α)} {k : Nat} {x : α} : (k, x) ∈ prs m 0 ↔ m[k]? = some (some x) := by
  unfold prs; rw [prsL_mem]; simp
theorem prsL_sorted {α : Type} : ∀ (l : List (Option α)) (s : Nat), (prsL s l).Pairwise (fun a b => a.1 < b.1)
  | [], _ => .nil
  | none :: t, s => prsL_sorted t (s + 1)
  | some y :: t, s => .cons (fun q hq => by
      have := (prsL_mem t (s + 1) q.1 q.2).1 hq
      show s < q.1
      omega) (prsL_sorted t (s + 1))
theorem prsL_len {α : Type} : ∀ (l : List (Option α)) (s : Nat), (prsL s l).length = l.countP Option.isSome
  | [], _ => rfl
  | none :: t, s => by rw [prsL, prsL_len t (s + 1)]; simp
  | some y :: t, s => by rw [prsL, List.length_cons, prsL_len t (s + 1)]; simp
theorem prs_len {α : Type} (m : List (Option α)) : (prs m 0).length = m.countP Option.isSome := by unfold prs; rw [prsL_len]; simp

/-- what a round that goes on keeps: these blocks -/
def KeepF (G : Nat → Prop) (W W' : World) : Prop := W.heap.size ≤ W'.heap.size ∧ ∀ b, G b → W'.heap[b]? = W.heap[b]?
theorem keepF_t {G : Nat → Prop} {A B C : World} (h : KeepF G A B) (k : KeepF G B C) : KeepF G A C := ⟨Nat.le_trans h.1 k.1, fun b hb => (k.2 b hb).trans (h.2 b hb)⟩
theorem keepF_b {G : Nat → Prop} {w : World} (hG : ∀ b, G b → b < w.heap.size) (W : World) (l : Nat) (o o' : Obj) (hl : w.heap.size ≤ l) (_ : W.heap[l]? = some o) (_ : o.isCells = false) (_ : o.isWalk = false) : KeepF G W (W.putObj l o') :=
  ⟨by simp, fun b hb => World.putObj_heap_other (fun e => by have := hG b hb; omega)⟩

/-- where a range by Next stands -/
def At {α : Type} (m : List (Option α)) (s : Nat) (q : Int) : Prop := (∃ k : Nat, q = k ∧ IsNext m s k) ∨ (q = -1 ∧ NoNext m s)
/-- the measure of a range by Next -/
def meas (b : Nat) (i : Value) : Nat := if intOf i < 0 then 0 else b + 1 - (intOf i).toNat
theorem meas_next {k q : Nat} {i : Int} (hq : q < k) (h : (∃ q' : Nat, i = q' ∧ q + 1 ≤ q') ∨ i = -1) : meas k (.int .i64 i) < meas k (.int .i64 (q : Int)) := by
  have e : ∀ x : Int, meas k (.int .i64 x) = if x < 0 then 0 else k + 1 - x.toNat := fun _ => rfl
  rw [e, e]
  rcases h with ⟨q', rfl, h2⟩ | rfl
  · rw [if_neg (by omega), if_neg (by omega)]; omega
  · rw [if_pos (by omega), if_neg (by omega)]; omega

theorem look_prs {α : Type} {m : List (Option α)} {k : Nat} {x : α} : look m (k : Int) = some x ↔ (k, x) ∈ prs m 0 := by
  rw [prs_mem, look_nat]
  cases hm : m[k]? with
  | none => simp
  | some o => cases o <;> simp
end Go.Proofs.Ytimfgjndgfjjgaa

namespace Go.Proofs.Ytimfgjndgfjjgaa
open Go.RowKit Go.Shelf
attribute [local go_sem] Oper.semAt_some

set_option maxHeartbeats 400000 in
theorem allR_in (B : Nat) (n : Nat) (w : World) :
    CallsIn Fence.wide n Try.prog 49 #[.pointer (some ⟨B, 0, none⟩)] w fun e w' => e = .returned (.func (.func 74) #[] #[.pointer (some ⟨w.heap.size, 0, none⟩)]) ∧ w' = w.alloc (.cells #[.pointer (some ⟨B, 0, none⟩)] 71) := by
  refine callsIn_of_wp Try.func49 rfl trivial ?_ rfl
  simp only [Try.ntmps49, List.size_toArray, List.length_cons, List.length_nil, Nat.reduceAdd, Nat.reduceSub, Array.replicate_succ, Array.replicate_zero, List.push_toArray, List.append_toArray, List.nil_append, List.cons_append]
  gi_wp2
  go_ret
  exact ⟨rfl, rfl⟩
theorem nextR_at (w : World) (F : Nat → Prop) (B : Nat) (m : List (Option Rc)) (h : Tab KR w F B m) (i : Int) :
    Calls Try.prog 75 #[.pointer (some ⟨B, 0, none⟩), .int .i64 i] w fun x w' => ∃ q : Int, x = .returned (.int .i64 q) ∧ At m i.toNat q ∧ w' = w := by
  refine (nextR_any w F B m h i).mono ?_
  rintro x w' ⟨rfl, ⟨k, rfl, h⟩ | ⟨rfl, h⟩⟩
  · exact ⟨k, rfl, .inl ⟨k, rfl, h⟩, rfl⟩
  · exact ⟨-1, rfl, .inr ⟨rfl, h⟩, rfl⟩
set_option maxRecDepth 8000 in
set_option maxHeartbeats 1600000 in
theorem all1R_in (n : Nat) (hn : 1 ≤ n) (l Bn B : Nat) (F : Nat → Prop) (m : List (Option Rc)) (J Jx : List (Nat × Rc) → World → Prop)
    (hY : ∀ pre x W, J pre W → pre.length < (prs m 0).length → m[x.1]? = some (some x.2) → YieldAt Fence.wide (n - 1) Try.prog l #[.int .i64 (x.1 : Nat), x.2.val] W fun e W' =>
      (e = .returned (.bool true) ∧ J (pre ++ [x]) W' ∧ KeepF (fun b => F b ∨ b = Bn) W W') ∨ (e = .returned (.bool false) ∧ Jx (pre ++ [x]) W'))
    (W : World) (hBn : W.heap[Bn]? = some (.cells #[.pointer (some ⟨B, 0, none⟩)] 71 (0, 0))) (hT : Tab KR W F B m) (h0 : J [] W) :
    CallsIn Fence.wide n Try.prog 74 #[.func (.yield l) #[] #[], .pointer (some ⟨Bn, 0, none⟩)] W fun e W' => (∃ v, e = .returned v) ∧
      ((∃ ys, ys = prs m 0 ∧ J ys W') ∨ (∃ pre, pre <+: prs m 0 ∧ Jx pre W')) := by
  have hcap := hT.cap
  have HY := hide hY
  have HT := hide hT
  have HB := hide hBn
  have H0 := hide h0
  have c0 := cell_of_row _ _ 0 _ _ _ hBn
  simp only [List.getElem?_toArray, List.getElem?_cons_zero] at c0
  clear hY hT hBn h0
  refine callsIn_of_wp Try.func74 rfl trivial ?_ rfl
  simp only [Try.ntmps74, List.size_toArray, List.length_cons, List.length_nil, Nat.reduceAdd, Nat.reduceSub, Array.replicate_succ, Array.replicate_zero, List.push_toArray, List.append_toArray, List.nil_append, List.cons_append]
  gi_wp2_with fail
  refine ⟨trivial, (callsIn_wide.2 (nextR_at _ F B m HT.out 0)).mono ?_⟩
  rintro e w1 ⟨q0, rfl, hq0, rfl⟩
  have HQ0 := hide hq0
  clear hq0
  gi_wp2
  gi_loopw [3] (fun p wr => ∃ (pre : List (Nat × Rc)) (s : Nat) (q : Int), p = .int .i64 q ∧ Hid (prs m 0 = pre ++ prs m s) ∧ Hid (At m s q) ∧ Hid (J pre wr) ∧ Hid (Tab KR wr F B m) ∧ Hid (wr.heap[Bn]? = some (.cells #[.pointer (some ⟨B, 0, none⟩)] 71 (0, 0)))) (fun p _ => meas m.length p)
  case atStart => exact ⟨[], 0, q0, rfl, rfl, HQ0, H0, HT, HB⟩
  case round =>
    obtain ⟨pre, s, q, rfl, HE, HA, HJ, HT1, HB1⟩ := hrel
    have c0 := cell_of_row _ _ 0 _ _ _ HB1.out
    simp only [List.getElem?_toArray, List.getElem?_cons_zero] at c0
    clear HT HB HQ0 H0
    rcases HA.out with ⟨k, rfl, hn1⟩ | ⟨rfl, hn1⟩
    · obtain ⟨x, hx⟩ := hn1.2.1
      have hkm : k < m.length := (List.getElem?_eq_some_iff.1 hx).1
      have hpe := prs_next hn1 hx
      have HE2 := hide (show prs m 0 = (pre ++ [(k, x)]) ++ prs m (k + 1) by
        have := HE.out
        rw [hpe] at this
        simpa using this)
      obtain ⟨fn, tmps, assign, body, hy, hR⟩ := HY.out pre (k, x) wr HJ.out (by rw [HE2.out]; simp) hx
      dsimp only [Rc.val] at hy
      have HR := hide hR
      obtain ⟨p, ps, hTA⟩ := HT1.out
      have d0 := hTA.cells.1
      obtain ⟨b, hb1, d1, hb3, hb4⟩ := hTA.ptr hx
      simp only [KR] at hb3
      obtain ⟨d2, d3, d4, d5, d6, d7, _, _, _, _, _, _⟩ := blk6 hb3
      have HN := hide hn1
      clear hR hTA hb1 hb3 hb4 hpe hx HA hn1
      generalize hml : m.length = nn at *
      have HML := hide hml
      clear hml
      gi_wp2_with fail
      refine HR.out.mono ?_
      clear HR hy d0 d1 d2 d3 d4 d5 d6 d7 c0
      rintro e W3 (⟨rfl, hJ3, hk3⟩ | ⟨rfl, hJx3⟩)
      · have HT3 := hide (HT1.out.keep hk3.1 (fun b hb => hk3.2 b (.inl hb)))
        have HB3 := hide ((hk3.2 Bn (.inr rfl)).trans HB1.out)
        have c0 := cell_of_row _ _ 0 _ _ _ HB3.out
        simp only [List.getElem?_toArray, List.getElem?_cons_zero] at c0
        have HJ3 := hide hJ3
        clear hJ3 hk3 HT1 HB1 HJ
        gi_wp2_with fail
        refine ⟨trivial, (callsIn_wide.2 (nextR_at _ F B m HT3.out ((k : Int) + 1))).mono ?_⟩
        rintro e w4 ⟨q4, rfl, hq4, rfl⟩
        have HQ4 : Hid (At m (k + 1) q4) := hq4
        clear hq4
        gi_wp2
        go_roundw
        case rel =>
          first
            | exact ⟨_, k + 1, q4, rfl, HE2, HQ4, HJ3, HT3, HB3⟩
            | ((repeat apply Exists.intro); refine ⟨?_, rfl⟩; exact ⟨_, k + 1, q4, rfl, HE2, HQ4, HJ3, HT3, HB3⟩)
        case measure =>
          exact meas_next hkm (HQ4.out.imp (fun ⟨q', h1, h2⟩ => ⟨q', h1, h2.1⟩) (fun h => h.1))
      · have HX := hide hJx3
        clear hJx3
        gi_wp2
        refine bodyPost_ret (results_none rfl _ _ _) rfl ?_
        exact ⟨⟨_, rfl⟩, .inr ⟨_, ⟨_, HE2.out.symm⟩, HX.out⟩⟩
    · have HP := hide (prs_end hn1)
      clear HA hn1
      gi_wp2
      go_end0
      exact ⟨⟨_, rfl⟩, .inl ⟨pre, by rw [HE.out, HP.out]; simp, HJ.out⟩⟩
/-- the same, each place told to be one -/
theorem allR_stops (n : Nat) (hn : 1 ≤ n) (Bn B : Nat) (F : Nat → Prop) (m : List (Option Rc)) (w : World) (hBn : w.heap[Bn]? = some (.cells #[.pointer (some ⟨B, 0, none⟩)] 71 (0, 0))) (hT : Tab KR w F B m) :
    SeqStopsK Fence.wide n Try.prog 74 #[.pointer (some ⟨Bn, 0, none⟩)] (fun x : { x : Nat × Rc // m[x.1]? = some (some x.2) } => #[Value.int .i64 (x.1.1 : Nat), x.1.2.val]) (KeepF (fun b => F b ∨ b = Bn)) (fun ys => ys.map Subtype.val = prs m 0) (fun pre => pre.map Subtype.val <+: prs m 0) (prs m 0).length w := fun l J Jx W hW _ _ hY h0 => by
  refine (all1R_in n hn l Bn B F m (fun ys W => ∃ zs : List { x : Nat × Rc // m[x.1]? = some (some x.2) }, zs.map Subtype.val = ys ∧ J zs W) (fun ys W => ∃ zs : List { x : Nat × Rc // m[x.1]? = some (some x.2) }, zs.map Subtype.val = ys ∧ Jx zs W) ?_ W ((hW.block Bn (Array.getElem?_eq_some_iff.1 hBn).1).trans hBn) (hT.below hW) ⟨[], rfl, h0⟩).mono ?_
  · rintro pre x W1 ⟨zs, rfl, hJ⟩ hl hx
    obtain ⟨fn, tmps, assign, body, hy, hR⟩ := hY zs ⟨x, hx⟩ W1 hJ (by simpa using hl)
    refine ⟨fn, tmps, assign, body, hy, hR.mono ?_⟩
    rintro e W' (⟨h1, h2, h3⟩ | ⟨h1, h2⟩)
    · exact .inl ⟨h1, ⟨_, by simp, h2⟩, h3⟩
    · exact .inr ⟨h1, _, by simp, h2⟩
  · rintro e W' ⟨hv, ⟨ys, rfl, zs, hz, hJ⟩ | ⟨pre, hp, zs, rfl, hJ⟩⟩
    · exact ⟨hv, .inl ⟨zs, hz, hJ⟩⟩
    · exact ⟨hv, .inr ⟨zs, hp, hJ⟩⟩
end Go.Proofs.Ytimfgjndgfjjgaa

namespace Go.Proofs.Ytimfgjndgfjjgaa
open Go.RowKit Go.Shelf
attribute [local go_sem] Oper.semAt_some

set_option maxHeartbeats 400000 in
theorem allL_in (B : Nat) (n : Nat) (w : World) :
    CallsIn Fence.wide n Try.prog 70 #[.pointer (some ⟨B, 0, none⟩)] w fun e w' => e = .returned (.func (.func 84) #[] #[.pointer (some ⟨w.heap.size, 0, none⟩)]) ∧ w' = w.alloc (.cells #[.pointer (some ⟨B, 0, none⟩)] 73) := by
  refine callsIn_of_wp Try.func70 rfl trivial ?_ rfl
  simp only [Try.ntmps70, List.size_toArray, List.length_cons, List.length_nil, Nat.reduceAdd, Nat.reduceSub, Array.replicate_succ, Array.replicate_zero, List.push_toArray, List.append_toArray, List.nil_append, List.cons_append]
  gi_wp2
  go_ret
  exact ⟨rfl, rfl⟩
theorem nextL_at (w : World) (F : Nat → Prop) (B : Nat) (m : List (Option Nat)) (h : Tab KL w F B m) (i : Int) :
    Calls Try.prog 85 #[.pointer (some ⟨B, 0, none⟩), .int .i64 i] w fun x w' => ∃ q : Int, x = .returned (.int .i64 q) ∧ At m i.toNat q ∧ w' = w := by
  refine (nextL_any w F B m h i).mono ?_
  rintro x w' ⟨rfl, ⟨k, rfl, h⟩ | ⟨rfl, h⟩⟩
  · exact ⟨k, rfl, .inl ⟨k, rfl, h⟩, rfl⟩
  · exact ⟨-1, rfl, .inr ⟨rfl, h⟩, rfl⟩
set_option maxRecDepth 8000 in
set_option maxHeartbeats 1600000 in
theorem all1L_in (n : Nat) (hn : 1 ≤ n) (l Bn B : Nat) (F : Nat → Prop) (m : List (Option Nat)) (J Jx : List (Nat × Nat) → World → Prop)
    (hY : ∀ pre x W, J pre W → pre.length < (prs m 0).length → m[x.1]? = some (some x.2) → YieldAt Fence.wide (n - 1) Try.prog l #[.int .i64 (x.1 : Nat), .pointer (some ⟨x.2, 0, none⟩)] W fun e W' =>
      (e = .returned (.bool true) ∧ J (pre ++ [x]) W' ∧ KeepF (fun b => F b ∨ b = Bn) W W') ∨ (e = .returned (.bool false) ∧ Jx (pre ++ [x]) W'))
    (W : World) (hBn : W.heap[Bn]? = some (.cells #[.pointer (some ⟨B, 0, none⟩)] 73 (0, 0))) (hT : Tab KL W F B m) (h0 : J [] W) :
    CallsIn Fence.wide n Try.prog 84 #[.func (.yield l) #[] #[], .pointer (some ⟨Bn, 0, none⟩)] W fun e W' => (∃ v, e = .returned v) ∧
      ((∃ ys, ys = prs m 0 ∧ J ys W') ∨ (∃ pre, pre <+: prs m 0 ∧ Jx pre W')) := by
  have hcap := hT.cap
  have HY := hide hY
  have HT := hide hT
  have HB := hide hBn
  have H0 := hide h0
  have c0 := cell_of_row _ _ 0 _ _ _ hBn
  simp only [List.getElem?_toArray, List.getElem?_cons_zero] at c0
  clear hY hT hBn h0
  refine callsIn_of_wp Try.func84 rfl trivial ?_ rfl
  simp only [Try.ntmps84, List.size_toArray, List.length_cons, List.length_nil, Nat.reduceAdd, Nat.reduceSub, Array.replicate_succ, Array.replicate_zero, List.push_toArray, List.append_toArray, List.nil_append, List.cons_append]
  gi_wp2_with fail
  refine ⟨trivial, (callsIn_wide.2 (nextL_at _ F B m HT.out 0)).mono ?_⟩
  rintro e w1 ⟨q0, rfl, hq0, rfl⟩
  have HQ0 := hide hq0
  clear hq0
  gi_wp2
  gi_loopw [3] (fun p wr => ∃ (pre : List (Nat × Nat)) (s : Nat) (q : Int), p = .int .i64 q ∧ Hid (prs m 0 = pre ++ prs m s) ∧ Hid (At m s q) ∧ Hid (J pre wr) ∧ Hid (Tab KL wr F B m) ∧ Hid (wr.heap[Bn]? = some (.cells #[.pointer (some ⟨B, 0, none⟩)] 73 (0, 0)))) (fun p _ => meas m.length p)
  case atStart => exact ⟨[], 0, q0, rfl, rfl, HQ0, H0, HT, HB⟩
  case round =>
    obtain ⟨pre, s, q, rfl, HE, HA, HJ, HT1, HB1⟩ := hrel
    have c0 := cell_of_row _ _ 0 _ _ _ HB1.out
    simp only [List.getElem?_toArray, List.getElem?_cons_zero] at c0
    clear HT HB HQ0 H0
    rcases HA.out with ⟨k, rfl, hn1⟩ | ⟨rfl, hn1⟩
    · obtain ⟨x, hx⟩ := hn1.2.1
      have hkm : k < m.length := (List.getElem?_eq_some_iff.1 hx).1
      have hpe := prs_next hn1 hx
      have HE2 := hide (show prs m 0 = (pre ++ [(k, x)]) ++ prs m (k + 1) by
        have := HE.out
        rw [hpe] at this
        simpa using this)
      obtain ⟨fn, tmps, assign, body, hy, hR⟩ := HY.out pre (k, x) wr HJ.out (by rw [HE2.out]; simp) hx
      dsimp only at hy
      have HR := hide hR
      obtain ⟨p, ps, hTA⟩ := HT1.out
      have d0 := hTA.cells.1
      obtain ⟨b, hb1, d1, hb3, hb4⟩ := hTA.ptr hx
      have d2 := cell_of_row _ b 0 _ _ _ hb3
      simp [KL] at d2
      have HN := hide hn1
      clear hR hTA hb1 hb3 hb4 hpe hx HA hn1
      generalize hml : m.length = nn at *
      have HML := hide hml
      clear hml
      gi_wp2_with fail
      refine HR.out.mono ?_
      clear HR hy d0 d1 d2 c0
      rintro e W3 (⟨rfl, hJ3, hk3⟩ | ⟨rfl, hJx3⟩)
      · have HT3 := hide (HT1.out.keep hk3.1 (fun b hb => hk3.2 b (.inl hb)))
        have HB3 := hide ((hk3.2 Bn (.inr rfl)).trans HB1.out)
        have c0 := cell_of_row _ _ 0 _ _ _ HB3.out
        simp only [List.getElem?_toArray, List.getElem?_cons_zero] at c0
        have HJ3 := hide hJ3
        clear hJ3 hk3 HT1 HB1 HJ
        gi_wp2_with fail
        refine ⟨trivial, (callsIn_wide.2 (nextL_at _ F B m HT3.out ((k : Int) + 1))).mono ?_⟩
        rintro e w4 ⟨q4, rfl, hq4, rfl⟩
        have HQ4 : Hid (At m (k + 1) q4) := hq4
        clear hq4
        gi_wp2
        go_roundw
        case rel =>
          first
            | exact ⟨_, k + 1, q4, rfl, HE2, HQ4, HJ3, HT3, HB3⟩
            | ((repeat apply Exists.intro); refine ⟨?_, rfl⟩; exact ⟨_, k + 1, q4, rfl, HE2, HQ4, HJ3, HT3, HB3⟩)
        case measure =>
          exact meas_next hkm (HQ4.out.imp (fun ⟨q', h1, h2⟩ => ⟨q', h1, h2.1⟩) (fun h => h.1))
      · have HX := hide hJx3
        clear hJx3
        gi_wp2
        refine bodyPost_ret (results_none rfl _ _ _) rfl ?_
        exact ⟨⟨_, rfl⟩, .inr ⟨_, ⟨_, HE2.out.symm⟩, HX.out⟩⟩
    · have HP := hide (prs_end hn1)
      clear HA hn1
      gi_wp2
      go_end0
      exact ⟨⟨_, rfl⟩, .inl ⟨pre, by rw [HE.out, HP.out]; simp, HJ.out⟩⟩
/-- the same, each place told to be one -/
theorem allL_stops (n : Nat) (hn : 1 ≤ n) (Bn B : Nat) (F : Nat → Prop) (m : List (Option Nat)) (w : World) (hBn : w.heap[Bn]? = some (.cells #[.pointer (some ⟨B, 0, none⟩)] 73 (0, 0))) (hT : Tab KL w F B m) :
    SeqStopsK Fence.wide n Try.prog 84 #[.pointer (some ⟨Bn, 0, none⟩)] (fun x : { x : Nat × Nat // m[x.1]? = some (some x.2) } => #[Value.int .i64 (x.1.1 : Nat), .pointer (some ⟨x.1.2, 0, none⟩)]) (KeepF (fun b => F b ∨ b = Bn)) (fun ys => ys.map Subtype.val = prs m 0) (fun pre => pre.map Subtype.val <+: prs m 0) (prs m 0).length w := fun l J Jx W hW _ _ hY h0 => by
  refine (all1L_in n hn l Bn B F m (fun ys W => ∃ zs : List { x : Nat × Nat // m[x.1]? = some (some x.2) }, zs.map Subtype.val = ys ∧ J zs W) (fun ys W => ∃ zs : List { x : Nat × Nat // m[x.1]? = some (some x.2) }, zs.map Subtype.val = ys ∧ Jx zs W) ?_ W ((hW.block Bn (Array.getElem?_eq_some_iff.1 hBn).1).trans hBn) (hT.below hW) ⟨[], rfl, h0⟩).mono ?_
  · rintro pre x W1 ⟨zs, rfl, hJ⟩ hl hx
    obtain ⟨fn, tmps, assign, body, hy, hR⟩ := hY zs ⟨x, hx⟩ W1 hJ (by simpa using hl)
    refine ⟨fn, tmps, assign, body, hy, hR.mono ?_⟩
    rintro e W' (⟨h1, h2, h3⟩ | ⟨h1, h2⟩)
    · exact .inl ⟨h1, ⟨_, by simp, h2⟩, h3⟩
    · exact .inr ⟨h1, _, by simp, h2⟩
  · rintro e W' ⟨hv, ⟨ys, rfl, zs, hz, hJ⟩ | ⟨pre, hp, zs, rfl, hJ⟩⟩
    · exact ⟨hv, .inl ⟨zs, hz, hJ⟩⟩
    · exact ⟨hv, .inr ⟨zs, hp, hJ⟩⟩
end Go.Proofs.Ytimfgjndgfjjgaa

namespace Go.Proofs.Ytimfgjndgfjjgaa
open Go.RowKit

/-- a test of records: a function with two boxes -/
def fv (g bf bv : Nat) : Value := .func (.func g) #[] #[.pointer (some ⟨bf, 0, none⟩), .pointer (some ⟨bv, 0, none⟩)]
structure Fits (g bf bv : Nat) (fo vo : Obj) (P : Rc → Bool) : Prop where
  run : ∀ (W : World) (r : Rc), W.heap[bf]? = some fo → W.heap[bv]? = some vo → Calls Try.prog g #[r.val, .pointer (some ⟨bf, 0, none⟩), .pointer (some ⟨bv, 0, none⟩)] W fun e w' => e = .returned (.bool (P r)) ∧ Below W.heap.size W w'
  ent : ∀ args w, (callFunc g args).run Try.prog w = .ok (.enter g args) w

theorem blk2 {w1 : World} {b : Nat} {x0 x1 : Value} {t : TypeId} (h : w1.heap[b]? = some (.cells #[x0, x1] t (0, 0))) :
    w1.cell? ⟨b, 0, none⟩ = some x0 ∧ w1.cell? ⟨b, 1, none⟩ = some x1 ∧ w1.frozen? ⟨b, 0, none⟩ = false ∧ w1.frozen? ⟨b, 1, none⟩ = false :=
  ⟨by rw [cell_of_row _ _ _ _ _ _ h]; rfl, by rw [cell_of_row _ _ _ _ _ _ h]; rfl, frozen_of_row _ _ _ _ _ h, frozen_of_row _ _ _ _ _ h⟩

/-- a region that draws its order, none of whose steps turns an old block: one walk, in the order of the text -/
theorem region_below {P : Program} {id : Nat} {Q : Exit → Act → World → Prop} {a : Act} {w : World} {l : List Oper} (hm : P.follows .mixedOrders = true) (hB : Region.lexB .any l.toArray = true)
    (h : wpQuiet P l.toArray (fun w' => Below w.heap.size w w') (fun a' => ∀ w', Below w.heap.size w w' → Q .normal a' w') l a) : (Code.region id l.toArray true).wp P Q a w :=
  wp_region_quiet (C := fun w' => Below w.heap.size w w') hm hB (Below.refl _ _).drew (by simpa using h)
/-- a call there -/
theorem calls_below {P : Program} {f : FuncId} {args : Array Value} {w w' : World} {v : Value} (hw : Below w.heap.size w w') (h : Calls P f args w' fun e w'' => e = .returned v ∧ Below w'.heap.size w' w'') :
    Calls P f args w' fun e w'' => e = .returned v ∧ Below w.heap.size w w'' :=
  h.mono fun _ _ ⟨he, hm⟩ => ⟨he, hw.trans (hm.mono hw.size)⟩
set_option maxHeartbeats 1600000 in
theorem fits_parent (bf bv : Nat) (x y : Int) : Fits 83 bf bv (.cells #[.func (.func 37) #[] #[]] 121 (0, 0)) (.cells #[.int .i64 x, .int .i64 y] 28 (0, 0)) (fun r => decide (r.e = x) && decide (r.t = y)) where
  run := by
    intro W r hf hv
    have hB := fun o => (Below.refl W.heap.size W).alloc (Nat.le_refl _) o
    have HP := hide (fun W => parent_any W r)
    simp only [Rc.val] at HP ⊢
    have hR := heap_alloc_new W (.cells #[.int .i64 r.k, .int .i64 r.o, .int .i64 r.s, .int .i64 r.r, .int .i64 r.e, .int .i64 r.t] 78)
    have hf1 := (Below.heap_alloc W (.cells #[.int .i64 r.k, .int .i64 r.o, .int .i64 r.s, .int .i64 r.r, .int .i64 r.e, .int .i64 r.t] 78) bf (Array.getElem?_eq_some_iff.1 hf).1).trans hf
    have hv1 := (Below.heap_alloc W (.cells #[.int .i64 r.k, .int .i64 r.o, .int .i64 r.s, .int .i64 r.r, .int .i64 r.e, .int .i64 r.t] 78) bv (Array.getElem?_eq_some_iff.1 hv).1).trans hv
    have HB := hide (hB (.cells #[.int .i64 r.k, .int .i64 r.o, .int .i64 r.s, .int .i64 r.r, .int .i64 r.e, .int .i64 r.t] 78))
    have HS : W.heap.size ≤ (W.alloc (.cells #[.int .i64 r.k, .int .i64 r.o, .int .i64 r.s, .int .i64 r.r, .int .i64 r.e, .int .i64 r.t] 78)).heap.size := by simp
    clear hf hv hB
    go_enter Try.func83, Try.ntmps83
    go_wp2_with fail
    generalize W.alloc (.cells #[.int .i64 r.k, .int .i64 r.o, .int .i64 r.s, .int .i64 r.r, .int .i64 r.e, .int .i64 r.t] 78) = W1 at *
    refine region_below (by kernel_rfl) (by kernel_rfl) ?_
    refine wpQuiet_step (fun K hK => ?_)
    go_simp
    refine ⟨.func (.func 37) #[] #[], fun w' hw' => ?_, hK _ ?_⟩
    · have c0 := blk1 ((hw'.block bf (Array.getElem?_eq_some_iff.1 hf1).1).trans hf1)
      go_simp
    clear hK K
    refine wpQuiet_step (fun K hK => ?_)
    go_simp
    refine ⟨.agg #[.int .i64 r.k, .int .i64 r.o, .int .i64 r.s, .int .i64 r.r, .int .i64 r.e, .int .i64 r.t], fun w' hw' => ?_, hK _ ?_⟩
    · obtain ⟨d0, d1, d2, d3, d4, d5, _, _, _, _, _, _⟩ := blk6 ((hw'.block W.heap.size (Array.getElem?_eq_some_iff.1 hR).1).trans hR)
      go_simp
    clear hK K
    refine wpQuiet_step (fun K hK => ?_)
    go_simp
    refine ⟨.agg #[.int .i64 r.e, .int .i64 r.t], fun w' hw' => calls_below hw' (HP.out w'), hK _ ?_⟩
    clear hK K
    refine wpQuiet_step (fun K hK => ?_)
    go_simp
    refine ⟨.agg #[.int .i64 x, .int .i64 y], fun w' hw' => ?_, hK _ ?_⟩
    · obtain ⟨d0, d1, _, _⟩ := blk2 ((hw'.block bv (Array.getElem?_eq_some_iff.1 hv1).1).trans hv1)
      go_simp
    clear hK K
    refine wpQuiet_step (fun K hK => ?_)
    go_simp
    refine ⟨.bool (decide (r.e = x) && decide (r.t = y)), fun w' hw' => ?_, hK _ ?_⟩
    · by_cases h1 : r.e = x <;> by_cases h2 : r.t = y <;> simp [h1, h2]
    clear hK K
    refine wpQuiet_step (fun K hK => ?_)
    go_simp
    refine ⟨_, fun _ _ => rfl, hK _ ?_⟩
    clear hK K
    refine wpQuiet_nil ?_
    intro w' hw'
    go_wp2
    go_ret
    exact ⟨rfl, HB.out.trans (hw'.mono HS)⟩
  ent := enters_of Try.func83 (by kernel_rfl) rfl
set_option maxHeartbeats 1600000 in
theorem fits_object (bf bv : Nat) (x y : Int) : Fits 72 bf bv (.cells #[.func (.func 46) #[] #[]] 96 (0, 0)) (.cells #[.int .i64 x, .int .i64 y] 95 (0, 0)) (fun r => decide (r.k = x) && decide (r.o = y)) where
  run := by
    intro W r hf hv
    have hB := fun o => (Below.refl W.heap.size W).alloc (Nat.le_refl _) o
    have HP := hide (fun W => object_any W r)
    simp only [Rc.val] at HP ⊢
    have hR := heap_alloc_new W (.cells #[.int .i64 r.k, .int .i64 r.o, .int .i64 r.s, .int .i64 r.r, .int .i64 r.e, .int .i64 r.t] 78)
    have hf1 := (Below.heap_alloc W (.cells #[.int .i64 r.k, .int .i64 r.o, .int .i64 r.s, .int .i64 r.r, .int .i64 r.e, .int .i64 r.t] 78) bf (Array.getElem?_eq_some_iff.1 hf).1).trans hf
    have hv1 := (Below.heap_alloc W (.cells #[.int .i64 r.k, .int .i64 r.o, .int .i64 r.s, .int .i64 r.r, .int .i64 r.e, .int .i64 r.t] 78) bv (Array.getElem?_eq_some_iff.1 hv).1).trans hv
    have HB := hide (hB (.cells #[.int .i64 r.k, .int .i64 r.o, .int .i64 r.s, .int .i64 r.r, .int .i64 r.e, .int .i64 r.t] 78))
    have HS : W.heap.size ≤ (W.alloc (.cells #[.int .i64 r.k, .int .i64 r.o, .int .i64 r.s, .int .i64 r.r, .int .i64 r.e, .int .i64 r.t] 78)).heap.size := by simp
    clear hf hv hB
    go_enter Try.func72, Try.ntmps72
    go_wp2_with fail
    generalize W.alloc (.cells #[.int .i64 r.k, .int .i64 r.o, .int .i64 r.s, .int .i64 r.r, .int .i64 r.e, .int .i64 r.t] 78) = W1 at *
    refine region_below (by kernel_rfl) (by kernel_rfl) ?_
    refine wpQuiet_step (fun K hK => ?_)
    go_simp
    refine ⟨.func (.func 46) #[] #[], fun w' hw' => ?_, hK _ ?_⟩
    · have c0 := blk1 ((hw'.block bf (Array.getElem?_eq_some_iff.1 hf1).1).trans hf1)
      go_simp
    clear hK K
    refine wpQuiet_step (fun K hK => ?_)
    go_simp
    refine ⟨.agg #[.int .i64 r.k, .int .i64 r.o, .int .i64 r.s, .int .i64 r.r, .int .i64 r.e, .int .i64 r.t], fun w' hw' => ?_, hK _ ?_⟩
    · obtain ⟨d0, d1, d2, d3, d4, d5, _, _, _, _, _, _⟩ := blk6 ((hw'.block W.heap.size (Array.getElem?_eq_some_iff.1 hR).1).trans hR)
      go_simp
    clear hK K
    refine wpQuiet_step (fun K hK => ?_)
    go_simp
    refine ⟨.agg #[.int .i64 r.k, .int .i64 r.o], fun w' hw' => calls_below hw' (HP.out w'), hK _ ?_⟩
    clear hK K
    refine wpQuiet_step (fun K hK => ?_)
    go_simp
    refine ⟨.agg #[.int .i64 x, .int .i64 y], fun w' hw' => ?_, hK _ ?_⟩
    · obtain ⟨d0, d1, _, _⟩ := blk2 ((hw'.block bv (Array.getElem?_eq_some_iff.1 hv1).1).trans hv1)
      go_simp
    clear hK K
    refine wpQuiet_step (fun K hK => ?_)
    go_simp
    refine ⟨.bool (decide (r.k = x) && decide (r.o = y)), fun w' hw' => ?_, hK _ ?_⟩
    · by_cases h1 : r.k = x <;> by_cases h2 : r.o = y <;> simp [h1, h2]
    clear hK K
    refine wpQuiet_step (fun K hK => ?_)
    go_simp
    refine ⟨_, fun _ _ => rfl, hK _ ?_⟩
    clear hK K
    refine wpQuiet_nil ?_
    intro w' hw'
    go_wp2
    go_ret
    exact ⟨rfl, HB.out.trans (hw'.mono HS)⟩
  ent := enters_of Try.func72 (by kernel_rfl) rfl
set_option maxHeartbeats 400000 in
theorem same_parent (W : World) (x y : Int) : Calls Try.prog 66 #[.func (.func 37) #[] #[], .agg #[.int .i64 x, .int .i64 y]] W fun e w' => e = .returned (fv 83 W.heap.size (W.heap.size + 1)) ∧
    w'.heap[W.heap.size]? = some (.cells #[.func (.func 37) #[] #[]] 121 (0, 0)) ∧ w'.heap[W.heap.size + 1]? = some (.cells #[.int .i64 x, .int .i64 y] 28 (0, 0)) ∧ Below W.heap.size W w' := by
  have hb := fun o o' => ((Below.refl W.heap.size W).alloc (Nat.le_refl _) o).alloc (by simp) o'
  have h1 := fun o o' => heap_alloc2_old W o o'
  have h2 := fun o o' => heap_alloc2_new W o o'
  go_enter Try.func66, Try.ntmps66
  go_wp2
  go_ret
  exact ⟨rfl, h1 _ _, h2 _ _, hb _ _⟩
set_option maxHeartbeats 400000 in
theorem same_object (W : World) (x y : Int) : Calls Try.prog 45 #[.func (.func 46) #[] #[], .agg #[.int .i64 x, .int .i64 y]] W fun e w' => e = .returned (fv 72 W.heap.size (W.heap.size + 1)) ∧
    w'.heap[W.heap.size]? = some (.cells #[.func (.func 46) #[] #[]] 96 (0, 0)) ∧ w'.heap[W.heap.size + 1]? = some (.cells #[.int .i64 x, .int .i64 y] 95 (0, 0)) ∧ Below W.heap.size W w' := by
  have hb := fun o o' => ((Below.refl W.heap.size W).alloc (Nat.le_refl _) o).alloc (by simp) o'
  have h1 := fun o o' => heap_alloc2_old W o o'
  have h2 := fun o o' => heap_alloc2_new W o o'
  go_enter Try.func45, Try.ntmps45
  go_wp2
  go_ret
  exact ⟨rfl, h1 _ _, h2 _ _, hb _ _⟩
end Go.Proofs.Ytimfgjndgfjjgaa

namespace Go.Proofs.Ytimfgjndgfjjgaa
open Go.RowKit Go.Shelf
attribute [local go_sem] Oper.semAt_some

/-- the places of those that a test is for -/
def fit (P : Rc → Bool) (ps : List (Nat × Rc)) : List Nat := (ps.filter (fun x => P x.2)).map Prod.fst
def nums (l : List Nat) : List Value := l.map (fun k : Nat => Value.int .i64 (k : Int))
theorem nums_len (l : List Nat) : (nums l).length = l.length := by simp [nums]
theorem fit_yes {P : Rc → Bool} {ps : List (Nat × Rc)} {k : Nat} {r : Rc} (h : P r = true) : fit P (ps ++ [(k, r)]) = fit P ps ++ [k] := by simp [fit, h]
theorem fit_no {P : Rc → Bool} {ps : List (Nat × Rc)} {k : Nat} {r : Rc} (h : P r = false) : fit P (ps ++ [(k, r)]) = fit P ps := by simp [fit, h]
theorem fit_le (P : Rc → Bool) (ps : List (Nat × Rc)) : (fit P ps).length ≤ ps.length := by simp [fit]; exact List.length_filter_le _ _
theorem keepsOthers_below {W W' : World} (h : Below W.heap.size W W') : KeepsOthers W W' := ⟨h.size, fun k _ hk _ => (h.block k (Array.getElem?_eq_some_iff.1 hk).1).trans hk⟩
theorem own_below {w w' : World} {base : Nat} {e : TypeId} {size : Nat} {v : Value} {n : Nat} {xs : List Value} (h : w.ownsRow base e size v n xs) (hb : Below w.heap.size w w') : w'.ownsRow base e size v n xs := by
  obtain ⟨h1, h2 | ⟨g, cap, cur, h2, h3, h4, h5⟩⟩ := h
  · exact ⟨h1, .inl h2⟩
  · exact ⟨h1, .inr ⟨g, cap, cur, h2, h3, (hb.block g (Array.getElem?_eq_some_iff.1 h4).1).trans h4, h5⟩⟩
theorem own_shape {w : World} {base : Nat} {e : TypeId} {size : Nat} {v : Value} {n : Nat} {xs : List Value} (h : w.ownsRow base e size v n xs) : ∃ a c, v = .slice a n c := by
  obtain ⟨h1, ⟨h2, h3⟩ | ⟨g, cap, cur, h2, _⟩⟩ := h
  · exact ⟨none, 0, by rw [h2, h3]⟩
  · exact ⟨_, _, h2⟩
theorem boxed_below {w w' : World} {B : Nat} {t : TypeId} {v : Value} (h : Boxed w B t v) (hb : Below w.heap.size w w') : Boxed w' B t v := (hb.block B h.lt).trans h
theorem info3' : ∃ i, Try.prog.info? 3 = some i ∧ i.zero = some (.int .i64 0) ∧ i.size = 1 ∧ i.bytes = 8 := info_parts (by kernel_rfl)

set_option maxRecDepth 100000 in
set_option maxHeartbeats 4000000 in
theorem fitting_in (n : Nat) (hn : 3 ≤ n) (F : Nat → Prop) (B : Nat) (m : Lst) (w : World) (hT : Tab KR w F B m) (g bf bv : Nat) (fo vo : Obj) (P : Rc → Bool) (hF : Fits g bf bv fo vo P) (hf : w.heap[bf]? = some fo) (hv : w.heap[bv]? = some vo) :
    CallsIn Fence.wide n Try.prog 71 #[.pointer (some ⟨B, 0, none⟩), fv g bf bv] w fun e W' => ∃ v, e = .returned v ∧ W'.ownsRow w.heap.size 3 1 v (fit P (prs m 0)).length (nums (fit P (prs m 0))) ∧ Below w.heap.size w W' := by
  have h1 : 1 ≤ n := by omega
  have hcap := hT.cap
  obtain ⟨i3, hi, hz, hs, hb⟩ := info3'
  refine callsIn_of_wp_marks Try.func71 rfl trivial ?_ rfl
  simp only [fv, Try.ntmps71, List.size_toArray, List.length_cons, List.length_nil, Nat.reduceAdd, Nat.reduceSub, Array.replicate_succ, Array.replicate_zero, List.push_toArray, List.append_toArray, List.nil_append, List.cons_append]
  gi_wp2_with fail
  refine ⟨trivial, (allR_in B (n - 1) _).mono ?_⟩
  rintro e w' ⟨rfl, rfl⟩
  gi_wp2_with fail
  have c0 : Boxed (w.alloc (.cells #[fv g bf bv] 92)) w.heap.size 92 (fv g bf bv) := Boxed.new w 92 (fv g bf bv)
  have c1 := Boxed.new (w.alloc (.cells #[fv g bf bv] 92)) 22 (.slice none 0 0)
  have hbox := heap_alloc_new ((w.alloc (.cells #[fv g bf bv] 92)).alloc (.cells #[.slice none 0 0] 22)) (.cells #[.pointer (some ⟨B, 0, none⟩)] 71)
  simp only [World.size_alloc] at c1 hbox
  have hB0 : Below w.heap.size w (((w.alloc (.cells #[fv g bf bv] 92)).alloc (.cells #[.slice none 0 0] 22)).alloc (.cells #[.pointer (some ⟨B, 0, none⟩)] 71)) := (((Below.refl _ w).alloc (Nat.le_refl _) _).alloc (by simp) _).alloc (by simp; omega) _
  have hsz : (((w.alloc (.cells #[fv g bf bv] 92)).alloc (.cells #[.slice none 0 0] 22)).alloc (.cells #[.pointer (some ⟨B, 0, none⟩)] 71)).heap.size = w.heap.size + 3 := by simp
  have c0' := (c0.alloc (.cells #[.slice none 0 0] 22)).alloc (.cells #[.pointer (some ⟨B, 0, none⟩)] 71)
  have c1' := c1.alloc (.cells #[.pointer (some ⟨B, 0, none⟩)] 71)
  simp only [fv] at hbox hB0 hsz c0' c1'
  generalize ((w.alloc (.cells #[.func (.func g) #[] #[.pointer (some ⟨bf, 0, none⟩), .pointer (some ⟨bv, 0, none⟩)]] 92)).alloc (.cells #[.slice none 0 0] 22)).alloc (.cells #[.pointer (some ⟨B, 0, none⟩)] 71) = W0 at *
  have hG : ∀ b, (F b ∨ b = w.heap.size + 1 + 1) → b < W0.heap.size := by
    rintro b (hb | rfl)
    · have := hT.lt b hb; omega
    · omega
  have hFl : ∀ b, F b → b < w.heap.size := hT.lt
  have hlen : (prs m 0).length ≤ 4096 := by rw [prs_len]; exact Nat.le_trans count_le hcap
  refine wpIn_rangeFunc_ownH rfl h1 (gf := 74) (lb := #[.pointer (some ⟨w.heap.size + 1 + 1, 0, none⟩)]) rfl trivial (enters_of Try.func74 (by kernel_rfl) rfl)
    (allR_stops (n - 1) (by omega) (w.heap.size + 1 + 1) B F m _ hbox (hT.below hB0)) keepF_t (keepF_b hG) (Below.refl _ _) (fun _ => rfl)
    (fun pre W => ((∃ v, Boxed W (w.heap.size + 1) 22 v ∧ W.ownsRow w.heap.size 3 1 v (fit P (pre.map Subtype.val)).length (nums (fit P (pre.map Subtype.val))) ∧ True) ∧ Boxed W w.heap.size 92 (fv g bf bv) ∧ Boxed W (w.heap.size + 1 + 1) 71 (.pointer (some ⟨B, 0, none⟩)) ∧ pre.length ≤ (prs m 0).length) ∧ Below w.heap.size w W)
    (fun _ _ _ => False)
    (OwnFrom.and (Own.from (fun s A A' row hs hg hr => ⟨holdsRow_own w.heap.size (w.heap.size + 1) 22 3 1 (fun s => (fit P (List.map Subtype.val s)).length) (fun s => nums (fit P (List.map Subtype.val s))) (fun _ _ => True) s A A' row hs.1 hg hr,
        hs.2.1.kept hg (fun e => by obtain ⟨o, h1, h2⟩ := hr _ e.symm; rw [show A.heap[w.heap.size]? = _ from hs.2.1] at h1; cases h1; cases h2),
        hs.2.2.1.kept hg (fun e => by obtain ⟨o, h1, h2⟩ := hr _ e.symm; rw [show A.heap[w.heap.size + 1 + 1]? = _ from hs.2.2.1] at h1; cases h1; cases h2), hs.2.2.2⟩) _) (ownFrom_below (Nat.le_refl _) (by omega)))
    (fun _ _ _ _ _ hs _ _ => hs)
    ⟨⟨⟨_, c1', ⟨rfl, .inl ⟨rfl, rfl⟩⟩, trivial⟩, c0', hbox, by simp⟩, hB0⟩
    (fun x a' W => ∃ q, W.heap[q]? = some (.cells #[.int .i64 x.1.2.k, .int .i64 x.1.2.o, .int .i64 x.1.2.s, .int .i64 x.1.2.r, .int .i64 x.1.2.e, .int .i64 x.1.2.t] 78 (0, 0)) ∧ a' = { tmps := #[.pointer (some ⟨B, 0, none⟩), fv g bf bv, undef, .pointer (some ⟨w.heap.size, 0, none⟩), .slice none 0 0, .pointer (some ⟨w.heap.size + 1, 0, none⟩), .int .i64 (x.1.1 : Nat), .pointer (some ⟨q, 0, none⟩), .pointer (some ⟨B, 0, none⟩), .func (.func 74) #[] #[.pointer (some ⟨w.heap.size + 1 + 1, 0, none⟩)], .int .i64 (x.1.1 : Nat), x.1.2.val, undef, undef, undef, undef, undef, undef, undef, undef], defers := [] })
    (fun x a' _ X Y row hs hg hr => by
      obtain ⟨q, h1, h2⟩ := hs
      exact ⟨q, (hg.block q (Array.getElem?_eq_some_iff.1 h1).1 (fun e => by obtain ⟨o, h3, h4⟩ := (hr q e.symm).2; rw [h1] at h3; cases h3; cases h4)).trans h1, h2⟩)
    ?assign ?body ?done ?stop
  case assign =>
    rintro l pre x W K ⟨⟨⟨v, bS, hown, _⟩, bF, bA, hpl⟩, hB⟩ hK
    obtain ⟨⟨xi, xr⟩, hx⟩ := x
    simp only [Rc.val] at hK ⊢
    gi_wp2
    exact hK _ _ ((KeepsOthers.alloc _ _).from _) ⟨by simp, fun b hb => Below.heap_alloc _ _ _ (by rcases hb with hb | rfl; have := hFl b hb; have := hB.size; omega; exact bA.lt)⟩ ⟨⟨⟨v, bS.alloc _, hown.alloc _, trivial⟩, bF.alloc _, bA.alloc _, hpl⟩, hB.alloc hB.size _⟩ ⟨W.heap.size, heap_alloc_new W _, rfl⟩
  case body =>
    rintro l pre x a' W hl ⟨r, hr⟩ ⟨⟨⟨v, bS, hown, _⟩, bF, bA, hpl⟩, hB⟩ ⟨q, hq, rfl⟩ hlt
    obtain ⟨⟨xi, xr⟩, hx⟩ := x
    have cF := bF.cell
    obtain ⟨d0, d1, d2, d3, d4, d5, _, _, _, _, _, _⟩ := blk6 hq
    have HC := hide (hF.run W xr ((hB.block bf (Array.getElem?_eq_some_iff.1 hf).1).trans hf) ((hB.block bv (Array.getElem?_eq_some_iff.1 hv).1).trans hv))
    have he := hF.ent
    simp only [Rc.val, fv] at HC cF ⊢
    gi_wp2_with fail
    refine ⟨trivial, fun _ => by omega, (CallsIn.inRound l (callsIn_wide.2 HC.out)).mono ?_⟩
    rintro e W2 ⟨rfl, hb2⟩
    have bS2 := boxed_below bS hb2
    have bF2 := boxed_below bF hb2
    have bA2 := boxed_below bA hb2
    have hown2 := own_below hown hb2
    have hB2 := hB.trans (hb2.mono hB.size)
    have hK2 : KeepF (fun b => F b ∨ b = w.heap.size + 1 + 1) W W2 := ⟨hb2.size, fun b hb' => hb2.block b (by rcases hb' with hb' | rfl; have := hFl b hb'; have := hB.size; omega; exact bA.lt)⟩
    have hO2 := (keepsOthers_below hb2).from W0.heap.size
    have hpre : (fit P (List.map Subtype.val pre)).length ≤ 4096 := by have := fit_le P (List.map Subtype.val pre); simp at this; omega
    clear HC d0 d1 d2 d3 d4 d5 hq he cF bS bF bA hown hB hb2
    cases hP : P xr
    · gi_wp2
      refine ⟨hO2, hK2, ⟨⟨v, bS2, ?_, trivial⟩, bF2, bA2, by simp; omega⟩, hB2⟩
      rw [List.map_append, List.map_cons, List.map_nil, fit_no hP]
      exact hown2
    · obtain ⟨ao, co, rfl⟩ := own_shape hown2
      have cS := bS2.cell
      gi_wp2_with (gi_at_builtin; refine wpListIn_append_own_at _ rfl _ _ 22 rfl w.heap.size 3 i3 (.int .i64 0) 1 8 Try.underlying22 hi hz hs hb rfl (by decide) _ _ _ rfl (hown2.alloc _) ⟨W2.heap.size, 0, none⟩ 1 1 [.int .i64 (xi : Int)] rfl rfl (cell_one_new _ _ _) (by simp [Value.oneCell']) (by unfold maxLen; omega) (by omega) (by have := hB2.size; simp; omega) ?_; intro v' w3 hown3 hg3 _ _
                   obtain ⟨gg, cap, rfl⟩ := ownsRow_succ hown3
                   obtain ⟨b1, b2, b3, b4, b5⟩ := Boxed.appended bS2 (by decide) hown2 hB2.size (by omega) hown3 hg3
                   have b6 := (bF2.alloc (.cells #[.int .i64 (xi : Int)] 3)).kept hg3 (bF2.not_row (by decide) hown2)
                   have b7 := (bA2.alloc (.cells #[.int .i64 (xi : Int)] 3)).kept hg3 (bA2.not_row (by decide) hown2)
                   have cB := b1.cell
                   have fB := b1.frozen)
      refine ⟨hO2.trans (b4.from _), keepF_t hK2 ⟨b5.size, fun b hb' => ?_⟩, ⟨⟨_, b2, ?_, trivial⟩, b6.other (by omega) _, b7.other (by omega) _, by simp; omega⟩, hB2.trans b5⟩
      · rcases hb' with hb' | rfl
        · exact b5.block b (hFl b hb')
        · exact (b7.other (by omega) _).trans bA2.symm
      · rw [List.map_append, List.map_cons, List.map_nil, fit_yes hP, List.length_append]
        have e : nums (fit P (List.map Subtype.val pre) ++ [xi]) = nums (fit P (List.map Subtype.val pre)) ++ [.int .i64 (xi : Int)] := by simp [nums]
        rw [e]
        exact b3
  case done =>
    rintro D ys W hD hys ⟨⟨⟨v, bS, hown, _⟩, bF, bA, hpl⟩, hB⟩ hK
    obtain ⟨ao, co, rfl⟩ := own_shape hown
    have cS := bS.cell
    gi_wp2
    refine ⟨by simp, .inl ⟨_, _, rfl, run_takeDeferred hK, ?_⟩⟩
    refine ⟨_, results_tmp rfl _ _ _, _, rfl, ?_, hB.trans (belowK_b (w := w) (Nat.le_refl _) W D _ _ (by omega) hK rfl rfl)⟩
    rw [hys] at hown
    exact ownsRow_putObj hown _ hK rfl
  case stop =>
    rintro D c pre W _ _ h _
    exact h.elim
theorem fitting_any (F : Nat → Prop) (B : Nat) (m : Lst) (w : World) (hT : Tab KR w F B m) (g bf bv : Nat) (fo vo : Obj) (P : Rc → Bool) (hF : Fits g bf bv fo vo P) (hf : w.heap[bf]? = some fo) (hv : w.heap[bv]? = some vo) :
    Calls Try.prog 71 #[.pointer (some ⟨B, 0, none⟩), fv g bf bv] w fun e W' => ∃ v, e = .returned v ∧ W'.ownsRow w.heap.size 3 1 v (fit P (prs m 0)).length (nums (fit P (prs m 0))) ∧ Below w.heap.size w W' :=
  (callsIn_wide (n := 3)).1 (fitting_in 3 (Nat.le_refl _) F B m w hT g bf bv fo vo P hF hf hv)
end Go.Proofs.Ytimfgjndgfjjgaa

namespace Go.Proofs.Ytimfgjndgfjjgaa
open Go.RowKit Go.Shelf
attribute [local go_sem] Oper.semAt_some

/-- the list of an environment -/
def lf (bk : List (Option Lst)) (i : Nat) : Lst := (look bk (i : Int)).getD []
/-- the places in one list of those that a test is for -/
def one (P : Rc → Bool) (bk : List (Option Lst)) (i : Nat) : List (Nat × Nat) := (fit P (prs (lf bk i) 0)).map (fun s => (i, s))
/-- the places in these lists -/
def plsI (P : Rc → Bool) (bk : List (Option Lst)) (is : List Nat) : List (Nat × Nat) := is.flatMap (one P bk)
def idx {α : Type} (m : List (Option α)) : List Nat := (prs m 0).map Prod.fst
/-- all places -/
def pls (P : Rc → Bool) (bk : List (Option Lst)) : List (Nat × Nat) := plsI P bk (idx bk)
def encP (p : Nat × Nat) : List Value := [.int .i64 (p.1 : Int), .int .i64 (p.2 : Int)]
def encPs (l : List (Nat × Nat)) : List Value := l.flatMap encP
theorem encPs_len (l : List (Nat × Nat)) : (encPs l).length = l.length * 2 := by
  induction l with
  | nil => rfl
  | cons a t ih => simp only [encPs, List.flatMap_cons, List.length_append, List.length_cons] at ih ⊢; rw [ih]; simp [encP]; omega
theorem encPs_snoc (l : List (Nat × Nat)) (p : Nat × Nat) : encPs (l ++ [p]) = encPs l ++ [.int .i64 (p.1 : Int), .int .i64 (p.2 : Int)] := by simp [encPs, encP]
theorem prsL_idx {α β : Type} : ∀ (l : List (Option α)) (l' : List (Option β)) (s : Nat), l.length = l'.length → (∀ i : Nat, (∃ x, l[i]? = some (some x)) ↔ ∃ x, l'[i]? = some (some x)) → (prsL s l).map Prod.fst = (prsL s l').map Prod.fst
  | [], [], _, _, _ => rfl
  | [], _ :: _, _, h, _ => by simp at h
  | _ :: _, [], _, h, _ => by simp at h
  | a :: t, b :: t', s, h, hi => by
    have ih := prsL_idx t t' (s + 1) (by simpa using h) (fun i => by have := hi (i + 1); simpa using this)
    have h0 := hi 0
    cases a <;> cases b
    · simpa [prsL] using ih
    · simp at h0
    · simp at h0
    · simpa [prsL] using ih
theorem idx_eq {α β : Type} {l : List (Option α)} {l' : List (Option β)} (h : l.length = l'.length) (hi : ∀ i : Nat, (∃ x, l[i]? = some (some x)) ↔ ∃ x, l'[i]? = some (some x)) : idx l = idx l' := by
  unfold idx prs; simpa using prsL_idx l l' 0 h hi
theorem BookAt.idx {w : World} {F : Nat → Prop} {B T : Nat} {G : Nat → Prop} {m : List (Option Nat)} {fs : Nat → Nat → Prop} {bk : List (Option Lst)} (h : BookAt w F B T G m fs bk) : idx m = Ytimfgjndgfjjgaa.idx bk := by
  refine idx_eq (by rw [h.len, h.blen]) (fun i => ⟨fun ⟨b, hb⟩ => ?_, fun ⟨l, hl⟩ => ?_⟩)
  · obtain ⟨l, h1, _⟩ := h.held i b hb; exact ⟨l, h1⟩
  · have hi : i < m.length := by rw [h.len, ← h.blen]; exact (List.getElem?_eq_some_iff.1 hl).1
    cases hm : m[i] with
    | none => have := h.free i (by rw [List.getElem?_eq_getElem hi, hm]); rw [hl] at this; cases this
    | some b => exact ⟨b, by rw [List.getElem?_eq_getElem hi, hm]⟩
theorem rows_ne {w : World} {b1 b2 : Nat} {e1 e2 : TypeId} {z1 z2 : Nat} {v1 v2 : Value} {n1 n2 : Nat} {x1 x2 : List Value} (h1 : w.ownsRow b1 e1 z1 v1 n1 x1) (h2 : w.ownsRow b2 e2 z2 v2 n2 x2) (he : e1 ≠ e2) : v1.ownBlock = none ∨ v1.ownBlock ≠ v2.ownBlock := by
  obtain ⟨_, ⟨rfl, _⟩ | ⟨g, cap, cur, rfl, _, hg, _⟩⟩ := h1
  · exact .inl rfl
  · refine .inr (fun e => ?_)
    obtain ⟨_, ⟨rfl, _⟩ | ⟨g', cap', cur', rfl, _, hg', _⟩⟩ := h2
    · cases e
    · obtain rfl : g = g' := by simpa [Value.ownBlock] using e
      rw [hg] at hg'; cases hg'; exact he rfl
theorem info28' : ∃ i, Try.prog.info? 28 = some i ∧ i.zero = some (.agg #[.int .i64 0, .int .i64 0]) ∧ i.size = 2 ∧ i.bytes = 16 := info_parts (by kernel_rfl)
theorem cell_two_new (w : World) (a b : Value) (t : TypeId) : ∀ (j : Nat) (u : Value), [a, b][j]? = some u → (w.alloc (.cells #[a, b] t)).cell? ((⟨w.heap.size, 0, none⟩ : Addr).add j) = some u := by
  intro j u hu
  have h : (w.alloc (.cells #[a, b] t)).heap[w.heap.size]? = some (.cells #[a, b] t (0, 0)) := heap_alloc_new _ _
  rw [add0, cell_of_row _ _ _ _ _ _ h]
  simpa using hu
theorem plsI_snoc (P : Rc → Bool) (bk : List (Option Lst)) (is : List Nat) (i : Nat) : plsI P bk (is ++ [i]) = plsI P bk is ++ one P bk i := by simp [plsI]
theorem len_flat {α β : Type} (f : α → List β) (n : Nat) : ∀ (l : List α), (∀ x ∈ l, (f x).length ≤ n) → (l.flatMap f).length ≤ l.length * n
  | [], _ => by simp
  | x :: t, h => by
    have h1 := len_flat f n t (fun y hy => h y (by simp [hy]))
    have h2 := h x (by simp)
    simp only [List.flatMap_cons, List.length_append, List.length_cons, Nat.add_mul, Nat.one_mul]; omega
theorem one_le (P : Rc → Bool) (bk : List (Option Lst)) (i : Nat) (h : ∀ l, bk[i]? = some (some l) → l.length = 48) : (one P bk i).length ≤ 48 := by
  unfold one lf
  rw [List.length_map, look_nat]
  refine Nat.le_trans (fit_le _ _) ?_
  rw [prs_len]
  refine Nat.le_trans count_le ?_
  cases hb : bk[i]? with
  | none => simp
  | some o =>
    cases o with
    | none => simp
    | some l => simp [h l hb]
theorem idx_le {α : Type} (m : List (Option α)) : (idx m).length ≤ m.length := by unfold idx; rw [List.length_map, prs_len]; exact count_le
end Go.Proofs.Ytimfgjndgfjjgaa

namespace Go.Proofs.Ytimfgjndgfjjgaa
open Go.RowKit Go.Shelf
attribute [local go_sem] Oper.semAt_some

set_option maxRecDepth 100000 in
set_option maxHeartbeats 8000000 in
theorem places_in (n : Nat) (hn : 8 ≤ n) (F : Nat → Prop) (B T : Nat) (G : Nat → Prop) (m : List (Option Nat)) (fs : Nat → Nat → Prop) (bk : List (Option Lst)) (w : World) (hBk : BookAt w F B T G m fs bk) (g bf bv : Nat) (fo vo : Obj) (P : Rc → Bool) (hF : Fits g bf bv fo vo P) (hf : w.heap[bf]? = some fo) (hv : w.heap[bv]? = some vo) :
    CallsIn Fence.wide n Try.prog 44 #[.pointer (some ⟨B, 0, none⟩), fv g bf bv] w fun e W' => ∃ v, e = .returned v ∧ W'.ownsRow w.heap.size 28 2 v (pls P bk).length (encPs (pls P bk)) ∧ Below w.heap.size w W' := by
  have h1 : 1 ≤ n := by omega
  obtain ⟨i28, hi, hz, hs, hb⟩ := info28'
  have cB := fun o o' => (hBk.keep (w' := (w.alloc o).alloc o') (by simp; omega) (fun b hb => (Below.heap_alloc _ _ _ (by have := hBk.lt b hb; simp; omega)).trans (Below.heap_alloc _ _ _ (hBk.lt b hb)))).cell
  refine callsIn_of_wp_marks Try.func44 rfl trivial ?_ rfl
  simp only [fv, Try.ntmps44, List.size_toArray, List.length_cons, List.length_nil, Nat.reduceAdd, Nat.reduceSub, Array.replicate_succ, Array.replicate_zero, List.push_toArray, List.append_toArray, List.nil_append, List.cons_append]
  gi_wp2_with fail
  refine ⟨trivial, (allL_in T (n - 1) _).mono ?_⟩
  rintro e w' ⟨rfl, rfl⟩
  gi_wp2_with fail
  have c0 : Boxed (w.alloc (.cells #[fv g bf bv] 92)) w.heap.size 92 (fv g bf bv) := Boxed.new w 92 (fv g bf bv)
  have c1 := Boxed.new (w.alloc (.cells #[fv g bf bv] 92)) 29 (.slice none 0 0)
  have hbox := heap_alloc_new ((w.alloc (.cells #[fv g bf bv] 92)).alloc (.cells #[.slice none 0 0] 29)) (.cells #[.pointer (some ⟨T, 0, none⟩)] 73)
  simp only [World.size_alloc] at c1 hbox
  have hB0 : Below w.heap.size w (((w.alloc (.cells #[fv g bf bv] 92)).alloc (.cells #[.slice none 0 0] 29)).alloc (.cells #[.pointer (some ⟨T, 0, none⟩)] 73)) := (((Below.refl _ w).alloc (Nat.le_refl _) _).alloc (by simp) _).alloc (by simp; omega) _
  have hsz : (((w.alloc (.cells #[fv g bf bv] 92)).alloc (.cells #[.slice none 0 0] 29)).alloc (.cells #[.pointer (some ⟨T, 0, none⟩)] 73)).heap.size = w.heap.size + 3 := by simp
  have c0' := (c0.alloc (.cells #[.slice none 0 0] 29)).alloc (.cells #[.pointer (some ⟨T, 0, none⟩)] 73)
  have c1' := c1.alloc (.cells #[.pointer (some ⟨T, 0, none⟩)] 73)
  simp only [fv] at hbox hB0 hsz c0' c1'
  generalize ((w.alloc (.cells #[.func (.func g) #[] #[.pointer (some ⟨bf, 0, none⟩), .pointer (some ⟨bv, 0, none⟩)]] 92)).alloc (.cells #[.slice none 0 0] 29)).alloc (.cells #[.pointer (some ⟨T, 0, none⟩)] 73) = W0 at *
  have hT := hBk.tab
  have hG : ∀ b, (G b ∨ b = w.heap.size + 1 + 1) → b < W0.heap.size := by
    rintro b (hb | rfl)
    · have := hT.lt b hb; omega
    · omega
  have hFl : ∀ b, G b → b < w.heap.size := hT.lt
  have hlen : (prs m 0).length ≤ 16 := by rw [prs_len, ← hBk.len]; exact count_le
  clear c0 c1 cB
  refine wpIn_rangeFunc_ownH rfl h1 (gf := 84) (lb := #[.pointer (some ⟨w.heap.size + 1 + 1, 0, none⟩)]) rfl trivial (enters_of Try.func84 (by kernel_rfl) rfl)
    (allL_stops (n - 1) (by omega) (w.heap.size + 1 + 1) T G m _ hbox (hT.below hB0)) keepF_t (keepF_b hG) (Below.refl _ _) (fun _ => rfl)
    (fun pre W => ((∃ v, Boxed W (w.heap.size + 1) 29 v ∧ W.ownsRow w.heap.size 28 2 v (plsI P bk (pre.map (fun x => x.1.1))).length (encPs (plsI P bk (pre.map (fun x => x.1.1)))) ∧ True) ∧ Boxed W w.heap.size 92 (fv g bf bv) ∧ Boxed W (w.heap.size + 1 + 1) 73 (.pointer (some ⟨T, 0, none⟩)) ∧ pre.length ≤ (prs m 0).length) ∧ Below w.heap.size w W)
    (fun _ _ _ => False)
    (OwnFrom.and (Own.from (fun s A A' row hs hg hr => ⟨holdsRow_own w.heap.size (w.heap.size + 1) 29 28 2 (fun s : List { x : Nat × Nat // m[x.1]? = some (some x.2) } => (plsI P bk (s.map (fun x => x.1.1))).length) (fun s => encPs (plsI P bk (s.map (fun x => x.1.1)))) (fun _ _ => True) s A A' row hs.1 hg hr,
        hs.2.1.kept hg (fun e => by obtain ⟨o, h1, h2⟩ := hr _ e.symm; rw [show A.heap[w.heap.size]? = _ from hs.2.1] at h1; cases h1; cases h2),
        hs.2.2.1.kept hg (fun e => by obtain ⟨o, h1, h2⟩ := hr _ e.symm; rw [show A.heap[w.heap.size + 1 + 1]? = _ from hs.2.2.1] at h1; cases h1; cases h2), hs.2.2.2⟩) _) (ownFrom_below (Nat.le_refl _) (by omega)))
    (fun _ _ _ _ _ hs _ _ => hs)
    ⟨⟨⟨_, c1', ⟨rfl, .inl ⟨rfl, rfl⟩⟩, trivial⟩, c0', hbox, by simp⟩, hB0⟩
    (fun x a' _ => a' = { tmps := #[.pointer (some ⟨B, 0, none⟩), fv g bf bv, undef, .pointer (some ⟨w.heap.size, 0, none⟩), .slice none 0 0, .pointer (some ⟨w.heap.size + 1, 0, none⟩), .int .i64 (x.1.1 : Nat), .pointer (some ⟨x.1.2, 0, none⟩), undef, undef, .pointer (some ⟨B, 0, none⟩), .pointer (some ⟨B, 0, none⟩), .pointer (some ⟨B, 0, none⟩), .pointer (some ⟨T, 0, none⟩), .func (.func 84) #[] #[.pointer (some ⟨w.heap.size + 1 + 1, 0, none⟩)], .int .i64 (x.1.1 : Nat), .pointer (some ⟨x.1.2, 0, none⟩), undef, undef, undef, undef, undef, undef, undef, undef, undef, undef, undef, undef, undef, undef, undef, undef], defers := [] })
    (fun _ _ _ _ _ _ hs _ _ => hs)
    ?assign ?body ?done ?stop
  case assign =>
    rintro l pre x W K hi' hK
    obtain ⟨⟨xi, xb⟩, hx⟩ := x
    gi_wp2
    exact hK _ _ (KeepsFrom.refl _ _) ⟨Nat.le_refl _, fun _ _ => rfl⟩ hi' rfl
  case body =>
    rintro l pre x a' W hl ⟨r, hr⟩ ⟨⟨⟨v, bS, hown, _⟩, bF, bA, hpl⟩, hB⟩ rfl hlt
    obtain ⟨⟨xi, xb⟩, hx⟩ := x
    obtain ⟨L, hL1, hL2, hL3⟩ := hBk.held xi xb hx
    have cF := bF.cell
    have HC := hide (fitting_any (fs xi) xb L W (hL3.below hB) g bf bv fo vo P hF ((hB.block bf (Array.getElem?_eq_some_iff.1 hf).1).trans hf) ((hB.block bv (Array.getElem?_eq_some_iff.1 hv).1).trans hv))
    simp only [fv] at HC cF ⊢
    gi_wp2_with fail
    refine ⟨trivial, fun _ => by omega, (CallsIn.inRound l (callsIn_wide.2 HC.out)).mono ?_⟩
    rintro e W2 ⟨vv, rfl, hrow, hb2⟩
    have bS2 := boxed_below bS hb2
    have bF2 := boxed_below bF hb2
    have bA2 := boxed_below bA hb2
    have hown2 := own_below hown hb2
    have hB2 := hB.trans (hb2.mono hB.size)
    have hK2 : KeepF (fun b => G b ∨ b = w.heap.size + 1 + 1) W W2 := ⟨hb2.size, fun b hb' => hb2.block b (by rcases hb' with hb' | rfl; have := hFl b hb'; have := hB.size; omega; exact bA.lt)⟩
    have hO2 := (keepsOthers_below hb2).from W0.heap.size
    have hL0 : (plsI P bk (pre.map (fun x => x.1.1))).length ≤ 768 := by
      have h2 := len_flat (one P bk) 48 (pre.map (fun x => x.1.1)) (fun x _ => one_le P bk x (fun l hl => hBk.l48 hl))
      rw [List.length_map] at h2
      unfold plsI
      omega
    have hfl : (fit P (prs L 0)).length ≤ 48 := by
      refine Nat.le_trans (fit_le _ _) ?_
      rw [prs_len, ← hL2]; exact count_le
    have hone : one P bk xi = (fit P (prs L 0)).map (fun s => (xi, s)) := by
      unfold one lf; rw [look_nat, hL1]; rfl
    have hWs := hB.size
    clear HC cF bS bF bA hown hB hb2 hL1 hL2 hL3
    generalize fit P (prs L 0) = fl at *
    have HX : Hid (plsI P bk ((pre ++ [(⟨(xi, xb), hx⟩ : { x : Nat × Nat // m[x.1]? = some (some x.2) })]).map (fun x => x.1.1)) = plsI P bk (pre.map (fun x => x.1.1)) ++ fl.map (fun s => (xi, s))) := by
      show _ = _
      rw [List.map_append, List.map_cons, List.map_nil, plsI_snoc, hone]
    have HPL : Hid ((pre ++ [(⟨(xi, xb), hx⟩ : { x : Nat × Nat // m[x.1]? = some (some x.2) })]).length ≤ (prs m 0).length) := by show _ ≤ _; simp; omega
    clear hone hlt hpl
    generalize plsI P bk (pre.map (fun x => x.1.1)) = L0 at *
    obtain ⟨af, cf, rfl⟩ := own_shape hrow
    gi_wp2_with fail
    gi_loopw [21] (fun i wr => ∃ (k : Nat) (v : Value), k ≤ fl.length ∧ i = .int .i64 (k : Int) ∧ Hid (Boxed wr (w.heap.size + 1) 29 v) ∧ Hid (wr.ownsRow w.heap.size 28 2 v (L0.length + k) (encPs (L0 ++ (fl.take k).map (fun s => (xi, s))))) ∧ Hid (Boxed wr w.heap.size 92 (fv g bf bv)) ∧ Hid (Boxed wr (w.heap.size + 1 + 1) 73 (.pointer (some ⟨T, 0, none⟩))) ∧ Hid (wr.ownsRow W.heap.size 3 1 (.slice af fl.length cf) fl.length (nums fl)) ∧ Hid (Below w.heap.size w wr) ∧ Hid (KeepsFrom W0.heap.size W wr) ∧ Hid (KeepF (fun b => G b ∨ b = w.heap.size + 1 + 1) W wr)) (fun i _ => fl.length - (intOf i).toNat)
    case atStart => exact ⟨0, v, by omega, rfl, bS2, by simpa using hide hown2, bF2, bA2, hrow, hB2, hO2, hK2⟩
    case round =>
    obtain ⟨k, v1, hk, rfl, H1, H2, H3, H4, H5, H6, H7, H8⟩ := hrel
    clear bS2 hown2 bF2 bA2 hrow hB2 hO2 hK2
    by_cases hlt : k < fl.length
    · obtain ⟨ao, co, rfl⟩ := own_shape H2.out
      have cS := H1.out.cell
      obtain ⟨gf, rfl, hcf⟩ : ∃ gf, af = some ⟨gf, 0, none⟩ ∧ wr.cell? ⟨gf, k, none⟩ = some (.int .i64 ((fl[k] : Nat) : Int)) := by
        obtain ⟨_, ⟨h0, h00⟩ | ⟨g0, cap, cur, hv0, _⟩⟩ := H5.out
        · omega
        · cases hv0
          refine ⟨g0, rfl, ?_⟩
          rw [H5.out.cellAt k (by omega)]
          simp [nums, hlt]
      gi_wp2_with (gi_at_builtin; refine wpListIn_append_own_at _ rfl _ _ 29 rfl w.heap.size 28 i28 (.agg #[.int .i64 0, .int .i64 0]) 2 16 Try.underlying29 hi hz hs hb rfl (by decide) _ _ _ rfl (H2.out.alloc _) ⟨wr.heap.size, 0, none⟩ 1 1 [.int .i64 (xi : Int), .int .i64 ((fl[k] : Nat) : Int)] rfl rfl (cell_two_new _ _ _ _) (by simp [Value.oneCell']) (by unfold maxLen; omega) (by omega) (by have := H6.out.size; simp; omega) ?_; intro v' w3 hown3 hg3 _ _
                   obtain ⟨gg, cap, rfl⟩ := ownsRow_succ hown3
                   obtain ⟨b1, b2, b3, b4, b5⟩ := Boxed.appended H1.out (by decide) H2.out H6.out.size (by omega) hown3 hg3
                   have b6 := (H3.out.alloc (.cells #[.int .i64 (xi : Int), .int .i64 ((fl[k] : Nat) : Int)] 28)).kept hg3 (H3.out.not_row (by decide) H2.out)
                   have b7 := (H4.out.alloc (.cells #[.int .i64 (xi : Int), .int .i64 ((fl[k] : Nat) : Int)] 28)).kept hg3 (H4.out.not_row (by decide) H2.out)
                   have b8 := (H5.out.alloc (.cells #[.int .i64 (xi : Int), .int .i64 ((fl[k] : Nat) : Int)] 28)).kept hg3 (rows_ne H5.out H2.out (by decide))
                   have cB := b1.cell
                   have fB := b1.frozen)
      have K1 := hide b2
      have K2 : Hid ((w3.setCell ⟨w.heap.size + 1, 0, none⟩ (.slice (some ⟨gg, 0, none⟩) (L0.length + k + 1) cap)).ownsRow w.heap.size 28 2 (.slice (some ⟨gg, 0, none⟩) (L0.length + k + 1) cap) (L0.length + (k + 1)) (encPs (L0 ++ (fl.take (k + 1)).map (fun s => (xi, s))))) := by
        have e : L0 ++ (fl.take (k + 1)).map (fun s => (xi, s)) = (L0 ++ (fl.take k).map (fun s => (xi, s))) ++ [(xi, fl[k])] := by
          rw [List.take_succ_eq_append_getElem hlt, List.map_append, List.map_cons, List.map_nil, List.append_assoc]
        rw [e, encPs_snoc]
        exact b3
      have K3 := hide (b6.other (B' := w.heap.size + 1) (by omega) (.slice (some ⟨gg, 0, none⟩) (L0.length + k + 1) cap))
      have K4 := hide (b7.other (B' := w.heap.size + 1) (by omega) (.slice (some ⟨gg, 0, none⟩) (L0.length + k + 1) cap))
      have K5 := hide (b8.kept (grownBy_setCell' w3 (w.heap.size + 1) (.slice (some ⟨gg, 0, none⟩) (L0.length + k + 1) cap)) (.inr (fun e => b1.not_row (by decide) b8 e.symm)))
      have K6 := hide (H6.out.trans b5)
      have K7 := hide (H7.out.trans (b4.from _))
      have K8 : Hid (KeepF (fun b => G b ∨ b = w.heap.size + 1 + 1) W (w3.setCell ⟨w.heap.size + 1, 0, none⟩ (.slice (some ⟨gg, 0, none⟩) (L0.length + k + 1) cap))) := keepF_t H8.out ⟨b5.size, fun b hb' => by
        rcases hb' with hb' | rfl
        · exact b5.block b (hFl b hb')
        · exact K4.out.trans H4.out.symm⟩
      clear b1 b2 b3 b4 b5 b6 b7 b8 hg3 hown3 cB fB cS hcf H1 H2 H3 H4 H5 H6 H7 H8
      go_roundw
      case rel => exact ⟨k + 1, _, by omega, by go_num, K1, K2, K3, K4, K5, K6, K7, K8⟩
      case measure => simp [intOf]; omega
    · have hd : decide ((k : Int) < (fl.length : Int)) = false := by simp; omega
      have hd2 : decide (k < fl.length) = false := by simp; omega
      gi_wp2
      refine ⟨H7.out, H8.out, ⟨⟨v1, H1.out, ?_, trivial⟩, H3.out, H4.out, HPL.out⟩, H6.out⟩
      rw [HX.out]
      have h2 := H2.out
      have ek : k = fl.length := by omega
      rw [ek, List.take_length] at h2
      rw [List.length_append, List.length_map]
      exact h2
  case done =>
    rintro D ys W hD hys ⟨⟨⟨v, bS, hown, _⟩, bF, bA, hpl⟩, hB⟩ hK
    have e : ys.map (fun x => x.1.1) = idx bk := by
      rw [← hBk.idx]; unfold idx; rw [← hys, List.map_map]; rfl
    rw [e] at hown
    have hown' : W.ownsRow w.heap.size 28 2 v (pls P bk).length (encPs (pls P bk)) := hown
    clear hown
    obtain ⟨ao, co, rfl⟩ := own_shape hown'
    have cS := bS.cell
    gi_wp2
    refine ⟨by simp, .inl ⟨_, _, rfl, run_takeDeferred hK, ?_⟩⟩
    refine ⟨_, results_tmp rfl _ _ _, _, rfl, ?_, hB.trans (belowK_b (w := w) (Nat.le_refl _) W D _ _ (by omega) hK rfl rfl)⟩
    exact ownsRow_putObj hown' _ hK rfl
  case stop =>
    rintro D c pre W _ _ h _
    exact h.elim
theorem places_any (F : Nat → Prop) (B : Nat) (bk : List (Option Lst)) (w : World) (hBk : Book w F B bk) (g bf bv : Nat) (fo vo : Obj) (P : Rc → Bool) (hF : Fits g bf bv fo vo P) (hf : w.heap[bf]? = some fo) (hv : w.heap[bv]? = some vo) :
    Calls Try.prog 44 #[.pointer (some ⟨B, 0, none⟩), fv g bf bv] w fun e W' => ∃ v, e = .returned v ∧ W'.ownsRow w.heap.size 28 2 v (pls P bk).length (encPs (pls P bk)) ∧ Below w.heap.size w W' := by
  obtain ⟨T, G, m, fs, h⟩ := hBk
  exact (callsIn_wide (n := 8)).1 (places_in 8 (Nat.le_refl _) F B T G m fs bk w h g bf bv fo vo P hF hf hv)
end Go.Proofs.Ytimfgjndgfjjgaa

namespace Go.Proofs.Ytimfgjndgfjjgaa
open Go.RowKit

/-- the book with another word at a place -/
def setAt (bk : List (Option Lst)) (i j : Nat) (o : Option Rc) : List (Option Lst) := bk.set i (some ((lf bk i).set j o))
theorem atB_some {bk : List (Option Lst)} {e s : Int} {r : Rc} (h : atB bk e s = some r) : ∃ (i j : Nat) (l : Lst), e = i ∧ s = j ∧ bk[i]? = some (some l) ∧ l[j]? = some (some r) ∧ lf bk i = l := by
  unfold atB at h
  obtain ⟨l, h1, h2⟩ := Option.bind_eq_some_iff.1 h
  rcases look_cases bk e with ⟨_, e1⟩ | ⟨k, rfl, hk, hm, e1⟩ | ⟨k, x, rfl, hk, hm, e1⟩
  · rw [e1] at h1; cases h1
  · rw [e1] at h1; cases h1
  · rw [e1] at h1; cases h1
    rcases look_cases l s with ⟨_, e2⟩ | ⟨q, rfl, hq, hm2, e2⟩ | ⟨q, y, rfl, hq, hm2, e2⟩
    · rw [e2] at h2; cases h2
    · rw [e2] at h2; cases h2
    · rw [e2] at h2; cases h2
      exact ⟨k, q, l, rfl, rfl, hm, hm2, by unfold lf; rw [e1]; rfl⟩
theorem atN_eq {bk : List (Option Lst)} {i j : Nat} {l : Lst} (h : bk[i]? = some (some l)) : atB bk (i : Int) (j : Int) = (l[j]?).join := by
  unfold atB; rw [look_nat, h]; exact look_nat l j
theorem atB_setAt {bk : List (Option Lst)} {i j : Nat} {l : Lst} {o : Option Rc} (h : bk[i]? = some (some l)) (hj : j < l.length) (a b : Nat) :
    atB (setAt bk i j o) (a : Int) (b : Int) = if a = i ∧ b = j then o else atB bk (a : Int) (b : Int) := by
  have hl : lf bk i = l := by unfold lf; rw [look_nat, h]; rfl
  have hi : i < bk.length := (List.getElem?_eq_some_iff.1 h).1
  unfold setAt
  rw [hl]
  by_cases e : a = i
  · subst e
    rw [atN_eq (l := l.set j o) (by rw [List.getElem?_set_self hi]), List.getElem?_set]
    by_cases e2 : b = j
    · subst e2; simp [hj]
    · rw [if_neg (fun e' => e2 e'.symm), if_neg (fun e' => e2 e'.2), atN_eq h]
  · rw [if_neg (fun e' => e e'.1)]
    unfold atB
    rw [look_nat, look_nat, List.getElem?_set_ne (fun e' => e e'.symm)]
/-- the same lists are open -/
def Shape (bk bk' : List (Option Lst)) : Prop := ∀ e : Int, (look bk' e).isSome = (look bk e).isSome
theorem Shape.refl (bk : List (Option Lst)) : Shape bk bk := fun _ => rfl
theorem Shape.trans {a b c : List (Option Lst)} (h : Shape a b) (k : Shape b c) : Shape a c := fun e => (k e).trans (h e)
theorem shape_set {bk : List (Option Lst)} {i : Nat} {l l' : Lst} (h : bk[i]? = some (some l)) : Shape bk (bk.set i (some l')) := by
  have hi : i < bk.length := (List.getElem?_eq_some_iff.1 h).1
  intro e
  rcases look_cases bk e with ⟨h1, e1⟩ | ⟨k, rfl, hk, hm, e1⟩ | ⟨k, x, rfl, hk, hm, e1⟩
  · rw [e1, look_out _ _ (by simpa using h1)]
  · rw [e1, look_nat, List.getElem?_set_ne (fun e => by subst e; rw [h] at hm; cases hm), hm]; rfl
  · rw [e1, look_nat]
    by_cases e : i = k
    · subst e; rw [List.getElem?_set_self hi]; rfl
    · rw [List.getElem?_set_ne e, hm]; rfl
theorem shape_setAt {bk : List (Option Lst)} {i j : Nat} {l : Lst} {o : Option Rc} (h : bk[i]? = some (some l)) : Shape bk (setAt bk i j o) := shape_set h

theorem ext_six {F F' : Nat → Prop} {a w : World} (h : Ext F a F' w) {b : Nat} (hb : a.heap.size ≤ b) (y0 y1 y2 y3 y4 y5 : Value) :
    Ext F a F' ((((((w.setCell ⟨b, 0, none⟩ y0).setCell ⟨b, 1, none⟩ y1).setCell ⟨b, 2, none⟩ y2).setCell ⟨b, 3, none⟩ y3).setCell ⟨b, 4, none⟩ y4).setCell ⟨b, 5, none⟩ y5) :=
  ⟨(((((h.mod.setCell (p := ⟨b, 0, none⟩) (.inr hb) _).setCell (p := ⟨b, 1, none⟩) (.inr hb) _).setCell (p := ⟨b, 2, none⟩) (.inr hb) _).setCell (p := ⟨b, 3, none⟩) (.inr hb) _).setCell (p := ⟨b, 4, none⟩) (.inr hb) _).setCell (p := ⟨b, 5, none⟩) (.inr hb) _, h.new⟩
theorem book_six {w : World} {F : Nat → Prop} {B : Nat} {bk : List (Option Lst)} (h : Book w F B bk) (b : Nat) (hb : ∀ x, F x → x ≠ b) (y0 y1 y2 y3 y4 y5 : Value) :
    Book ((((((w.setCell ⟨b, 0, none⟩ y0).setCell ⟨b, 1, none⟩ y1).setCell ⟨b, 2, none⟩ y2).setCell ⟨b, 3, none⟩ y3).setCell ⟨b, 4, none⟩ y4).setCell ⟨b, 5, none⟩ y5) F B bk :=
  h.keep (by simp [World.setCell]) (fun x hx => set6_other _ _ _ _ _ _ (hb x hx))
/-- a call on one list that makes no block of the table -/
theorem BookAt.upd0 {w : World} {F : Nat → Prop} {B T : Nat} {G : Nat → Prop} {m : List (Option Nat)} {fs : Nat → Nat → Prop} {bk : List (Option Lst)} (h : BookAt w F B T G m fs bk) {i b : Nat} (hi : m[i]? = some (some b)) {l' : Lst} (hl : l'.length = 48) {w' : World} (ht : Tab KR w' (fs i) b l') (hx : Ext (fs i) w (fs i) w') :
    Book w' F B (bk.set i (some l')) ∧ Ext F w F w' := by
  have h1 := h.upd hi hl ht hx
  have hFF : (fun x => F x ∨ fs i x) = F := funext fun x => propext ⟨fun hx => hx.elim id (fun hx => (h.own i b x hi hx).1), .inl⟩
  rw [hFF] at h1
  exact ⟨⟨_, _, _, _, h1.1⟩, h1.2⟩
set_option maxHeartbeats 3200000 in
theorem remove_any (w : World) (F : Nat → Prop) (B : Nat) (bk : List (Option Lst)) (h : Book w F B bk) (i j : Nat) (r : Rc) (hr : atB bk (i : Int) (j : Int) = some r) :
    Calls Try.prog 65 #[.pointer (some ⟨B, 0, none⟩), .agg #[.int .i64 (i : Int), .int .i64 (j : Int)]] w fun x w' => x = .returned r.val ∧ Book w' F B (setAt bk i j none) ∧ Ext F w F w' := by
  obtain ⟨i', j', l, ei, ej, hl, hlj, hlf⟩ := atB_some hr
  obtain rfl : i = i' := by omega
  obtain rfl : j = j' := by omega
  have hb0 := ((Below.refl w.heap.size w).alloc (Nat.le_refl _) (.cells #[.int .i64 (i : Int), .int .i64 (j : Int)] 28)).alloc (by simp) (.cells #[.int .i64 0, .int .i64 0, .int .i64 0, .int .i64 0, .int .i64 0, .int .i64 0] 78)
  have hk := h.below hb0
  have hP := heap_alloc2_old w (.cells #[.int .i64 (i : Int), .int .i64 (j : Int)] 28) (.cells #[.int .i64 0, .int .i64 0, .int .i64 0, .int .i64 0, .int .i64 0, .int .i64 0] 78)
  have hZ := heap_alloc2_new w (.cells #[.int .i64 (i : Int), .int .i64 (j : Int)] 28) (.cells #[.int .i64 0, .int .i64 0, .int .i64 0, .int .i64 0, .int .i64 0, .int .i64 0] 78)
  have hFn : ∀ x, w.heap.size ≤ x → ¬ F x := fun x hx hf => by have := h.lt _ hf; omega
  have HB0 := hide hb0
  have hsz : ((w.alloc (.cells #[.int .i64 (i : Int), .int .i64 (j : Int)] 28)).alloc (.cells #[.int .i64 0, .int .i64 0, .int .i64 0, .int .i64 0, .int .i64 0, .int .i64 0] 78)).heap.size = w.heap.size + 2 := by simp
  clear h hb0 hr
  go_enter Try.func65, Try.ntmps65
  go_wp2_with fail
  generalize (w.alloc (.cells #[.int .i64 (i : Int), .int .i64 (j : Int)] 28)).alloc (.cells #[.int .i64 0, .int .i64 0, .int .i64 0, .int .i64 0, .int .i64 0, .int .i64 0] 78) = w0 at *
  obtain ⟨T, G, m, fs, hA⟩ := hk
  obtain ⟨b, hm⟩ : ∃ b, m[i]? = some (some b) := by
    have hi : i < m.length := by rw [hA.len, ← hA.blen]; exact (List.getElem?_eq_some_iff.1 hl).1
    cases hmi : m[i] with
    | none => have := hA.free i (by rw [List.getElem?_eq_getElem hi, hmi]); rw [hl] at this; cases this
    | some b => exact ⟨b, by rw [List.getElem?_eq_getElem hi, hmi]⟩
  obtain ⟨l2, hl2, h48, hTl⟩ := hA.held i b hm
  obtain rfl : l = l2 := by rw [hl] at hl2; cases hl2; rfl
  have HG := hide (getL_any w0.drew G T m (hA.tab.below (Below.refl _ _).drew) i)
  rw [show look m (i : Int) = some b by rw [look_nat, hm]; rfl] at HG
  simp only [ptr, Option.isSome_some] at HG
  have c0 : w0.drew.cell? ⟨B, 0, none⟩ = some (.pointer (some ⟨T, 0, none⟩)) ∧ w0.drew.cell? ⟨w.heap.size, 0, none⟩ = some (.int .i64 (i : Int)) ∧ w0.drew.cell? ⟨w.heap.size, 1, none⟩ = some (.int .i64 (j : Int)) := ⟨hA.cell, (blk2 hP).1, (blk2 hP).2.1⟩
  have HA := hide hA
  have HM := hide hm
  have HTL := hide hTl
  have HLJ := hide hlj
  have HP := hide hP
  have HZ := hide hZ
  have HFN := hide hFn
  have HLF := hide hlf
  have H48 := hide h48
  clear hA hm hTl hlj hP hZ hl hl2 hFn hlf h48
  go_region_held (fun W => W.cell? ⟨B, 0, none⟩ = some (.pointer (some ⟨T, 0, none⟩)) ∧ W.cell? ⟨w.heap.size, 0, none⟩ = some (.int .i64 (i : Int)) ∧ W.cell? ⟨w.heap.size, 1, none⟩ = some (.int .i64 (j : Int)))
    (first | assumption | exact c0)
    (first | (go_at_call 29; refine HG.out.mono ?_; rintro e1 w1 ⟨rfl, hw1⟩; subst hw1))
  have K0 := HA
  have HTD := hide (dropR_some w0.drew (fs i) b l (HTL.out.below (Below.refl _ _).drew) j r HLJ.out)
  have hcj := c0.2.2
  clear c0 HG
  go_wp2_with fail
  refine HTD.out.mono ?_
  rintro e1 w2 ⟨rfl, hT2, hE2⟩
  have hlt2 : w.heap.size + 1 < w2.heap.size := by have := hE2.mod.size; have : w0.drew.heap.size = w0.heap.size := rfl; omega
  have hZ2 : w2.heap[w.heap.size + 1]? = some (.cells #[.int .i64 0, .int .i64 0, .int .i64 0, .int .i64 0, .int .i64 0, .int .i64 0] 78 (0, 0)) :=
    (hE2.mod.block (w.heap.size + 1) (show w.heap.size + 1 < w0.heap.size by omega) (fun hf => HFN.out _ (by omega) (HA.out.own i b _ HM.out hf).1)).trans HZ.out
  have K1 := hide ((HA.out.keep (w' := w0.drew) (Nat.le_refl _) (fun _ _ => rfl)).upd HM.out (l' := l.set j none) (by rw [List.length_set]; exact H48.out) hT2 hE2)
  have K2 := hide ((Ext.of_below (F := F) (HB0.out.drew)).trans K1.out.2)
  clear hT2 hE2 HTD hcj HTL HP HZ HA
  simp only [Rc.val]
  go_upto_region 3 with fail
  have hX : (w2.alloc (.cells #[.int .i64 r.k, .int .i64 r.o, .int .i64 r.s, .int .i64 r.r, .int .i64 r.e, .int .i64 r.t] 78)).heap[w2.heap.size]? = some (.cells #[.int .i64 r.k, .int .i64 r.o, .int .i64 r.s, .int .i64 r.r, .int .i64 r.e, .int .i64 r.t] 78 (0, 0)) := heap_alloc_new _ _
  have hY := (Below.heap_alloc w2 (.cells #[.int .i64 r.k, .int .i64 r.o, .int .i64 r.s, .int .i64 r.r, .int .i64 r.e, .int .i64 r.t] 78) (w.heap.size + 1) hlt2).trans hZ2
  have K3 := hide ((Below.refl w2.heap.size w2).alloc (Nat.le_refl _) (.cells #[.int .i64 r.k, .int .i64 r.o, .int .i64 r.s, .int .i64 r.r, .int .i64 r.e, .int .i64 r.t] 78))
  generalize w2.alloc (.cells #[.int .i64 r.k, .int .i64 r.o, .int .i64 r.s, .int .i64 r.r, .int .i64 r.e, .int .i64 r.t] 78) = W at *
  clear hZ2
  obtain ⟨d0, d1, d2, d3, d4, d5, f0, f1, f2, f3, f4, f5⟩ := blk6 hY
  obtain ⟨x0, x1, x2, x3, x4, x5, _, _, _, _, _, _⟩ := blk6 hX
  have HS := hide (fun a b c d e f => set6 hY a b c d e f)
  clear hX hY
  go_wp2
  refine bodyPost_ret (results_cell_row rfl _ _ (w.heap.size + 1) 78 #[.int .i64 r.k, .int .i64 r.o, .int .i64 r.s, .int .i64 r.r, .int .i64 r.e, .int .i64 r.t] (0, 0) _ rfl (HS.out _ _ _ _ _ _) Try.underlying78 rfl (by kernel_rfl)) rfl ?_
  have hsw : ∀ b, (F b ∨ fs i b) → b ≠ w.heap.size + 1 := by
    intro b' hb' e'
    subst e'
    rcases hb' with hb' | hb'
    · exact HFN.out _ (by omega) hb'
    · exact HFN.out _ (by omega) (K0.out.own i b _ HM.out hb').1
  have hbk : Book W (fun x => F x ∨ fs i x) B (bk.set i (some (l.set j none))) := Book.below ⟨_, _, _, _, K1.out.1⟩ K3.out
  have hFF : (fun x => F x ∨ fs i x) = F := funext fun x => propext ⟨fun hx => hx.elim id (fun hx => (K0.out.own i b x HM.out hx).1), .inl⟩
  have h8 := book_six hbk (w.heap.size + 1) (fun b' hb' => hsw b' hb') (.int .i64 r.k) (.int .i64 r.o) (.int .i64 r.s) (.int .i64 r.r) (.int .i64 r.e) (.int .i64 r.t)
  have h9 := ext_six (b := w.heap.size + 1) (K2.out.trans (Ext.of_below K3.out)) (Nat.le_succ _) (.int .i64 r.k) (.int .i64 r.o) (.int .i64 r.s) (.int .i64 r.r) (.int .i64 r.e) (.int .i64 r.t)
  rw [hFF] at h8 h9
  refine ⟨rfl, ?_, h9⟩
  unfold setAt
  rw [HLF.out]
  exact h8
end Go.Proofs.Ytimfgjndgfjjgaa
