import Derived.Test.YtmflohehnoghhaaPI
namespace Go.Proofs.Ytmflohehnoghhaa
open Go.RowKit

/-- a table twice: the program's and the document's -/
def PrA (B R : Nat) : Asn := fun W H => ∃ m L F, (Tb W B m ∧ RtA R L W F ∧ Ag m L) ∧ (∀ b, H b ↔ b = B ∨ F b) ∧ ¬ F B
theorem good_pr (B R : Nat) : Good (PrA B R) := by
  refine ⟨?_, ?_⟩
  · rintro W H ⟨m, L, F, ⟨h1, h2, h3⟩, he, hn⟩ b hb
    rcases (he b).1 hb with rfl | hb
    · exact h1.lt
    · exact (good_rt R L).lt h2 b hb
  · rintro W W' H ⟨m, L, F, ⟨h1, h2, h3⟩, he, hn⟩ hs hk
    exact ⟨m, L, F, ⟨h1.keep (hk B ((he B).2 (.inl rfl))), (good_rt R L).keep h2 hs (fun b hb => hk b ((he b).2 (.inr hb))), h3⟩, he, hn⟩
abbrev bp (B : Nat) : Value := .pointer (some ⟨B, 0, none⟩)
section
variable {w w1 w2 : World} {B R : Nat} {m m' : Nat → E} {L L' : List Mp} {F F' H : Nat → Prop}
theorem pr_mid (h2 : RtA R L w F) (hn : ¬ F B) (hm : Mod (fun b => b = B) w w1) : RtA R L w1 F :=
  (good_rt R L).keep h2 hm.size (fun b hb => hm.block b ((good_rt R L).lt h2 b hb) (fun e => hn (e ▸ hb)))
theorem pr_two (he : ∀ b, H b ↔ b = B ∨ F b) (hn : ¬ F B) (hT : Tb w1 B m') (hm : Mod (fun b => b = B) w w1) (hR : RtA R L' w2 F') (hE : Ext F w1 F' w2) (hA : Ag m' L') : ∃ H', PrA B R w2 H' ∧ Ext H w H' w2 := by
  have hnB : ¬ F' B := fun hb => by
    rcases hE.new B hb with h | h
    · exact hn h
    · have := hT.lt; omega
  refine ⟨fun b => b = B ∨ F' b, ⟨m', L', F', ⟨hT.mod hE.mod hn, hR, hA⟩, fun _ => Iff.rfl, hnB⟩, ?_, ?_⟩
  · refine ⟨hE.mod.os.trans hm.os, hE.mod.tape.trans hm.tape, hE.mod.output.trans hm.output, Nat.le_trans hm.size hE.mod.size, fun b hb hf => ?_⟩
    rw [hE.mod.block b (Nat.lt_of_lt_of_le hb hm.size) (fun e => hf ((he b).2 (.inr e))), hm.block b hb (fun e => hf ((he b).2 (.inl e)))]
  · rintro b (rfl | hb)
    · exact .inl ((he b).2 (.inl rfl))
    · rcases hE.new b hb with h | h
      · exact .inl ((he b).2 (.inr h))
      · right; have := hm.size; omega
/-- both calls answer alike, and leave the pair alike -/
def Two (B R : Nat) (w : World) (H : Nat → Prop) (f g : FuncId) (xs ys : Array Value) : Prop :=
  ∃ (c : Int) (Q : World → Prop), Calls Try.prog f (#[bp B] ++ xs) w (fun e w1 => e = .returned (.int .i64 c) ∧ Q w1 ∧ Mod (fun b => b = B) w w1) ∧ ∀ w1, Q w1 → Calls Try.prog g (#[rp' R] ++ ys) w1 (fun e w2 => e = .returned (.int .i64 c) ∧ ∃ H', PrA B R w2 H' ∧ Ext H w H' w2)
theorem two_map (h : PrA B R w H) (v s : Int) (b : Bool) : Two B R w H 17 19 #[.int .i64 v, .int .i64 s, .bool b] #[.int .i64 v, .int .i64 s, .bool b] := by
  obtain ⟨m, L, F, ⟨h1, h2, h3⟩, he, hn⟩ := h
  have hsame : ∃ H', PrA B R w H' ∧ Ext H w H' w := pr_two he hn h1 (Mod.refl _ _) h2 (Ext.refl _ _) h3
  by_cases hc : code m v s = 0
  · obtain ⟨k, t, rfl, rfl, hk, ht, hm⟩ := code_ok hc
    refine ⟨0, fun w1 => Tb w1 B (upd m k (some (t, b))) ∧ Mod (fun b => b = B) w w1, (map_good w B m k t b h1 hc).mono ?_, fun w1 hq => ?_⟩
    · rintro e w1 ⟨rfl, hg⟩
      simp only [Int.toNat_natCast] at hg
      exact ⟨rfl, ⟨hg.1, hg.2⟩, hg.2⟩
    · refine (mapR_ok (pr_mid h2 hn hq.2) h3 k t b hk ht hm).mono ?_
      rintro e w2 ⟨rfl, F', h4, h5⟩
      exact ⟨rfl, pr_two he hn hq.1 hq.2 h4 h5 (h3.put hk ht hm)⟩
  · refine ⟨code m v s, fun w1 => w1 = w, (map_bad w B m v s b h1 hc).mono ?_, fun w1 hq => ?_⟩
    · rintro e w1 ⟨rfl, rfl⟩
      exact ⟨rfl, rfl, Mod.refl _ _⟩
    · subst hq
      by_cases hp : v < 0 ∨ 16 ≤ v
      · rw [code_page hp]
        refine (mapR_page v s b hp).mono ?_
        rintro e w2 ⟨rfl, rfl⟩
        exact ⟨rfl, hsame⟩
      · by_cases hs : s < 0 ∨ 48 ≤ s
        · rw [code_slot hp hs]
          obtain ⟨k, rfl⟩ : ∃ k : Nat, v = k := ⟨v.toNat, by omega⟩
          refine (mapR_slot k (by omega) s b hs).mono ?_
          rintro e w2 ⟨rfl, rfl⟩
          exact ⟨rfl, hsame⟩
        · by_cases hm : (m v.toNat).isSome = true
          · rw [code_there hp hs hm]
            obtain ⟨k, rfl⟩ : ∃ k : Nat, v = k := ⟨v.toNat, by omega⟩
            obtain ⟨t, rfl⟩ : ∃ t : Nat, s = t := ⟨s.toNat, by omega⟩
            refine (mapR_there h2 h3 k t b (by omega) (by omega) (by simpa using hm)).mono ?_
            rintro e w2 ⟨rfl, rfl⟩
            exact ⟨rfl, hsame⟩
          · exact (hc (code_free hp hs hm)).elim
theorem two_unmap (h : PrA B R w H) (v : Int) : Two B R w H 20 21 #[.int .i64 v] #[.int .i64 v] := by
  obtain ⟨m, L, F, ⟨h1, h2, h3⟩, he, hn⟩ := h
  have hsame : ∃ H', PrA B R w H' ∧ Ext H w H' w := pr_two he hn h1 (Mod.refl _ _) h2 (Ext.refl _ _) h3
  by_cases hp : v < 0 ∨ 16 ≤ v
  · refine ⟨60, fun w1 => w1 = w, (unmap_no w B v hp).mono ?_, fun w1 hq => ?_⟩
    · rintro e w1 ⟨rfl, rfl⟩; exact ⟨rfl, rfl, Mod.refl _ _⟩
    · subst hq
      refine (unmapR_no v hp).mono ?_
      rintro e w2 ⟨rfl, rfl⟩
      exact ⟨rfl, hsame⟩
  · obtain ⟨k, rfl⟩ : ∃ k : Nat, v = k := ⟨v.toNat, by omega⟩
    have hk : k < 16 := by omega
    cases hm : m k with
    | none =>
      refine ⟨62, fun w1 => w1 = w, (unmap_un w B m k h1 hk hm).mono ?_, fun w1 hq => ?_⟩
      · rintro e w1 ⟨rfl, rfl⟩; exact ⟨rfl, rfl, Mod.refl _ _⟩
      · subst hq
        refine (unmapR_un h2 h3 k hk hm).mono ?_
        rintro e w2 ⟨rfl, rfl⟩
        exact ⟨rfl, hsame⟩
    | some x =>
      obtain ⟨s, b⟩ := x
      refine ⟨0, fun w1 => Tb w1 B (upd m k none) ∧ Mod (fun b => b = B) w w1, (unmap_ok w B m k h1 hk _ hm).mono ?_, fun w1 hq => ?_⟩
      · rintro e w1 ⟨rfl, hg⟩; exact ⟨rfl, ⟨hg.1, hg.2⟩, hg.2⟩
      · refine (unmapR_ok (pr_mid h2 hn hq.2) h3 k s b hk hm).mono ?_
        rintro e w2 ⟨rfl, K, F', h4, h5, h6⟩
        exact ⟨rfl, pr_two he hn hq.1 hq.2 h5 h6 h4⟩
theorem two_prot (h : PrA B R w H) (v : Int) (b : Bool) : Two B R w H 22 23 #[.int .i64 v, .bool b] #[.int .i64 v, .bool b] := by
  obtain ⟨m, L, F, ⟨h1, h2, h3⟩, he, hn⟩ := h
  have hsame : ∃ H', PrA B R w H' ∧ Ext H w H' w := pr_two he hn h1 (Mod.refl _ _) h2 (Ext.refl _ _) h3
  by_cases hp : v < 0 ∨ 16 ≤ v
  · refine ⟨60, fun w1 => w1 = w, (protect_no w B v b hp).mono ?_, fun w1 hq => ?_⟩
    · rintro e w1 ⟨rfl, rfl⟩; exact ⟨rfl, rfl, Mod.refl _ _⟩
    · subst hq
      refine (protR_no v b hp).mono ?_
      rintro e w2 ⟨rfl, rfl⟩
      exact ⟨rfl, hsame⟩
  · obtain ⟨k, rfl⟩ : ∃ k : Nat, v = k := ⟨v.toNat, by omega⟩
    have hk : k < 16 := by omega
    cases hm : m k with
    | none =>
      refine ⟨62, fun w1 => w1 = w, (protect_un w B m k b h1 hk hm).mono ?_, fun w1 hq => ?_⟩
      · rintro e w1 ⟨rfl, rfl⟩; exact ⟨rfl, rfl, Mod.refl _ _⟩
      · subst hq
        refine (protR_un h2 h3 k b hk hm).mono ?_
        rintro e w2 ⟨rfl, rfl⟩
        exact ⟨rfl, hsame⟩
    | some x =>
      obtain ⟨s, c⟩ := x
      refine ⟨0, fun w1 => Tb w1 B (upd m k (some (s, b))) ∧ Mod (fun b => b = B) w w1, (protect_ok w B m k b h1 hk s c hm).mono ?_, fun w1 hq => ?_⟩
      · rintro e w1 ⟨rfl, hg⟩; exact ⟨rfl, ⟨hg.1, hg.2⟩, hg.2⟩
      · refine (protR_ok (pr_mid h2 hn hq.2) h3 k s c b hk hm).mono ?_
        rintro e w2 ⟨rfl, K, F', h4, h5, h6⟩
        exact ⟨rfl, pr_two he hn hq.1 hq.2 h5 h6 h4⟩
theorem ents_on (m : Nat → E) (s : Int) : ∀ k, onS s (ents m k) = cnt m s k
  | 0 => rfl
  | k + 1 => by
    have ih := ents_on m s k
    cases hm : m k with
    | none =>
      rw [ents_none hm, ih, cnt_no (by rw [hm]; rfl)]
    | some x =>
      obtain ⟨t, b⟩ := x
      rw [ents_some hm]
      unfold onS at ih ⊢
      rw [List.countP_append, ih]
      by_cases e : (t : Int) = s
      · rw [cnt_yes (by rw [hm]; simp [leads, e])]; simp [e]
      · rw [cnt_no (by rw [hm]; simp [leads, e])]; simp [e]
theorem Ag.forget (h : Ag m L) (s : Int) : Ag (fg m s 16) (offS s L) := by
  refine h.sub List.filter_sublist fun v hv t b => ?_
  unfold offS fg
  rw [List.mem_filter]
  by_cases e : leads (m v) s = true
  · rw [if_pos ⟨hv, e⟩]
    refine ⟨fun h9 => (by cases h9), fun ⟨h8, _, h9⟩ => ?_⟩
    rw [h8] at e
    simp [leads] at e
    simp [e] at h9
  · rw [if_neg (fun h9 => e h9.2)]
    refine ⟨fun h9 => ⟨h9, h.all v hv t b h9, ?_⟩, fun h9 => h9.1⟩
    rw [h9] at e
    simp [leads] at e
    simpa using e
theorem two_forget (h : PrA B R w H) (s : Int) : Two B R w H 24 25 #[.int .i64 s] #[.int .i64 s] := by
  obtain ⟨m, L, F, ⟨h1, h2, h3⟩, he, hn⟩ := h
  refine ⟨((cnt m s 16 : Nat) : Int), fun w1 => Tb w1 B (fg m s 16) ∧ Mod (fun b => b = B) w w1, (forget_any w B m s h1).mono ?_, fun w1 hq => ?_⟩
  · rintro e w1 ⟨rfl, hg⟩; exact ⟨rfl, ⟨hg.1, hg.2⟩, hg.2⟩
  · refine (forgetR_any (pr_mid h2 hn hq.2) h3.len s).mono ?_
    have hc : onS s L = cnt m s 16 := by rw [← ents_on]; exact h3.perm.countP_eq _
    rw [hc]
    rintro e w2 ⟨rfl, F', h5, h6⟩
    exact ⟨rfl, pr_two he hn hq.1 hq.2 h5 h6 (h3.forget s)⟩
theorem two_load (h : PrA B R w H) (a a' : Option Addr) (len cap cap' : Nat) (Z Z' : Nat → Mp) (hz : IsMaps w a len Z) (hz' : IsMaps w a' len Z') (hf : ∀ w1, Mod (fun b => b = B) w w1 → IsMaps w1 a' len Z') (hZ : ∀ k, k < len → Z' k = Z k) (hl : len ≤ maxLen) : Two B R w H 12 14 #[.slice a len cap] #[.slice a' len cap'] := by
  obtain ⟨m, L, F, ⟨h1, h2, h3⟩, he, hn⟩ := h
  have hlay : lay Z' len = lay Z len := lay_congr hZ
  cases hc : lay Z len with
  | error c =>
    refine ⟨c, fun w1 => Below w.heap.size w w1, (load_any w B m a len cap Z h1 hz hl).mono ?_, fun w1 hq => ?_⟩
    · rintro e w1 (⟨c', h4, rfl, h5⟩ | ⟨m', h4, _⟩)
      · rw [hc] at h4; cases h4; exact ⟨rfl, h5, Mod.of_below h5⟩
      · rw [hc] at h4; cases h4
    · refine (loadR_any ((good_rt R L).keep h2 hq.size (fun b hb => hq.block b ((good_rt R L).lt h2 b hb))) a' len cap' Z' (hz'.below hq) hl).mono ?_
      rintro e w2 (⟨c', h4, rfl, h5⟩ | ⟨m', K, F', h4, _⟩)
      · rw [hlay, hc] at h4; cases h4
        have hb := hq.trans (h5.mono hq.size)
        exact ⟨rfl, H, ⟨m, L, F, ⟨h1.below hb, (good_rt R L).keep h2 hb.size (fun b hb' => hb.block b ((good_rt R L).lt h2 b hb')), h3⟩, he, hn⟩, Ext.of_below hb⟩
      · rw [hlay, hc] at h4; cases h4
  | ok m1 =>
    refine ⟨0, fun w1 => Tb w1 B m1 ∧ Mod (fun b => b = B) w w1, (load_any w B m a len cap Z h1 hz hl).mono ?_, fun w1 hq => ?_⟩
    · rintro e w1 (⟨c', h4, _⟩ | ⟨m', h4, rfl, hg⟩)
      · rw [hc] at h4; cases h4
      · rw [hc] at h4; cases h4; exact ⟨rfl, ⟨hg.1, hg.2⟩, hg.2⟩
    · refine (loadR_any (pr_mid h2 hn hq.2) a' len cap' Z' (hf w1 hq.2) hl).mono ?_
      rintro e w2 (⟨c', h4, _⟩ | ⟨m', K, F', h4, rfl, h5, h6, h7⟩)
      · rw [hlay, hc] at h4; cases h4
      · rw [hlay, hc] at h4; cases h4
        exact ⟨rfl, pr_two he hn hq.1 hq.2 h6 h7 h5⟩
end
end Go.Proofs.Ytmflohehnoghhaa
