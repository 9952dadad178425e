import Derived.Test.YtngmnlmagbfijabCJ
namespace Go.Proofs.Ytngmnlmagbfijab
open Go.RowKit
theorem RelR.map {L : List Rw} {f : Int → Option Kp} (h : RelR L f) (G : Rw → Rw) (hse : ∀ r, (G r).se = r.se) : RelR (L.map G) (fun k => (f k).map (fun v => (G ⟨k, v.1, v.2.1, v.2.2⟩).kp)) := by
  refine ⟨?_, fun r hr => ?_, fun k hk => ?_⟩
  · rw [List.pairwise_map]
    exact h.rise.imp (fun {a b} hab => by rw [hse, hse]; exact hab)
  · rw [List.mem_map] at hr
    obtain ⟨y, hy, rfl⟩ := hr
    rw [hse, h.val y hy]; rfl
  · rw [Option.isSome_map] at hk
    obtain ⟨y, hy, hyk⟩ := h.all k hk
    exact ⟨G y, List.mem_map.2 ⟨y, hy, rfl⟩, by rw [hse, hyk]⟩
theorem admW_srt' (s : Pl) (R : List Int) : admW s (srt R) = admW s R := by
  funext x; unfold admW
  by_cases h : x ∈ R
  · rw [if_pos h, if_pos (srt_mem.2 h)]
  · rw [if_neg h, if_neg (fun h2 => h (srt_mem.1 h2))]
theorem AgF.row {s : Pl} {f : Int → Option Kp} {last : Int} (h : AgF s f last) {n : Nat} (ho : Okp n s) {R : List Int} {k : Int} {v : Kp} (hv : admD f R k = some v) : admW s R k = some v.1 ∧ (s.kind = 1 → v.2.1 = 0) ∧ (s.kind = 2 → (k ∈ R ∨ (f k).isSome = true) ∧ ((s.ps k).getD 0 = v.2.1) ∧ (v.2.2 = true → last ≤ v.2.1) ∧ (k ∉ R → s.ps k = some v.2.1)) ∧ (s.kind = 3 → val s.ps k = v.2.1 ∧ (v.2.2 = false → v.2.1 = 0)) := by
  unfold admD at hv
  unfold admW
  have hk := h.kn k
  by_cases hR : k ∈ R
  · rw [if_pos hR] at hv ⊢
    have hv' := Option.some.inj hv
    cases hf : f k with
    | none =>
      rw [hf] at hv' hk
      subst hv'
      rw [hk]
      refine ⟨rfl, fun _ => rfl, fun e => ⟨.inl hR, ?_, fun h9 => (by cases h9), fun h9 => absurd hR h9⟩, fun e => ⟨(h.fr e).2 k hf, fun _ => rfl⟩⟩
      cases hp : s.ps k with
      | none => rfl
      | some p =>
        have := ho.known e k
        rw [hp, hk] at this
        cases this
    | some u =>
      rw [hf] at hv' hk
      subst hv'
      rw [hk]
      refine ⟨rfl, fun e => (h.ft e).2 k u hf, fun e => ⟨.inl hR, ?_, ((h.fs e).2 k u hf).2, fun h9 => absurd hR h9⟩, fun e => (h.fr e).1 k u hf⟩
      rw [((h.fs e).2 k u hf).1]; rfl
  · rw [if_neg hR] at hv ⊢
    rw [hk, hv]
    refine ⟨rfl, fun e => (h.ft e).2 k v hv, fun e => ⟨.inr rfl, ?_, ((h.fs e).2 k v hv).2, fun _ => ((h.fs e).2 k v hv).1⟩, fun e => (h.fr e).1 k v hv⟩
    rw [((h.fs e).2 k v hv).1]; rfl
/-- the rows that were ready, told by the program's plan -/
theorem AgF.ready {s : Pl} {f : Int → Option Kp} {last : Int} (h : AgF s f last) {n : Nat} (ho : Okp n s) {R : List Int} {L1 : List Rw} (hr : RelR L1 (admD f R)) {a : Rw} (ha : a ∈ L1.map (updD s.kind last R)) (hw : a.was = true) :
    a.se ∈ R ∧ val (admW s (srt R)) a.se = a.wt ∧ (s.kind = 2 → val (admP s (srt R)) a.se = a.ps) ∧ (s.kind = 3 → val s.ps a.se = a.ps) := by
  rw [List.mem_map] at ha
  obtain ⟨y, hy, rfl⟩ := ha
  unfold updD at hw ⊢
  dsimp only at hw ⊢
  have hR : y.se ∈ R := by simpa using hw
  have hv := hr.val y hy
  obtain ⟨h1, h2, h3, h4⟩ := h.row ho hv
  refine ⟨hR, ?_, fun e => ?_, fun e => ?_⟩
  · rw [admW_srt']
    unfold val
    rw [h1]; rfl
  · obtain ⟨_, h5, h6, _⟩ := h3 e
    unfold val admP pqD
    rw [if_pos (srt_mem.2 hR), (h.fs e).1, h5]
    simp only [hR, decide_true, e, true_and, Option.getD_some]
    by_cases hy2 : y.was = false
    · rw [if_pos hy2]; rfl
    · rw [if_neg hy2, if_neg (by simp)]
      have hy3 : y.was = true := by simpa using hy2
      have := h6 hy3
      show max y.ps last = y.ps
      have h7 : last ≤ y.ps := this
      exact Int.max_eq_left h7
  · obtain ⟨h5, h6⟩ := h4 e
    unfold pqD
    rw [if_neg (by omega), h5]
    simp only [hR, decide_true, e, true_and]
    by_cases hy2 : y.was = false
    · rw [if_pos (.inr hy2)]; exact h6 hy2
    · rw [if_neg (by simp; simpa using hy2)]; rfl
/-- who is chosen -/
theorem AgF.who {s : Pl} {f : Int → Option Kp} {last : Int} (h : AgF s f last) {n : Nat} (ho : Okp n s) {R : List Int} (hp : prB R = true) (hne : R ≠ []) {L1 : List Rw} (hr : RelR L1 (admD f R)) {b : Nat} {x : Rw} (hb : bstI s.kind last (L1.map (updD s.kind last R)) L1.length = some b) (hx : (L1.map (updD s.kind last R))[b]? = some x) : x.se = Go.Proofs.Ytngmnlmagbfijab.pick s (srt R) ∧ x.was = true := by
  have hrd := rdy_srt (kd := s.kind) (last := last) hr (prB_parts hp).2
  have hsn : srt R ≠ [] := fun h9 => hne (List.eq_nil_of_length_eq_zero (by rw [← srt_len R, h9]; rfl))
  have hgo : ∀ bt : Int → Int → Bool, (∀ a ∈ L1.map (updD s.kind last R), ∀ b ∈ L1.map (updD s.kind last R), a.was = true → b.was = true → btD s.kind last a b = bt a.se b.se) → x.se = gp bt ((srt R).headD 0) (srt R).tail ∧ x.was = true := fun bt hbt => by
    obtain ⟨x', h1, h2, _, h4⟩ := (bstI_gp hbt L1.length (by simp)).2 b hb
    rw [hx] at h1
    cases h1
    rw [hrd] at h4
    exact ⟨h4, h2⟩
  unfold Go.Proofs.Ytngmnlmagbfijab.pick
  rcases ho.kind with e | e | e
  · rw [if_pos e, pickT_gp hsn, (h.ft e).1]
    exact hgo _ (fun a _ b _ _ _ => by unfold btD; rw [if_pos e])
  · rw [if_neg (by omega), if_pos e, gp_min]
    exact hgo _ (fun a ha b hb h1 h2 => by
      unfold btD
      rw [if_neg (by omega), if_pos e, (h.ready ho hr ha h1).2.2.1 e, (h.ready ho hr hb h2).2.2.1 e])
  · rw [if_neg (by omega), if_neg (by omega), gp_max]
    exact hgo _ (fun a ha b hb h1 h2 => by
      unfold btD
      rw [if_neg (by omega), if_neg (by omega), (h.ready ho hr ha h1).2.2.2 e, (h.ready ho hr hb h2).2.2.2 e, (h.ready ho hr ha h1).2.1, (h.ready ho hr hb h2).2.1])
end Go.Proofs.Ytngmnlmagbfijab
