import Derived.Test.YtngmnlmagbfijaaM5
namespace Go.Proofs.Ytngmnlmagbfijaa
/-- behind choices at which R was ready: each was chosen cnt times since the mark was L -/
structure Meas (R : List Int) (L : Int) (n : Nat) (T : Pl) (cnt : Int → Int) : Prop where
  kind : T.kind = 2
  ok : Okp n T
  known : ∀ r ∈ R, (T.wt r).isSome = true
  low : ∀ r ∈ R, T.last ≤ psv T r
  lo : ∀ r ∈ R, L ≤ psv T r - cnt r * stp (val T.wt r)
  hi : ∀ r ∈ R, psv T r - cnt r * stp (val T.wt r) ≤ L + stp (val T.wt r)
theorem psv_two {s : Pl} (e : s.kind = 2) (r : Int) : psv s r = val s.ps r := by unfold psv; rw [if_neg (by omega)]
theorem next_psv {s : Pl} (e : s.kind = 2) (R : List Int) (r : Int) : psv (nextP s R) r = if r = pick s R then val (admP s R) r + stp (val (admW s R) r) else val (admP s R) r := by
  rw [psv_two (by rw [nextP_kind]; exact e), next_two e]
  unfold val upd
  by_cases h : r = pick s R
  · subst h; simp
  · simp [h]
theorem meas_next {n : Nat} {s : Pl} (hO : Okp n s) (e : s.kind = 2) {R Q : List Int} (hne : Q ≠ []) (hb : ∀ k ∈ Q, 1 ≤ k ∧ k ≤ 9223372036854775807) (hRQ : ∀ r ∈ R, r ∈ Q) (A : Int → Int) (cnt : Int → Int) (L : Int)
    (hA : ∀ r ∈ R, val (admP s Q) r = A r + cnt r * stp (val (admW s Q) r) ∧ L ≤ A r ∧ A r ≤ L + stp (val (admW s Q) r)) :
    Meas R L (n + 1) (nextP s Q) (fun r => cnt r + if r = pick s Q then 1 else 0) := by
  have hst := share_step hO e hne hb
  refine ⟨by rw [nextP_kind]; exact e, hO.next hb hne, fun r hr => ?_, fun r hr => hst.2.2.1 r (hRQ r hr), fun r hr => ?_, fun r hr => ?_⟩
  · rw [nextP_wt, (adm_some (s := s) (hRQ r hr)).1]; rfl
  all_goals
    obtain ⟨h1, h2, h3⟩ := hA r hr
    rw [next_psv e, nextP_wt, h1]
    by_cases h : r = pick s Q
    · simp only [h, if_true, Int.add_mul, Int.one_mul]
      rw [h] at h2 h3
      omega
    · simp only [h, if_false, Int.add_zero]
      omega
/-- at the first choice -/
theorem Meas.one {n : Nat} {s : Pl} (hO : Okp n s) (e : s.kind = 2) {R : List Int} (hne : srt R ≠ []) (hb : ∀ k ∈ srt R, 1 ≤ k ∧ k ≤ 9223372036854775807) :
    Meas R s.last (n + 1) (nextP s (srt R)) (fun r => 0 + if r = pick s (srt R) then 1 else 0) := by
  refine meas_next hO e hne hb (fun r hr => srt_mem.2 hr) (fun r => val (admP s (srt R)) r) (fun _ => 0) s.last (fun r hr => ?_)
  obtain ⟨hw, hp⟩ := adm_some (s := s) (srt_mem.2 hr)
  have hd := admP_bd hO e hp hw
  have e1 : val (admP s (srt R)) r = max ((s.ps r).getD 0) s.last := by unfold val; rw [hp]; rfl
  have e2 : val (admW s (srt R)) r = (s.wt r).getD 1 := by unfold val; rw [hw]; rfl
  rw [e1, e2]
  exact ⟨by omega, hd.2.2 (srt_mem.2 hr), hd.2.1⟩
/-- at the next choice, the same being ready -/
theorem Meas.next {n : Nat} {T : Pl} {R Q : List Int} {L : Int} {cnt : Int → Int} (h : Meas R L n T cnt) (hne : srt Q ≠ []) (hb : ∀ k ∈ srt Q, 1 ≤ k ∧ k ≤ 9223372036854775807) (hRQ : ∀ r ∈ R, r ∈ Q) :
    Meas R L (n + 1) (nextP T (srt Q)) (fun r => cnt r + if r = pick T (srt Q) then 1 else 0) := by
  refine meas_next h.ok h.kind hne hb (fun r hr => srt_mem.2 (hRQ r hr)) (fun r => psv T r - cnt r * stp (val T.wt r)) cnt L (fun r hr => ?_)
  obtain ⟨hw, hp⟩ := adm_some (s := T) (srt_mem.2 (hRQ r hr))
  obtain ⟨u, hu⟩ := Option.isSome_iff_exists.1 (h.known r hr)
  have hk := h.ok.known h.kind r
  rw [hu] at hk
  obtain ⟨v, hv⟩ := Option.isSome_iff_exists.1 hk
  have hl := h.low r hr
  have h1 := h.lo r hr
  have h2 := h.hi r hr
  have ep : psv T r = v := by rw [psv_two h.kind]; unfold val; rw [hv]; rfl
  have ew : val T.wt r = u := by unfold val; rw [hu]; rfl
  have e1 : val (admP T (srt Q)) r = v := by
    unfold val; rw [hp, hv]
    rw [ep] at hl
    simp only [Option.getD_some]
    omega
  have e2 : val (admW T (srt Q)) r = u := by unfold val; rw [hw, hu]; rfl
  rw [e1, e2, ep, ew]
  rw [ep, ew] at h1 h2
  exact ⟨by omega, h1, h2⟩
/-- any two were chosen in the measure of their weights -/
theorem Meas.two {n : Nat} {T : Pl} {R : List Int} {L : Int} {cnt : Int → Int} (h : Meas R L n T cnt) {i k : Int} (hi : i ∈ R) (hk : k ∈ R) :
    cnt i * stp (val T.wt i) - cnt k * stp (val T.wt k) ≤ stp (val T.wt i) + stp (val T.wt k) ∧ -(stp (val T.wt i) + stp (val T.wt k)) ≤ cnt i * stp (val T.wt i) - cnt k * stp (val T.wt k) := by
  have a1 := h.lo i hi
  have a2 := h.hi i hi
  have a3 := h.lo k hk
  have a4 := h.hi k hk
  have b1 := h.low i hi
  have b2 := (share_told h.ok h.kind (h.known i hi)).2.2.2
  have b3 := h.low k hk
  have b4 := (share_told h.ok h.kind (h.known k hk)).2.2.2
  omega
end Go.Proofs.Ytngmnlmagbfijaa
